import Derived.Test.YtbddbnjhmdbkbaaGreatDoorMqA
import Derived.Test.YtbddbnjhmdbkbaaGreatDoorMpA
import Derived.Test.YtbddbnjhmdbkbaaGreatDoorMjA
import Derived.Test.YtbddbnjhmdbkbaaGreatDoorMhT
import Derived.Deep.RegionHeld3
namespace Go.Proofs.YtbddbnjhmdbkbaaGreatDoor
open Go.RowKit
set_option maxHeartbeats 8000000 in
set_option maxRecDepth 20000 in
theorem b8Y (p:PlP)(v:PlV)(T:List EvP)(u:Value)(t rep:Int)(w:World)(hs:a4n w p v)(hE:a4A w u T)(hL:T.length*32<=140737488355328)(ht:a1n t)(hrep:C64 rep)(M:Nat)(hTk:∀ x,x∈p.wins->TOk M x)(hU:∀ j,Ups t (a1d T j))(hwl:p.wins.length<=256)(hcl:p.crons.length<=256)(nm:Cr->Bool)(hnm:∀ c,nm c=true↔a5O c t):
 Calls Tryz.prog 31 #[plV p v,u,.int .i64 t,.int .i64 rep] w fun e w'=>∃ u1 u2,e=.returned (.agg #[.int .i64 rep,u1,u2])/\w'.ownsRow w.heap.size 84 2 u1 p.wins.length (a1t (fun i=>rsL (a1D (a1d T) t (p.wins.getD i wi0))) p.wins.length)/\w'.ownsRow w.heap.size 4 1 u2 p.crons.length (a1t (fun i=>[.bool (nm (p.crons.getD i cr0))]) p.crons.length)/\Below w.heap.size w w':=by
 have HPs:=a0a hs
 obtain⟨a1,c1,a2,c2,a3,c3,a4,c4,a5,c5,rfl,g1,g2,g3,g4⟩:=hs.shapes
 have HEv:=a0a hE
 obtain⟨ea,ec,rfl,he1,he2,he3⟩:=hE
 have HL:=a0a hL
 have HT64:=a0a ht
 have HRp:=a0a hrep
 have HTk:=a0a hTk
 have HU:=a0a hU
 have HWl:=a0a hwl
 have HCl:=a0a hcl
 have HNm:=a0a hnm
 obtain⟨lT,hlT⟩:∃ lT,Hid (lT=T.length):=⟨_,a0a rfl⟩
 have HSm:Hid (∀ (j:Nat) (W:World),Below w.heap.size w W->Calls Tryz.prog 60 #[.slice ea lT ec,.int .i64 (j:Nat)] W fun e w'=>∃ v,e=.returned v/\∃ ad c,v=.slice ad (a1d T j).length c/\RdP w' (.slice ad (a1d T j).length c) (a1d T j)/\Below W.heap.size W w'):=a0a (fun j W hW=>(b1B j T _ W (by rw[hlT.out];exact a0Q.next HEv.out hW) HL.out).mono (fun e w' h=>by obtain⟨ad,c,h1,h2,h3⟩:=h;exact⟨_,h1,ad,c,rfl,h2,h3⟩))
 rw[<-hlT.out]
 obtain⟨N,hN⟩:∃ N,Hid (N=p.wins.length):=⟨_,a0a rfl⟩
 obtain⟨NC,hNC⟩:∃ N,Hid (N=p.crons.length):=⟨_,a0a rfl⟩
 obtain⟨G,hG⟩:∃ G:Nat->List Value,Hid (G=fun i=>rsL (a1D (a1d T) t (p.wins.getD i wi0))):=⟨_,a0a rfl⟩
 obtain⟨C,hC⟩:∃ C:Nat->List Value,Hid (C=fun i=>[.bool (nm (p.crons.getD i cr0))]):=⟨_,a0a rfl⟩
 have hN256:Hid (N<=256):=by rw[hN.out];exact HWl
 have hC256:Hid (NC<=256):=by rw[hNC.out];exact HCl
 obtain⟨Y0,Y1,Y2,B0⟩:=a2f w 32 40 40 (plL p ⟨.slice a1 p.mets.length c1,.slice a2 p.wins.length c2,.slice a3 p.crons.length c3,.slice a4 p.gs.length c4,.slice a5 p.fin.parts.length c5⟩) [.int .i64 0,.slice none 0 0,.slice none 0 0] [.int .i64 rep,.slice none 0 0,.slice none 0 0]
 obtain⟨w0,hw0⟩:∃ w0,Hid (w0=((w.alloc (.cells (plL p ⟨.slice a1 p.mets.length c1,.slice a2 p.wins.length c2,.slice a3 p.crons.length c3,.slice a4 p.gs.length c4,.slice a5 p.fin.parts.length c5⟩).toArray 32)).alloc (.cells #[.int .i64 0,.slice none 0 0,.slice none 0 0] 40)).alloc (.cells #[.int .i64 rep,.slice none 0 0,.slice none 0 0] 40)):=⟨_,a0a rfl⟩
 have X0:Hid (Box w0 w.heap.size (plL p ⟨.slice a1 p.mets.length c1,.slice a2 p.wins.length c2,.slice a3 p.crons.length c3,.slice a4 p.gs.length c4,.slice a5 p.fin.parts.length c5⟩)):=by rw[hw0.out];exact a0a Y0
 have X1:Hid (Box w0 (w.heap.size+1) [.int .i64 0,.slice none 0 0,.slice none 0 0]):=by rw[hw0.out];exact a0a Y1
 have X2:Hid (Box w0 (w.heap.size+1+1) [.int .i64 rep,.slice none 0 0,.slice none 0 0]):=by rw[hw0.out];exact a0a Y2
 have HB0:Hid (Below w.heap.size w w0):=by rw[hw0.out];exact a0a B0
 obtain⟨ob,hob⟩:∃ ob,Hid (ob=w.heap.size+1+1):=⟨_,a0a rfl⟩
 clear hs g1 g2 g3 g4 he1 he2 he3 hL ht hrep hTk hU hwl hcl hnm Y0 Y1 Y2 B0
 go_enter Tryz.func31,Tryz.ntmps31
 go_wp2_with fail
 rw[<-hw0.out,<-hob.out]
 rw[<-hob.out] at X2
 rw[<-hN.out,<-hNC.out] at X0
 rw[<-hN.out,<-hNC.out]
 clear hw0
 obtain⟨i0,hi,hz0,hz1,hz2⟩:=b0J
 go_loopw [10] (fun i wr=>∃ (k:Nat) (av:Option Addr) (cv:Nat),i=.int .i64 (k:Nat)/\k<=N/\Hid (b5t (ob+1) ob 1 [.int .i64 rep,.slice none 0 0,.slice none 0 0] 84 2 (.slice av k cv) k (a1t G k) wr)/\Hid (Below ob w0 wr)) (fun i _=>match i with | .int _ z=>((N:Int)-z).toNat | _=>0)
 case atStart=>exact⟨0,none,0,rfl,by omega,a0a ⟨X2.out,World.ownsRow_nil _ _ _ _,by omega⟩,a0a (ZD _ _)⟩
 case round=>
  obtain⟨k,av,cv,rfl,hk,HGw,HBr⟩:=hrel
  have HBw:Hid (Below w.heap.size w wr):=a0a (HB0.out.trans (HBr.out.mono (by have:=hob.out;omega)))
  have hwr:Hid (ob+1<=wr.heap.size):=a0a HGw.out.box.lt
  have Y0:=X0.out.later HBr.out (by have:=hob.out;omega)
  have x6:=Y0.cell 6 _ rfl
  have xl:=Y0.lt
  have o1:=HGw.out.box.cell 1 _ rfl
  have ol:=HGw.out.box.lt
  by_cases hlt:k<N
  ·have hlt':(k:Int)<(N:Int):=by omega
   have hl1:k<p.wins.length:=by rw[<-hN.out];exact hlt
   obtain⟨b,off,cap',hv,-,-,hbl,hx⟩:=HPs.out.wi.open (by omega)
   simp only[Value.slice.injEq] at hv
   obtain⟨rfl,-,rfl⟩:=hv
   have y0:=a0c HBw.out (hx k hl1 0 _ rfl)
   have y1:=a0c HBw.out (hx k hl1 1 _ rfl)
   have y2:=a0c HBw.out (hx k hl1 2 _ rfl)
   have y3:=a0c HBw.out (hx k hl1 3 _ rfl)
   rw[Nat.add_zero] at y0
   have hmem:p.wins.getD k wi0∈p.wins:=by simp[List.getD,hl1]
   have hTx:=HTk.out _ hmem
   have hGk:Hid (G k=rsL (a1D (a1d T) t (p.wins.getD k wi0))):=by rw[hG.out];exact a0a rfl
   generalize p.wins.getD k wi0=x at *
   obtain⟨j,hj⟩:∃ j:Nat,x.m=(j:Int):=⟨x.m.toNat,by have:=hTx.right.1;omega⟩
   have hRd:=b2P (f:=a1d T) (t:=t) (x:=x) hTx.right.2.2.2.1 (HU.out _)
   rw[show x.m.toNat=j by rw[hj];rfl] at hRd
   obtain⟨R,hR⟩:∃ R,Hid (R=a1D (a1d T) t x):=⟨_,a0a rfl⟩
   rw[<-hR.out] at hGk hRd
   have HUj:=HU.out j
   have HAl:Hid ((a1d T j).length<8796093022208):=a0a (by have:=a6Q T j;have:=HL.out;omega)
   have HRc:Hid (∀ (W:World) (v:Value),RdP W v (a1d T j)->Calls Tryz.prog 59 #[.agg #[.int .i64 x.m,.int .i64 x.a,.int .i64 x.s,.int .i64 x.p],v,.int .i64 t] W fun e w'=>∃ z,e=.returned z/\z=.agg #[.int .i64 R.1,.int .i64 R.2]/\Below W.heap.size W w'):=a0a (fun W v hv=>(c3E x.m x.a x.s x.p v (a1d T j) t W hv HAl.out HUj.le HT64.out hTx.right).mono (fun e w' h=>by obtain⟨h1,h2⟩:=h;exact⟨_,h1,by rw[<-hRd];rfl,h2⟩))
   have HSj:=a0a (HSm.out j)
   rw[<-hj] at HSj
   obtain⟨A,hA⟩:∃ A,Hid (A=a1d T j):=⟨_,a0a rfl⟩
   rw[<-hA.out] at HRc HSj
   clear hRd HUj HAl hTx hmem hx hj
   have lbr:b<wr.heap.size:=World.block_lt_of_cell? wr _ y0
   have HRow:Hid (a1t G (k+1)=a1t G k++[.int .i64 R.1,.int .i64 R.2]):=a0a (by rw[a3l,hGk.out])
   have hN2:=hN256.out
   go_wp2_with fail
   have HSk:Hid (∀ W,Below ob wr W->(fun w'=>w'.cell? ⟨w.heap.size,6,none⟩=some (.slice (some ⟨b,off,none⟩) N c2)/\w'.cell? ⟨b,off+k*4,none⟩=some (.int .i64 x.m)/\w'.cell? ⟨b,off+k*4+1,none⟩=some (.int .i64 x.a)/\w'.cell? ⟨b,off+k*4+2,none⟩=some (.int .i64 x.s)/\w'.cell? ⟨b,off+k*4+3,none⟩=some (.int .i64 x.p)/\b<w'.heap.size/\w.heap.size<w'.heap.size) W):=a0a (fun W hW=>by
    have hb1:b<ob:=by have:=hob.out;omega
    have hb2:w.heap.size<ob:=by have:=hob.out;omega
    exact⟨(hW.cell (p:=⟨w.heap.size,6,none⟩) hb2).trans x6,(hW.cell (p:=⟨b,_,none⟩) hb1).trans y0,(hW.cell (p:=⟨b,_,none⟩) hb1).trans y1,(hW.cell (p:=⟨b,_,none⟩) hb1).trans y2,(hW.cell (p:=⟨b,_,none⟩) hb1).trans y3,ZA lbr hW.size,ZA xl hW.size⟩)
   have hole:Hid (ob<=wr.heap.size):=a0a (by have:=hwr.out;omega)
   refine wp_region_held_drew (S:=(fun w'=>w'.cell? ⟨w.heap.size,6,none⟩=some (.slice (some ⟨b,off,none⟩) N c2)/\w'.cell? ⟨b,off+k*4,none⟩=some (.int .i64 x.m)/\w'.cell? ⟨b,off+k*4+1,none⟩=some (.int .i64 x.a)/\w'.cell? ⟨b,off+k*4+2,none⟩=some (.int .i64 x.s)/\w'.cell? ⟨b,off+k*4+3,none⟩=some (.int .i64 x.p)/\b<w'.heap.size/\w.heap.size<w'.heap.size)) (by kernel_rfl) (HSk.out _ (ZD _ _).drew) (fun hS0=>?_)
   refine wpAnyH_take (i:=0) (v:=.pointer (some ⟨ob,1,none⟩)) rfl (by kernel_rfl) (by kernel_rfl) (by kernel_rfl) (fun _ _ _ h=>h) (Or.inl ⟨rfl,fun w' hS'=>?_⟩) hS0 ?_
   ·obtain⟨q6,q0,q1,q2,q3,ql,qx⟩:=hS'
    go_simp
   refine wpAnyH_take (i:=2) (v:=.pointer (some ⟨w.heap.size,6,none⟩)) rfl (by kernel_rfl) (by kernel_rfl) (by kernel_rfl) (fun _ _ _ h=>h) (Or.inl ⟨rfl,fun w' hS'=>?_⟩) hS0 ?_
   ·obtain⟨q6,q0,q1,q2,q3,ql,qx⟩:=hS'
    go_simp
   refine wpAnyH_take (i:=3) (v:=.slice (some ⟨b,off,none⟩) N c2) rfl (by kernel_rfl) (by kernel_rfl) (by kernel_rfl) (fun _ _ _ h=>h) (Or.inl ⟨rfl,fun w' hS'=>?_⟩) hS0 ?_
   ·obtain⟨q6,q0,q1,q2,q3,ql,qx⟩:=hS'
    go_simp
   refine wpAnyH_take (i:=4) (v:=.int .i64 (k:Nat)) rfl (by kernel_rfl) (by kernel_rfl) (by kernel_rfl) (fun _ _ _ h=>h) (Or.inl ⟨rfl,fun w' hS'=>?_⟩) hS0 ?_
   ·obtain⟨q6,q0,q1,q2,q3,ql,qx⟩:=hS'
    go_simp
   refine wpAnyH_take (i:=5) (v:=.pointer (some ⟨b,off+k*4,none⟩)) rfl (by kernel_rfl) (by kernel_rfl) (by kernel_rfl) (fun _ _ _ h=>h) (Or.inl ⟨rfl,fun w' hS'=>?_⟩) hS0 ?_
   ·obtain⟨q6,q0,q1,q2,q3,ql,qx⟩:=hS'
    go_simp
   refine wpAnyH_take (i:=6) (v:=.agg #[.int .i64 x.m,.int .i64 x.a,.int .i64 x.s,.int .i64 x.p]) rfl (by kernel_rfl) (by kernel_rfl) (by kernel_rfl) (fun _ _ _ h=>h) (Or.inl ⟨rfl,fun w' hS'=>?_⟩) hS0 ?_
   ·obtain⟨q6,q0,q1,q2,q3,ql,qx⟩:=hS'
    go_simp
   refine wpAnyH_take (i:=7) (v:=.slice ea lT ec) rfl (by kernel_rfl) (by kernel_rfl) (by kernel_rfl) (fun _ _ _ h=>h) (Or.inl ⟨rfl,fun w' hS'=>?_⟩) hS0 ?_
   ·obtain⟨q6,q0,q1,q2,q3,ql,qx⟩:=hS'
    go_simp
   refine wpAnyH_take (i:=8) (v:=.pointer (some ⟨w.heap.size,6,none⟩)) rfl (by kernel_rfl) (by kernel_rfl) (by kernel_rfl) (fun _ _ _ h=>h) (Or.inl ⟨rfl,fun w' hS'=>?_⟩) hS0 ?_
   ·obtain⟨q6,q0,q1,q2,q3,ql,qx⟩:=hS'
    go_simp
   refine wpAnyH_take (i:=9) (v:=.slice (some ⟨b,off,none⟩) N c2) rfl (by kernel_rfl) (by kernel_rfl) (by kernel_rfl) (fun _ _ _ h=>h) (Or.inl ⟨rfl,fun w' hS'=>?_⟩) hS0 ?_
   ·obtain⟨q6,q0,q1,q2,q3,ql,qx⟩:=hS'
    go_simp
   refine wpAnyH_take (i:=10) (v:=.int .i64 (k:Nat)) rfl (by kernel_rfl) (by kernel_rfl) (by kernel_rfl) (fun _ _ _ h=>h) (Or.inl ⟨rfl,fun w' hS'=>?_⟩) hS0 ?_
   ·obtain⟨q6,q0,q1,q2,q3,ql,qx⟩:=hS'
    go_simp
   refine wpAnyH_take (i:=11) (v:=.pointer (some ⟨b,off+k*4,none⟩)) rfl (by kernel_rfl) (by kernel_rfl) (by kernel_rfl) (fun _ _ _ h=>h) (Or.inl ⟨rfl,fun w' hS'=>?_⟩) hS0 ?_
   ·obtain⟨q6,q0,q1,q2,q3,ql,qx⟩:=hS'
    go_simp
   refine wpAnyH_take (i:=12) (v:=.pointer (some ⟨b,off+k*4,none⟩)) rfl (by kernel_rfl) (by kernel_rfl) (by kernel_rfl) (fun _ _ _ h=>h) (Or.inl ⟨rfl,fun w' hS'=>?_⟩) hS0 ?_
   ·obtain⟨q6,q0,q1,q2,q3,ql,qx⟩:=hS'
    go_simp
   refine wpAnyH_take (i:=13) (v:=.int .i64 x.m) rfl (by kernel_rfl) (by kernel_rfl) (by kernel_rfl) (fun _ _ _ h=>h) (Or.inl ⟨rfl,fun w' hS'=>?_⟩) hS0 ?_
   ·obtain⟨q6,q0,q1,q2,q3,ql,qx⟩:=hS'
    go_simp
   refine wpAnyH_take (i:=15) (v:=.int .i64 t) rfl (by kernel_rfl) (by kernel_rfl) (by kernel_rfl) (fun _ _ _ h=>h) (Or.inl ⟨rfl,fun w' hS'=>?_⟩) hS0 ?_
   ·obtain⟨q6,q0,q1,q2,q3,ql,qx⟩:=hS'
    go_simp
   clear x6 y0 y1 y2 y3
   refine wpAnyH_ready (rs:=[1,14]) (by kernel_rfl) (by simp) (AllReadyH.cons (i:=1) (o:={dst:=some 22,op:=.load 37 (.tmp 21),type:=37,pos := "ref.go:57",after:=#[{on:=0,ground:=.data}],guard:=none}) rfl (fun K hK=>?_) (AllReadyH.cons (i:=14) (o:={dst:=some 35,op:=.call {callee:=.value (.func 60),args:=#[.tmp 28,.tmp 34],argTypes:=#[33,3]},type:=76,pos := "ref.go:57",after:=#[{on:=7,ground:=.data},{on:=13,ground:=.data}],guard:=none}) rfl (fun K hK=>?_) AllReadyH.nil))
   focus
    rw[if_pos (show Region.wanted _ _=true from rfl)]
    go_simp
    refine hK.out _ _ hS0 (fun _=>?_)
    clear hK
    refine wpAnyH_ready (rs:=[14]) (by kernel_rfl) (by simp) (AllReadyH.cons (i:=14) (o:={dst:=some 35,op:=.call {callee:=.value (.func 60),args:=#[.tmp 28,.tmp 34],argTypes:=#[33,3]},type:=76,pos := "ref.go:57",after:=#[{on:=7,ground:=.data},{on:=13,ground:=.data}],guard:=none}) rfl (fun K hK=>?_) AllReadyH.nil)
   all_goals
    refine a5j rfl 60 #[.slice ea lT ec,.int .i64 x.m] (HSj.out _ (a0b HBw.out (ZD _ _).drew HBw.out.size)) (by first | rfl | go_simp) ?_
    rintro _ w60 ⟨a60,c60,rfl,s60,b60⟩
    have B60:Hid (Below wr.heap.size wr w60):=a0a ⟨b60.os,b60.tape,b60.output,b60.size,b60.block⟩
    have C60:=a0a (HGw.out.next B60.out)
    have S60:=a0a s60
    have hS60:=HSk.out _ (B60.out.mono hole.out)
    refine hK.out _ _ hS60 (fun _=>?_)
    clear b60 s60 hK
   focus
    refine wpAnyH_ready (rs:=[16]) (by kernel_rfl) (by simp) (AllReadyH.cons (i:=16) (o:={dst:=some 37,op:=.call {callee:=.value (.func 59),args:=#[.tmp 27,.tmp 35,.tmp 36],argTypes:=#[63,76,2]},type:=84,pos := "ref.go:57",after:=#[{on:=6,ground:=.data},{on:=14,ground:=.data},{on:=15,ground:=.data},{on:=14,ground:=.chain}],guard:=none}) rfl (fun K hK=>?_) AllReadyH.nil)
   rotate_left
   refine wpAnyH_ready (rs:=[1,16]) (by kernel_rfl) (by simp) (AllReadyH.cons (i:=1) (o:={dst:=some 22,op:=.load 37 (.tmp 21),type:=37,pos := "ref.go:57",after:=#[{on:=0,ground:=.data}],guard:=none}) rfl (fun K hK=>?_) (AllReadyH.cons (i:=16) (o:={dst:=some 37,op:=.call {callee:=.value (.func 59),args:=#[.tmp 27,.tmp 35,.tmp 36],argTypes:=#[63,76,2]},type:=84,pos := "ref.go:57",after:=#[{on:=6,ground:=.data},{on:=14,ground:=.data},{on:=15,ground:=.data},{on:=14,ground:=.chain}],guard:=none}) rfl (fun K hK=>?_) AllReadyH.nil))
   focus
    rw[if_pos (show Region.wanted _ _=true from rfl)]
    have h1c:=C60.out.box.cell 1 _ rfl
    have h1l:=C60.out.box.lt
    go_simp
    refine hK.out _ _ hS60 (fun _=>?_)
    clear hK h1c h1l
    refine wpAnyH_ready (rs:=[16]) (by kernel_rfl) (by simp) (AllReadyH.cons (i:=16) (o:={dst:=some 37,op:=.call {callee:=.value (.func 59),args:=#[.tmp 27,.tmp 35,.tmp 36],argTypes:=#[63,76,2]},type:=84,pos := "ref.go:57",after:=#[{on:=6,ground:=.data},{on:=14,ground:=.data},{on:=15,ground:=.data},{on:=14,ground:=.chain}],guard:=none}) rfl (fun K hK=>?_) AllReadyH.nil)
   all_goals
    refine a5j rfl 59 #[.agg #[.int .i64 x.m,.int .i64 x.a,.int .i64 x.s,.int .i64 x.p],.slice a60 A.length c60,.int .i64 t] (HRc.out _ _ S60.out) (by first | rfl | go_simp) ?_
    rintro _ w61 ⟨rfl,b61⟩
    have B61:Hid (Below wr.heap.size wr w61):=kb B60 b61
    have C61:=a0a (HGw.out.next B61.out)
    have Z61:Hid (wr.heap.size<=w61.heap.size):=a0a B61.out.size
    have h61:Hid (Below ob wr w61):=a0a (B61.out.mono hole.out)
    have hS61:=HSk.out _ h61.out
    have BA:=a0a ((ZD w61.heap.size w61).alloc (ZB _) (.cells #[.int .i64 R.1,.int .i64 R.2] 84))
    have h61a:Hid (Below ob wr (w61.alloc (.cells #[.int .i64 R.1,.int .i64 R.2] 84))):=a0a (h61.out.alloc (by have:=Z61.out;have:=hole.out;omega) _)
    have hS61a:=HSk.out _ h61a.out
    refine hK.out _ _ hS61 (fun _=>?_)
    clear b61 hK
   focus
    refine wpAnyH_ready (rs:=[17]) (by kernel_rfl) (by simp) (AllReadyH.cons (i:=17) (o:={dst:=some 38,op:=.buildSlice 37 1 #[(0,.tmp 37)],type:=37,pos := "ref.go:57",after:=#[{on:=16,ground:=.data}],guard:=none}) rfl (fun K hK=>?_) AllReadyH.nil)
   rotate_left
   refine wpAnyH_ready (rs:=[1,17]) (by kernel_rfl) (by simp) (AllReadyH.cons (i:=1) (o:={dst:=some 22,op:=.load 37 (.tmp 21),type:=37,pos := "ref.go:57",after:=#[{on:=0,ground:=.data}],guard:=none}) rfl (fun K hK=>?_) (AllReadyH.cons (i:=17) (o:={dst:=some 38,op:=.buildSlice 37 1 #[(0,.tmp 37)],type:=37,pos := "ref.go:57",after:=#[{on:=16,ground:=.data}],guard:=none}) rfl (fun K hK=>?_) AllReadyH.nil))
   focus
    rw[if_pos (show Region.wanted _ _=true from rfl)]
    have h1c:=C61.out.box.cell 1 _ rfl
    have h1l:=C61.out.box.lt
    go_simp
    refine hK.out _ _ hS61 (fun _=>?_)
    clear hK h1c h1l
    refine wpAnyH_ready (rs:=[17]) (by kernel_rfl) (by simp) (AllReadyH.cons (i:=17) (o:={dst:=some 38,op:=.buildSlice 37 1 #[(0,.tmp 37)],type:=37,pos := "ref.go:57",after:=#[{on:=16,ground:=.data}],guard:=none}) rfl (fun K hK=>?_) AllReadyH.nil)
   rotate_left 2
   focus
    refine wpAnyH_ready (rs:=[17]) (by kernel_rfl) (by simp) (AllReadyH.cons (i:=17) (o:={dst:=some 38,op:=.buildSlice 37 1 #[(0,.tmp 37)],type:=37,pos := "ref.go:57",after:=#[{on:=16,ground:=.data}],guard:=none}) rfl (fun K hK=>?_) AllReadyH.nil)
   all_goals
    rw[if_pos (show Region.wanted _ _=true from rfl)]
    go_simp
    refine hK.out _ _ hS61a (fun _=>?_)
    clear hK
   rotate_left 3
   focus
    refine wpAnyH_ready (rs:=[1]) (by kernel_rfl) (by simp) (AllReadyH.cons (i:=1) (o:={dst:=some 22,op:=.load 37 (.tmp 21),type:=37,pos := "ref.go:57",after:=#[{on:=0,ground:=.data}],guard:=none}) rfl (fun K hK=>?_) AllReadyH.nil)
    rw[if_pos (show Region.wanted _ _=true from rfl)]
    have h1c:=(C61.out.next BA.out).box.cell 1 _ rfl
    have h1l:=(C61.out.next BA.out).box.lt
    go_simp
    refine hK.out _ _ hS61a (fun _=>?_)
    clear hK h1c h1l
   all_goals
    refine wpAnyH_ready (rs:=[18]) (by kernel_rfl) (by simp) (AllReadyH.cons (i:=18) (o:={dst:=some 39,op:=.call {callee:=.builtin .append,args:=#[.tmp 22,.tmp 38],argTypes:=#[37,37]},type:=37,pos := "ref.go:57",after:=#[{on:=1,ground:=.data},{on:=17,ground:=.data},{on:=16,ground:=.chain}],guard:=none}) rfl (fun K hK=>?_) AllReadyH.nil)
    refine step_append_lies _ rfl (.tmp 22) (.tmp 38) 37 rfl (ob+1) 84 i0 (.agg #[.int .i64 0,.int .i64 0]) 2 16 Tryz.underlying37 hi hz0 hz1 hz2 rfl (by decide) (.slice av k cv) k (a1t G k) (by simp[Act.eval]) (C61.out.own.alloc _) ⟨w61.heap.size,0,none⟩ 1 1 [.int .i64 R.1,.int .i64 R.2] (by simp[Act.eval]) rfl (a6p _ _ _) (by intro u hu;simp at hu;rcases hu with rfl | rfl<;>rfl) (by decide) (by unfold maxLen;omega) (by omega) (by have:=Z61.out;have:=hwr.out;simp;omega) _ rfl ?_
    intro g1 cap1 w62 o1' k1 a1' l1
    rw[<-HRow.out] at o1'
    have A1:=a0a (b5t.grow (C61.out.next BA.out) (by simp) o1' k1)
    have h62:Hid (Below ob wr w62):=a0a (h61a.out.trans ⟨k1.os,k1.tape,k1.output,k1.size,fun q hq=>k1.block q (by have:=Z61.out;have:=hwr.out;simp;omega) (fun e=>by have:=(C61.out.own.lt q e.symm).1;omega)⟩)
    have h63:Hid (Below ob wr (w62.setCell ⟨ob,1,none⟩ (.slice (some ⟨g1,0,none⟩) (k+1) cap1))):=a0a (h62.out.setCell (p:=⟨ob,1,none⟩) (ZB _) _)
    have hS62:=HSk.out _ h62.out
    have hS63:=HSk.out _ h63.out
    have d62:=A1.out.1.free 1 (by simp)
    have e62:=A1.out.1.cell 1 _ rfl
    have m62:=A1.out.1.lt
    refine hK.out _ _ hS62 (fun _=>?_)
    clear o1' k1 a1' hK
    refine wpAnyH_take (i:=19) (v:=.pointer (some ⟨ob,1,none⟩)) rfl (by kernel_rfl) (by kernel_rfl) (by kernel_rfl) (fun _ _ _ h=>h) (Or.inl ⟨rfl,fun w' hS'=>?_⟩) hS62 ?_
    ·clear hS'
     go_simp
    refine wpAnyH_ready (rs:=[20]) (by kernel_rfl) (by simp) (AllReadyH.cons (i:=20) (o:={dst:=none,op:=.store 37 (.tmp 40) (.tmp 39),type:=0,pos := "ref.go:57",after:=#[{on:=19,ground:=.data},{on:=18,ground:=.data},{on:=18,ground:=.chain},{on:=0,ground:=.phase},{on:=1,ground:=.phase},{on:=2,ground:=.phase},{on:=3,ground:=.phase},{on:=4,ground:=.phase},{on:=5,ground:=.phase},{on:=6,ground:=.phase},{on:=7,ground:=.phase},{on:=8,ground:=.phase},{on:=9,ground:=.phase},{on:=10,ground:=.phase},{on:=11,ground:=.phase},{on:=12,ground:=.phase},{on:=13,ground:=.phase},{on:=14,ground:=.phase},{on:=15,ground:=.phase},{on:=16,ground:=.phase},{on:=17,ground:=.phase},{on:=18,ground:=.phase}],guard:=none}) rfl (fun K hK=>?_) AllReadyH.nil)
    rw[if_pos (show Region.wanted _ _=true from rfl)]
    go_simp
    refine hK.out _ _ hS63 (fun _=>?_)
    clear hK
    refine wpAnyH_done (by kernel_rfl) ?_ _
    go_wp2_with fail
    exact⟨⟨k+1,some ⟨g1,0,none⟩,cap1,by simp,by omega,a0a A1.out.2,a0a (HBr.out.trans h63.out)⟩,by simp;omega⟩
  ·have hlt':¬(k:Int)<(N:Int):=by omega
   obtain rfl:k=N:=by omega
   have HR1:=a0a (a9a.of HGw.out.own hwr.out)
   have HBx:Hid (Box wr ob [.int .i64 rep,.slice av k cv,.slice none 0 0]):=a0a HGw.out.box
   obtain⟨B2,hB2⟩:∃ B2,Hid (B2=wr.heap.size):=⟨_,a0a rfl⟩
   rw[<-hB2.out] at HR1
   have x7:=Y0.cell 7 _ rfl
   clear o1
   go_wp2_with fail
   generalize k=n at *
   generalize wr=w9 at *
   obtain⟨i5,hi5,hz5,hz6,hz7⟩:=b0K
   have HB2:Hid (Below w.heap.size w w9):=HBw
   clear HBw HGw hlt hlt' hk
   go_loopw [11] (fun i wx=>∃ (k:Nat) (ax:Option Addr) (cx:Nat),i=.int .i64 (k:Nat)/\k<=NC/\Hid (b5t B2 ob 2 [.int .i64 rep,.slice av n cv,.slice none 0 0] 4 1 (.slice ax k cx) k (a1t C k) wx)/\Hid (a9a wx (ob+1) B2 84 2 (.slice av n cv) n (a1t G n))/\Hid (Below ob w9 wx)) (fun i _=>match i with | .int _ z=>((NC:Int)-z).toNat | _=>0)
   case atStart=>exact⟨0,none,0,rfl,by omega,a0a ⟨HBx.out,World.ownsRow_nil _ _ _ _,by have:=hB2.out;have:=hwr.out;omega⟩,HR1,a0a (ZD _ _)⟩
   case round=>
    obtain⟨k,ax,cx,rfl,hk,HGw,HRi,HBq⟩:=hrel
    have HBs:Hid (Below ob w0 wr):=a0a (HBr.out.trans HBq.out)
    have HBw:Hid (Below w.heap.size w wr):=a0a (HB0.out.trans (HBs.out.mono (by have:=hob.out;omega)))
    have hwq:Hid (B2<=wr.heap.size):=a0a (by rw[hB2.out];exact HBq.out.size)
    have hoB:Hid (ob<B2):=a0a HGw.out.lt
    have Y0:=X0.out.later HBs.out (by have:=hob.out;omega)
    have x7:=Y0.cell 7 _ rfl
    have xl:=Y0.lt
    obtain⟨o0,o1,o2⟩:=Box.c3 HGw.out.box
    have ol:=HGw.out.box.lt
    by_cases hlt:k<NC
    ·have hlt':(k:Int)<(NC:Int):=by omega
     have hl1:k<p.crons.length:=by rw[<-hNC.out];exact hlt
     obtain⟨b,off,cap',hv,-,-,hbl,hx⟩:=HPs.out.cr.open (by omega)
     simp only[Value.slice.injEq] at hv
     obtain⟨rfl,-,rfl⟩:=hv
     have y0:=a0c HBw.out (hx k hl1 0 _ rfl)
     have y1:=a0c HBw.out (hx k hl1 1 _ rfl)
     have y2:=a0c HBw.out (hx k hl1 2 _ rfl)
     have y3:=a0c HBw.out (hx k hl1 3 _ rfl)
     have y4:=a0c HBw.out (hx k hl1 4 _ rfl)
     rw[Nat.add_zero] at y0
     have hCk:Hid (C k=[.bool (nm (p.crons.getD k cr0))]):=by rw[hC.out];exact a0a rfl
     generalize p.crons.getD k cr0=x at *
     obtain⟨R,hR⟩:∃ R,Hid (R=nm x):=⟨_,a0a rfl⟩
     rw[<-hR.out] at hCk
     have HNa:Hid (∀ (W:World),Calls Tryz.prog 61 #[.agg #[.int .u64 x.a,.int .u64 x.b,.int .u64 x.c,.int .u64 x.d,.int .u64 x.e],.int .i64 t] W fun e w'=>∃ z,e=.returned z/\z=.bool R/\Below W.heap.size W w'):=a0a (fun W=>(b1C x t HT64.out.1 (by have:=HT64.out.2;omega) R (by rw[hR.out];exact HNm.out x) W).mono (fun e w' h=>⟨_,h.1,rfl,h.2⟩))
     clear hx
     have lbr:b<wr.heap.size:=World.block_lt_of_cell? wr _ y0
     have HRow:Hid (a1t C (k+1)=a1t C k++[.bool R]):=a0a (by rw[a3l,hCk.out])
     have hN2:=hC256.out
     go_wp2_with fail
     have HSk:Hid (∀ W,Below ob wr W->(fun w'=>w'.cell? ⟨w.heap.size,7,none⟩=some (.slice (some ⟨b,off,none⟩) NC c3)/\w'.cell? ⟨b,off+k*5,none⟩=some (.int .u64 x.a)/\w'.cell? ⟨b,off+k*5+1,none⟩=some (.int .u64 x.b)/\w'.cell? ⟨b,off+k*5+2,none⟩=some (.int .u64 x.c)/\w'.cell? ⟨b,off+k*5+3,none⟩=some (.int .u64 x.d)/\w'.cell? ⟨b,off+k*5+4,none⟩=some (.int .u64 x.e)/\b<w'.heap.size/\w.heap.size<w'.heap.size) W):=a0a (fun W hW=>by
      have hb1:b<ob:=by have:=hob.out;omega
      have hb2:w.heap.size<ob:=by have:=hob.out;omega
      exact⟨(hW.cell (p:=⟨w.heap.size,7,none⟩) hb2).trans x7,(hW.cell (p:=⟨b,_,none⟩) hb1).trans y0,(hW.cell (p:=⟨b,_,none⟩) hb1).trans y1,(hW.cell (p:=⟨b,_,none⟩) hb1).trans y2,(hW.cell (p:=⟨b,_,none⟩) hb1).trans y3,(hW.cell (p:=⟨b,_,none⟩) hb1).trans y4,ZA lbr hW.size,ZA xl hW.size⟩)
     have hole:Hid (ob<=wr.heap.size):=a0a (by have:=hwq.out;have:=hoB.out;omega)
     refine wp_region_held_drew (S:=(fun w'=>w'.cell? ⟨w.heap.size,7,none⟩=some (.slice (some ⟨b,off,none⟩) NC c3)/\w'.cell? ⟨b,off+k*5,none⟩=some (.int .u64 x.a)/\w'.cell? ⟨b,off+k*5+1,none⟩=some (.int .u64 x.b)/\w'.cell? ⟨b,off+k*5+2,none⟩=some (.int .u64 x.c)/\w'.cell? ⟨b,off+k*5+3,none⟩=some (.int .u64 x.d)/\w'.cell? ⟨b,off+k*5+4,none⟩=some (.int .u64 x.e)/\b<w'.heap.size/\w.heap.size<w'.heap.size)) (by kernel_rfl) (HSk.out _ (ZD _ _).drew) (fun hS0=>?_)
     refine wpAnyH_take (i:=0) (v:=.pointer (some ⟨ob,2,none⟩)) rfl (by kernel_rfl) (by kernel_rfl) (by kernel_rfl) (fun _ _ _ h=>h) (Or.inl ⟨rfl,fun w' hS'=>?_⟩) hS0 ?_
     ·obtain⟨q7,q0,q1,q2,q3,q4,ql,qx⟩:=hS'
      go_simp
     refine wpAnyH_take (i:=2) (v:=.pointer (some ⟨w.heap.size,7,none⟩)) rfl (by kernel_rfl) (by kernel_rfl) (by kernel_rfl) (fun _ _ _ h=>h) (Or.inl ⟨rfl,fun w' hS'=>?_⟩) hS0 ?_
     ·obtain⟨q7,q0,q1,q2,q3,q4,ql,qx⟩:=hS'
      go_simp
     refine wpAnyH_take (i:=3) (v:=.slice (some ⟨b,off,none⟩) NC c3) rfl (by kernel_rfl) (by kernel_rfl) (by kernel_rfl) (fun _ _ _ h=>h) (Or.inl ⟨rfl,fun w' hS'=>?_⟩) hS0 ?_
     ·obtain⟨q7,q0,q1,q2,q3,q4,ql,qx⟩:=hS'
      go_simp
     refine wpAnyH_take (i:=4) (v:=.int .i64 (k:Nat)) rfl (by kernel_rfl) (by kernel_rfl) (by kernel_rfl) (fun _ _ _ h=>h) (Or.inl ⟨rfl,fun w' hS'=>?_⟩) hS0 ?_
     ·obtain⟨q7,q0,q1,q2,q3,q4,ql,qx⟩:=hS'
      go_simp
     refine wpAnyH_take (i:=5) (v:=.pointer (some ⟨b,off+k*5,none⟩)) rfl (by kernel_rfl) (by kernel_rfl) (by kernel_rfl) (fun _ _ _ h=>h) (Or.inl ⟨rfl,fun w' hS'=>?_⟩) hS0 ?_
     ·obtain⟨q7,q0,q1,q2,q3,q4,ql,qx⟩:=hS'
      go_simp
     refine wpAnyH_take (i:=6) (v:=.agg #[.int .u64 x.a,.int .u64 x.b,.int .u64 x.c,.int .u64 x.d,.int .u64 x.e]) rfl (by kernel_rfl) (by kernel_rfl) (by kernel_rfl) (fun _ _ _ h=>h) (Or.inl ⟨rfl,fun w' hS'=>?_⟩) hS0 ?_
     ·obtain⟨q7,q0,q1,q2,q3,q4,ql,qx⟩:=hS'
      go_simp
     refine wpAnyH_take (i:=7) (v:=.int .i64 t) rfl (by kernel_rfl) (by kernel_rfl) (by kernel_rfl) (fun _ _ _ h=>h) (Or.inl ⟨rfl,fun w' hS'=>?_⟩) hS0 ?_
     ·obtain⟨q7,q0,q1,q2,q3,q4,ql,qx⟩:=hS'
      go_simp
     clear x7 y0 y1 y2 y3 y4
     refine wpAnyH_ready (rs:=[1,8]) (by kernel_rfl) (by simp) (AllReadyH.cons (i:=1) (o:={dst:=some 49,op:=.load 38 (.tmp 48),type:=38,pos := "ref.go:60",after:=#[{on:=0,ground:=.data}],guard:=none}) rfl (fun K hK=>?_) (AllReadyH.cons (i:=8) (o:={dst:=some 56,op:=.call {callee:=.value (.func 61),args:=#[.tmp 54,.tmp 55],argTypes:=#[66,2]},type:=4,pos := "ref.go:60",after:=#[{on:=6,ground:=.data},{on:=7,ground:=.data}],guard:=none}) rfl (fun K hK=>?_) AllReadyH.nil))
     focus
      rw[if_pos (show Region.wanted _ _=true from rfl)]
      go_simp
      refine hK.out _ _ hS0 (fun _=>?_)
      clear hK
      refine wpAnyH_ready (rs:=[8]) (by kernel_rfl) (by simp) (AllReadyH.cons (i:=8) (o:={dst:=some 56,op:=.call {callee:=.value (.func 61),args:=#[.tmp 54,.tmp 55],argTypes:=#[66,2]},type:=4,pos := "ref.go:60",after:=#[{on:=6,ground:=.data},{on:=7,ground:=.data}],guard:=none}) rfl (fun K hK=>?_) AllReadyH.nil)
     all_goals
      refine a5j rfl 61 #[.agg #[.int .u64 x.a,.int .u64 x.b,.int .u64 x.c,.int .u64 x.d,.int .u64 x.e],.int .i64 t] (HNa.out _) (by first | rfl | go_simp) ?_
      rintro _ w61 ⟨rfl,b61⟩
      have B61:Hid (Below wr.heap.size wr w61):=a0a ⟨b61.os,b61.tape,b61.output,b61.size,b61.block⟩
      have C61:=a0a (HGw.out.next B61.out)
      have Z61:Hid (wr.heap.size<=w61.heap.size):=a0a B61.out.size
      have h61:Hid (Below ob wr w61):=a0a (B61.out.mono hole.out)
      have hS61:=HSk.out _ h61.out
      have BA:=a0a ((ZD w61.heap.size w61).alloc (ZB _) (.cells #[.bool R] 4))
      have B61a:Hid (Below wr.heap.size wr (w61.alloc (.cells #[.bool R] 4))):=a0a (a0b B61.out BA.out B61.out.size)
      have h61a:Hid (Below ob wr (w61.alloc (.cells #[.bool R] 4))):=a0a (B61a.out.mono hole.out)
      have hS61a:=HSk.out _ h61a.out
      refine hK.out _ _ hS61 (fun _=>?_)
      clear b61 hK
     focus
      refine wpAnyH_ready (rs:=[9]) (by kernel_rfl) (by simp) (AllReadyH.cons (i:=9) (o:={dst:=some 57,op:=.buildSlice 38 1 #[(0,.tmp 56)],type:=38,pos := "ref.go:60",after:=#[{on:=8,ground:=.data}],guard:=none}) rfl (fun K hK=>?_) AllReadyH.nil)
     rotate_left
     refine wpAnyH_ready (rs:=[1,9]) (by kernel_rfl) (by simp) (AllReadyH.cons (i:=1) (o:={dst:=some 49,op:=.load 38 (.tmp 48),type:=38,pos := "ref.go:60",after:=#[{on:=0,ground:=.data}],guard:=none}) rfl (fun K hK=>?_) (AllReadyH.cons (i:=9) (o:={dst:=some 57,op:=.buildSlice 38 1 #[(0,.tmp 56)],type:=38,pos := "ref.go:60",after:=#[{on:=8,ground:=.data}],guard:=none}) rfl (fun K hK=>?_) AllReadyH.nil))
     focus
      rw[if_pos (show Region.wanted _ _=true from rfl)]
      have h1c:=C61.out.box.cell 2 _ rfl
      have h1l:=C61.out.box.lt
      go_simp
      refine hK.out _ _ hS61 (fun _=>?_)
      clear hK h1c h1l
      refine wpAnyH_ready (rs:=[9]) (by kernel_rfl) (by simp) (AllReadyH.cons (i:=9) (o:={dst:=some 57,op:=.buildSlice 38 1 #[(0,.tmp 56)],type:=38,pos := "ref.go:60",after:=#[{on:=8,ground:=.data}],guard:=none}) rfl (fun K hK=>?_) AllReadyH.nil)
     all_goals
      rw[if_pos (show Region.wanted _ _=true from rfl)]
      go_simp
      refine hK.out _ _ hS61a (fun _=>?_)
      clear hK
     rotate_left
     focus
      refine wpAnyH_ready (rs:=[1]) (by kernel_rfl) (by simp) (AllReadyH.cons (i:=1) (o:={dst:=some 49,op:=.load 38 (.tmp 48),type:=38,pos := "ref.go:60",after:=#[{on:=0,ground:=.data}],guard:=none}) rfl (fun K hK=>?_) AllReadyH.nil)
      rw[if_pos (show Region.wanted _ _=true from rfl)]
      have h1c:=(C61.out.next BA.out).box.cell 2 _ rfl
      have h1l:=(C61.out.next BA.out).box.lt
      go_simp
      refine hK.out _ _ hS61a (fun _=>?_)
      clear hK h1c h1l
     all_goals
      refine wpAnyH_ready (rs:=[10]) (by kernel_rfl) (by simp) (AllReadyH.cons (i:=10) (o:={dst:=some 58,op:=.call {callee:=.builtin .append,args:=#[.tmp 49,.tmp 57],argTypes:=#[38,38]},type:=38,pos := "ref.go:60",after:=#[{on:=1,ground:=.data},{on:=9,ground:=.data},{on:=8,ground:=.chain}],guard:=none}) rfl (fun K hK=>?_) AllReadyH.nil)
      refine step_append_lies _ rfl (.tmp 49) (.tmp 57) 38 rfl B2 4 i5 (.bool false) 1 1 Tryz.underlying38 hi5 hz5 hz6 hz7 rfl (by decide) (.slice ax k cx) k (a1t C k) (by simp[Act.eval]) (C61.out.own.alloc _) ⟨w61.heap.size,0,none⟩ 1 1 [.bool R] (by simp[Act.eval]) rfl (a6p _ _ _) (by intro u hu;simp at hu;rcases hu with rfl;rfl) (by decide) (by unfold maxLen;omega) (by omega) (by have:=Z61.out;have:=hwq.out;simp;omega) _ rfl ?_
      intro g1 cap1 w62 o1' k1 a1' l1
      rw[<-HRow.out] at o1'
      have A1:=a0a (b5t.grow (C61.out.next BA.out) (by simp) o1' k1)
      have far:Hid (∀ q,q<B2->w62.heap[q]? = wr.heap[q]?):=a0a (fun q hq=>(k1.block q (by have:=Z61.out;have:=hwq.out;simp;omega) (fun e=>by have:=(C61.out.own.lt q e.symm).1;omega)).trans (B61a.out.block q (ZA hq hwq.out)))
      have h62:Hid (Below ob wr w62):=a0a (h61a.out.trans ⟨k1.os,k1.tape,k1.output,k1.size,fun q hq=>k1.block q (by have:=Z61.out;have:=hole.out;simp;omega) (fun e=>by have:=(C61.out.own.lt q e.symm).1;have:=hoB.out;omega)⟩)
      have h63:Hid (Below ob wr (w62.setCell ⟨ob,2,none⟩ (.slice (some ⟨g1,0,none⟩) (k+1) cap1))):=a0a (h62.out.setCell (p:=⟨ob,2,none⟩) (ZB _) _)
      have HRj:Hid (a9a (w62.setCell ⟨ob,2,none⟩ (.slice (some ⟨g1,0,none⟩) (k+1) cap1)) (ob+1) B2 84 2 (.slice av n cv) n (a1t G n)):=a0a (HRi.out.keep (fun q h1 h2=>((a0q w62 ob 2 _).block q (by have:=Z61.out;have:=hwq.out;have:=h62.out.size;omega) (by simp;omega)).trans (far.out q h2)))
      have hS62:=HSk.out _ h62.out
      have hS63:=HSk.out _ h63.out
      have d62:=A1.out.1.free 2 (by simp)
      have e62:=A1.out.1.cell 2 _ rfl
      have m62:=A1.out.1.lt
      refine hK.out _ _ hS62 (fun _=>?_)
      clear o1' k1 a1' hK
      refine wpAnyH_take (i:=11) (v:=.pointer (some ⟨ob,2,none⟩)) rfl (by kernel_rfl) (by kernel_rfl) (by kernel_rfl) (fun _ _ _ h=>h) (Or.inl ⟨rfl,fun w' hS'=>?_⟩) hS62 ?_
      ·clear hS'
       go_simp
      refine wpAnyH_ready (rs:=[12]) (by kernel_rfl) (by simp) (AllReadyH.cons (i:=12) (o:={dst:=none,op:=.store 38 (.tmp 59) (.tmp 58),type:=0,pos := "ref.go:60",after:=#[{on:=11,ground:=.data},{on:=10,ground:=.data},{on:=10,ground:=.chain},{on:=0,ground:=.phase},{on:=1,ground:=.phase},{on:=2,ground:=.phase},{on:=3,ground:=.phase},{on:=4,ground:=.phase},{on:=5,ground:=.phase},{on:=6,ground:=.phase},{on:=7,ground:=.phase},{on:=8,ground:=.phase},{on:=9,ground:=.phase},{on:=10,ground:=.phase}],guard:=none}) rfl (fun K hK=>?_) AllReadyH.nil)
      rw[if_pos (show Region.wanted _ _=true from rfl)]
      go_simp
      refine hK.out _ _ hS63 (fun _=>?_)
      clear hK
      refine wpAnyH_done (by kernel_rfl) ?_ _
      go_wp2_with fail
      exact⟨⟨k+1,some ⟨g1,0,none⟩,cap1,by simp,by omega,a0a A1.out.2,HRj,a0a (HBq.out.trans h63.out)⟩,by simp;omega⟩
    ·have hlt':¬(k:Int)<(NC:Int):=by omega
     obtain rfl:k=NC:=by omega
     have Y1:=X1.out.later HBs.out (by have:=hob.out;omega)
     obtain⟨r0,r1,r2⟩:=Box.c3 Y1
     have f0:=Y1.free 0 (by simp)
     have f1:=Y1.free 1 (by simp)
     have f2:=Y1.free 2 (by simp)
     have rl:=Y1.lt
     have hne1:w.heap.size+1≠ob:=by have:=hob.out;omega
     have hne2:ob≠w.heap.size+1:=by have:=hob.out;omega
     have HRow:=HGw.out.own
     go_wp2_with fail
     have TT:=a0X (a0X (a0q wr (w.heap.size+1) 0 (.int .i64 rep)) (a0q _ (w.heap.size+1) 1 (.slice av n cv))) (a0q _ (w.heap.size+1) 2 (.slice ax k cx))
     have q1:=a2Q HRi.out.2.1 (fun b hb hl=>TT.block b hl (by have:=hob.out;simp;omega))
     have q2:=a2Q HRow (fun b hb hl=>TT.block b hl (by have:=hob.out;have:=hoB.out;simp;omega))
     refine bodyPost_ret (v:=.agg #[.int .i64 rep,.slice av n cv,.slice ax k cx]) (by simp[results,Tryz.results31,go_sem, *]) rfl ?_
     rw[hN.out,hNC.out,hG.out] at q1
     rw[hN.out,hNC.out,hC.out] at q2
     refine⟨.slice av n cv,.slice ax k cx,rfl,?_,?_,((HBw.out.setCell (p:=⟨w.heap.size+1,0,none⟩) (by simp) _).setCell (p:=⟨w.heap.size+1,1,none⟩) (by simp) _).setCell (p:=⟨w.heap.size+1,2,none⟩) (by simp) _⟩
     ·rw[hN.out,hNC.out]
      exact a5n _ q1 (by have:=hob.out;omega)
     ·rw[hN.out,hNC.out]
      exact a5n _ q2 (by have:=hob.out;have:=hoB.out;omega)
end Go.Proofs.YtbddbnjhmdbkbaaGreatDoor
