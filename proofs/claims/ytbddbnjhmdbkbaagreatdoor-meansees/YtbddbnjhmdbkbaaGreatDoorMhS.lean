import Derived.Test.YtbddbnjhmdbkbaaGreatDoorMhP
import Derived.Test.YtbddbnjhmdbkbaaGreatDoorMjB
import Derived.Test.YtbddbnjhmdbkbaaGreatDoorMhJ
import Derived.Test.YtbddbnjhmdbkbaaGreatDoorMgK
import Derived.Test.YtbddbnjhmdbkbaaGreatDoorMgG
import Derived.Deep.AppendLies
import Derived.Deep.RegionLaw
namespace Go.Proofs.YtbddbnjhmdbkbaaGreatDoor
open Go.RowKit
abbrev smL (s:Pr):List Value:=[.int .i64 s.1,.int .i64 s.2]
def a5N (w:World)(v:Value)(l:List Pr):Prop:=a0Q w v l.length 2 (fun i=>smL (l.getD i (0,0)))
def a3C (span:Int)(X:List Pr):List Pr:=X.foldl (fun L s=>a1e (a0F span s.1 L) s) []
theorem a5Y (span:Int)(X:List Pr)(s:Pr):a3C span (X++[s])=a1e (a0F span s.1 (a3C span X)) s:=by unfold a3C;rw[List.foldl_append];rfl
structure Ups (t:Int)(X:List Pr):Prop where
 ord:X.Pairwise (fun x y=>x.1<=y.1)
 le:∀ x,x∈X->x.1<=t/\a1n x.1/\a1n x.2
structure c0N (w:World)(b:Nat)(a s p:Int)(X:List Pr)(k:Nat)(wr:World):Prop where
 win:∃ F ck on,Win wr b F a s p ck on (a3C s (X.take k))/\(∀ i,i∈F->w.heap.size<=i)/\(on=true->∃ j,∃ h:j<X.length,j<k/\ck=X[j].1)
 bel:Below w.heap.size w wr
theorem c0N.gone {w wr w':World}{b:Nat}{F:List Nat}{a s p:Int}{X:List Pr}{k:Nat}(hF:∀ i,i∈F->w.heap.size<=i)(hB:Below w.heap.size w wr)(hk:k<X.length)(hg:b7H wr b F a s p X[k].1 (a1e (a0F s X[k].1 (a3C s (X.take k))) X[k]) w'):c0N w b a s p X (k+1) w':=by
 obtain⟨F',h1,h2,h3⟩:=hg
 refine⟨⟨F',_,true,by rw[List.take_succ_eq_append_getElem hk,a5Y];exact h1,fun i hi=>?_,fun _=>⟨k,hk,by omega,rfl⟩⟩,⟨h2.os.trans hB.os,h2.tape.trans hB.tape,h2.output.trans hB.output,ZC hB.size h2.size,fun q hq=>(h2.block q (ZA hq hB.size) (fun e=>by have:=hF q e;omega)).trans (hB.block q hq)⟩⟩
 rcases h3 i hi with h | h
 ·exact hF i h
 ·exact ZC hB.size h
set_option maxHeartbeats 2000000 in
set_option maxRecDepth 20000 in
theorem b9w (m a s p:Int)(hR:a6F m a s p)(hp:a1n p)(X:List Pr)(v:Value)(t:Int)(w:World)(hs:a5N w v X)(hu:Ups t X)(ht:a1n t):
 Calls Tryz.prog 50 #[tv m a s p,v,.int .i64 t] w fun e w'=>e=.returned (rv (a0A a p (a0Z (a0F s t (a3C s X)))))/\Below w.heap.size w w':=by
 obtain⟨ad,cap,rfl,hc1,hc2,hp2⟩:=hs
 have HNw:=a0a (fun W=>c4h m a s p W hR hp)
 have HU:=a0a hu
 have HP:=a0a hp2
 obtain⟨Y0,Y1,Y2⟩:=a0n w 63 84 [.int .i64 m,.int .i64 a,.int .i64 s,.int .i64 p] [.int .i64 0,.int .i64 0]
 have HY1:=a0a Y1
 have B0:=a0a Y2
 obtain⟨x0,x1,x2,x3⟩:=Box.c4 Y0
 have xl:=Y0.lt
 obtain⟨N,hN⟩:∃ N,Hid (N=X.length):=⟨_,rfl⟩
 rw[<-hN.out] at hc1 HP ⊢
 simp only[tv]
 clear hu hp2 Y0 Y1 Y2
 go_enter Tryz.func50,Tryz.ntmps50
 go_wp2_with fail
 simp only[tv] at HNw
 generalize hw0:(w.alloc _).alloc _=w0 at *
 clear hw0
 refine ZE (HNw.out _) ?_
 rintro e w1 ⟨b,F,rfl,hW,hF,b1⟩
 have HI0:Hid (c0N w0 b a s p X 0 w1):=⟨⟨F,0,false,hW,hF,fun h=>by cases h⟩,b1⟩
 clear hW hF b1 x0 x1 x2 x3 xl HNw
 go_wp2_with fail
 go_loopw [20] (fun i wr=>∃ (k:Nat),i=.int .i64 (k:Nat)/\k<=N/\Hid (c0N w0 b a s p X k wr)) (fun i _=>match i with | .int _ z=>((N:Int)-z).toNat | _=>0)
 case atStart=>exact⟨0,rfl,by omega,HI0⟩
 case round=>
  obtain⟨k,rfl,hk,HI⟩:=hrel
  by_cases hlt:k<N
  ·have hlt':(k:Int)<(N:Int):=by omega
   have hl1:k<X.length:=by rw[<-hN.out];exact hlt
   obtain⟨b',off,e,hbl,hx⟩:∃ b off,ad=some ⟨b,off,none⟩/\b<w.heap.size/\∀ i,i<N->∀ j x,(smL (X.getD i (0,0)))[j]? = some x->w.cell? ⟨b,off+i*2+j,none⟩=some x:=by
    rcases HP.out with h | h
    ·omega
    ·exact h
   subst e
   have HBw:=a0a (a0b B0.out HI.out.bel B0.out.size)
   have y0:=a0c HBw.out (hx k hlt 0 _ rfl)
   have y1:=a0c HBw.out (hx k hlt 1 _ rfl)
   rw[Nat.add_zero] at y0
   have lb:b'<wr.heap.size:=ZA hbl HBw.out.size
   have hgd:X.getD k (0,0)=X[k]:=by simp[List.getD,hl1]
   rw[hgd] at y0 y1
   have HPu:Hid (∀ o,Calls Tryz.prog 88 #[.pointer (some ⟨b,0,none⟩),.agg #[.int .i64 X[k].1,.int .i64 X[k].2]] (wr.alloc o) fun e w'=>e=.returned (.int .i64 0)/\c0N w0 b a s p X (k+1) w'):=fun o=>by
    obtain⟨F,ck,on,hW,hF,hon⟩:=HI.out.win
    obtain⟨q1,q2,q3⟩:=HU.out.le X[k] (List.getElem_mem hl1)
    refine(c4f b F a s p ck on _ X[k] (wr.alloc o) (hW.next ((ZD _ _).alloc (ZB _) _)) q2 q3 (fun h=>?_)).mono fun e w' h=>⟨h.1,c0N.gone hF (HI.out.bel.alloc HI.out.bel.size o) hl1 h.2⟩
    obtain⟨j,hj,hjk,rfl⟩:=hon h
    exact List.pairwise_iff_getElem.1 HU.out.ord j k hj hl1 hjk
   clear hx hgd HI
   generalize X[k]=x at *
   obtain⟨x1,x2⟩:=x
   dsimp only at *
   go_wp2_with fail
   refine ZE (HPu.out _) ?_
   rintro e w2 ⟨rfl,hI2⟩
   have HI2:=a0a hI2
   clear hI2 y0 y1 lb
   go_wp2_with fail
   go_roundw
   case rel=>exact⟨k+1,by go_num,by omega,HI2⟩
   case measure=>simp;omega
  ·have hlt':¬(k:Int)<(N:Int):=by omega
   have hkN:k=N:=by omega
   have HRd:Hid (Calls Tryz.prog 89 #[.pointer (some ⟨b,0,none⟩),.int .i64 t] wr fun e w'=>e=.returned (.tuple #[rv (a0A a p (a0Z (a0F s t (a3C s X)))),.int .i64 0])/\Below w0.heap.size w0 w'):=by
    obtain⟨F,ck,on,hW,hF,hon⟩:=HI.out.win
    have hB:=HI.out.bel
    rw[hkN,hN.out,List.take_length] at hW
    refine a0a ((c2u b F a s p ck on _ t wr hW ht (fun h=>?_)).mono fun e w' h=>⟨h.1,?_⟩)
    ·obtain⟨j,hj,hjk,rfl⟩:=hon h
     exact(HU.out.le X[j] (List.getElem_mem hj)).1
    ·obtain⟨F',-,h2,-⟩:=h.2
     exact⟨h2.os.trans hB.os,h2.tape.trans hB.tape,h2.output.trans hB.output,ZC hB.size h2.size,fun q hq=>(h2.block q (ZA hq hB.size) (fun e=>by have:=hF q e;omega)).trans (hB.block q hq)⟩
   obtain⟨R,hRe⟩:∃ R,Hid (a0A a p (a0Z (a0F s t (a3C s X)))=R):=⟨_,rfl⟩
   rw[hRe.out] at HRd
   obtain⟨r1,r2⟩:=R
   clear HI HI0 HU HP
   go_wp2_with fail
   refine ZE HRd.out ?_
   rintro e w2 ⟨rfl,b2⟩
   have B2:=a0a b2
   have HY2:=a0a (HY1.out.next b2)
   have BW:=kb B0 b2
   clear b2 HRd
   obtain⟨z0,z1⟩:=Box.c2 HY2.out
   have f0:=HY2.out.free 0 (by simp)
   have f1:=HY2.out.free 1 (by simp)
   have zl:=HY2.out.lt
   simp only[rv]
   go_wp2_with fail
   refine bodyPost_ret (v:=.agg #[.int .i64 r1,.int .i64 r2]) (by simp[results,Tryz.results50,go_sem, *]) rfl ?_
   exact⟨by rw[hRe.out];rfl,((BW.out.setCell (p:=⟨w.heap.size+1,0,none⟩) (by simp) _).setCell (p:=⟨w.heap.size+1,1,none⟩) (by simp) _).alloc (by have:=BW.out.size;simp;omega) _⟩
set_option maxHeartbeats 1000000 in
theorem b6p (X:List Pr)(v:Value)(w:World)(hs:a5N w v X):Calls Tryz.prog 51 #[v] w fun e w'=>∃ u,e=.returned u/\a5N w' u (X.drop (X.length-4096))/\Below w.heap.size w w':=by
 obtain⟨ad,cap,rfl,hc1,hc2,hp⟩:=hs
 obtain⟨N,hN⟩:∃ N,Hid (N=X.length):=⟨_,rfl⟩
 rw[<-hN.out] at hc1 hp ⊢
 have HP:=a0a hp
 clear hp
 by_cases h:4096<N
 ·have h':(4096:Int)<(N:Int):=by omega
  have hk:((N:Int)-4096).toNat=N-4096:=by omega
  have hk2:¬ cap=N-4096:=by omega
  obtain⟨b,off,e,hb,hx⟩:∃ b off,ad=some ⟨b,off,none⟩/\b<w.heap.size/\∀ i,i<N->∀ j x,(smL (X.getD i (0,0)))[j]? = some x->w.cell? ⟨b,off+i*2+j,none⟩=some x:=by
   rcases HP.out with h | h
   ·omega
   ·exact h
  subst e
  have HX:=a0a hx
  clear hx HP
  go_enter Tryz.func51,Tryz.ntmps51
  go_wp2_with fail
  all_goals first
   | (exfalso;omega)
   | (go_ret
      refine⟨_,rfl,⟨some ⟨b,off+(N-4096)*2,none⟩,cap-(N-4096),?_,?_,by omega,.inr ⟨b,_,rfl,hb,fun i hi j x hx=>?_⟩⟩,ZD _ _⟩
      ·have hl:(X.drop (N-4096)).length=N-(N-4096):=by rw[List.length_drop,hN.out]
       rw[hl]
       simp
       try omega
      ·rw[List.length_drop,<-hN.out];omega
      ·have hi':i<N-(N-4096):=by rw[List.length_drop,<-hN.out] at hi;exact hi
       have he:(X.drop (N-4096)).getD i (0,0)=X.getD (N-4096+i) (0,0):=by simp[List.getD]
       have hx':(smL (X.getD (N-4096+i) (0,0)))[j]? = some x:=by rw[<-he];exact hx
       have:=HX.out (N-4096+i) (by omega) j x hx'
       rw[show off+(N-4096)*2+i*2+j=off+(N-4096+i)*2+j by omega]
       exact this)
 ·have h':¬(4096:Int)<(N:Int):=by omega
  have hz:N-4096=0:=by omega
  rw[hz,List.drop_zero]
  have HA:Hid (∀ c,c=cap->a5N w (.slice ad N c) X):=fun c hc=>by subst hc;exact⟨ad,c,by rw[hN.out],by rw[<-hN.out];exact hc1,hc2,by rw[<-hN.out];exact HP.out⟩
  by_cases hc:cap=0
  ·have hn:N=0:=by omega
   go_enter Tryz.func51,Tryz.ntmps51
   go_wp2_with fail
   all_goals (go_ret;exact⟨_,rfl,by have hA:=HA.out cap rfl;rw[hn,hc] at hA;exact hA,ZD _ _⟩)
  ·go_enter Tryz.func51,Tryz.ntmps51
   go_wp2_with fail
   all_goals (go_ret;exact⟨_,rfl,by first | exact HA.out _ rfl|(simpa using HA.out _ rfl)|(cases ad<;>simpa[Addr.add] using HA.out _ rfl),ZD _ _⟩)
def c1Y (w:World)(v:Value)(M:Nat)(f:Nat->List Pr):Prop:=∃ us:Nat->Value,a0Q w v M 1 (fun i=>[us i])/\∀ i,i<M->a5N w (us i) (f i)
theorem c1Y.next {w w':World}{v:Value}{M:Nat}{f:Nat->List Pr}(h:c1Y w v M f)(hb:Below w.heap.size w w'):c1Y w' v M f:=by
 obtain⟨us,h1,h2⟩:=h
 exact⟨us,h1.next hb,fun i hi=>a0Q.next (h2 i hi) hb⟩
abbrev b5p (X:List Pr):List Pr:=X.drop (X.length-4096)
def a1D (f:Nat->List Pr)(t:Int)(x:WiP):Int×Int:=a0A x.a x.p (a0Z (a0F x.s t (a3C x.s (b5p (f x.m.toNat)))))
abbrev rsL (r:Int×Int):List Value:=[.int .i64 r.1,.int .i64 r.2]
theorem b9H:(Tryz.prog.info? 84).map (fun i=>(i.zero,i.size,i.bytes))=some (some (.agg #[.int .i64 0,.int .i64 0]),2,16):=by kernel_rfl
theorem b0J:∃ i,Tryz.prog.info? 84=some i/\i.zero=some (.agg #[.int .i64 0,.int .i64 0])/\i.size=2/\i.bytes=16:=by
 have h:=b9H
 cases hi:Tryz.prog.info? 84 with
 | none=>rw[hi] at h;cases h
 | some i=>
   rw[hi] at h
   simp only[Option.map_some,Option.some.injEq,Prod.mk.injEq] at h
   exact⟨i,rfl,h.1,h.2.1,h.2.2⟩
theorem b0l {t:Int}{X:List Pr}(h:Ups t X)(k:Nat):Ups t (X.drop k):=⟨h.ord.drop,fun x hx=>h.le x (List.mem_of_mem_drop hx)⟩
structure TOk (M:Nat)(x:WiP):Prop where
 right:a6F x.m x.a x.s x.p
 m:x.m<M
 p:a1n x.p
theorem a9n {ops:Array Oper}{o:Oper}{a:Act}{w:World}{K:Act->World->Prop}{Q:Exit->Act->World->Prop}{E:Prop}(hgd:o.guard=none)(X:List Pr)(v:Value)(hs:a5N w v X)
 (he:(execOp a.eval o).run Tryz.prog w=.ok (.enter 51 #[v]) w)
 (hK:∀ ad c w',a5N w' (.slice ad (b5p X).length c) (b5p X)->Below w.heap.size w w'->K (a.put o.dst (.slice ad (b5p X).length c)) w') :
 if Region.wanted o (yielded ops a.tmps)=true then Oper.wp Tryz.prog o a w K Q else E:=by
 have hwd:Region.wanted o (yielded ops a.tmps)=true:=by simp[Region.wanted,hgd]
 rw[if_pos hwd]
 unfold Oper.wp
 rw[he,Oper.upon_enter]
 refine(b6p X v w hs).mono fun e w' h=>?_
 obtain⟨u,rfl,h1,h2⟩:=h
 obtain⟨ad,c,rfl,-,-⟩:=a0Q.shape h1
 exact hK ad c w' h1 h2
theorem b2V {ops:Array Oper}{o:Oper}{a:Act}{w:World}{K:Act->World->Prop}{Q:Exit->Act->World->Prop}{E:Prop}(hgd:o.guard=none){M:Nat}(x:WiP)(hx:TOk M x)(X:List Pr)(t:Int)(v:Value)(hs:a5N w v X)(hu:Ups t X)(ht:a1n t)(r1 r2:Int)(hr:a0A x.a x.p (a0Z (a0F x.s t (a3C x.s X)))=(r1,r2))
 (he:(execOp a.eval o).run Tryz.prog w=.ok (.enter 50 #[.agg #[.int .i64 x.m,.int .i64 x.a,.int .i64 x.s,.int .i64 x.p],v,.int .i64 t]) w)
 (hK:∀ w',Below w.heap.size w w'->K (a.put o.dst (.agg #[.int .i64 r1,.int .i64 r2])) w') :
 if Region.wanted o (yielded ops a.tmps)=true then Oper.wp Tryz.prog o a w K Q else E:=by
 have hwd:Region.wanted o (yielded ops a.tmps)=true:=by simp[Region.wanted,hgd]
 rw[if_pos hwd]
 unfold Oper.wp
 rw[he,Oper.upon_enter]
 refine(b9w x.m x.a x.s x.p hx.right hx.p X v t w hs hu ht).mono fun e w' h=>?_
 obtain⟨rfl,h2⟩:=h
 rw[hr]
 exact hK w' h2
theorem a8c {xs R:List Value}{k:Nat}{u v:Value}(h:xs.take (k*2)=R.take (k*2))(hk:k*2+1<xs.length)(hu:R[k*2]? = some u)(hv:R[k*2+1]? = some v):((xs.set (k*2) u).set (k*2+1) v).take ((k+1)*2)=R.take ((k+1)*2):=by
 have h1:=a2N h (by omega) hu
 have h2:=a2N (xs:=xs.set (k*2) u) (u:=v) h1 (by rw[List.length_set];omega) hv
 rw[show (k+1)*2=k*2+1+1 by omega]
 exact h2
set_option maxHeartbeats 4000000 in
set_option maxRecDepth 20000 in
theorem c0X (wins:List WiP)(v vs:Value)(M:Nat)(f:Nat->List Pr)(t:Int)(w:World)(hs:c1X w v wins)(hS:c1Y w vs M f)(hk:∀ x,x∈wins->TOk M x)(hu:∀ i,i<M->Ups t (f i))(ht:a1n t)(hL:wins.length*32<=140737488355328):
 Calls Tryz.prog 27 #[v,vs,.int .i64 t] w fun e w'=>∃ u,e=.returned u/\w'.ownsRow w.heap.size 84 2 u wins.length (a1t (fun i=>rsL (a1D f t (wins.getD i wi0))) wins.length)/\Below w.heap.size w w':=by
 have HUp:=a0a hu
 have HK:=a0a hk
 have HSS:=a0a hS
 obtain⟨ad,cap,rfl,hle,hcap,hp⟩:=hs
 obtain⟨us,⟨ad',cap',rfl,hle',hcap',hp'⟩,hus⟩:=hS
 obtain⟨N,hNn⟩:∃ N,Hid (N=wins.length):=⟨_,rfl⟩
 rw[<-hNn.out] at hL hle hp ⊢
 have HP:=a0a hp
 have HP':=a0a hp'
 have HUs:=a0a hus
 obtain⟨R,hR⟩:∃ R,Hid (R=a1t (fun i=>rsL (a1D f t (wins.getD i wi0))) N):=⟨_,rfl⟩
 have hRl:Hid (R.length=N*2):=by rw[hR.out];exact a0a (a2W (k:=2) (fun i=>rfl) N)
 rw[<-hR.out]
 obtain⟨i0,hi,hz0,hz1,hz2⟩:=b0J
 clear hp hp' hus hk hu
 go_enter Tryz.func27,Tryz.ntmps27
 go_wp2_with (at_make;refine wpList_make_full _ rfl _ _ 37 rfl w.heap.size 84 i0 (.agg #[.int .i64 0,.int .i64 0]) 2 Tryz.underlying37 hi hz0 hz1 _ _ _ _ N rfl rfl rfl rfl (by rw[hz2];omega) (by unfold maxLen;omega) (ZB _) ?_;intro w3 hown hgrow;have hb3:Below w.heap.size w w3:=(ZD _ _).grown hgrow (ZB _) (by simp);have HB3:=a0a hb3;have HO:=a0a hown;clear hb3 hown hgrow)
 obtain⟨g,hg⟩:∃ g,Hid (g=w.heap.size):=⟨_,rfl⟩
 have HO2:Hid (∃ xs:List Value,xs.length=N*2/\w3.ownsRow w.heap.size 84 2 (.slice (some ⟨g,0,none⟩) N N) N xs):=by
  rw[hg.out]
  exact a0a ⟨_,HO.out.1,HO.out⟩
 obtain⟨xs0,hx0,ho0⟩:=HO2.out
 have HO0:=a0a ho0
 have HX0:=a0a hx0
 rw[<-hg.out]
 clear HO HO2 ho0 hx0 hi hz0 hz1 hz2
 go_loopw [15] (fun i wr=>∃ (k:Nat) (xs:List Value),i=.int .i64 (k:Nat)/\k<=N/\Hid (xs.length=N*2)/\Hid (xs.take (k*2)=R.take (k*2))/\Hid (wr.ownsRow w.heap.size 84 2 (.slice (some ⟨g,0,none⟩) N N) N xs)/\Hid (Below w.heap.size w wr)) (fun i _=>match i with | .int _ z=>((N:Int)-z).toNat | _=>0)
 case atStart=>exact⟨0,xs0,rfl,by omega,HX0,a0a rfl,HO0,HB3⟩
 case round=>
  obtain⟨k,xs,rfl,hk,HXl,HXs,HOw,HBr⟩:=hrel
  by_cases hlt:k<N
  ·have hlt':(k:Int)<(N:Int):=by omega
   have hl1:k<wins.length:=by rw[<-hNn.out];exact hlt
   obtain⟨b,off,e,hbl,hx⟩:∃ b off,ad=some ⟨b,off,none⟩/\b<w.heap.size/\∀ i,i<N->∀ j x,(wiL (wins.getD i wi0))[j]? = some x->w.cell? ⟨b,off+i*4+j,none⟩=some x:=by
    rcases HP.out with h | h
    ·omega
    ·exact h
   subst e
   have y0:=a0c HBr.out (hx k hlt 0 _ rfl)
   have y1:=a0c HBr.out (hx k hlt 1 _ rfl)
   have y2:=a0c HBr.out (hx k hlt 2 _ rfl)
   have y3:=a0c HBr.out (hx k hlt 3 _ rfl)
   rw[Nat.add_zero] at y0
   have lb:b<wr.heap.size:=ZA hbl HBr.out.size
   have hgd:wins.getD k wi0=wins[k]:=by simp[List.getD,hl1]
   have HTk:=a0a (HK.out wins[k] (List.getElem_mem hl1))
   have hRk:Hid (R[k*2]? = some (.int .i64 (a1D f t wins[k]).1)/\R[k*2+1]? = some (.int .i64 (a1D f t wins[k]).2)):=by
    rw[hR.out]
    have q0:=a4U (k:=2) (cs:=fun i=>rsL (a1D f t (wins.getD i wi0))) (fun i=>rfl) N k 0 _ hlt rfl
    have q1:=a4U (k:=2) (cs:=fun i=>rsL (a1D f t (wins.getD i wi0))) (fun i=>rfl) N k 1 _ hlt rfl
    rw[hgd] at q0 q1
    exact a0a ⟨q0,q1⟩
   rw[hgd] at y0 y1 y2 y3
   generalize wins[k]=x at *
   obtain⟨xm,xa,xs',xp⟩:=x
   have hm0:0<=xm:=HTk.out.right.1
   have hm1:xm<(M:Int):=HTk.out.m
   obtain⟨mi,hmi⟩:∃ mi:Nat,xm=(mi:Int):=⟨xm.toNat,by omega⟩
   subst hmi
   have hmM:mi<M:=by omega
   have hTe:Hid (a1D f t ⟨(mi:Int),xa,xs',xp⟩=a0A xa xp (a0Z (a0F xs' t (a3C xs' (b5p (f mi)))))):=a0a (by unfold a1D;simp)
   obtain⟨b',off',e,hbl',hx'⟩:∃ b off,ad'=some ⟨b,off,none⟩/\b<w.heap.size/\∀ i,i<M->∀ j x,([us i])[j]? = some x->w.cell? ⟨b,off+i*1+j,none⟩=some x:=by
    rcases HP'.out with h | h
    ·omega
    ·exact h
   subst e
   have z0:=a0c HBr.out (hx' mi hmM 0 _ rfl)
   rw[Nat.mul_one,Nat.add_zero] at z0
   have lb':b'<wr.heap.size:=ZA hbl' HBr.out.size
   have HSm:Hid (a5N wr (us mi) (f mi)):=a0Q.next (HUs.out mi hmM) HBr.out
   obtain⟨ua,uc,hue,-,-⟩:=a0Q.shape HSm.out
   rw[hue] at z0 HSm
   have B0:=a0a ((ZD wr.heap.size wr).alloc (ZB _) (.cells #[.int .i64 (mi:Int),.int .i64 xa,.int .i64 xs',.int .i64 xp] 63))
   have XB:=Box.new wr [.int .i64 (mi:Int),.int .i64 xa,.int .i64 xs',.int .i64 xp] 63
   have HXB:=a0a XB
   obtain⟨x0,x1,x2,x3⟩:=Box.c4 XB
   have xl:=XB.lt
   replace z0:=a0c B0.out z0
   dsimp only at *
   clear hx hx' XB hgd
   obtain⟨R12,hR12⟩:∃ R12,Hid (a0A xa xp (a0Z (a0F xs' t (a3C xs' (b5p (f mi)))))=R12):=⟨_,rfl⟩
   obtain⟨r1,r2⟩:=R12
   have hRk2:Hid (R[k*2]? = some (.int .i64 r1)/\R[k*2+1]? = some (.int .i64 r2)):=by
    have h:=hRk.out
    rw[hTe.out,hR12.out] at h
    exact a0a h
   have HT:=a0a (a8c HXs.out (by have:=HXl.out;omega) hRk2.out.1 hRk2.out.2)
   have HOw0:=a0a (HOw.out.alloc (.cells #[.int .i64 (mi:Int),.int .i64 xa,.int .i64 xs',.int .i64 xp] 63))
   have HB0:=a0a (a0b HBr.out B0.out HBr.out.size)
   have HSm0:Hid (a5N (wr.alloc (.cells #[.int .i64 (mi:Int),.int .i64 xa,.int .i64 xs',.int .i64 xp] 63)) (.slice ua (f mi).length uc) (f mi)):=a0Q.next HSm.out B0.out
   clear hRk hTe HOw HSm HXs
   go_wp2_with fail
   generalize hw0:wr.alloc _=w0 at *
   clear hw0 y0 y1 y2 y3 lb lb'
   go_region_law (first
    | (refine b2V rfl (M:=M) ⟨(mi:Int),xa,xs',xp⟩ HTk.out (b5p (f mi)) t (.slice a60 (b5p (f mi)).length c60) S60.out (b0l (HUp.out mi hmM) _) ht r1 r2 hR12.out (by first | rfl | go_simp) ?_;intro w61 b61;have B61:=kb B60 b61;have O61:=a0a (a2Z O60.out b61);have k0:=O61.out.cellAt (k*2) (by omega);have k1:=O61.out.cellAt (k*2+1) (by omega);rw[List.getElem?_eq_getElem (by have:=HXl.out;omega)] at k0 k1;have f0:=O61.out.frozenAt (k*2);have f1:=O61.out.frozenAt (k*2+1);have hgl:=(O61.out.lt g rfl).2;clear b61)
    | (refine a9n rfl (f mi) (.slice ua (f mi).length uc) (a0Q.next HSm0.out (ZD _ _).drew) (by first | rfl | go_simp) ?_;intro a60 c60 w60 s60 b60;have S60:=a0a s60;have K60:=a0a (a0b (ZD w0.heap.size w0).drew b60 (ZD w0.heap.size w0).drew.size);have B60:=a0a (a0b HB0.out K60.out HB0.out.size);have O60:=a0a (a2Z HOw0.out K60.out);have Y60:=HXB.out.next K60.out;have t0:=Y60.cell 0 _ rfl;have t1:=Y60.cell 1 _ rfl;have t2:=Y60.cell 2 _ rfl;have t3:=Y60.cell 3 _ rfl;have tl:=Y60.lt;clear s60 b60))
   all_goals go_wp2_with fail
   all_goals go_roundw
   all_goals first
    | exact⟨k+1,_,by simp,by omega,a0a (by rw[List.length_set,List.length_set];exact HXl.out),HT,((O61.out.stored (k*2) _).1.stored (k*2+1) _).1,(B61.out.setCell (p:=⟨g,k*2,none⟩) (by show w.heap.size<=g;have:=hg.out;omega) _).setCell (p:=⟨g,k*2+1,none⟩) (by show w.heap.size<=g;have:=hg.out;omega) _⟩
    | (simp;omega)
  ·have hkN:k=N:=by omega
   subst hkN
   have hE:Hid (xs=R):=by
    have h1:=HXs.out
    rw[List.take_of_length_le (by have:=HXl.out;omega),List.take_of_length_le (by have:=hRl.out;omega)] at h1
    exact a0a h1
   go_wp2_with fail
   go_ret
   exact⟨_,rfl,by rw[<-hE.out];exact HOw.out,HBr.out⟩
theorem b9J:(Tryz.prog.info? 4).map (fun i=>(i.zero,i.size,i.bytes))=some (some (.bool false),1,1):=by kernel_rfl
theorem b0K:∃ i,Tryz.prog.info? 4=some i/\i.zero=some (.bool false)/\i.size=1/\i.bytes=1:=by
 have h:=b9J
 cases hi:Tryz.prog.info? 4 with
 | none=>rw[hi] at h;cases h
 | some i=>
   rw[hi] at h
   simp only[Option.map_some,Option.some.injEq,Prod.mk.injEq] at h
   exact⟨i,rfl,h.1,h.2.1,h.2.2⟩
set_option maxHeartbeats 4000000 in
set_option maxRecDepth 20000 in
theorem b9q (crons:List Cr)(v:Value)(t:Int)(nm:Cr->Bool)(w:World)(hs:c0E w v crons)(hL:crons.length*40<=140737488355328)
 (hc:∀ c,c∈crons->∀ W,Below w.heap.size w W->Calls Tryz.prog 52 #[.agg (crL c).toArray,.int .i64 t] W fun e w'=>e=.returned (.bool (nm c))/\Below W.heap.size W w') :
 Calls Tryz.prog 28 #[v,.int .i64 t] w fun e w'=>∃ u,e=.returned u/\w'.ownsRow w.heap.size 4 1 u crons.length (a1t (fun i=>[.bool (nm (crons.getD i cr0))]) crons.length)/\Below w.heap.size w w':=by
 have HC:=a0a hc
 obtain⟨ad,cap,rfl,hle,hcap,hp⟩:=hs
 obtain⟨N,hNn⟩:∃ N,Hid (N=crons.length):=⟨_,rfl⟩
 rw[<-hNn.out] at hL hle hp ⊢
 have HP:=a0a hp
 obtain⟨R,hR⟩:∃ R,Hid (R=a1t (fun i=>[Value.bool (nm (crons.getD i cr0))]) N):=⟨_,rfl⟩
 have hRl:Hid (R.length=N):=by rw[hR.out];exact a0a ((a2W (k:=1) (fun i=>rfl) N).trans (by omega))
 rw[<-hR.out]
 obtain⟨i0,hi,hz0,hz1,hz2⟩:=b0K
 clear hp hc
 go_enter Tryz.func28,Tryz.ntmps28
 go_wp2_with (at_make;refine wpList_make_full _ rfl _ _ 38 rfl w.heap.size 4 i0 (.bool false) 1 Tryz.underlying38 hi hz0 hz1 _ _ _ _ N rfl rfl rfl rfl (by rw[hz2];omega) (by unfold maxLen;omega) (ZB _) ?_;intro w3 hown hgrow;have hb3:Below w.heap.size w w3:=(ZD _ _).grown hgrow (ZB _) (by simp);have HB3:=a0a hb3;have HO:=a0a hown;clear hb3 hown hgrow)
 obtain⟨g,hg⟩:∃ g,Hid (g=w.heap.size):=⟨_,rfl⟩
 have HO2:Hid (∃ xs:List Value,xs.length=N/\w3.ownsRow w.heap.size 4 1 (.slice (some ⟨g,0,none⟩) N N) N xs):=by
  rw[hg.out]
  exact a0a ⟨_,by have:=HO.out.1;omega,HO.out⟩
 obtain⟨xs0,hx0,ho0⟩:=HO2.out
 have HO0:=a0a ho0
 have HX0:=a0a hx0
 rw[<-hg.out]
 clear HO HO2 ho0 hx0 hi hz0 hz1 hz2
 go_loopw [13] (fun i wr=>∃ (k:Nat) (xs:List Value),i=.int .i64 (k:Nat)/\k<=N/\Hid (xs.length=N)/\Hid (xs.take k=R.take k)/\Hid (wr.ownsRow w.heap.size 4 1 (.slice (some ⟨g,0,none⟩) N N) N xs)/\Hid (Below w.heap.size w wr)) (fun i _=>match i with | .int _ z=>((N:Int)-z).toNat | _=>0)
 case atStart=>exact⟨0,xs0,rfl,by omega,HX0,a0a rfl,HO0,HB3⟩
 case round=>
  obtain⟨k,xs,rfl,hk,HXl,HXs,HOw,HBr⟩:=hrel
  by_cases hlt:k<N
  ·have hlt':(k:Int)<(N:Int):=by omega
   have hl1:k<crons.length:=by rw[<-hNn.out];exact hlt
   obtain⟨b,off,e,hbl,hx⟩:∃ b off,ad=some ⟨b,off,none⟩/\b<w.heap.size/\∀ i,i<N->∀ j x,(crL (crons.getD i cr0))[j]? = some x->w.cell? ⟨b,off+i*5+j,none⟩=some x:=by
    rcases HP.out with h | h
    ·omega
    ·exact h
   subst e
   have y0:=a0c HBr.out (hx k hlt 0 _ rfl)
   have y1:=a0c HBr.out (hx k hlt 1 _ rfl)
   have y2:=a0c HBr.out (hx k hlt 2 _ rfl)
   have y3:=a0c HBr.out (hx k hlt 3 _ rfl)
   have y4:=a0c HBr.out (hx k hlt 4 _ rfl)
   rw[Nat.add_zero] at y0
   have lb:b<wr.heap.size:=ZA hbl HBr.out.size
   have hgd:crons.getD k cr0=crons[k]:=by simp[List.getD,hl1]
   have HCk:=a0a (HC.out crons[k] (List.getElem_mem hl1))
   have hRk:Hid (R[k]? = some (.bool (nm crons[k]))):=by
    rw[hR.out]
    have q0:=a4U (k:=1) (cs:=fun i=>[Value.bool (nm (crons.getD i cr0))]) (fun i=>rfl) N k 0 _ hlt rfl
    rw[hgd,Nat.mul_one,Nat.add_zero] at q0
    exact a0a q0
   rw[hgd] at y0 y1 y2 y3 y4
   have HT:=a0a (a2N HXs.out (by have:=HXl.out;omega) hRk.out)
   generalize nm crons[k]=r at *
   generalize crons[k]=c at *
   have B0:=a0a ((ZD wr.heap.size wr).alloc (ZB _) (.cells (crL c).toArray 66))
   have XB:=Box.new wr (crL c) 66
   have HXB:=a0a XB
   obtain⟨x0,x1,x2,x3⟩:=Box.c4 XB
   have x4:=XB.cell 4 _ rfl
   have xl:=XB.lt
   have HOw0:=a0a (HOw.out.alloc (.cells (crL c).toArray 66))
   have HB0:=a0a (a0b HBr.out B0.out HBr.out.size)
   clear hx XB hgd hRk HXs
   go_wp2_with fail
   refine ZE (HCk.out _ HB0.out) ?_
   rintro e w4 ⟨rfl,b4⟩
   have O4:=a0a (a2Z HOw0.out b4)
   have B4:=kb HB0 b4
   have k0:=O4.out.cellAt k (by omega)
   rw[List.getElem?_eq_getElem (by have:=HXl.out;omega)] at k0
   have f0:=O4.out.frozenAt k
   have hgl:=(O4.out.lt g rfl).2
   clear b4 x0 x1 x2 x3 x4 xl y0 y1 y2 y3 y4 lb
   go_wp2_with fail
   go_roundw
   case rel=>exact⟨k+1,_,by simp,by omega,a0a (by rw[List.length_set];exact HXl.out),HT,(O4.out.stored k _).1,B4.out.setCell (p:=⟨g,k,none⟩) (by show w.heap.size<=g;have:=hg.out;omega) _⟩
   case measure=>simp;omega
  ·have hkN:k=N:=by omega
   subst hkN
   have hE:Hid (xs=R):=by
    have h1:=HXs.out
    rw[List.take_of_length_le (by have:=HXl.out;omega),List.take_of_length_le (by have:=hRl.out;omega)] at h1
    exact a0a h1
   go_wp2_with fail
   go_ret
   exact⟨_,rfl,by rw[<-hE.out];exact HOw.out,HBr.out⟩
end Go.Proofs.YtbddbnjhmdbkbaaGreatDoor
