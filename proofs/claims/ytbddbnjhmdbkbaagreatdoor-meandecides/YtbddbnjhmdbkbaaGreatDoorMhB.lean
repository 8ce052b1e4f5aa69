import Derived.Test.YtbddbnjhmdbkbaaGreatDoorMhC
namespace Go.Proofs.YtbddbnjhmdbkbaaGreatDoor
open Go.RowKit
set_option maxHeartbeats 1000000 in
set_option maxRecDepth 20000 in
theorem a6u (E:a0u)(k tn tm:Int)(x0 x1:Co)(g p:Nat)(F:Int->Int->Int)(hE:Ent g)(H0:TeC E x0)(H1:TeC E x1)(HS:∀ W:World,Calls Tryz.prog g #[.int .i64 (a0d E x0).1,.int .i64 (a0d E x1).1] W fun e w'=>e=.returned (.int .i64 (F (a0d E x0).1 (a0d E x1).1))/\Below W.heap.size W w')(v:Value)(tb b:Nat)(w:World)(hs:a0p w ⟨k,tn,tm,[x0,x1]⟩ v)(ht:a8B w tb b E)(hp:FnF w p (.func (.func g) #[] #[])):
 Calls Tryz.prog 222 #[.pointer (some ⟨tb,0,none⟩),coV ⟨k,tn,tm,[x0,x1]⟩ v,.pointer (some ⟨p,0,none⟩)] w fun e w'=>e=.returned (a2l (a0E (fun a b=>okR (F a b)) (a0d E x0) (a0d E x1)))/\Below w.heap.size w w':=by
 obtain⟨Rv,hRv⟩:∃ Rv,Hid (Rv=a2l (a0E (fun a b=>okR (F a b)) (a0d E x0) (a0d E x1))):=⟨_,rfl⟩
 rw[<-hRv.out]
 have HC:=a0a (fun W (hW:Below w.heap.size w W)=>b9r E k tn tm x0 x1 H0 H1 v tb b W (hs.next hW) (ht.next hW))
 obtain⟨pb,off,cap,u0,u1,rfl,-,-,-,-,-⟩:=a6P hs.parts
 have HA:Hid (∀ o,Below w.heap.size w (w.alloc o)):=fun o=>(ZD _ _).alloc (ZB _) _
 have HSs:=a0a HS
 clear hs ht HS H0 H1
 generalize a0d E x0=r0 at *
 generalize a0d E x1=r1 at *
 obtain⟨n0',e0⟩:=r0
 obtain⟨n1',e1⟩:=r1
 dsimp only at HSs
 by_cases he:e0=0
 case neg=>
  have hR:Hid (Rv=Value.tuple #[.int .i64 0,.iface 238 (.agg #[.int .i64 e0])]):=by show _=_;rw[hRv.out];unfold a0E;rw[if_neg he];exact a0s _ he
  have ep:a3K (n0',e0) (n1',e1)=.tuple #[.int .i64 0,.int .i64 0,.iface 238 (.agg #[.int .i64 e0])]:=by unfold a3K;rw[if_neg he,a3Q he]
  simp only[ep] at HC
  clear hRv ep
  go_enter Tryz.func222,Tryz.ntmps222
  go_wp2_with fail
  refine ZE (HC.out _ (HA.out _)) ?_
  rintro e w1 ⟨rfl,b1⟩
  have HB:=a0a (a0b (HA.out _) b1 (by simp))
  clear b1 HC
  go_wp2_with fail
  go_ret2
  exact⟨by rw[hR.out];rfl,HB.out⟩
 subst he
 by_cases he:e1=0
 case neg=>
  have hR:Hid (Rv=Value.tuple #[.int .i64 0,.iface 238 (.agg #[.int .i64 e1])]):=by show _=_;rw[hRv.out];unfold a0E;rw[if_pos rfl,if_neg he];exact a0s _ he
  have ep:a3K (n0',0) (n1',e1)=.tuple #[.int .i64 n0',.int .i64 n1',.iface 238 (.agg #[.int .i64 e1])]:=by unfold a3K;rw[if_pos rfl,a3Q he]
  simp only[ep] at HC
  clear hRv ep
  go_enter Tryz.func222,Tryz.ntmps222
  go_wp2_with fail
  refine ZE (HC.out _ (HA.out _)) ?_
  rintro e w1 ⟨rfl,b1⟩
  have HB:=a0a (a0b (HA.out _) b1 (by simp))
  clear b1 HC
  go_wp2_with fail
  go_ret2
  exact⟨by rw[hR.out];rfl,HB.out⟩
 subst he
 have ep:a3K (n0',0) (n1',0)=.tuple #[.int .i64 n0',.int .i64 n1',.nilIface]:=by unfold a3K;rw[if_pos rfl,a7b]
 simp only[ep] at HC
 clear ep
 have hR:Hid (Rv=Value.tuple #[.int .i64 (F n0' n1'),.nilIface]):=by show _=_;rw[hRv.out];unfold a0E;rw[if_pos rfl,if_pos rfl];exact a0B _ rfl
 have HP:=a0a hp
 unfold Ent at hE
 clear hRv hp
 go_enter Tryz.func222,Tryz.ntmps222
 go_wp2_with fail
 refine ZE (HC.out _ (HA.out _)) ?_
 rintro e w1 ⟨rfl,b1⟩
 have HB:=a0a (a0b (HA.out _) b1 (by simp))
 clear b1 HC
 obtain⟨lp2,fp2⟩:=HP.out.next HB.out
 go_wp2_with fail
 refine ZE (HSs.out _) ?_
 rintro e w3 ⟨rfl,b3⟩
 have HB3:=kb HB b3
 clear b3 HSs
 go_wp2_with fail
 go_ret2
 exact⟨by rw[hR.out];rfl,HB3.out⟩
set_option maxHeartbeats 1000000 in
set_option maxRecDepth 20000 in
theorem c5d (E:a0u)(k tn tm:Int)(x0 x1:Co)(H0:TeC E x0)(H1:TeC E x1)(HS:∀ W:World,Calls Tryz.prog 230 #[.int .i64 (a0d E x0).1,.int .i64 (a0d E x1).1] W fun e w'=>e=.returned (.tuple #[.int .i64 (if (a0d E x1).1=0 then 0 else held (fl ((a0d E x0).1*1000000) (a0d E x1).1)),.bool (decide ((a0d E x1).1≠0))])/\Below W.heap.size W w')(v:Value)(tb b:Nat)(w:World)(hs:a0p w ⟨k,tn,tm,[x0,x1]⟩ v)(ht:a8B w tb b E):
 Calls Tryz.prog 158 #[.pointer (some ⟨tb,0,none⟩),coV ⟨k,tn,tm,[x0,x1]⟩ v] w fun e w'=>e=.returned (a2l (a0E b3e (a0d E x0) (a0d E x1)))/\Below w.heap.size w w':=by
 obtain⟨Rv,hRv⟩:∃ Rv,Hid (Rv=a2l (a0E b3e (a0d E x0) (a0d E x1))):=⟨_,rfl⟩
 rw[<-hRv.out]
 have HC:=a0a (fun W (hW:Below w.heap.size w W)=>b9r E k tn tm x0 x1 H0 H1 v tb b W (hs.next hW) (ht.next hW))
 obtain⟨pb,off,cap,u0,u1,rfl,-,-,-,-,-⟩:=a6P hs.parts
 have HA:Hid (∀ o,Below w.heap.size w (w.alloc o)):=fun o=>(ZD _ _).alloc (ZB _) _
 have HSs:=a0a HS
 clear hs ht HS H0 H1
 generalize a0d E x0=r0 at *
 generalize a0d E x1=r1 at *
 obtain⟨n0',e0⟩:=r0
 obtain⟨n1',e1⟩:=r1
 dsimp only at HSs
 by_cases he:e0=0
 case neg=>
  have hR:Hid (Rv=Value.tuple #[.int .i64 0,.iface 238 (.agg #[.int .i64 e0])]):=by show _=_;rw[hRv.out];unfold a0E;rw[if_neg he];exact a0s _ he
  have ep:a3K (n0',e0) (n1',e1)=.tuple #[.int .i64 0,.int .i64 0,.iface 238 (.agg #[.int .i64 e0])]:=by unfold a3K;rw[if_neg he,a3Q he]
  simp only[ep] at HC
  clear hRv ep
  go_enter Tryz.func158,Tryz.ntmps158
  go_wp2_with fail
  refine ZE (HC.out _ (HA.out _)) ?_
  rintro e w1 ⟨rfl,b1⟩
  have HB:=a0a (a0b (HA.out _) b1 (by simp))
  clear b1 HC
  go_wp2_with fail
  go_ret2
  exact⟨by rw[hR.out];rfl,HB.out⟩
 subst he
 by_cases he:e1=0
 case neg=>
  have hR:Hid (Rv=Value.tuple #[.int .i64 0,.iface 238 (.agg #[.int .i64 e1])]):=by show _=_;rw[hRv.out];unfold a0E;rw[if_pos rfl,if_neg he];exact a0s _ he
  have ep:a3K (n0',0) (n1',e1)=.tuple #[.int .i64 n0',.int .i64 n1',.iface 238 (.agg #[.int .i64 e1])]:=by unfold a3K;rw[if_pos rfl,a3Q he]
  simp only[ep] at HC
  clear hRv ep
  go_enter Tryz.func158,Tryz.ntmps158
  go_wp2_with fail
  refine ZE (HC.out _ (HA.out _)) ?_
  rintro e w1 ⟨rfl,b1⟩
  have HB:=a0a (a0b (HA.out _) b1 (by simp))
  clear b1 HC
  go_wp2_with fail
  go_ret2
  exact⟨by rw[hR.out];rfl,HB.out⟩
 subst he
 have ep:a3K (n0',0) (n1',0)=.tuple #[.int .i64 n0',.int .i64 n1',.nilIface]:=by unfold a3K;rw[if_pos rfl,a7b]
 simp only[ep] at HC
 clear ep
 by_cases hz:n1'=0
 ·have hR:Hid (Rv=Value.tuple #[.int .i64 0,.iface 238 (.agg #[.int .i64 2])]):=by show _=_;rw[hRv.out];unfold a0E;rw[if_pos rfl,if_pos rfl];unfold b3e;rw[if_pos hz];exact a0s _ (by decide)
  have d:decide (n1'≠0)=false:=decide_eq_false (fun h=>h hz)
  rw[if_pos hz,d] at HSs
  clear hRv d
  subst hz
  go_enter Tryz.func158,Tryz.ntmps158
  go_wp2_with fail
  refine ZE (HC.out _ (HA.out _)) ?_
  rintro e w1 ⟨rfl,b1⟩
  have HB:=a0a (a0b (HA.out _) b1 (by simp))
  clear b1 HC
  go_wp2_with fail
  refine ZE (HSs.out _) ?_
  rintro e w3 ⟨rfl,b3⟩
  have HB3:=kb HB b3
  clear b3 HSs
  go_wp2_with fail
  go_ret2
  exact⟨by rw[hR.out];rfl,HB3.out⟩
 ·have hR:Hid (Rv=Value.tuple #[.int .i64 (held (fl (n0'*1000000) n1')),.nilIface]):=by show _=_;rw[hRv.out];unfold a0E;rw[if_pos rfl,if_pos rfl];unfold b3e;rw[if_neg hz];exact a0B _ rfl
  have d:decide (n1'≠0)=true:=decide_eq_true hz
  rw[if_neg hz,d] at HSs
  clear hRv d
  go_enter Tryz.func158,Tryz.ntmps158
  go_wp2_with fail
  refine ZE (HC.out _ (HA.out _)) ?_
  rintro e w1 ⟨rfl,b1⟩
  have HB:=a0a (a0b (HA.out _) b1 (by simp))
  clear b1 HC
  go_wp2_with fail
  refine ZE (HSs.out _) ?_
  rintro e w3 ⟨rfl,b3⟩
  have HB3:=kb HB b3
  clear b3 HSs
  go_wp2_with fail
  go_ret2
  exact⟨by rw[hR.out];rfl,HB3.out⟩
theorem b1s {ps:List Co}{v:Int}{L f i:Nat}(h:¬ i+1<L)(hf:0<f):a4T ps v L f i=L-1:=by
 obtain⟨f',rfl⟩:∃ f',f=f'+1:=⟨f-1,by omega⟩
 rw[a4T,if_neg h]
theorem b1r {ps:List Co}{v:Int}{L f i:Nat}(h:i+1<L)(hv:v<(ps.getD i co0).n)(hf:0<f):a4T ps v L f i=i+1:=by
 obtain⟨f',rfl⟩:∃ f',f=f'+1:=⟨f-1,by omega⟩
 rw[a4T,if_pos h,if_pos hv]
theorem b4V {ps:List Co}{v:Int}{L f i:Nat}(h:i+1<L)(hv:¬ v<(ps.getD i co0).n):a4T ps v L (f+1) i=a4T ps v L f (i+2):=by
 rw[a4T,if_pos h,if_neg hv]
def b9v (ps:List Co)(rs:List Rs):Rs:=if (rs.getD 0 (0,0)).2=0 then rs.getD (a4T ps (rs.getD 0 (0,0)).1 ps.length ps.length 1) (0,0) else noR (rs.getD 0 (0,0)).2
set_option maxHeartbeats 4000000 in
set_option maxRecDepth 20000 in
theorem b7Y (E:a0u)(k tn tm:Int)(ps:List Co)(h2:2<=ps.length)(hev:ps.length%2=0)(hmx:ps.length<=8192)(H:∀ x,x∈ps->TeC E x)(v:Value)(tb b:Nat)(w:World)(hs:a0p w ⟨k,tn,tm,ps⟩ v)(ht:a8B w tb b E):
 Calls Tryz.prog 176 #[.pointer (some ⟨tb,0,none⟩),coV ⟨k,tn,tm,ps⟩ v] w fun e w'=>e=.returned (a2l (b9v ps (ps.map (a0d E))))/\Below w.heap.size w w':=by
 obtain⟨Rv,hRv⟩:∃ Rv,Hid (Rv=a2l (b9v ps (ps.map (a0d E)))):=⟨_,rfl⟩
 rw[<-hRv.out]
 obtain⟨pb,off,cap,rfl,k1,k2,lp,hx⟩:=hs.parts.open (by show 0<ps.length;omega)
 dsimp only at k1 k2 hx
 have gR:∀ i (h:i<ps.length),(ps.map (a0d E)).getD i (0,0)=a0d E ps[i]:=fun i h=>by simp[List.getD,List.getElem?_map,List.getElem?_eq_getElem h]
 have gP:∀ i (h:i<ps.length),ps.getD i co0=ps[i]:=fun i h=>by simp[List.getD,List.getElem?_eq_getElem h]
 have HC:Hid (∀ i (h:i<ps.length) W,Below w.heap.size w W->∃ a n,a4h w pb (off+i*4) ps[i] (.slice a ps[i].parts.length n)/\Calls Tryz.prog 199 #[.pointer (some ⟨tb,0,none⟩),coV ps[i] (.slice a ps[i].parts.length n)] W fun e w'=>e=.returned (a2l (a0d E ps[i]))/\Below W.heap.size W w'):=fun i h W hW=>by
  obtain⟨u,f6,s6⟩:=hx i h
  obtain⟨a,n,rfl,-,-⟩:=s6.parts.shape
  exact⟨a,n,f6,H _ (List.getElem_mem h) _ tb b W (s6.next hW) (ht.next hW)⟩
 have HA:Hid (∀ o,Below w.heap.size w (w.alloc o)):=fun o=>(ZD _ _).alloc (ZB _) _
 have HX:=a0a (Box.new w (coL ⟨k,tn,tm,ps⟩ (.slice (some ⟨pb,off,none⟩) ps.length cap)) 30)
 obtain⟨a0,n0,f0,-⟩:=HC.out 0 (by omega) w (ZD _ _)
 obtain⟨p0,p1,p2,p3⟩:=f0
 simp only[Nat.zero_mul,Nat.add_zero] at p0 p1 p2 p3
 obtain⟨L,hL⟩:∃ L,Hid (L=ps.length):=⟨_,rfl⟩
 have hl0:0<L:=by rw[hL.out];omega
 have hl0':(0:Int)<(L:Int):=by omega
 have h1:Hid (∀ W,Below w.heap.size w W->Calls Tryz.prog 199 #[.pointer (some ⟨tb,0,none⟩),coV ps[0] (.slice a0 ps[0].parts.length n0)] W fun e w'=>e=.returned (a2l (a0d E ps[0]))/\Below W.heap.size W w'):=fun W hW=>by
  obtain⟨a,n,f6,c6⟩:=HC.out 0 (by omega) W hW
  have e:=f6.c3
  simp only[Nat.zero_mul,Nat.add_zero] at e
  rw[p3] at e
  simp only[Option.some.injEq,Value.slice.injEq,true_and] at e
  obtain⟨rfl,rfl⟩:=e
  exact c6
 have hRe:Hid (Rv=a2l (if (a0d E ps[0]).2=0 then (ps.map (a0d E)).getD (a4T ps (a0d E ps[0]).1 ps.length ps.length 1) (0,0) else noR (a0d E ps[0]).2)):=by
  show _=_
  rw[hRv.out];unfold b9v;rw[gR 0 (by omega)]
 have HGR:=a0a gR
 have HGP:=a0a gP
 clear hs ht hx gR gP hRv
 generalize a0d E ps[0]=r0 at *
 generalize ps[0]=x0 at *
 show Calls _ _ #[_,coV ⟨k,tn,tm,ps⟩ (.slice (some ⟨pb,off,none⟩) ps.length cap)] _ _
 rw[<-hL.out] at HX k1 hRe h2 hev hmx ⊢
 obtain⟨n0',e0⟩:=r0
 dsimp only at hRe
 by_cases he:e0=0
 case neg=>
  have hR:Hid (Rv=Value.tuple #[.int .i64 0,.iface 238 (.agg #[.int .i64 e0])]):=by show _=_;rw[hRe.out,if_neg he];exact a0s _ he
  go_enter Tryz.func176,Tryz.ntmps176
  go_wp2_with fail
  refine ZE (h1.out _ (HA.out _)) ?_
  rintro e w1 ⟨he1,b1⟩
  rw[a0s n0' he] at he1
  subst he1
  have HB:=a0a (a0b (HA.out _) b1 (by simp))
  clear b1 hRe h1 HX p0 p1 p2 p3
  go_wp2_with fail
  go_ret2
  exact⟨by rw[hR.out];rfl,HB.out⟩
 subst he
 have hRe2:Hid (Rv=a2l ((ps.map (a0d E)).getD (a4T ps n0' L L 1) (0,0))):=hRe.out
 clear hRe
 go_enter Tryz.func176,Tryz.ntmps176
 go_wp2_with fail
 refine ZE (h1.out _ (HA.out _)) ?_
 rintro e w1 ⟨he1,b1⟩
 rw[a0B (n0',0) rfl] at he1
 subst he1
 have HB:=a0a (a0b (HA.out _) b1 (by simp))
 have X1:=HX.out.next b1
 have c3:=X1.cell 3 _ rfl
 have x1l:=X1.lt
 clear b1 HX X1 p0 p1 p2 p3 h1
 obtain⟨M,rfl⟩:∃ M,L=M+1:=⟨L-1,by omega⟩
 have lp1:=ZA lp HB.out.size
 go_wp2_with fail
 go_loopw [9] (fun x wr=>∃ (i f:Nat),x=.int .i64 (i:Nat)/\i<=M/\Hid (i%2=1)/\Hid (M+1<=i+2*f)/\Hid (a4T ps n0' (M+1) f i=a4T ps n0' (M+1) (M+1) 1)/\wr=w1) (fun x _=>match x with | .int _ p=>((M:Int)-p).toNat | _=>0)
 case atStart=>exact⟨1,M+1,rfl,by omega,a0a rfl,a0a (by omega),a0a rfl,rfl⟩
 case round=>
  obtain⟨i,f,rfl,hj,HO,HF,HJ,rfl⟩:=hrel
  by_cases hlt:i<M
  ·have hlt':(i:Int)<(M:Int):=by omega
   have hi1:i<ps.length:=by rw[<-hL.out];omega
   have hi2:i+1<ps.length:=by rw[<-hL.out];omega
   obtain⟨a5,n5,f5,-⟩:=HC.out i hi1 wr HB.out
   have q1:=(f5.keep (w':=wr) (fun j=>HB.out.cell (p:=⟨pb,j,none⟩) lp)).c1
   have gp:=HGP.out i hi1
   have hil:(i:Int)<(M:Int)+1:=by omega
   by_cases hv:n0'<ps[i].n
   ·have hJ2:a4T ps n0' (M+1) f i=i+1:=b1r (by omega) (by rw[gp];exact hv) (by have:=HF.out;omega)
    obtain⟨a6,n6,f6,c6⟩:=HC.out (i+1) hi2 wr HB.out
    obtain⟨p0,p1,p2,p3⟩:=f6.keep (w':=wr) (fun j=>HB.out.cell (p:=⟨pb,j,none⟩) lp)
    have hR:Hid (Rv=a2l (a0d E ps[i+1])):=by show _=_;rw[hRe2.out,<-HJ.out,hJ2,HGR.out (i+1) hi2]
    have HC6:=a0a c6
    have hil2:(i:Int)+1<(M:Int)+1:=by omega
    clear hRe2 HJ hJ2 gp f5 f6 c6 HC
    generalize a0d E ps[i+1]=r6 at *
    generalize ps[i+1]=x6 at *
    generalize ps[i].n=n7 at *
    go_wp2_with fail
    refine ZE HC6.out ?_
    rintro e w2 ⟨rfl,b2⟩
    have HB2:=kb HB b2
    clear b2 p0 p1 p2 p3
    go_wp2_with fail
    go_ret2
    exact⟨by rw[hR.out];rfl,HB2.out⟩
   ·obtain⟨f',rfl⟩:∃ f',f=f'+1:=⟨f-1,by have:=HF.out;omega⟩
    have hJ2:Hid (a4T ps n0' (M+1) f' (i+2)=a4T ps n0' (M+1) (M+1) 1):=by
     show _=_
     rw[<-HJ.out,b4V (by omega) (by rw[gp];exact hv)]
    clear hRe2 HJ gp f5 HC
    generalize ps[i].n=n7 at *
    go_wp2_with fail
    go_roundw
    case rel=>exact⟨i+2,f',by go_num,by have:=HO.out;omega,a0a (by have:=HO.out;omega),a0a (by have:=HF.out;omega),hJ2.out,by first | rfl | trivial⟩
    case measure=>simp;omega
  ·have hlt':¬(i:Int)<(M:Int):=by omega
   obtain rfl:i=M:=by omega
   have hiM:i<ps.length:=by rw[<-hL.out];omega
   have hJ2:a4T ps n0' (i+1) f i=i:=b1s (by omega) (by have:=HF.out;omega)
   obtain⟨a6,n6,f6,c6⟩:=HC.out i hiM wr HB.out
   obtain⟨p0,p1,p2,p3⟩:=f6.keep (w':=wr) (fun j=>HB.out.cell (p:=⟨pb,j,none⟩) lp)
   have hR:Hid (Rv=a2l (a0d E ps[i])):=by show _=_;rw[hRe2.out,<-HJ.out,hJ2,HGR.out i hiM]
   have HC6:=a0a c6
   clear hRe2 HJ hJ2 f6 c6 HC
   generalize a0d E ps[i]=r6 at *
   generalize ps[i]=x6 at *
   go_wp2_with fail
   refine ZE HC6.out ?_
   rintro e w2 ⟨rfl,b2⟩
   have HB2:=kb HB b2
   clear b2 p0 p1 p2 p3
   go_wp2_with fail
   go_ret2
   exact⟨by rw[hR.out];rfl,HB2.out⟩
def UnC (g:Nat)(P:Int->Prop)(F:Int->Int):Prop:=Ent g/\∀ (a:Int) (W:World),C64 a->P a->Calls Tryz.prog g #[.int .i64 a] W fun e w'=>e=.returned (.int .i64 (F a))/\Below W.heap.size W w'
def BiC (g:Nat)(F:Int->Int->Int):Prop:=Ent g/\∀ (a b:Int) (W:World),C64 a->C64 b->Calls Tryz.prog g #[.int .i64 a,.int .i64 b] W fun e w'=>e=.returned (.int .i64 (F a b))/\Below W.heap.size W w'
theorem a5x {a:Int}(h:C64 a):a<9223372036854775808:=by have:=h.2;omega
theorem b9m:UnC 147 (fun _=>True) (uF 8):=⟨fun _ _=>by kernel_rfl,fun a W h _=>b6o a h.1 (a5x h) W⟩
theorem b9n:UnC 149 (fun _=>True) (uF 10):=⟨fun _ _=>by kernel_rfl,fun a W h _=>c2e a h.1 (a5x h) W⟩
theorem b3H:UnC 150 (fun _=>True) (uF 11):=⟨fun _ _=>by kernel_rfl,fun a W h _=>b1W a h.1 (a5x h) W⟩
theorem b0X:UnC 151 (fun _=>True) (uF 12):=⟨fun _ _=>by kernel_rfl,fun a W h _=>b6s a h.1 (a5x h) W⟩
theorem b9l:UnC 148 (fun a=>a=0\/a=1) (uF 9):=⟨fun _ _=>by kernel_rfl,fun a W h hp=>by
 show Calls Tryz.prog 148 #[.int .i64 a] W fun e w'=>e=.returned (.int .i64 (1-a))/\Below W.heap.size W w'
 rcases hp with rfl | rfl
 ·go_enter Tryz.func148,Tryz.ntmps148
  go_wp2_with fail
  go_ret
  exact⟨rfl,ZD _ _⟩
 ·go_enter Tryz.func148,Tryz.ntmps148
  go_wp2_with fail
  go_ret
  exact⟨rfl,ZD _ _⟩⟩
theorem b9K:BiC 155 (bF 14):=⟨fun _ _=>by kernel_rfl,fun a b W ha hb=>b6v a b ha.1 (a5x ha) hb.1 (a5x hb) W⟩
theorem b9G:BiC 156 (bF 15):=⟨fun _ _=>by kernel_rfl,fun a b W ha hb=>b0U a b ha.1 (a5x ha) hb.1 (a5x hb) W⟩
theorem b9H:BiC 157 (bF 16):=⟨fun _ _=>by kernel_rfl,fun a b W ha hb=>c3w a b ha.1 (a5x ha) hb.1 (a5x hb) (a4C _ _ (by decide) (by decide)) W⟩
theorem b6c:BiC 159 (bF 18):=⟨fun _ _=>by kernel_rfl,fun a b W ha hb=>by
 show Calls Tryz.prog 159 #[.int .i64 a,.int .i64 b] W fun e w'=>e=.returned (.int .i64 (b2i (decide (a<b))))/\Below W.heap.size W w'
 clear ha hb
 have HC:=a0a (fun x W=>a2K x W)
 by_cases h:a<b
 ·rw[decide_eq_true h]
  skip
  go_enter Tryz.func159,Tryz.ntmps159
  go_wp2_with fail
  refine ZE (HC.out _ _) ?_
  rintro e w1 ⟨rfl,rfl⟩
  go_wp2_with fail
  go_ret
  exact⟨rfl,ZD _ _⟩
 ·rw[decide_eq_false h]
  skip
  go_enter Tryz.func159,Tryz.ntmps159
  go_wp2_with fail
  refine ZE (HC.out _ _) ?_
  rintro e w1 ⟨rfl,rfl⟩
  go_wp2_with fail
  go_ret
  exact⟨rfl,ZD _ _⟩⟩
theorem b9J:BiC 160 (bF 19):=⟨fun _ _=>by kernel_rfl,fun a b W ha hb=>by
 show Calls Tryz.prog 160 #[.int .i64 a,.int .i64 b] W fun e w'=>e=.returned (.int .i64 (b2i (decide (a<=b))))/\Below W.heap.size W w'
 clear ha hb
 have HC:=a0a (fun x W=>a2K x W)
 by_cases h:a<=b
 ·rw[decide_eq_true h]
  skip
  go_enter Tryz.func160,Tryz.ntmps160
  go_wp2_with fail
  refine ZE (HC.out _ _) ?_
  rintro e w1 ⟨rfl,rfl⟩
  go_wp2_with fail
  go_ret
  exact⟨rfl,ZD _ _⟩
 ·rw[decide_eq_false h]
  skip
  go_enter Tryz.func160,Tryz.ntmps160
  go_wp2_with fail
  refine ZE (HC.out _ _) ?_
  rintro e w1 ⟨rfl,rfl⟩
  go_wp2_with fail
  go_ret
  exact⟨rfl,ZD _ _⟩⟩
theorem c3k:BiC 161 (bF 20):=⟨fun _ _=>by kernel_rfl,fun a b W ha hb=>by
 show Calls Tryz.prog 161 #[.int .i64 a,.int .i64 b] W fun e w'=>e=.returned (.int .i64 (b2i (decide (a=b))))/\Below W.heap.size W w'
 clear ha hb
 have HC:=a0a (fun x W=>a2K x W)
 by_cases h:a=b
 ·rw[decide_eq_true h]
  subst h
  go_enter Tryz.func161,Tryz.ntmps161
  go_wp2_with fail
  refine ZE (HC.out _ _) ?_
  rintro e w1 ⟨rfl,rfl⟩
  go_wp2_with fail
  go_ret
  exact⟨rfl,ZD _ _⟩
 ·rw[decide_eq_false h]
  have k:(a==b)=false:=by simpa using h
  go_enter Tryz.func161,Tryz.ntmps161
  go_wp2_with fail
  refine ZE (HC.out _ _) ?_
  rintro e w1 ⟨rfl,rfl⟩
  go_wp2_with fail
  go_ret
  exact⟨rfl,ZD _ _⟩⟩
theorem b6b:BiC 162 (bF 21):=⟨fun _ _=>by kernel_rfl,fun a b W ha hb=>by
 show Calls Tryz.prog 162 #[.int .i64 a,.int .i64 b] W fun e w'=>e=.returned (.int .i64 (b2i (decide (b<a))))/\Below W.heap.size W w'
 clear ha hb
 have HC:=a0a (fun x W=>a2K x W)
 by_cases h:b<a
 ·rw[decide_eq_true h]
  skip
  go_enter Tryz.func162,Tryz.ntmps162
  go_wp2_with fail
  refine ZE (HC.out _ _) ?_
  rintro e w1 ⟨rfl,rfl⟩
  go_wp2_with fail
  go_ret
  exact⟨rfl,ZD _ _⟩
 ·rw[decide_eq_false h]
  skip
  go_enter Tryz.func162,Tryz.ntmps162
  go_wp2_with fail
  refine ZE (HC.out _ _) ?_
  rintro e w1 ⟨rfl,rfl⟩
  go_wp2_with fail
  go_ret
  exact⟨rfl,ZD _ _⟩⟩
theorem b9I:BiC 163 (bF 22):=⟨fun _ _=>by kernel_rfl,fun a b W ha hb=>by
 show Calls Tryz.prog 163 #[.int .i64 a,.int .i64 b] W fun e w'=>e=.returned (.int .i64 (b2i (decide (b<=a))))/\Below W.heap.size W w'
 clear ha hb
 have HC:=a0a (fun x W=>a2K x W)
 by_cases h:b<=a
 ·rw[decide_eq_true h]
  skip
  go_enter Tryz.func163,Tryz.ntmps163
  go_wp2_with fail
  refine ZE (HC.out _ _) ?_
  rintro e w1 ⟨rfl,rfl⟩
  go_wp2_with fail
  go_ret
  exact⟨rfl,ZD _ _⟩
 ·rw[decide_eq_false h]
  skip
  go_enter Tryz.func163,Tryz.ntmps163
  go_wp2_with fail
  refine ZE (HC.out _ _) ?_
  rintro e w1 ⟨rfl,rfl⟩
  go_wp2_with fail
  go_ret
  exact⟨rfl,ZD _ _⟩⟩
theorem a9J:BiC 164 (bF 23):=⟨fun _ _=>by kernel_rfl,fun a b W ha hb=>by
 show Calls Tryz.prog 164 #[.int .i64 a,.int .i64 b] W fun e w'=>e=.returned (.int .i64 (min a b))/\Below W.heap.size W w'
 clear ha hb
 rcases Int.lt_trichotomy a b with h | h | h
 ·rw[Int.min_eq_left (Int.le_of_lt h)]
  have h2:¬ b<a:=by omega
  have h3:¬ b<=a:=by omega
  go_enter Tryz.func164,Tryz.ntmps164
  go_wp2_with fail
  go_ret
  exact⟨rfl,ZD _ _⟩
 ·subst h
  rw[Int.min_eq_left (Int.le_refl a)]
  go_enter Tryz.func164,Tryz.ntmps164
  go_wp2_with fail
  go_ret
  exact⟨rfl,ZD _ _⟩
 ·rw[Int.min_eq_right (Int.le_of_lt h)]
  have h2:¬ a<b:=by omega
  have h3:¬ a<=b:=by omega
  go_enter Tryz.func164,Tryz.ntmps164
  go_wp2_with fail
  go_ret
  exact⟨rfl,ZD _ _⟩⟩
theorem a7i:BiC 165 (bF 24):=⟨fun _ _=>by kernel_rfl,fun a b W ha hb=>by
 show Calls Tryz.prog 165 #[.int .i64 a,.int .i64 b] W fun e w'=>e=.returned (.int .i64 (max a b))/\Below W.heap.size W w'
 clear ha hb
 rcases Int.lt_trichotomy a b with h | h | h
 ·rw[Int.max_eq_right (Int.le_of_lt h)]
  have h2:¬ b<a:=by omega
  have h3:¬ b<=a:=by omega
  go_enter Tryz.func165,Tryz.ntmps165
  go_wp2_with fail
  go_ret
  exact⟨rfl,ZD _ _⟩
 ·subst h
  rw[Int.max_eq_right (Int.le_refl a)]
  go_enter Tryz.func165,Tryz.ntmps165
  go_wp2_with fail
  go_ret
  exact⟨rfl,ZD _ _⟩
 ·rw[Int.max_eq_left (Int.le_of_lt h)]
  have h2:¬ a<b:=by omega
  have h3:¬ a<=b:=by omega
  go_enter Tryz.func165,Tryz.ntmps165
  go_wp2_with fail
  go_ret
  exact⟨rfl,ZD _ _⟩⟩
theorem a4z {E:a0u}{t:Co}(h:srt E t≠0):∃ k:Nat,t.op=(k:Int)/\1<=k/\k<=32/\a0o k E.wins.length E.crons.length 256 t=true/\(∀ x,x∈t.parts->srt E x≠0)/\srt E t=a1u a0J k t (t.parts.map (srt E)):=by
 have e:=a1m a0J E.wins.length E.crons.length 256 t
 unfold srt at h ⊢
 by_cases h1:1<=t.op/\t.op<=32
 ·rw[if_pos h1] at e
  by_cases h2:a0o t.op.toNat E.wins.length E.crons.length 256 t=true
  ·rw[if_pos h2] at e
   by_cases h3:(t.parts.map (a0l a0J E.wins.length E.crons.length 256)).contains 0=true
   ·rw[if_pos h3] at e;exact absurd e h
   ·rw[if_neg h3] at e
    refine⟨t.op.toNat,by omega,by omega,by omega,h2,fun x hx hz=>h3 ?_,e⟩
    rw[List.contains_iff_mem,List.mem_map]
    exact⟨x,hx,hz⟩
  ·rw[if_neg h2] at e;exact absurd e h
 ·rw[if_neg h1] at e;exact absurd e h
theorem a0v {k:Nat}{c:Co}{ss:List Int}{r:Int}{ts:List Int}(hm:mkT.getD k none=some (r,ts))(h:a1u a0J k c ss≠0):ss=ts/\a1u a0J k c ss=r:=by
 unfold a1u at h ⊢
 rw[hm] at h ⊢
 dsimp only[mkF] at h ⊢
 by_cases e:ss=ts
 ·exact⟨e,if_pos e⟩
 ·rw[if_neg e] at h;exact absurd rfl h
theorem b4M {E:a0u}{l:List Co}(h:l.map (srt E)=[]):l=[]:=by simpa using h
theorem a5w {E:a0u}{l:List Co}{a:Int}(h:l.map (srt E)=[a]):∃ x,l=[x]/\srt E x=a:=by
 match l,h with
 | [x],h=>exact⟨x,rfl,by simpa using h⟩
theorem a3f {E:a0u}{l:List Co}{a b:Int}(h:l.map (srt E)=[a,b]):∃ x y,l=[x,y]/\srt E x=a/\srt E y=b:=by
 match l,h with
 | [x,y],h=>exact⟨x,y,rfl,by simpa using h⟩
theorem c3D {l:List Co}(h:l.length=1):∃ x,l=[x]:=by
 match l,h with
 | [x],h=>exact⟨x,rfl⟩
theorem c4A {l:List Co}(h:l.length=2):∃ x y,l=[x,y]:=by
 match l,h with
 | [x,y],h=>exact⟨x,y,rfl⟩
theorem c4z {l:List Co}(h:l.length=3):∃ x y z,l=[x,y,z]:=by
 match l,h with
 | [x,y,z],h=>exact⟨x,y,z,rfl⟩
theorem a1Q {k:Nat}{ss:List Int}(h:a0N k ss≠0):ss.length=k/\ss.headD 0≠3/\(∀ x,x∈ss->x=ss.headD 0)/\a0N k ss=ss.headD 0:=by
 by_cases e:ss.length=k/\ss.headD 0≠3/\∀ x,x∈ss->x=ss.headD 0
 ·exact⟨e.1,e.2.1,e.2.2,a7k e⟩
 ·exact absurd (a1R e) h
theorem a6k {ss:List Int}(h:a1t ss≠0):∃ a,ss=[2,a,a]/\a1t ss=a:=by
 unfold a1t at h ⊢
 by_cases e:ss.headD 0=2
 ·rw[if_pos e] at h ⊢
  obtain⟨h1,h2,h3,h4⟩:=a1Q h
  match ss,e,h1,h3,h4 with
  | [x,a,b],e,h1,h3,h4=>
    have hb:b=a:=h3 b (by simp)
    have hx:x=2:=e
    subst hb hx
    exact⟨b,rfl,h4⟩
 ·rw[if_neg e] at h;exact absurd rfl h
def b6C (E:a0u)(t:Co):Prop:=C64 (a0d E t).1/\(srt E t=2->(a0d E t).1=0\/(a0d E t).1=1)
theorem a4x (n:Int):C64 (held n):=b5g n
theorem b6j (b:Bool):b2i b=0\/b2i b=1:=by cases b<;>simp[b2i]
theorem c3l (b:Bool):C64 (b2i b):=by rcases b6j b with h | h<;>rw[h]<;>(unfold C64;decide)
theorem a2e (f:Int->Int)(a:Rs):(a0t f a).1=f a.1\/(a0t f a).1=0:=by unfold a0t;split<;>simp
theorem a1r (f:Int->Int->Rs)(a b:Rs):(a0E f a b).1=(f a.1 b.1).1\/(a0E f a b).1=0:=by unfold a0E;split<;>(try split)<;>simp
theorem a0y:C64 0:=by unfold C64;decide
theorem b6L (k:Nat)(a:Int)(h:k=9->a=0\/a=1):C64 (uF k a):=by
 unfold uF
 split
 ·exact a4x _
 ·split
  ·next e=>rcases h e with h | h<;>rw[h]<;>(unfold C64;decide)
  ·split
   ·exact a4x _
   ·split<;>exact a4x _
theorem b6h (k:Nat)(a b:Int)(ha:C64 a)(hb:C64 b):C64 (bF k a b):=by
 have hm:C64 (min a b):=by rcases Int.le_total a b with h | h<;>simp[Int.min_eq_left,Int.min_eq_right,h,ha,hb]
 have hM:C64 (max a b):=by rcases Int.le_total a b with h | h<;>simp[Int.max_eq_left,Int.max_eq_right,h,ha,hb]
 unfold bF
 repeat' split
 all_goals first | exact a4x _ | exact c3l _ | exact hm | exact hM
theorem b6i (k:Nat)(a b:Int)(h1:18<=k)(h2:k<=22):bF k a b=0\/bF k a b=1:=by
 unfold bF
 repeat' split
 all_goals first | exact b6j _ | omega
theorem a4F (a:Int):C64 (a0M a):=by
 have h:=a4x (-((-a)/1000000)*1000000)
 unfold a0M
 generalize held (-((-a)/1000000)*1000000)=x at h
 obtain⟨h1,h2⟩:=h
 exact⟨by omega,by omega⟩
def GK (E:a0u)(k:Nat):Prop:=a6z E->∀ t:Co,t.op=(k:Int)->b9S t->a0o k E.wins.length E.crons.length 256 t=true->(∀ x,x∈t.parts->b6C E x)->a1u a0J k t (t.parts.map (srt E))≠0->srt E t=a1u a0J k t (t.parts.map (srt E))->b6C E t
theorem a0W {E:a0u}{t:Co}{r:Int}(h:srt E t=r)(hr:r≠2)(hc:C64 (a0d E t).1):b6C E t:=⟨hc,fun e=>absurd (h.symm.trans e) hr⟩
theorem a0X {E:a0u}{t:Co}(h:(a0d E t).1=0\/(a0d E t).1=1):b6C E t:=⟨by rcases h with h | h<;>rw[h]<;>(unfold C64;decide),fun _=>h⟩
theorem a6c {E:a0u}{t x:Co}(hs:srt E t=srt E x)(hx:b6C E x)(h:(a0d E t).1=(a0d E x).1\/(a0d E t).1=0):b6C E t:=by
 rcases h with h | h
 ·exact⟨by rw[h];exact hx.1,fun e=>by rw[h];exact hx.2 (hs.symm.trans e)⟩
 ·exact a0X (.inl h)
theorem c6a (E:a0u):GK E 1:=by
 intro hE t hop hf hb hg hz hs
 obtain⟨op,n,m,ps⟩:=t
 obtain rfl:op=1:=hop
 dsimp only at *
 obtain⟨e1,e2⟩:=a0v (k:=1) (r:=1) (ts:=[]) rfl hz
 obtain rfl:=b4M e1
 have e:a0d E ⟨1,n,m,[]⟩=okR n:=by rw[a0f];rfl
 exact a0W (hs.trans e2) (by decide) (by rw[e];exact hf.n)
theorem c5Z (E:a0u):GK E 2:=by
 intro hE t hop hf hb hg hz hs
 obtain⟨op,n,m,ps⟩:=t
 obtain rfl:op=2:=hop
 dsimp only at *
 obtain⟨e1,e2⟩:=a0v (k:=2) (r:=2) (ts:=[]) rfl hz
 obtain rfl:=b4M e1
 have e:a0d E ⟨2,n,m,[]⟩=okR n:=by rw[a0f];rfl
 have hb':(a0z n 2&&decide (m=0))=true:=hb
 simp only[a0z,Bool.and_eq_true,decide_eq_true_eq] at hb'
 exact a0X (by rw[e];show n=0\/n=1;omega)
theorem c5Y (E:a0u):GK E 3:=by
 intro hE t hop hf hb hg hz hs
 obtain⟨op,n,m,ps⟩:=t
 obtain rfl:op=3:=hop
 dsimp only at *
 obtain⟨e1,e2⟩:=a0v (k:=3) (r:=1) (ts:=[]) rfl hz
 obtain rfl:=b4M e1
 have e:a0d E ⟨3,n,m,[]⟩=okR (held (E.rep*1000000)):=by rw[a0f];rfl
 exact a0W (hs.trans e2) (by decide) (by rw[e];exact a4x _)
theorem c5X (E:a0u):GK E 4:=by
 intro hE t hop hf hb hg hz hs
 obtain⟨op,n,m,ps⟩:=t
 obtain rfl:op=4:=hop
 dsimp only at *
 obtain⟨e1,e2⟩:=a0v (k:=4) (r:=1) (ts:=[]) rfl hz
 obtain rfl:=b4M e1
 have e:a0d E ⟨4,n,m,[]⟩=if (E.wins.getD n.toNat (0,0)).1=0 then okR (E.wins.getD n.toNat (0,0)).2 else noR (E.wins.getD n.toNat (0,0)).1:=by rw[a0f];rfl
 refine a0W (hs.trans e2) (by decide) ?_
 rw[e]
 split
 ·exact(hE.wins _).2
 ·exact a0y
theorem c5W (E:a0u):GK E 5:=by
 intro hE t hop hf hb hg hz hs
 obtain⟨op,n,m,ps⟩:=t
 obtain rfl:op=5:=hop
 dsimp only at *
 obtain⟨e1,e2⟩:=a0v (k:=5) (r:=2) (ts:=[]) rfl hz
 obtain rfl:=b4M e1
 have e:a0d E ⟨5,n,m,[]⟩=okR (b2i (E.crons.getD n.toNat false)):=by rw[a0f];rfl
 exact a0X (by rw[e];exact b6j _)
theorem c5V (E:a0u):GK E 6:=by
 intro hE t hop hf hb hg hz hs
 obtain⟨op,n,m,ps⟩:=t
 obtain rfl:op=6:=hop
 dsimp only at *
 have e:a0d E ⟨6,n,m,ps⟩=noR n:=by rw[a0f];rfl
 exact a0X (by rw[e];exact .inl rfl)
theorem c5U (E:a0u):GK E 7:=by
 intro hE t hop hf hb hg hz hs
 obtain⟨op,n,m,ps⟩:=t
 obtain rfl:op=7:=hop
 dsimp only at *
 have hz':a0N 1 (ps.map (srt E))≠0:=hz
 obtain⟨h1,h2,h3,h4⟩:=a1Q hz'
 obtain⟨x,rfl⟩:=c3D (by simpa using h1)
 have e:a0d E ⟨7,n,m,[x]⟩=a0d E x:=by rw[a0f];rfl
 exact a6c (hs.trans h4) (hg x (by simp)) (by rw[e];exact .inl rfl)
theorem c5T (E:a0u):GK E 8:=by
 intro hE t hop hf hb hg hz hs
 obtain⟨op,n,m,ps⟩:=t
 obtain rfl:op=8:=hop
 dsimp only at *
 obtain⟨e1,e2⟩:=a0v (k:=8) (r:=1) (ts:=[1]) rfl hz
 obtain⟨x,rfl,q0⟩:=a5w e1
 have g0:=hg x (by simp)
 have e:a0d E ⟨8,n,m,[x]⟩=a0t (uF 8) (a0d E x):=by rw[a0f];rfl
 refine a0W (hs.trans e2) (by decide) ?_
 rw[e]
 rcases a2e (uF 8) (a0d E x) with h | h<;>rw[h]
 ·exact b6L 8 _ (fun h=>absurd h (by decide))
 ·exact a0y
theorem c4Y (E:a0u):GK E 10:=by
 intro hE t hop hf hb hg hz hs
 obtain⟨op,n,m,ps⟩:=t
 obtain rfl:op=10:=hop
 dsimp only at *
 obtain⟨e1,e2⟩:=a0v (k:=10) (r:=1) (ts:=[1]) rfl hz
 obtain⟨x,rfl,q0⟩:=a5w e1
 have g0:=hg x (by simp)
 have e:a0d E ⟨10,n,m,[x]⟩=a0t (uF 10) (a0d E x):=by rw[a0f];rfl
 refine a0W (hs.trans e2) (by decide) ?_
 rw[e]
 rcases a2e (uF 10) (a0d E x) with h | h<;>rw[h]
 ·exact b6L 10 _ (fun h=>absurd h (by decide))
 ·exact a0y
theorem c4X (E:a0u):GK E 11:=by
 intro hE t hop hf hb hg hz hs
 obtain⟨op,n,m,ps⟩:=t
 obtain rfl:op=11:=hop
 dsimp only at *
 obtain⟨e1,e2⟩:=a0v (k:=11) (r:=1) (ts:=[1]) rfl hz
 obtain⟨x,rfl,q0⟩:=a5w e1
 have g0:=hg x (by simp)
 have e:a0d E ⟨11,n,m,[x]⟩=a0t (uF 11) (a0d E x):=by rw[a0f];rfl
 refine a0W (hs.trans e2) (by decide) ?_
 rw[e]
 rcases a2e (uF 11) (a0d E x) with h | h<;>rw[h]
 ·exact b6L 11 _ (fun h=>absurd h (by decide))
 ·exact a0y
theorem c4W (E:a0u):GK E 12:=by
 intro hE t hop hf hb hg hz hs
 obtain⟨op,n,m,ps⟩:=t
 obtain rfl:op=12:=hop
 dsimp only at *
 obtain⟨e1,e2⟩:=a0v (k:=12) (r:=1) (ts:=[1]) rfl hz
 obtain⟨x,rfl,q0⟩:=a5w e1
 have g0:=hg x (by simp)
 have e:a0d E ⟨12,n,m,[x]⟩=a0t (uF 12) (a0d E x):=by rw[a0f];rfl
 refine a0W (hs.trans e2) (by decide) ?_
 rw[e]
 rcases a2e (uF 12) (a0d E x) with h | h<;>rw[h]
 ·exact b6L 12 _ (fun h=>absurd h (by decide))
 ·exact a0y
theorem c5S (E:a0u):GK E 9:=by
 intro hE t hop hf hb hg hz hs
 obtain⟨op,n,m,ps⟩:=t
 obtain rfl:op=9:=hop
 dsimp only at *
 obtain⟨e1,e2⟩:=a0v (k:=9) (r:=2) (ts:=[2]) rfl hz
 obtain⟨x,rfl,q0⟩:=a5w e1
 have g0:=hg x (by simp)
 have e:a0d E ⟨9,n,m,[x]⟩=a0t (uF 9) (a0d E x):=by rw[a0f];rfl
 refine a0X ?_
 rw[e]
 rcases a2e (uF 9) (a0d E x) with h | h<;>rw[h]
 ·show 1-(a0d E x).1=0\/1-(a0d E x).1=1
  rcases g0.2 q0 with h | h<;>rw[h]<;>decide
 ·exact .inl rfl
theorem c4V (E:a0u):GK E 13:=by
 intro hE t hop hf hb hg hz hs
 obtain⟨op,n,m,ps⟩:=t
 obtain rfl:op=13:=hop
 dsimp only at *
 obtain⟨e1,e2⟩:=a0v (k:=13) (r:=1) (ts:=[1]) rfl hz
 obtain⟨x,rfl,q0⟩:=a5w e1
 have g0:=hg x (by simp)
 have e:a0d E ⟨13,n,m,[x]⟩=a0t (fun a=>held (a*n/m)) (a0d E x):=by rw[a0f];rfl
 refine a0W (hs.trans e2) (by decide) ?_
 rw[e]
 rcases a2e (fun a=>held (a*n/m)) (a0d E x) with h | h<;>rw[h]
 ·exact a4x _
 ·exact a0y
theorem c4U (E:a0u):GK E 14:=by
 intro hE t hop hf hb hg hz hs
 obtain⟨op,n,m,ps⟩:=t
 obtain rfl:op=14:=hop
 dsimp only at *
 obtain⟨e1,e2⟩:=a0v (k:=14) (r:=1) (ts:=[1,1]) rfl hz
 obtain⟨x,y,rfl,q0,q1⟩:=a3f e1
 have g0:=hg x (by simp)
 have g1:=hg y (by simp)
 have e:a0d E ⟨14,n,m,[x,y]⟩=a0E (fun a b=>okR (bF 14 a b)) (a0d E x) (a0d E y):=by rw[a0f];rfl
 refine a0W (hs.trans e2) (by decide) ?_
 rw[e]
 rcases a1r (fun a b=>okR (bF 14 a b)) (a0d E x) (a0d E y) with h | h<;>rw[h]
 ·exact b6h 14 _ _ g0.1 g1.1
 ·exact a0y
theorem c4T (E:a0u):GK E 15:=by
 intro hE t hop hf hb hg hz hs
 obtain⟨op,n,m,ps⟩:=t
 obtain rfl:op=15:=hop
 dsimp only at *
 obtain⟨e1,e2⟩:=a0v (k:=15) (r:=1) (ts:=[1,1]) rfl hz
 obtain⟨x,y,rfl,q0,q1⟩:=a3f e1
 have g0:=hg x (by simp)
 have g1:=hg y (by simp)
 have e:a0d E ⟨15,n,m,[x,y]⟩=a0E (fun a b=>okR (bF 15 a b)) (a0d E x) (a0d E y):=by rw[a0f];rfl
 refine a0W (hs.trans e2) (by decide) ?_
 rw[e]
 rcases a1r (fun a b=>okR (bF 15 a b)) (a0d E x) (a0d E y) with h | h<;>rw[h]
 ·exact b6h 15 _ _ g0.1 g1.1
 ·exact a0y
theorem c4S (E:a0u):GK E 16:=by
 intro hE t hop hf hb hg hz hs
 obtain⟨op,n,m,ps⟩:=t
 obtain rfl:op=16:=hop
 dsimp only at *
 obtain⟨e1,e2⟩:=a0v (k:=16) (r:=1) (ts:=[1,1]) rfl hz
 obtain⟨x,y,rfl,q0,q1⟩:=a3f e1
 have g0:=hg x (by simp)
 have g1:=hg y (by simp)
 have e:a0d E ⟨16,n,m,[x,y]⟩=a0E (fun a b=>okR (bF 16 a b)) (a0d E x) (a0d E y):=by rw[a0f];rfl
 refine a0W (hs.trans e2) (by decide) ?_
 rw[e]
 rcases a1r (fun a b=>okR (bF 16 a b)) (a0d E x) (a0d E y) with h | h<;>rw[h]
 ·exact b6h 16 _ _ g0.1 g1.1
 ·exact a0y
theorem c4L (E:a0u):GK E 23:=by
 intro hE t hop hf hb hg hz hs
 obtain⟨op,n,m,ps⟩:=t
 obtain rfl:op=23:=hop
 dsimp only at *
 obtain⟨e1,e2⟩:=a0v (k:=23) (r:=1) (ts:=[1,1]) rfl hz
 obtain⟨x,y,rfl,q0,q1⟩:=a3f e1
 have g0:=hg x (by simp)
 have g1:=hg y (by simp)
 have e:a0d E ⟨23,n,m,[x,y]⟩=a0E (fun a b=>okR (bF 23 a b)) (a0d E x) (a0d E y):=by rw[a0f];rfl
 refine a0W (hs.trans e2) (by decide) ?_
 rw[e]
 rcases a1r (fun a b=>okR (bF 23 a b)) (a0d E x) (a0d E y) with h | h<;>rw[h]
 ·exact b6h 23 _ _ g0.1 g1.1
 ·exact a0y
theorem c4K (E:a0u):GK E 24:=by
 intro hE t hop hf hb hg hz hs
 obtain⟨op,n,m,ps⟩:=t
 obtain rfl:op=24:=hop
 dsimp only at *
 obtain⟨e1,e2⟩:=a0v (k:=24) (r:=1) (ts:=[1,1]) rfl hz
 obtain⟨x,y,rfl,q0,q1⟩:=a3f e1
 have g0:=hg x (by simp)
 have g1:=hg y (by simp)
 have e:a0d E ⟨24,n,m,[x,y]⟩=a0E (fun a b=>okR (bF 24 a b)) (a0d E x) (a0d E y):=by rw[a0f];rfl
 refine a0W (hs.trans e2) (by decide) ?_
 rw[e]
 rcases a1r (fun a b=>okR (bF 24 a b)) (a0d E x) (a0d E y) with h | h<;>rw[h]
 ·exact b6h 24 _ _ g0.1 g1.1
 ·exact a0y
theorem c4R (E:a0u):GK E 17:=by
 intro hE t hop hf hb hg hz hs
 obtain⟨op,n,m,ps⟩:=t
 obtain rfl:op=17:=hop
 dsimp only at *
 obtain⟨e1,e2⟩:=a0v (k:=17) (r:=1) (ts:=[1,1]) rfl hz
 obtain⟨x,y,rfl,q0,q1⟩:=a3f e1
 have g0:=hg x (by simp)
 have g1:=hg y (by simp)
 have e:a0d E ⟨17,n,m,[x,y]⟩=a0E b3e (a0d E x) (a0d E y):=by rw[a0f];rfl
 refine a0W (hs.trans e2) (by decide) ?_
 rw[e]
 rcases a1r b3e (a0d E x) (a0d E y) with h | h<;>rw[h]
 ·unfold b3e
  split
  ·exact a0y
  ·exact a4x _
 ·exact a0y
theorem c4Q (E:a0u):GK E 18:=by
 intro hE t hop hf hb hg hz hs
 obtain⟨op,n,m,ps⟩:=t
 obtain rfl:op=18:=hop
 dsimp only at *
 obtain⟨e1,e2⟩:=a0v (k:=18) (r:=2) (ts:=[1,1]) rfl hz
 obtain⟨x,y,rfl,q0,q1⟩:=a3f e1
 have g0:=hg x (by simp)
 have g1:=hg y (by simp)
 have e:a0d E ⟨18,n,m,[x,y]⟩=a0E (fun a b=>okR (bF 18 a b)) (a0d E x) (a0d E y):=by rw[a0f];rfl
 refine a0X ?_
 rw[e]
 rcases a1r (fun a b=>okR (bF 18 a b)) (a0d E x) (a0d E y) with h | h<;>rw[h]
 ·exact b6i 18 _ _ (by decide) (by decide)
 ·exact .inl rfl
theorem c4P (E:a0u):GK E 19:=by
 intro hE t hop hf hb hg hz hs
 obtain⟨op,n,m,ps⟩:=t
 obtain rfl:op=19:=hop
 dsimp only at *
 obtain⟨e1,e2⟩:=a0v (k:=19) (r:=2) (ts:=[1,1]) rfl hz
 obtain⟨x,y,rfl,q0,q1⟩:=a3f e1
 have g0:=hg x (by simp)
 have g1:=hg y (by simp)
 have e:a0d E ⟨19,n,m,[x,y]⟩=a0E (fun a b=>okR (bF 19 a b)) (a0d E x) (a0d E y):=by rw[a0f];rfl
 refine a0X ?_
 rw[e]
 rcases a1r (fun a b=>okR (bF 19 a b)) (a0d E x) (a0d E y) with h | h<;>rw[h]
 ·exact b6i 19 _ _ (by decide) (by decide)
 ·exact .inl rfl
theorem c4O (E:a0u):GK E 20:=by
 intro hE t hop hf hb hg hz hs
 obtain⟨op,n,m,ps⟩:=t
 obtain rfl:op=20:=hop
 dsimp only at *
 obtain⟨e1,e2⟩:=a0v (k:=20) (r:=2) (ts:=[1,1]) rfl hz
 obtain⟨x,y,rfl,q0,q1⟩:=a3f e1
 have g0:=hg x (by simp)
 have g1:=hg y (by simp)
 have e:a0d E ⟨20,n,m,[x,y]⟩=a0E (fun a b=>okR (bF 20 a b)) (a0d E x) (a0d E y):=by rw[a0f];rfl
 refine a0X ?_
 rw[e]
 rcases a1r (fun a b=>okR (bF 20 a b)) (a0d E x) (a0d E y) with h | h<;>rw[h]
 ·exact b6i 20 _ _ (by decide) (by decide)
 ·exact .inl rfl
theorem c4N (E:a0u):GK E 21:=by
 intro hE t hop hf hb hg hz hs
 obtain⟨op,n,m,ps⟩:=t
 obtain rfl:op=21:=hop
 dsimp only at *
 obtain⟨e1,e2⟩:=a0v (k:=21) (r:=2) (ts:=[1,1]) rfl hz
 obtain⟨x,y,rfl,q0,q1⟩:=a3f e1
 have g0:=hg x (by simp)
 have g1:=hg y (by simp)
 have e:a0d E ⟨21,n,m,[x,y]⟩=a0E (fun a b=>okR (bF 21 a b)) (a0d E x) (a0d E y):=by rw[a0f];rfl
 refine a0X ?_
 rw[e]
 rcases a1r (fun a b=>okR (bF 21 a b)) (a0d E x) (a0d E y) with h | h<;>rw[h]
 ·exact b6i 21 _ _ (by decide) (by decide)
 ·exact .inl rfl
theorem c4M (E:a0u):GK E 22:=by
 intro hE t hop hf hb hg hz hs
 obtain⟨op,n,m,ps⟩:=t
 obtain rfl:op=22:=hop
 dsimp only at *
 obtain⟨e1,e2⟩:=a0v (k:=22) (r:=2) (ts:=[1,1]) rfl hz
 obtain⟨x,y,rfl,q0,q1⟩:=a3f e1
 have g0:=hg x (by simp)
 have g1:=hg y (by simp)
 have e:a0d E ⟨22,n,m,[x,y]⟩=a0E (fun a b=>okR (bF 22 a b)) (a0d E x) (a0d E y):=by rw[a0f];rfl
 refine a0X ?_
 rw[e]
 rcases a1r (fun a b=>okR (bF 22 a b)) (a0d E x) (a0d E y) with h | h<;>rw[h]
 ·exact b6i 22 _ _ (by decide) (by decide)
 ·exact .inl rfl
theorem c4J (E:a0u):GK E 25:=by
 intro hE t hop hf hb hg hz hs
 obtain⟨op,n,m,ps⟩:=t
 obtain rfl:op=25:=hop
 dsimp only at *
 obtain⟨e1,e2⟩:=a0v (k:=25) (r:=2) (ts:=[2,2]) rfl hz
 obtain⟨x,y,rfl,q0,q1⟩:=a3f e1
 have g0:=hg x (by simp)
 have g1:=hg y (by simp)
 have e:a0d E ⟨25,n,m,[x,y]⟩=if (a0d E x).2=0/\(a0d E x).1≠0 then a0d E y else noR (a0d E x).2:=by rw[a0f];rfl
 refine a0X ?_
 rw[e]
 split
 ·exact g1.2 q1
 ·exact .inl rfl
theorem c4I (E:a0u):GK E 26:=by
 intro hE t hop hf hb hg hz hs
 obtain⟨op,n,m,ps⟩:=t
 obtain rfl:op=26:=hop
 dsimp only at *
 obtain⟨e1,e2⟩:=a0v (k:=26) (r:=2) (ts:=[2,2]) rfl hz
 obtain⟨x,y,rfl,q0,q1⟩:=a3f e1
 have g0:=hg x (by simp)
 have g1:=hg y (by simp)
 have e:a0d E ⟨26,n,m,[x,y]⟩=if (a0d E x).2=0/\(a0d E x).1≠1 then a0d E y else a0d E x:=by rw[a0f];rfl
 refine a0X ?_
 rw[e]
 split
 ·exact g1.2 q1
 ·exact g0.2 q0
theorem c4H (E:a0u):GK E 27:=by
 intro hE t hop hf hb hg hz hs
 obtain⟨op,n,m,ps⟩:=t
 obtain rfl:op=27:=hop
 dsimp only at *
 have hz':a0N 2 (ps.map (srt E))≠0:=hz
 obtain⟨h1,h2,h3,h4⟩:=a1Q hz'
 obtain⟨x,y,rfl⟩:=c4A (by simpa using h1)
 have hy:srt E y=srt E x:=h3 (srt E y) (by simp)
 have e:a0d E ⟨27,n,m,[x,y]⟩=if (a0d E x).2=0 then a0d E x else a0d E y:=by rw[a0f];rfl
 by_cases h:(a0d E x).2=0
 ·rw[if_pos h] at e
  exact a6c (hs.trans h4) (hg x (by simp)) (by rw[e];exact .inl rfl)
 ·rw[if_neg h] at e
  exact a6c ((hs.trans h4).trans hy.symm) (hg y (by simp)) (by rw[e];exact .inl rfl)
theorem c4G (E:a0u):GK E 28:=by
 intro hE t hop hf hb hg hz hs
 obtain⟨op,n,m,ps⟩:=t
 obtain rfl:op=28:=hop
 dsimp only at *
 have hz':a1t (ps.map (srt E))≠0:=hz
 obtain⟨a,h1,h4⟩:=a6k hz'
 obtain⟨x,y,z,rfl⟩:=c4z (by have:=congrArg List.length h1;simpa using this)
 simp only[List.map_cons,List.map_nil,List.cons.injEq,and_true] at h1
 obtain⟨hx,hy,hz2⟩:=h1
 have e:a0d E ⟨28,n,m,[x,y,z]⟩=if (a0d E x).2=0 then (if (a0d E x).1=1 then a0d E y else a0d E z) else noR (a0d E x).2:=by rw[a0f];rfl
 by_cases h:(a0d E x).2=0
 ·rw[if_pos h] at e
  by_cases h':(a0d E x).1=1
  ·rw[if_pos h'] at e
   exact a6c ((hs.trans h4).trans hy.symm) (hg y (by simp)) (by rw[e];exact .inl rfl)
  ·rw[if_neg h'] at e
   exact a6c ((hs.trans h4).trans hz2.symm) (hg z (by simp)) (by rw[e];exact .inl rfl)
 ·rw[if_neg h] at e
  exact a0X (by rw[e];exact .inl rfl)
theorem c4F (E:a0u):GK E 29:=by
 intro hE t hop hf hb hg hz hs
 obtain⟨op,n,m,ps⟩:=t
 obtain rfl:op=29:=hop
 dsimp only at *
 have e:a0d E ⟨29,n,m,ps⟩=noR 4:=by rw[a0f];rfl
 exact a0X (by rw[e];exact .inl rfl)
theorem c4E (E:a0u):GK E 30:=by
 intro hE t hop hf hb hg hz hs
 obtain⟨op,n,m,ps⟩:=t
 obtain rfl:op=30:=hop
 dsimp only at *
 obtain⟨e1,e2⟩:=a0v (k:=30) (r:=3) (ts:=[1]) rfl hz
 obtain⟨x,rfl,q0⟩:=a5w e1
 have g0:=hg x (by simp)
 have e:a0d E ⟨30,n,m,[x]⟩=a0t a0M (a0d E x):=by rw[a0f];rfl
 refine a0W (hs.trans e2) (by decide) ?_
 rw[e]
 rcases a2e a0M (a0d E x) with h | h<;>rw[h]
 ·exact a4F _
 ·exact a0y
theorem c4D (E:a0u):GK E 31:=by
 intro hE t hop hf hb hg hz hs
 obtain⟨op,n,m,ps⟩:=t
 obtain rfl:op=31:=hop
 dsimp only at *
 obtain⟨e1,e2⟩:=a0v (k:=31) (r:=3) (ts:=[1]) rfl hz
 obtain⟨x,rfl,q0⟩:=a5w e1
 have g0:=hg x (by simp)
 have e:a0d E ⟨31,n,m,[x]⟩=a0t (fun a=>held (E.rep+a0M a)) (a0d E x):=by rw[a0f];rfl
 refine a0W (hs.trans e2) (by decide) ?_
 rw[e]
 rcases a2e (fun a=>held (E.rep+a0M a)) (a0d E x) with h | h<;>rw[h]
 ·exact a4x _
 ·exact a0y
theorem c4C (E:a0u):GK E 32:=by
 intro hE t hop hf hb hg hz hs
 obtain⟨op,n,m,ps⟩:=t
 obtain rfl:op=32:=hop
 dsimp only at *
 have e:a0d E ⟨32,n,m,ps⟩=b9v ps (ps.map (a0d E)):=by rw[a0f];rfl
 have hl:srt E ⟨32,n,m,ps⟩=3\/srt E ⟨32,n,m,ps⟩=0:=by
  rw[hs]
  show a0J _ _=3\/a0J _ _=0
  unfold a0J
  split
  ·exact .inl rfl
  ·exact .inr rfl
 refine a0W (r:=3) (hl.resolve_right (fun h=>hz (hs.symm.trans h))) (by decide) ?_
 rw[e]
 unfold b9v
 split
 ·generalize a4T _ _ _ _ _=i
  by_cases h:i<ps.length
  ·rw[show (ps.map (a0d E)).getD i (0,0)=a0d E ps[i] from by simp[List.getD,List.getElem?_map,List.getElem?_eq_getElem h]]
   exact(hg _ (List.getElem_mem h)).1
  ·rw[show (ps.map (a0d E)).getD i (0,0)=(0,0) from by simp[List.getD,List.getElem?_map,List.getElem?_eq_none (Nat.not_lt.1 h)]]
   exact a0y
 ·exact a0y
theorem c2W (E:a0u):∀ k,1<=k->k<=32->GK E k:=a2y (c6a E) (c5Z E) (c5Y E) (c5X E) (c5W E) (c5V E) (c5U E) (c5T E) (c5S E) (c4Y E) (c4X E) (c4W E) (c4V E) (c4U E) (c4T E) (c4S E) (c4R E) (c4Q E) (c4P E) (c4O E) (c4N E) (c4M E) (c4L E) (c4K E) (c4J E) (c4I E) (c4H E) (c4G E) (c4F E) (c4E E) (c4D E) (c4C E)
def b9a (t:Co):Prop:=∃ w v,a0p w t v
theorem b9a.parts {t x:Co}(h:b9a t)(hx:x∈t.parts):b9a x:=by
 obtain⟨w,v,hs⟩:=h
 obtain⟨b,off,cap,-,-,-,-,hp⟩:=hs.parts.open (List.length_pos_of_mem hx)
 obtain⟨i,hi,rfl⟩:=List.getElem_of_mem hx
 obtain⟨u,-,hu⟩:=hp i hi
 exact⟨w,u,hu⟩
theorem b9a.fit {t:Co}(h:b9a t):b9S t:=by
 obtain⟨w,v,hs⟩:=h
 exact hs.fit
theorem a8c (E:a0u)(hE:a6z E)(t:Co):b9a t->srt E t≠0->b6C E t:=by
 induction t using Co.ind with
 | h t ih=>
   intro hl hz
   obtain⟨k,hop,h1,h2,hb,hp,hs⟩:=a4z hz
   exact c2W E k h1 h2 hE t hop hl.fit hb (fun x hx=>ih x hx (hl.parts hx) (hp x hx)) (by rw[<-hs];exact hz) hs
def c6k (E:a0u)(x:Co):Prop:=TeC E x/\b6C E x
def PK (E:a0u)(k:Nat):Prop:=a6z E->∀ t:Co,t.op=(k:Int)->a0L t<=8192->a0o k E.wins.length E.crons.length 256 t=true->(∀ x,x∈t.parts->c6k E x)->a1u a0J k t (t.parts.map (srt E))≠0->b9S t->WkC E k t
theorem c5P (E:a0u):PK E 1:=by
 intro hE t hop hn hb hg hz hf
 obtain⟨op,n,m,ps⟩:=t
 obtain rfl:op=1:=hop
 dsimp only at *
 exact b9i E _ 1 (.inl rfl) rfl
theorem c5O (E:a0u):PK E 2:=by
 intro hE t hop hn hb hg hz hf
 obtain⟨op,n,m,ps⟩:=t
 obtain rfl:op=2:=hop
 dsimp only at *
 exact b9i E _ 2 (.inr rfl) rfl
theorem c5N (E:a0u):PK E 3:=by
 intro hE t hop hn hb hg hz hf
 obtain⟨op,n,m,ps⟩:=t
 obtain rfl:op=3:=hop
 dsimp only at *
 exact c2n E _ rfl
theorem c5M (E:a0u):PK E 4:=by
 intro hE t hop hn hb hg hz hf
 obtain⟨op,n,m,ps⟩:=t
 obtain rfl:op=4:=hop
 dsimp only at *
 have hb':(a0z n E.wins.length&&decide (m=0))=true:=hb
 simp only[a0z,Bool.and_eq_true,decide_eq_true_eq] at hb'
 exact c2m E _ rfl hb'.1.1 hb'.1.2
theorem c5L (E:a0u):PK E 5:=by
 intro hE t hop hn hb hg hz hf
 obtain⟨op,n,m,ps⟩:=t
 obtain rfl:op=5:=hop
 dsimp only at *
 have hb':(a0z n E.crons.length&&decide (m=0))=true:=hb
 simp only[a0z,Bool.and_eq_true,decide_eq_true_eq] at hb'
 exact b9X E _ rfl hb'.1.1 hb'.1.2
theorem c5K (E:a0u):PK E 6:=by
 intro hE t hop hn hb hg hz hf
 obtain⟨op,n,m,ps⟩:=t
 obtain rfl:op=6:=hop
 dsimp only at *
 have hb':(decide (1<=n)&&(decide (n<=3)&&(decide (m=1)||decide (m=2))))=true:=hb
 simp only[Bool.and_eq_true,decide_eq_true_eq] at hb'
 exact b9W E _ rfl (by show n≠0;omega)
theorem c5J (E:a0u):PK E 7:=by
 intro hE t hop hn hb hg hz hf
 obtain⟨op,n,m,ps⟩:=t
 obtain rfl:op=7:=hop
 dsimp only at *
 have hz':a0N 1 (ps.map (srt E))≠0:=hz
 obtain⟨h1,-,-,-⟩:=a1Q hz'
 obtain⟨x,rfl⟩:=c3D (by simpa using h1)
 exact b9U E n m x (hg x (by simp)).1
theorem c5I (E:a0u):PK E 8:=by
 intro hE t hop hn hb hg hz hf
 obtain⟨op,n,m,ps⟩:=t
 obtain rfl:op=8:=hop
 dsimp only at *
 obtain⟨e1,-⟩:=a0v (k:=8) (r:=1) (ts:=[1]) rfl hz
 obtain⟨x,rfl,q0⟩:=a5w e1
 obtain⟨H0,g0⟩:=hg x (by simp)
 intro v tb b w f q hs ht hw
 obtain⟨p,e,hp⟩:=hw
 cases e
 have hT:a0d E ⟨8,n,m,[x]⟩=a0t (uF 8) (a0d E x):=by rw[a0f];rfl
 rw[hT]
 exact b4z E 8 n m x 147 p (uF 8) b9m.1 H0 (fun W=>b9m.2 _ W g0.1 trivial) v tb b w hs ht hp
theorem c5H (E:a0u):PK E 9:=by
 intro hE t hop hn hb hg hz hf
 obtain⟨op,n,m,ps⟩:=t
 obtain rfl:op=9:=hop
 dsimp only at *
 obtain⟨e1,-⟩:=a0v (k:=9) (r:=2) (ts:=[2]) rfl hz
 obtain⟨x,rfl,q0⟩:=a5w e1
 obtain⟨H0,g0⟩:=hg x (by simp)
 intro v tb b w f q hs ht hw
 obtain⟨p,e,hp⟩:=hw
 cases e
 have hT:a0d E ⟨9,n,m,[x]⟩=a0t (uF 9) (a0d E x):=by rw[a0f];rfl
 rw[hT]
 exact b4z E 9 n m x 148 p (uF 9) b9l.1 H0 (fun W=>b9l.2 _ W g0.1 (g0.2 q0)) v tb b w hs ht hp
theorem c4t (E:a0u):PK E 10:=by
 intro hE t hop hn hb hg hz hf
 obtain⟨op,n,m,ps⟩:=t
 obtain rfl:op=10:=hop
 dsimp only at *
 obtain⟨e1,-⟩:=a0v (k:=10) (r:=1) (ts:=[1]) rfl hz
 obtain⟨x,rfl,q0⟩:=a5w e1
 obtain⟨H0,g0⟩:=hg x (by simp)
 intro v tb b w f q hs ht hw
 obtain⟨p,e,hp⟩:=hw
 cases e
 have hT:a0d E ⟨10,n,m,[x]⟩=a0t (uF 10) (a0d E x):=by rw[a0f];rfl
 rw[hT]
 exact b4z E 10 n m x 149 p (uF 10) b9n.1 H0 (fun W=>b9n.2 _ W g0.1 trivial) v tb b w hs ht hp
theorem c4s (E:a0u):PK E 11:=by
 intro hE t hop hn hb hg hz hf
 obtain⟨op,n,m,ps⟩:=t
 obtain rfl:op=11:=hop
 dsimp only at *
 obtain⟨e1,-⟩:=a0v (k:=11) (r:=1) (ts:=[1]) rfl hz
 obtain⟨x,rfl,q0⟩:=a5w e1
 obtain⟨H0,g0⟩:=hg x (by simp)
 intro v tb b w f q hs ht hw
 obtain⟨p,e,hp⟩:=hw
 cases e
 have hT:a0d E ⟨11,n,m,[x]⟩=a0t (uF 11) (a0d E x):=by rw[a0f];rfl
 rw[hT]
 exact b4z E 11 n m x 150 p (uF 11) b3H.1 H0 (fun W=>b3H.2 _ W g0.1 trivial) v tb b w hs ht hp
theorem c4r (E:a0u):PK E 12:=by
 intro hE t hop hn hb hg hz hf
 obtain⟨op,n,m,ps⟩:=t
 obtain rfl:op=12:=hop
 dsimp only at *
 obtain⟨e1,-⟩:=a0v (k:=12) (r:=1) (ts:=[1]) rfl hz
 obtain⟨x,rfl,q0⟩:=a5w e1
 obtain⟨H0,g0⟩:=hg x (by simp)
 intro v tb b w f q hs ht hw
 obtain⟨p,e,hp⟩:=hw
 cases e
 have hT:a0d E ⟨12,n,m,[x]⟩=a0t (uF 12) (a0d E x):=by rw[a0f];rfl
 rw[hT]
 exact b4z E 12 n m x 151 p (uF 12) b0X.1 H0 (fun W=>b0X.2 _ W g0.1 trivial) v tb b w hs ht hp
theorem c4q (E:a0u):PK E 13:=by
 intro hE t hop hn hb hg hz hf
 obtain⟨op,n,m,ps⟩:=t
 obtain rfl:op=13:=hop
 dsimp only at *
 obtain⟨e1,-⟩:=a0v (k:=13) (r:=1) (ts:=[1]) rfl hz
 obtain⟨x,rfl,q0⟩:=a5w e1
 obtain⟨H0,g0⟩:=hg x (by simp)
 have hb':(decide (0<=n)&&decide (1<=m))=true:=hb
 simp only[Bool.and_eq_true,decide_eq_true_eq] at hb'
 exact b6F E n m x H0 (fun W=>b8W _ n m g0.1.1 (a5x g0.1) hb'.1 (a5x hf.n) hb'.2 (a5x hf.m) (a4C _ _ (by omega) (by have:=a5x hf.m;dsimp only at this;omega)) W)
theorem c4p (E:a0u):PK E 14:=by
 intro hE t hop hn hb hg hz hf
 obtain⟨op,n,m,ps⟩:=t
 obtain rfl:op=14:=hop
 dsimp only at *
 obtain⟨e1,-⟩:=a0v (k:=14) (r:=1) (ts:=[1,1]) rfl hz
 obtain⟨x,y,rfl,q0,q1⟩:=a3f e1
 obtain⟨H0,g0⟩:=hg x (by simp)
 obtain⟨H1,g1⟩:=hg y (by simp)
 intro v tb b w f q hs ht hw
 obtain⟨p,e,hp⟩:=hw
 cases e
 have hT:a0d E ⟨14,n,m,[x,y]⟩=a0E (fun a b=>okR (bF 14 a b)) (a0d E x) (a0d E y):=by rw[a0f];rfl
 rw[hT]
 exact a6u E 14 n m x y 155 p (bF 14) b9K.1 H0 H1 (fun W=>b9K.2 _ _ W g0.1 g1.1) v tb b w hs ht hp
theorem c4o (E:a0u):PK E 15:=by
 intro hE t hop hn hb hg hz hf
 obtain⟨op,n,m,ps⟩:=t
 obtain rfl:op=15:=hop
 dsimp only at *
 obtain⟨e1,-⟩:=a0v (k:=15) (r:=1) (ts:=[1,1]) rfl hz
 obtain⟨x,y,rfl,q0,q1⟩:=a3f e1
 obtain⟨H0,g0⟩:=hg x (by simp)
 obtain⟨H1,g1⟩:=hg y (by simp)
 intro v tb b w f q hs ht hw
 obtain⟨p,e,hp⟩:=hw
 cases e
 have hT:a0d E ⟨15,n,m,[x,y]⟩=a0E (fun a b=>okR (bF 15 a b)) (a0d E x) (a0d E y):=by rw[a0f];rfl
 rw[hT]
 exact a6u E 15 n m x y 156 p (bF 15) b9G.1 H0 H1 (fun W=>b9G.2 _ _ W g0.1 g1.1) v tb b w hs ht hp
theorem c4n (E:a0u):PK E 16:=by
 intro hE t hop hn hb hg hz hf
 obtain⟨op,n,m,ps⟩:=t
 obtain rfl:op=16:=hop
 dsimp only at *
 obtain⟨e1,-⟩:=a0v (k:=16) (r:=1) (ts:=[1,1]) rfl hz
 obtain⟨x,y,rfl,q0,q1⟩:=a3f e1
 obtain⟨H0,g0⟩:=hg x (by simp)
 obtain⟨H1,g1⟩:=hg y (by simp)
 intro v tb b w f q hs ht hw
 obtain⟨p,e,hp⟩:=hw
 cases e
 have hT:a0d E ⟨16,n,m,[x,y]⟩=a0E (fun a b=>okR (bF 16 a b)) (a0d E x) (a0d E y):=by rw[a0f];rfl
 rw[hT]
 exact a6u E 16 n m x y 157 p (bF 16) b9H.1 H0 H1 (fun W=>b9H.2 _ _ W g0.1 g1.1) v tb b w hs ht hp
theorem c4m (E:a0u):PK E 17:=by
 intro hE t hop hn hb hg hz hf
 obtain⟨op,n,m,ps⟩:=t
 obtain rfl:op=17:=hop
 dsimp only at *
 obtain⟨e1,-⟩:=a0v (k:=17) (r:=1) (ts:=[1,1]) rfl hz
 obtain⟨x,y,rfl,q0,q1⟩:=a3f e1
 obtain⟨H0,g0⟩:=hg x (by simp)
 obtain⟨H1,g1⟩:=hg y (by simp)
 intro v tb b w f q hs ht hw
 cases hw
 have hT:a0d E ⟨17,n,m,[x,y]⟩=a0E b3e (a0d E x) (a0d E y):=by rw[a0f];rfl
 rw[hT]
 refine c5d E 17 n m x y H0 H1 (fun W=>?_) v tb b w hs ht
 by_cases h:(a0d E y).1=0
 ·rw[if_pos h,decide_eq_false (fun k=>k h),h]
  exact b9f _ W
 ·rw[if_neg h,decide_eq_true h]
  exact c3z _ _ g0.1.1 (a5x g0.1) g1.1.1 (a5x g1.1) h (a4C _ _ (by omega) (by have:=g1.1.1;have:=g1.1.2;omega)) W
theorem c4l (E:a0u):PK E 18:=by
 intro hE t hop hn hb hg hz hf
 obtain⟨op,n,m,ps⟩:=t
 obtain rfl:op=18:=hop
 dsimp only at *
 obtain⟨e1,-⟩:=a0v (k:=18) (r:=2) (ts:=[1,1]) rfl hz
 obtain⟨x,y,rfl,q0,q1⟩:=a3f e1
 obtain⟨H0,g0⟩:=hg x (by simp)
 obtain⟨H1,g1⟩:=hg y (by simp)
 intro v tb b w f q hs ht hw
 obtain⟨p,e,hp⟩:=hw
 cases e
 have hT:a0d E ⟨18,n,m,[x,y]⟩=a0E (fun a b=>okR (bF 18 a b)) (a0d E x) (a0d E y):=by rw[a0f];rfl
 rw[hT]
 exact a6u E 18 n m x y 159 p (bF 18) b6c.1 H0 H1 (fun W=>b6c.2 _ _ W g0.1 g1.1) v tb b w hs ht hp
theorem c4k (E:a0u):PK E 19:=by
 intro hE t hop hn hb hg hz hf
 obtain⟨op,n,m,ps⟩:=t
 obtain rfl:op=19:=hop
 dsimp only at *
 obtain⟨e1,-⟩:=a0v (k:=19) (r:=2) (ts:=[1,1]) rfl hz
 obtain⟨x,y,rfl,q0,q1⟩:=a3f e1
 obtain⟨H0,g0⟩:=hg x (by simp)
 obtain⟨H1,g1⟩:=hg y (by simp)
 intro v tb b w f q hs ht hw
 obtain⟨p,e,hp⟩:=hw
 cases e
 have hT:a0d E ⟨19,n,m,[x,y]⟩=a0E (fun a b=>okR (bF 19 a b)) (a0d E x) (a0d E y):=by rw[a0f];rfl
 rw[hT]
 exact a6u E 19 n m x y 160 p (bF 19) b9J.1 H0 H1 (fun W=>b9J.2 _ _ W g0.1 g1.1) v tb b w hs ht hp
theorem c4j (E:a0u):PK E 20:=by
 intro hE t hop hn hb hg hz hf
 obtain⟨op,n,m,ps⟩:=t
 obtain rfl:op=20:=hop
 dsimp only at *
 obtain⟨e1,-⟩:=a0v (k:=20) (r:=2) (ts:=[1,1]) rfl hz
 obtain⟨x,y,rfl,q0,q1⟩:=a3f e1
 obtain⟨H0,g0⟩:=hg x (by simp)
 obtain⟨H1,g1⟩:=hg y (by simp)
 intro v tb b w f q hs ht hw
 obtain⟨p,e,hp⟩:=hw
 cases e
 have hT:a0d E ⟨20,n,m,[x,y]⟩=a0E (fun a b=>okR (bF 20 a b)) (a0d E x) (a0d E y):=by rw[a0f];rfl
 rw[hT]
 exact a6u E 20 n m x y 161 p (bF 20) c3k.1 H0 H1 (fun W=>c3k.2 _ _ W g0.1 g1.1) v tb b w hs ht hp
theorem c4i (E:a0u):PK E 21:=by
 intro hE t hop hn hb hg hz hf
 obtain⟨op,n,m,ps⟩:=t
 obtain rfl:op=21:=hop
 dsimp only at *
 obtain⟨e1,-⟩:=a0v (k:=21) (r:=2) (ts:=[1,1]) rfl hz
 obtain⟨x,y,rfl,q0,q1⟩:=a3f e1
 obtain⟨H0,g0⟩:=hg x (by simp)
 obtain⟨H1,g1⟩:=hg y (by simp)
 intro v tb b w f q hs ht hw
 obtain⟨p,e,hp⟩:=hw
 cases e
 have hT:a0d E ⟨21,n,m,[x,y]⟩=a0E (fun a b=>okR (bF 21 a b)) (a0d E x) (a0d E y):=by rw[a0f];rfl
 rw[hT]
 exact a6u E 21 n m x y 162 p (bF 21) b6b.1 H0 H1 (fun W=>b6b.2 _ _ W g0.1 g1.1) v tb b w hs ht hp
theorem c4h (E:a0u):PK E 22:=by
 intro hE t hop hn hb hg hz hf
 obtain⟨op,n,m,ps⟩:=t
 obtain rfl:op=22:=hop
 dsimp only at *
 obtain⟨e1,-⟩:=a0v (k:=22) (r:=2) (ts:=[1,1]) rfl hz
 obtain⟨x,y,rfl,q0,q1⟩:=a3f e1
 obtain⟨H0,g0⟩:=hg x (by simp)
 obtain⟨H1,g1⟩:=hg y (by simp)
 intro v tb b w f q hs ht hw
 obtain⟨p,e,hp⟩:=hw
 cases e
 have hT:a0d E ⟨22,n,m,[x,y]⟩=a0E (fun a b=>okR (bF 22 a b)) (a0d E x) (a0d E y):=by rw[a0f];rfl
 rw[hT]
 exact a6u E 22 n m x y 163 p (bF 22) b9I.1 H0 H1 (fun W=>b9I.2 _ _ W g0.1 g1.1) v tb b w hs ht hp
theorem c4g (E:a0u):PK E 23:=by
 intro hE t hop hn hb hg hz hf
 obtain⟨op,n,m,ps⟩:=t
 obtain rfl:op=23:=hop
 dsimp only at *
 obtain⟨e1,-⟩:=a0v (k:=23) (r:=1) (ts:=[1,1]) rfl hz
 obtain⟨x,y,rfl,q0,q1⟩:=a3f e1
 obtain⟨H0,g0⟩:=hg x (by simp)
 obtain⟨H1,g1⟩:=hg y (by simp)
 intro v tb b w f q hs ht hw
 obtain⟨p,e,hp⟩:=hw
 cases e
 have hT:a0d E ⟨23,n,m,[x,y]⟩=a0E (fun a b=>okR (bF 23 a b)) (a0d E x) (a0d E y):=by rw[a0f];rfl
 rw[hT]
 exact a6u E 23 n m x y 164 p (bF 23) a9J.1 H0 H1 (fun W=>a9J.2 _ _ W g0.1 g1.1) v tb b w hs ht hp
theorem c4f (E:a0u):PK E 24:=by
 intro hE t hop hn hb hg hz hf
 obtain⟨op,n,m,ps⟩:=t
 obtain rfl:op=24:=hop
 dsimp only at *
 obtain⟨e1,-⟩:=a0v (k:=24) (r:=1) (ts:=[1,1]) rfl hz
 obtain⟨x,y,rfl,q0,q1⟩:=a3f e1
 obtain⟨H0,g0⟩:=hg x (by simp)
 obtain⟨H1,g1⟩:=hg y (by simp)
 intro v tb b w f q hs ht hw
 obtain⟨p,e,hp⟩:=hw
 cases e
 have hT:a0d E ⟨24,n,m,[x,y]⟩=a0E (fun a b=>okR (bF 24 a b)) (a0d E x) (a0d E y):=by rw[a0f];rfl
 rw[hT]
 exact a6u E 24 n m x y 165 p (bF 24) a7i.1 H0 H1 (fun W=>a7i.2 _ _ W g0.1 g1.1) v tb b w hs ht hp
theorem c4e (E:a0u):PK E 25:=by
 intro hE t hop hn hb hg hz hf
 obtain⟨op,n,m,ps⟩:=t
 obtain rfl:op=25:=hop
 dsimp only at *
 obtain⟨e1,-⟩:=a0v (k:=25) (r:=2) (ts:=[2,2]) rfl hz
 obtain⟨x,y,rfl,q0,q1⟩:=a3f e1
 obtain⟨H0,g0⟩:=hg x (by simp)
 obtain⟨H1,g1⟩:=hg y (by simp)
 exact c2o E n m x y H0 H1
theorem c4d (E:a0u):PK E 26:=by
 intro hE t hop hn hb hg hz hf
 obtain⟨op,n,m,ps⟩:=t
 obtain rfl:op=26:=hop
 dsimp only at *
 obtain⟨e1,-⟩:=a0v (k:=26) (r:=2) (ts:=[2,2]) rfl hz
 obtain⟨x,y,rfl,q0,q1⟩:=a3f e1
 obtain⟨H0,g0⟩:=hg x (by simp)
 obtain⟨H1,g1⟩:=hg y (by simp)
 exact c3M E n m x y H0 H1
theorem c4c (E:a0u):PK E 27:=by
 intro hE t hop hn hb hg hz hf
 obtain⟨op,n,m,ps⟩:=t
 obtain rfl:op=27:=hop
 dsimp only at *
 have hz':a0N 2 (ps.map (srt E))≠0:=hz
 obtain⟨h1,-,-,-⟩:=a1Q hz'
 obtain⟨x,y,rfl⟩:=c4A (by simpa using h1)
 exact b3A E n m x y (hg x (by simp)).1 (hg y (by simp)).1
theorem c4b (E:a0u):PK E 28:=by
 intro hE t hop hn hb hg hz hf
 obtain⟨op,n,m,ps⟩:=t
 obtain rfl:op=28:=hop
 dsimp only at *
 have hz':a1t (ps.map (srt E))≠0:=hz
 obtain⟨a,h1,-⟩:=a6k hz'
 obtain⟨x,y,z,rfl⟩:=c4z (by have:=congrArg List.length h1;simpa using this)
 exact b3B E n m x y z (hg x (by simp)).1 (hg y (by simp)).1 (hg z (by simp)).1
theorem c4a (E:a0u):PK E 29:=by
 intro hE t hop hn hb hg hz hf
 obtain⟨op,n,m,ps⟩:=t
 obtain rfl:op=29:=hop
 dsimp only at *
 exact b9V E _ rfl
theorem c3Z (E:a0u):PK E 30:=by
 intro hE t hop hn hb hg hz hf
 obtain⟨op,n,m,ps⟩:=t
 obtain rfl:op=30:=hop
 dsimp only at *
 obtain⟨e1,-⟩:=a0v (k:=30) (r:=3) (ts:=[1]) rfl hz
 obtain⟨x,rfl,q0⟩:=a5w e1
 obtain⟨H0,g0⟩:=hg x (by simp)
 exact c3L E n m x H0 (fun W=>a9S _ g0.1.1 (a5x g0.1) W)
theorem c3Y (E:a0u):PK E 31:=by
 intro hE t hop hn hb hg hz hf
 obtain⟨op,n,m,ps⟩:=t
 obtain rfl:op=31:=hop
 dsimp only at *
 obtain⟨e1,-⟩:=a0v (k:=31) (r:=3) (ts:=[1]) rfl hz
 obtain⟨x,rfl,q0⟩:=a5w e1
 obtain⟨H0,g0⟩:=hg x (by simp)
 exact c3N E n m x H0 (fun W=>a9S _ g0.1.1 (a5x g0.1) W) (fun W=>b6v _ _ hE.rep.1 (a5x hE.rep) (a4F _).1 (a5x (a4F _)) W)
theorem c3X (E:a0u):PK E 32:=by
 intro hE t hop hn hb hg hz hf
 obtain⟨op,n,m,ps⟩:=t
 obtain rfl:op=32:=hop
 dsimp only at *
 have hz':a0J ⟨32,n,m,ps⟩ (ps.map (srt E))≠0:=hz
 have hl:a9Q ⟨32,n,m,ps⟩ (ps.map (srt E)):=(a5z _ _).1 (by
  unfold a0J at hz'
  split at hz'
  ·assumption
  ·exact absurd rfl hz')
 have hlen:ps.length<=8192:=by
  have h1:=a2E ps
  rw[a2u] at hn
  have h2:1+a0G ps<=8192:=hn
  omega
 intro v tb b w f q hs ht hw
 cases hw
 have hT:a0d E ⟨32,n,m,ps⟩=b9v ps (ps.map (a0d E)):=by rw[a0f];rfl
 rw[hT]
 exact b7Y E 32 n m ps (by have:=hl.1;simpa using this) (by have:=hl.2.1;simpa using this) hlen (fun x hx=>(hg x hx).1) v tb b w hs ht
theorem c2H (E:a0u):∀ k,1<=k->k<=32->PK E k:=a2y (c5P E) (c5O E) (c5N E) (c5M E) (c5L E) (c5K E) (c5J E) (c5I E) (c5H E) (c4t E) (c4s E) (c4r E) (c4q E) (c4p E) (c4o E) (c4n E) (c4m E) (c4l E) (c4k E) (c4j E) (c4i E) (c4h E) (c4g E) (c4f E) (c4e E) (c4d E) (c4c E) (c4b E) (c4a E) (c3Z E) (c3Y E) (c3X E)
theorem a7v (E:a0u)(hE:a6z E)(t:Co):b9a t->a0L t<=8192->srt E t≠0->TeC E t:=by
 induction t using Co.ind with
 | h t ih=>
   intro hl hn hz
   obtain⟨k,hop,h1,h2,hb,hp,hs⟩:=a4z hz
   refine b3g E t k h1 h2 hop (c2H E k h1 h2 hE t hop hn hb (fun x hx=>⟨ih x hx (hl.parts hx) ?_ (hp x hx),a8c E hE x (hl.parts hx) (hp x hx)⟩) (by rw[<-hs];exact hz) hl.fit)
   have:=a1s hx
   omega
abbrev a7c (E:a0u)(v1 v2:Value):Value:=.agg #[.int .i64 E.rep,v1,v2]
structure a3j (w:World)(E:a0u)(v1 v2:Value):Prop where
 ok:a6z E
 wins:a6q w v1 E.wins
 crons:a4d w v2 E.crons
theorem a3j.next {w w':World}{E:a0u}{v1 v2:Value}(h:a3j w E v1 v2)(k:Below w.heap.size w w'):a3j w' E v1 v2:=⟨h.ok,h.wins.next k,h.crons.next k⟩
theorem a3j.shape {w:World}{E:a0u}{v1 v2:Value}(h:a3j w E v1 v2):∃ a1 c1 a2 c2,v1=.slice a1 E.wins.length c1/\v2=.slice a2 E.crons.length c2:=by
 obtain⟨a1,c1,e1,-⟩:=h.wins
 obtain⟨a2,c2,e2,-⟩:=h.crons
 exact⟨a1,c1,a2,c2,e1,e2⟩
set_option maxHeartbeats 1000000 in
theorem b0q (E:a0u)(v1 v2:Value)(w:World)(h:a3j w E v1 v2)(hg:GlE w):Calls Tryz.prog 62 #[a7c E v1 v2] w fun e w'=>∃ tb b,e=.returned (.pointer (some ⟨tb,0,none⟩))/\a8B w' tb b E/\Below w.heap.size w w':=by
 obtain⟨a1,c1,a2,c2,rfl,rfl⟩:=h.shape
 have H:=a0a h
 have HG:=a0a hg
 have HA:Hid (∀ o,Below w.heap.size w (w.alloc o)):=fun o=>(ZD _ _).alloc (ZB _) _
 generalize E.wins.length=L1 at *
 generalize E.crons.length=L2 at *
 have X0:=Box.new w [.int .i64 E.rep,.slice a1 L1 c1,.slice a2 L2 c2] 40
 obtain⟨d0,d1,d2⟩:=Box.c3 X0
 have x0:=X0.lt
 have HKa:=a0a (HA.out (.cells [.int .i64 E.rep,.slice a1 L1 c1,.slice a2 L2 c2].toArray 40))
 clear h hg HA X0
 go_enter Tryz.func62,Tryz.ntmps62
 go_wp2_with fail
 generalize hW0:w.alloc _=w0 at *
 clear hW0
 go_region_held3 (fun w'=>w'.cell? ⟨w.heap.size,0,none⟩=some (.int .i64 E.rep)/\w'.cell? ⟨w.heap.size,1,none⟩=some (.slice a1 L1 c1)/\w'.cell? ⟨w.heap.size,2,none⟩=some (.slice a2 L2 c2)) (simp[go_sem, *]) (first|(go_at_call 78;refine ZE (c1G _) ?_;rintro e w1 ⟨b,rfl,hr,B1⟩;have g0:=fun p v hp hv=>(B1.cell (p:=p) hp).trans (hv:w0.cell? p=some v);replace d0:=g0 _ _ x0 d0;replace d1:=g0 _ _ x0 d1;replace d2:=g0 _ _ x0 d2;have x1:w.heap.size<w1.heap.size:=ZA x0 B1.size;clear g0))
 have hb1:Below w0.heap.size w0 w1:=⟨B1.os,B1.tape,B1.output,B1.size,B1.block⟩
 have hb2:=(ZD w1.heap.size w1).alloc (ZB _) (.cells [.slice (some ⟨b,0,none⟩) 33 33,.int .i64 E.rep,.slice a1 L1 c1,.slice a2 L2 c2].toArray 172)
 have X2:=Box.new w1 [.slice (some ⟨b,0,none⟩) 33 33,.int .i64 E.rep,.slice a1 L1 c1,.slice a2 L2 c2] 172
 have HB1:=a0b HKa.out hb1 HKa.out.size
 have HB2:=a0b HB1 hb2 HB1.size
 have HT:Hid (a8B (w1.alloc (.cells [.slice (some ⟨b,0,none⟩) 33 33,.int .i64 E.rep,.slice a1 L1 c1,.slice a2 L2 c2].toArray 172)) w1.heap.size b E):=⟨H.out.ok,⟨_,_,X2,H.out.wins.next HB2,H.out.crons.next HB2⟩,hr.next hb2,GlE.next HG.out HB2⟩
 have HBe:=a0a HB2
 clear d0 d1 d2 hb1 hb2 X2 HB1 HB2 hr B1
 go_wp2_with fail
 go_ret
 exact⟨_,_,rfl,HT.out,HBe.out⟩
end Go.Proofs.YtbddbnjhmdbkbaaGreatDoor
