import Derived.Test.YtkbmgloilckdhaaGreatDoorMhC
namespace Go.Proofs.YtkbmgloilckdhaaGreatDoor
open Go.RowKit
set_option maxHeartbeats 1000000 in
set_option maxRecDepth 20000 in
theorem a5j (E:a0C)(k tn tm:Int)(x0 x1:Co)(g p:Nat)(F:Int->Int->Int)(hE:Ent g)(H0:TeC E x0)(H1:TeC E x1)(HS:∀ W:World,Calls Tryz.prog g #[.int .i64 (a0f E x0).1,.int .i64 (a0f E x1).1] W fun e w'=>e=.returned (.int .i64 (F (a0f E x0).1 (a0f E x1).1))/\Below W.heap.size W w')(v:Value)(tb b:Nat)(w:World)(hs:a0m w ⟨k,tn,tm,[x0,x1]⟩ v)(ht:a7A w tb b E)(hp:FnF w p (.func (.func g) #[] #[])):
 Calls Tryz.prog 143 #[.pointer (some ⟨tb,0,none⟩),coV ⟨k,tn,tm,[x0,x1]⟩ v,.pointer (some ⟨p,0,none⟩)] w fun e w'=>e=.returned (a2t (a0F (fun a b=>okR (F a b)) (a0f E x0) (a0f E x1)))/\Below w.heap.size w w':=by
 obtain⟨Rv,hRv⟩:∃ Rv,Hid (Rv=a2t (a0F (fun a b=>okR (F a b)) (a0f E x0) (a0f E x1))):=⟨_,rfl⟩
 rw[<-hRv.out]
 have HC:=a0a (fun W (hW:Below w.heap.size w W)=>b4x E k tn tm x0 x1 H0 H1 v tb b W (hs.next hW) (ht.next hW))
 obtain⟨pb,off,cap,u0,u1,rfl,-,-,-,-,-⟩:=a5A hs.parts
 have HA:Hid (∀ o,Below w.heap.size w (w.alloc o)):=fun o=>(Below.refl _ _).alloc (Nat.le_refl _) _
 have HSs:=a0a HS
 clear hs ht HS H0 H1
 generalize a0f E x0=r0 at *
 generalize a0f E x1=r1 at *
 obtain⟨n0',e0⟩:=r0
 obtain⟨n1',e1⟩:=r1
 dsimp only at HSs
 by_cases he:e0=0
 case neg=>
  have hR:Hid (Rv=Value.tuple #[.int .i64 0,.iface 132 (.agg #[.int .i64 e0])]):=by show _=_;rw[hRv.out];unfold a0F;rw[if_neg he];exact a0E _ he
  have ep:a3q (n0',e0) (n1',e1)=.tuple #[.int .i64 0,.int .i64 0,.iface 132 (.agg #[.int .i64 e0])]:=by unfold a3q;rw[if_neg he,a3v he]
  simp only[ep] at HC
  clear hRv ep
  go_enter Tryz.func143,Tryz.ntmps143
  go_wp2_with fail
  refine Calls.mono (HC.out _ (HA.out _)) ?_
  rintro e w1 ⟨rfl,b1⟩
  have HB:=a0a (a0b (HA.out _) b1 (by simp))
  clear b1 HC
  go_wp2_with fail
  go_ret2
  exact⟨by rw[hR.out];rfl,HB.out⟩
 subst he
 by_cases he:e1=0
 case neg=>
  have hR:Hid (Rv=Value.tuple #[.int .i64 0,.iface 132 (.agg #[.int .i64 e1])]):=by show _=_;rw[hRv.out];unfold a0F;rw[if_pos rfl,if_neg he];exact a0E _ he
  have ep:a3q (n0',0) (n1',e1)=.tuple #[.int .i64 n0',.int .i64 n1',.iface 132 (.agg #[.int .i64 e1])]:=by unfold a3q;rw[if_pos rfl,a3v he]
  simp only[ep] at HC
  clear hRv ep
  go_enter Tryz.func143,Tryz.ntmps143
  go_wp2_with fail
  refine Calls.mono (HC.out _ (HA.out _)) ?_
  rintro e w1 ⟨rfl,b1⟩
  have HB:=a0a (a0b (HA.out _) b1 (by simp))
  clear b1 HC
  go_wp2_with fail
  go_ret2
  exact⟨by rw[hR.out];rfl,HB.out⟩
 subst he
 have ep:a3q (n0',0) (n1',0)=.tuple #[.int .i64 n0',.int .i64 n1',.nilIface]:=by unfold a3q;rw[if_pos rfl,a5J]
 simp only[ep] at HC
 clear ep
 have hR:Hid (Rv=Value.tuple #[.int .i64 (F n0' n1'),.nilIface]):=by show _=_;rw[hRv.out];unfold a0F;rw[if_pos rfl,if_pos rfl];exact a0J _ rfl
 have HP:=a0a hp
 unfold Ent at hE
 clear hRv hp
 go_enter Tryz.func143,Tryz.ntmps143
 go_wp2_with fail
 refine Calls.mono (HC.out _ (HA.out _)) ?_
 rintro e w1 ⟨rfl,b1⟩
 have HB:=a0a (a0b (HA.out _) b1 (by simp))
 clear b1 HC
 obtain⟨lp2,fp2⟩:=HP.out.next HB.out
 go_wp2_with fail
 refine Calls.mono (HSs.out _) ?_
 rintro e w3 ⟨rfl,b3⟩
 have HB3:=kb HB b3
 clear b3 HSs
 go_wp2_with fail
 go_ret2
 exact⟨by rw[hR.out];rfl,HB3.out⟩
set_option maxHeartbeats 1000000 in
set_option maxRecDepth 20000 in
theorem b9L (E:a0C)(k tn tm:Int)(x0 x1:Co)(H0:TeC E x0)(H1:TeC E x1)(HS:∀ W:World,Calls Tryz.prog 151 #[.int .i64 (a0f E x0).1,.int .i64 (a0f E x1).1] W fun e w'=>e=.returned (.tuple #[.int .i64 (if (a0f E x1).1=0 then 0 else held (fl ((a0f E x0).1*1000000) (a0f E x1).1)),.bool (decide ((a0f E x1).1≠0))])/\Below W.heap.size W w')(v:Value)(tb b:Nat)(w:World)(hs:a0m w ⟨k,tn,tm,[x0,x1]⟩ v)(ht:a7A w tb b E):
 Calls Tryz.prog 106 #[.pointer (some ⟨tb,0,none⟩),coV ⟨k,tn,tm,[x0,x1]⟩ v] w fun e w'=>e=.returned (a2t (a0F a8z (a0f E x0) (a0f E x1)))/\Below w.heap.size w w':=by
 obtain⟨Rv,hRv⟩:∃ Rv,Hid (Rv=a2t (a0F a8z (a0f E x0) (a0f E x1))):=⟨_,rfl⟩
 rw[<-hRv.out]
 have HC:=a0a (fun W (hW:Below w.heap.size w W)=>b4x E k tn tm x0 x1 H0 H1 v tb b W (hs.next hW) (ht.next hW))
 obtain⟨pb,off,cap,u0,u1,rfl,-,-,-,-,-⟩:=a5A hs.parts
 have HA:Hid (∀ o,Below w.heap.size w (w.alloc o)):=fun o=>(Below.refl _ _).alloc (Nat.le_refl _) _
 have HSs:=a0a HS
 clear hs ht HS H0 H1
 generalize a0f E x0=r0 at *
 generalize a0f E x1=r1 at *
 obtain⟨n0',e0⟩:=r0
 obtain⟨n1',e1⟩:=r1
 dsimp only at HSs
 by_cases he:e0=0
 case neg=>
  have hR:Hid (Rv=Value.tuple #[.int .i64 0,.iface 132 (.agg #[.int .i64 e0])]):=by show _=_;rw[hRv.out];unfold a0F;rw[if_neg he];exact a0E _ he
  have ep:a3q (n0',e0) (n1',e1)=.tuple #[.int .i64 0,.int .i64 0,.iface 132 (.agg #[.int .i64 e0])]:=by unfold a3q;rw[if_neg he,a3v he]
  simp only[ep] at HC
  clear hRv ep
  go_enter Tryz.func106,Tryz.ntmps106
  go_wp2_with fail
  refine Calls.mono (HC.out _ (HA.out _)) ?_
  rintro e w1 ⟨rfl,b1⟩
  have HB:=a0a (a0b (HA.out _) b1 (by simp))
  clear b1 HC
  go_wp2_with fail
  go_ret2
  exact⟨by rw[hR.out];rfl,HB.out⟩
 subst he
 by_cases he:e1=0
 case neg=>
  have hR:Hid (Rv=Value.tuple #[.int .i64 0,.iface 132 (.agg #[.int .i64 e1])]):=by show _=_;rw[hRv.out];unfold a0F;rw[if_pos rfl,if_neg he];exact a0E _ he
  have ep:a3q (n0',0) (n1',e1)=.tuple #[.int .i64 n0',.int .i64 n1',.iface 132 (.agg #[.int .i64 e1])]:=by unfold a3q;rw[if_pos rfl,a3v he]
  simp only[ep] at HC
  clear hRv ep
  go_enter Tryz.func106,Tryz.ntmps106
  go_wp2_with fail
  refine Calls.mono (HC.out _ (HA.out _)) ?_
  rintro e w1 ⟨rfl,b1⟩
  have HB:=a0a (a0b (HA.out _) b1 (by simp))
  clear b1 HC
  go_wp2_with fail
  go_ret2
  exact⟨by rw[hR.out];rfl,HB.out⟩
 subst he
 have ep:a3q (n0',0) (n1',0)=.tuple #[.int .i64 n0',.int .i64 n1',.nilIface]:=by unfold a3q;rw[if_pos rfl,a5J]
 simp only[ep] at HC
 clear ep
 by_cases hz:n1'=0
 ·have hR:Hid (Rv=Value.tuple #[.int .i64 0,.iface 132 (.agg #[.int .i64 2])]):=by show _=_;rw[hRv.out];unfold a0F;rw[if_pos rfl,if_pos rfl];unfold a8z;rw[if_pos hz];exact a0E _ (by decide)
  have d:decide (n1'≠0)=false:=decide_eq_false (fun h=>h hz)
  rw[if_pos hz,d] at HSs
  clear hRv d
  subst hz
  go_enter Tryz.func106,Tryz.ntmps106
  go_wp2_with fail
  refine Calls.mono (HC.out _ (HA.out _)) ?_
  rintro e w1 ⟨rfl,b1⟩
  have HB:=a0a (a0b (HA.out _) b1 (by simp))
  clear b1 HC
  go_wp2_with fail
  refine Calls.mono (HSs.out _) ?_
  rintro e w3 ⟨rfl,b3⟩
  have HB3:=kb HB b3
  clear b3 HSs
  go_wp2_with fail
  go_ret2
  exact⟨by rw[hR.out];rfl,HB3.out⟩
 ·have hR:Hid (Rv=Value.tuple #[.int .i64 (held (fl (n0'*1000000) n1')),.nilIface]):=by show _=_;rw[hRv.out];unfold a0F;rw[if_pos rfl,if_pos rfl];unfold a8z;rw[if_neg hz];exact a0J _ rfl
  have d:decide (n1'≠0)=true:=decide_eq_true hz
  rw[if_neg hz,d] at HSs
  clear hRv d
  go_enter Tryz.func106,Tryz.ntmps106
  go_wp2_with fail
  refine Calls.mono (HC.out _ (HA.out _)) ?_
  rintro e w1 ⟨rfl,b1⟩
  have HB:=a0a (a0b (HA.out _) b1 (by simp))
  clear b1 HC
  go_wp2_with fail
  refine Calls.mono (HSs.out _) ?_
  rintro e w3 ⟨rfl,b3⟩
  have HB3:=kb HB b3
  clear b3 HSs
  go_wp2_with fail
  go_ret2
  exact⟨by rw[hR.out];rfl,HB3.out⟩
theorem a4B {ps:List Co}{v:Int}{L f i:Nat}(h:¬ i+1<L)(hf:0<f):a2g ps v L f i=L-1:=by
 obtain⟨f',rfl⟩:∃ f',f=f'+1:=⟨f-1,by omega⟩
 rw[a2g,if_neg h]
theorem a4A {ps:List Co}{v:Int}{L f i:Nat}(h:i+1<L)(hv:v<(ps.getD i co0).n)(hf:0<f):a2g ps v L f i=i+1:=by
 obtain⟨f',rfl⟩:∃ f',f=f'+1:=⟨f-1,by omega⟩
 rw[a2g,if_pos h,if_pos hv]
theorem a6u {ps:List Co}{v:Int}{L f i:Nat}(h:i+1<L)(hv:¬ v<(ps.getD i co0).n):a2g ps v L (f+1) i=a2g ps v L f (i+2):=by
 rw[a2g,if_pos h,if_neg hv]
def b4B (ps:List Co)(rs:List Rs):Rs:=if (rs.getD 0 (0,0)).2=0 then rs.getD (a2g ps (rs.getD 0 (0,0)).1 ps.length ps.length 1) (0,0) else noR (rs.getD 0 (0,0)).2
set_option maxHeartbeats 4000000 in
set_option maxRecDepth 20000 in
theorem b3m (E:a0C)(k tn tm:Int)(ps:List Co)(h2:2<=ps.length)(hev:ps.length%2=0)(hmx:ps.length<=8192)(H:∀ x,x∈ps->TeC E x)(v:Value)(tb b:Nat)(w:World)(hs:a0m w ⟨k,tn,tm,ps⟩ v)(ht:a7A w tb b E):
 Calls Tryz.prog 124 #[.pointer (some ⟨tb,0,none⟩),coV ⟨k,tn,tm,ps⟩ v] w fun e w'=>e=.returned (a2t (b4B ps (ps.map (a0f E))))/\Below w.heap.size w w':=by
 obtain⟨Rv,hRv⟩:∃ Rv,Hid (Rv=a2t (b4B ps (ps.map (a0f E)))):=⟨_,rfl⟩
 rw[<-hRv.out]
 obtain⟨pb,off,cap,rfl,k1,k2,lp,hx⟩:=hs.parts.open (by show 0<ps.length;omega)
 dsimp only at k1 k2 hx
 have gR:∀ i (h:i<ps.length),(ps.map (a0f E)).getD i (0,0)=a0f E ps[i]:=fun i h=>by simp[List.getD,List.getElem?_map,List.getElem?_eq_getElem h]
 have gP:∀ i (h:i<ps.length),ps.getD i co0=ps[i]:=fun i h=>by simp[List.getD,List.getElem?_eq_getElem h]
 have HC:Hid (∀ i (h:i<ps.length) W,Below w.heap.size w W->∃ a n,a2G w pb (off+i*4) ps[i] (.slice a ps[i].parts.length n)/\Calls Tryz.prog 139 #[.pointer (some ⟨tb,0,none⟩),coV ps[i] (.slice a ps[i].parts.length n)] W fun e w'=>e=.returned (a2t (a0f E ps[i]))/\Below W.heap.size W w'):=fun i h W hW=>by
  obtain⟨u,f6,s6⟩:=hx i h
  obtain⟨a,n,rfl,-,-⟩:=s6.parts.shape
  exact⟨a,n,f6,H _ (List.getElem_mem h) _ tb b W (s6.next hW) (ht.next hW)⟩
 have HA:Hid (∀ o,Below w.heap.size w (w.alloc o)):=fun o=>(Below.refl _ _).alloc (Nat.le_refl _) _
 have HX:=a0a (Box.new w (coL ⟨k,tn,tm,ps⟩ (.slice (some ⟨pb,off,none⟩) ps.length cap)) 30)
 obtain⟨a0,n0,f0,-⟩:=HC.out 0 (by omega) w (Below.refl _ _)
 obtain⟨p0,p1,p2,p3⟩:=f0
 simp only[Nat.zero_mul,Nat.add_zero] at p0 p1 p2 p3
 obtain⟨L,hL⟩:∃ L,Hid (L=ps.length):=⟨_,rfl⟩
 have hl0:0<L:=by rw[hL.out];omega
 have hl0':(0:Int)<(L:Int):=by omega
 have h1:Hid (∀ W,Below w.heap.size w W->Calls Tryz.prog 139 #[.pointer (some ⟨tb,0,none⟩),coV ps[0] (.slice a0 ps[0].parts.length n0)] W fun e w'=>e=.returned (a2t (a0f E ps[0]))/\Below W.heap.size W w'):=fun W hW=>by
  obtain⟨a,n,f6,c6⟩:=HC.out 0 (by omega) W hW
  have e:=f6.c3
  simp only[Nat.zero_mul,Nat.add_zero] at e
  rw[p3] at e
  simp only[Option.some.injEq,Value.slice.injEq,true_and] at e
  obtain⟨rfl,rfl⟩:=e
  exact c6
 have hRe:Hid (Rv=a2t (if (a0f E ps[0]).2=0 then (ps.map (a0f E)).getD (a2g ps (a0f E ps[0]).1 ps.length ps.length 1) (0,0) else noR (a0f E ps[0]).2)):=by
  show _=_
  rw[hRv.out];unfold b4B;rw[gR 0 (by omega)]
 have HGR:=a0a gR
 have HGP:=a0a gP
 clear hs ht hx gR gP hRv
 generalize a0f E ps[0]=r0 at *
 generalize ps[0]=x0 at *
 show Calls _ _ #[_,coV ⟨k,tn,tm,ps⟩ (.slice (some ⟨pb,off,none⟩) ps.length cap)] _ _
 rw[<-hL.out] at HX k1 hRe h2 hev hmx ⊢
 obtain⟨n0',e0⟩:=r0
 dsimp only at hRe
 by_cases he:e0=0
 case neg=>
  have hR:Hid (Rv=Value.tuple #[.int .i64 0,.iface 132 (.agg #[.int .i64 e0])]):=by show _=_;rw[hRe.out,if_neg he];exact a0E _ he
  go_enter Tryz.func124,Tryz.ntmps124
  go_wp2_with fail
  refine Calls.mono (h1.out _ (HA.out _)) ?_
  rintro e w1 ⟨he1,b1⟩
  rw[a0E n0' he] at he1
  subst he1
  have HB:=a0a (a0b (HA.out _) b1 (by simp))
  clear b1 hRe h1 HX p0 p1 p2 p3
  go_wp2_with fail
  go_ret2
  exact⟨by rw[hR.out];rfl,HB.out⟩
 subst he
 have hRe2:Hid (Rv=a2t ((ps.map (a0f E)).getD (a2g ps n0' L L 1) (0,0))):=hRe.out
 clear hRe
 go_enter Tryz.func124,Tryz.ntmps124
 go_wp2_with fail
 refine Calls.mono (h1.out _ (HA.out _)) ?_
 rintro e w1 ⟨he1,b1⟩
 rw[a0J (n0',0) rfl] at he1
 subst he1
 have HB:=a0a (a0b (HA.out _) b1 (by simp))
 have X1:=HX.out.next b1
 have c3:=X1.cell 3 _ rfl
 have x1l:=X1.lt
 clear b1 HX X1 p0 p1 p2 p3 h1
 obtain⟨M,rfl⟩:∃ M,L=M+1:=⟨L-1,by omega⟩
 have lp1:=Nat.lt_of_lt_of_le lp HB.out.size
 go_wp2_with fail
 go_loopw [9] (fun x wr=>∃ (i f:Nat),x=.int .i64 (i:Nat)/\i<=M/\Hid (i%2=1)/\Hid (M+1<=i+2*f)/\Hid (a2g ps n0' (M+1) f i=a2g ps n0' (M+1) (M+1) 1)/\wr=w1) (fun x _=>match x with | .int _ p=>((M:Int)-p).toNat | _=>0)
 case atStart=>exact⟨1,M+1,rfl,by omega,a0a rfl,a0a (by omega),a0a rfl,rfl⟩
 case round=>
  obtain⟨i,f,rfl,hj,HO,HF,HJ,rfl⟩:=hrel
  by_cases hlt:i<M
  ·have hlt':(i:Int)<(M:Int):=by omega
   have hi1:i<ps.length:=by rw[<-hL.out];omega
   have hi2:i+1<ps.length:=by rw[<-hL.out];omega
   obtain⟨a5,n5,f5,-⟩:=HC.out i hi1 wr HB.out
   have q1:=(f5.keep (w':=wr) (fun j=>HB.out.cell (p:=⟨pb,j,none⟩) lp)).c1
   have gp:=HGP.out i hi1
   have hil:(i:Int)<(M:Int)+1:=by omega
   by_cases hv:n0'<ps[i].n
   ·have hJ2:a2g ps n0' (M+1) f i=i+1:=a4A (by omega) (by rw[gp];exact hv) (by have:=HF.out;omega)
    obtain⟨a6,n6,f6,c6⟩:=HC.out (i+1) hi2 wr HB.out
    obtain⟨p0,p1,p2,p3⟩:=f6.keep (w':=wr) (fun j=>HB.out.cell (p:=⟨pb,j,none⟩) lp)
    have hR:Hid (Rv=a2t (a0f E ps[i+1])):=by show _=_;rw[hRe2.out,<-HJ.out,hJ2,HGR.out (i+1) hi2]
    have HC6:=a0a c6
    have hil2:(i:Int)+1<(M:Int)+1:=by omega
    clear hRe2 HJ hJ2 gp f5 f6 c6 HC
    generalize a0f E ps[i+1]=r6 at *
    generalize ps[i+1]=x6 at *
    generalize ps[i].n=n7 at *
    go_wp2_with fail
    refine Calls.mono HC6.out ?_
    rintro e w2 ⟨rfl,b2⟩
    have HB2:=kb HB b2
    clear b2 p0 p1 p2 p3
    go_wp2_with fail
    go_ret2
    exact⟨by rw[hR.out];rfl,HB2.out⟩
   ·obtain⟨f',rfl⟩:∃ f',f=f'+1:=⟨f-1,by have:=HF.out;omega⟩
    have hJ2:Hid (a2g ps n0' (M+1) f' (i+2)=a2g ps n0' (M+1) (M+1) 1):=by
     show _=_
     rw[<-HJ.out,a6u (by omega) (by rw[gp];exact hv)]
    clear hRe2 HJ gp f5 HC
    generalize ps[i].n=n7 at *
    go_wp2_with fail
    go_roundw
    case rel=>exact⟨i+2,f',by go_num,by have:=HO.out;omega,a0a (by have:=HO.out;omega),a0a (by have:=HF.out;omega),hJ2.out,by first | rfl | trivial⟩
    case measure=>simp;omega
  ·have hlt':¬(i:Int)<(M:Int):=by omega
   obtain rfl:i=M:=by omega
   have hiM:i<ps.length:=by rw[<-hL.out];omega
   have hJ2:a2g ps n0' (i+1) f i=i:=a4B (by omega) (by have:=HF.out;omega)
   obtain⟨a6,n6,f6,c6⟩:=HC.out i hiM wr HB.out
   obtain⟨p0,p1,p2,p3⟩:=f6.keep (w':=wr) (fun j=>HB.out.cell (p:=⟨pb,j,none⟩) lp)
   have hR:Hid (Rv=a2t (a0f E ps[i])):=by show _=_;rw[hRe2.out,<-HJ.out,hJ2,HGR.out i hiM]
   have HC6:=a0a c6
   clear hRe2 HJ hJ2 f6 c6 HC
   generalize a0f E ps[i]=r6 at *
   generalize ps[i]=x6 at *
   go_wp2_with fail
   refine Calls.mono HC6.out ?_
   rintro e w2 ⟨rfl,b2⟩
   have HB2:=kb HB b2
   clear b2 p0 p1 p2 p3
   go_wp2_with fail
   go_ret2
   exact⟨by rw[hR.out];rfl,HB2.out⟩
def UnC (g:Nat)(P:Int->Prop)(F:Int->Int):Prop:=Ent g/\∀ (a:Int) (W:World),C64 a->P a->Calls Tryz.prog g #[.int .i64 a] W fun e w'=>e=.returned (.int .i64 (F a))/\Below W.heap.size W w'
def BiC (g:Nat)(F:Int->Int->Int):Prop:=Ent g/\∀ (a b:Int) (W:World),C64 a->C64 b->Calls Tryz.prog g #[.int .i64 a,.int .i64 b] W fun e w'=>e=.returned (.int .i64 (F a b))/\Below W.heap.size W w'
theorem a5C {a:Int}(h:C64 a):a<9223372036854775808:=by have:=h.2;omega
theorem b4u:UnC 95 (fun _=>True) (uF 8):=⟨fun _ _=>by kernel_rfl,fun a W h _=>b2e a h.1 (a5C h) W⟩
theorem b4v:UnC 97 (fun _=>True) (uF 10):=⟨fun _ _=>by kernel_rfl,fun a W h _=>b6W a h.1 (a5C h) W⟩
theorem a9X:UnC 98 (fun _=>True) (uF 11):=⟨fun _ _=>by kernel_rfl,fun a W h _=>a8O a h.1 (a5C h) W⟩
theorem a8n:UnC 99 (fun _=>True) (uF 12):=⟨fun _ _=>by kernel_rfl,fun a W h _=>b2g a h.1 (a5C h) W⟩
theorem b4t:UnC 96 (fun a=>a=0\/a=1) (uF 9):=⟨fun _ _=>by kernel_rfl,fun a W h hp=>by
 show Calls Tryz.prog 96 #[.int .i64 a] W fun e w'=>e=.returned (.int .i64 (1-a))/\Below W.heap.size W w'
 rcases hp with rfl | rfl
 ·go_enter Tryz.func96,Tryz.ntmps96
  go_wp2_with fail
  go_ret
  exact⟨rfl,Below.refl _ _⟩
 ·go_enter Tryz.func96,Tryz.ntmps96
  go_wp2_with fail
  go_ret
  exact⟨rfl,Below.refl _ _⟩⟩
theorem b4M:BiC 103 (bF 14):=⟨fun _ _=>by kernel_rfl,fun a b W ha hb=>b2k a b ha.1 (a5C ha) hb.1 (a5C hb) W⟩
theorem b4I:BiC 104 (bF 15):=⟨fun _ _=>by kernel_rfl,fun a b W ha hb=>b2d a b ha.1 (a5C ha) hb.1 (a5C hb) W⟩
theorem b4J:BiC 105 (bF 16):=⟨fun _ _=>by kernel_rfl,fun a b W ha hb=>b8e a b ha.1 (a5C ha) hb.1 (a5C hb) (a4X _ _ (by decide) (by decide)) W⟩
theorem b1T:BiC 107 (bF 18):=⟨fun _ _=>by kernel_rfl,fun a b W ha hb=>by
 show Calls Tryz.prog 107 #[.int .i64 a,.int .i64 b] W fun e w'=>e=.returned (.int .i64 (b2i (decide (a<b))))/\Below W.heap.size W w'
 clear ha hb
 have HC:=a0a (fun x W=>a2z x W)
 by_cases h:a<b
 ·rw[decide_eq_true h]
  skip
  go_enter Tryz.func107,Tryz.ntmps107
  go_wp2_with fail
  refine Calls.mono (HC.out _ _) ?_
  rintro e w1 ⟨rfl,rfl⟩
  go_wp2_with fail
  go_ret
  exact⟨rfl,Below.refl _ _⟩
 ·rw[decide_eq_false h]
  skip
  go_enter Tryz.func107,Tryz.ntmps107
  go_wp2_with fail
  refine Calls.mono (HC.out _ _) ?_
  rintro e w1 ⟨rfl,rfl⟩
  go_wp2_with fail
  go_ret
  exact⟨rfl,Below.refl _ _⟩⟩
theorem b4L:BiC 108 (bF 19):=⟨fun _ _=>by kernel_rfl,fun a b W ha hb=>by
 show Calls Tryz.prog 108 #[.int .i64 a,.int .i64 b] W fun e w'=>e=.returned (.int .i64 (b2i (decide (a<=b))))/\Below W.heap.size W w'
 clear ha hb
 have HC:=a0a (fun x W=>a2z x W)
 by_cases h:a<=b
 ·rw[decide_eq_true h]
  skip
  go_enter Tryz.func108,Tryz.ntmps108
  go_wp2_with fail
  refine Calls.mono (HC.out _ _) ?_
  rintro e w1 ⟨rfl,rfl⟩
  go_wp2_with fail
  go_ret
  exact⟨rfl,Below.refl _ _⟩
 ·rw[decide_eq_false h]
  skip
  go_enter Tryz.func108,Tryz.ntmps108
  go_wp2_with fail
  refine Calls.mono (HC.out _ _) ?_
  rintro e w1 ⟨rfl,rfl⟩
  go_wp2_with fail
  go_ret
  exact⟨rfl,Below.refl _ _⟩⟩
theorem b7X:BiC 109 (bF 20):=⟨fun _ _=>by kernel_rfl,fun a b W ha hb=>by
 show Calls Tryz.prog 109 #[.int .i64 a,.int .i64 b] W fun e w'=>e=.returned (.int .i64 (b2i (decide (a=b))))/\Below W.heap.size W w'
 clear ha hb
 have HC:=a0a (fun x W=>a2z x W)
 by_cases h:a=b
 ·rw[decide_eq_true h]
  subst h
  go_enter Tryz.func109,Tryz.ntmps109
  go_wp2_with fail
  refine Calls.mono (HC.out _ _) ?_
  rintro e w1 ⟨rfl,rfl⟩
  go_wp2_with fail
  go_ret
  exact⟨rfl,Below.refl _ _⟩
 ·rw[decide_eq_false h]
  have k:(a==b)=false:=by simpa using h
  go_enter Tryz.func109,Tryz.ntmps109
  go_wp2_with fail
  refine Calls.mono (HC.out _ _) ?_
  rintro e w1 ⟨rfl,rfl⟩
  go_wp2_with fail
  go_ret
  exact⟨rfl,Below.refl _ _⟩⟩
theorem b1S:BiC 110 (bF 21):=⟨fun _ _=>by kernel_rfl,fun a b W ha hb=>by
 show Calls Tryz.prog 110 #[.int .i64 a,.int .i64 b] W fun e w'=>e=.returned (.int .i64 (b2i (decide (b<a))))/\Below W.heap.size W w'
 clear ha hb
 have HC:=a0a (fun x W=>a2z x W)
 by_cases h:b<a
 ·rw[decide_eq_true h]
  skip
  go_enter Tryz.func110,Tryz.ntmps110
  go_wp2_with fail
  refine Calls.mono (HC.out _ _) ?_
  rintro e w1 ⟨rfl,rfl⟩
  go_wp2_with fail
  go_ret
  exact⟨rfl,Below.refl _ _⟩
 ·rw[decide_eq_false h]
  skip
  go_enter Tryz.func110,Tryz.ntmps110
  go_wp2_with fail
  refine Calls.mono (HC.out _ _) ?_
  rintro e w1 ⟨rfl,rfl⟩
  go_wp2_with fail
  go_ret
  exact⟨rfl,Below.refl _ _⟩⟩
theorem b4K:BiC 111 (bF 22):=⟨fun _ _=>by kernel_rfl,fun a b W ha hb=>by
 show Calls Tryz.prog 111 #[.int .i64 a,.int .i64 b] W fun e w'=>e=.returned (.int .i64 (b2i (decide (b<=a))))/\Below W.heap.size W w'
 clear ha hb
 have HC:=a0a (fun x W=>a2z x W)
 by_cases h:b<=a
 ·rw[decide_eq_true h]
  skip
  go_enter Tryz.func111,Tryz.ntmps111
  go_wp2_with fail
  refine Calls.mono (HC.out _ _) ?_
  rintro e w1 ⟨rfl,rfl⟩
  go_wp2_with fail
  go_ret
  exact⟨rfl,Below.refl _ _⟩
 ·rw[decide_eq_false h]
  skip
  go_enter Tryz.func111,Tryz.ntmps111
  go_wp2_with fail
  refine Calls.mono (HC.out _ _) ?_
  rintro e w1 ⟨rfl,rfl⟩
  go_wp2_with fail
  go_ret
  exact⟨rfl,Below.refl _ _⟩⟩
theorem a7v:BiC 112 (bF 23):=⟨fun _ _=>by kernel_rfl,fun a b W ha hb=>by
 show Calls Tryz.prog 112 #[.int .i64 a,.int .i64 b] W fun e w'=>e=.returned (.int .i64 (min a b))/\Below W.heap.size W w'
 clear ha hb
 rcases Int.lt_trichotomy a b with h | h | h
 ·rw[Int.min_eq_left (Int.le_of_lt h)]
  have h2:¬ b<a:=by omega
  have h3:¬ b<=a:=by omega
  go_enter Tryz.func112,Tryz.ntmps112
  go_wp2_with fail
  go_ret
  exact⟨rfl,Below.refl _ _⟩
 ·subst h
  rw[Int.min_eq_left (Int.le_refl a)]
  go_enter Tryz.func112,Tryz.ntmps112
  go_wp2_with fail
  go_ret
  exact⟨rfl,Below.refl _ _⟩
 ·rw[Int.min_eq_right (Int.le_of_lt h)]
  have h2:¬ a<b:=by omega
  have h3:¬ a<=b:=by omega
  go_enter Tryz.func112,Tryz.ntmps112
  go_wp2_with fail
  go_ret
  exact⟨rfl,Below.refl _ _⟩⟩
theorem a5S:BiC 113 (bF 24):=⟨fun _ _=>by kernel_rfl,fun a b W ha hb=>by
 show Calls Tryz.prog 113 #[.int .i64 a,.int .i64 b] W fun e w'=>e=.returned (.int .i64 (max a b))/\Below W.heap.size W w'
 clear ha hb
 rcases Int.lt_trichotomy a b with h | h | h
 ·rw[Int.max_eq_right (Int.le_of_lt h)]
  have h2:¬ b<a:=by omega
  have h3:¬ b<=a:=by omega
  go_enter Tryz.func113,Tryz.ntmps113
  go_wp2_with fail
  go_ret
  exact⟨rfl,Below.refl _ _⟩
 ·subst h
  rw[Int.max_eq_right (Int.le_refl a)]
  go_enter Tryz.func113,Tryz.ntmps113
  go_wp2_with fail
  go_ret
  exact⟨rfl,Below.refl _ _⟩
 ·rw[Int.max_eq_left (Int.le_of_lt h)]
  have h2:¬ a<b:=by omega
  have h3:¬ a<=b:=by omega
  go_enter Tryz.func113,Tryz.ntmps113
  go_wp2_with fail
  go_ret
  exact⟨rfl,Below.refl _ _⟩⟩
theorem a4U {E:a0C}{t:Co}(h:srt E t≠0):∃ k:Nat,t.op=(k:Int)/\1<=k/\k<=32/\a0v k E.wins.length E.crons.length 256 t=true/\(∀ x,x∈t.parts->srt E x≠0)/\srt E t=a0Z a0t k t (t.parts.map (srt E)):=by
 have e:=a0O a0t E.wins.length E.crons.length 256 t
 unfold srt at h ⊢
 by_cases h1:1<=t.op/\t.op<=32
 ·rw[if_pos h1] at e
  by_cases h2:a0v t.op.toNat E.wins.length E.crons.length 256 t=true
  ·rw[if_pos h2] at e
   by_cases h3:(t.parts.map (a0k a0t E.wins.length E.crons.length 256)).contains 0=true
   ·rw[if_pos h3] at e;exact absurd e h
   ·rw[if_neg h3] at e
    refine⟨t.op.toNat,by omega,by omega,by omega,h2,fun x hx hz=>h3 ?_,e⟩
    rw[List.contains_iff_mem,List.mem_map]
    exact⟨x,hx,hz⟩
  ·rw[if_neg h2] at e;exact absurd e h
 ·rw[if_neg h1] at e;exact absurd e h
theorem a0u {k:Nat}{c:Co}{ss:List Int}{r:Int}{ts:List Int}(hm:mkT.getD k none=some (r,ts))(h:a0Z a0t k c ss≠0):ss=ts/\a0Z a0t k c ss=r:=by
 unfold a0Z at h ⊢
 rw[hm] at h ⊢
 dsimp only[mkF] at h ⊢
 by_cases e:ss=ts
 ·exact⟨e,if_pos e⟩
 ·rw[if_neg e] at h;exact absurd rfl h
theorem b0O {E:a0C}{l:List Co}(h:l.map (srt E)=[]):l=[]:=by simpa using h
theorem a5i {E:a0C}{l:List Co}{a:Int}(h:l.map (srt E)=[a]):∃ x,l=[x]/\srt E x=a:=by
 match l,h with
 | [x],h=>exact⟨x,rfl,by simpa using h⟩
theorem a2I {E:a0C}{l:List Co}{a b:Int}(h:l.map (srt E)=[a,b]):∃ x y,l=[x,y]/\srt E x=a/\srt E y=b:=by
 match l,h with
 | [x,y],h=>exact⟨x,y,rfl,by simpa using h⟩
theorem b7G {l:List Co}(h:l.length=1):∃ x,l=[x]:=by
 match l,h with
 | [x],h=>exact⟨x,rfl⟩
theorem b8k {l:List Co}(h:l.length=2):∃ x y,l=[x,y]:=by
 match l,h with
 | [x,y],h=>exact⟨x,y,rfl⟩
theorem b9k {l:List Co}(h:l.length=3):∃ x y z,l=[x,y,z]:=by
 match l,h with
 | [x,y,z],h=>exact⟨x,y,z,rfl⟩
theorem a1V {k:Nat}{ss:List Int}(h:a0Q k ss≠0):ss.length=k/\ss.headD 0≠3/\(∀ x,x∈ss->x=ss.headD 0)/\a0Q k ss=ss.headD 0:=by
 by_cases e:ss.length=k/\ss.headD 0≠3/\∀ x,x∈ss->x=ss.headD 0
 ·exact⟨e.1,e.2.1,e.2.2,a5T e⟩
 ·exact absurd (a1H e) h
theorem a3W {ss:List Int}(h:a1t ss≠0):∃ a,ss=[2,a,a]/\a1t ss=a:=by
 unfold a1t at h ⊢
 by_cases e:ss.headD 0=2
 ·rw[if_pos e] at h ⊢
  obtain⟨h1,h2,h3,h4⟩:=a1V h
  match ss,e,h1,h3,h4 with
  | [x,a,b],e,h1,h3,h4=>
    have hb:b=a:=h3 b (by simp)
    have hx:x=2:=e
    subst hb hx
    exact⟨b,rfl,h4⟩
 ·rw[if_neg e] at h;exact absurd rfl h
def b4n (E:a0C)(t:Co):Prop:=C64 (a0f E t).1/\(srt E t=2->(a0f E t).1=0\/(a0f E t).1=1)
theorem a3R (n:Int):C64 (held n):=b0Y n
theorem b1Y (b:Bool):b2i b=0\/b2i b=1:=by cases b<;>simp[b2i]
theorem b7Y (b:Bool):C64 (b2i b):=by rcases b1Y b with h | h<;>rw[h]<;>(unfold C64;decide)
theorem a1X (f:Int->Int)(a:Rs):(a0z f a).1=f a.1\/(a0z f a).1=0:=by unfold a0z;split<;>simp
theorem a1m (f:Int->Int->Rs)(a b:Rs):(a0F f a b).1=(f a.1 b.1).1\/(a0F f a b).1=0:=by unfold a0F;split<;>(try split)<;>simp
theorem a0o:C64 0:=by unfold C64;decide
theorem b2q (k:Nat)(a:Int)(h:k=9->a=0\/a=1):C64 (uF k a):=by
 unfold uF
 split
 ·exact a3R _
 ·split
  ·next e=>rcases h e with h | h<;>rw[h]<;>(unfold C64;decide)
  ·split
   ·exact a3R _
   ·split<;>exact a3R _
theorem b1X (k:Nat)(a b:Int)(ha:C64 a)(hb:C64 b):C64 (bF k a b):=by
 have hm:C64 (min a b):=by rcases Int.le_total a b with h | h<;>simp[Int.min_eq_left,Int.min_eq_right,h,ha,hb]
 have hM:C64 (max a b):=by rcases Int.le_total a b with h | h<;>simp[Int.max_eq_left,Int.max_eq_right,h,ha,hb]
 unfold bF
 repeat' split
 all_goals first | exact a3R _ | exact b7Y _ | exact hm | exact hM
theorem a9K (k:Nat)(a b:Int)(h1:18<=k)(h2:k<=22):bF k a b=0\/bF k a b=1:=by
 unfold bF
 repeat' split
 all_goals first | exact b1Y _ | omega
theorem a6H (a:Int):C64 (a1p a):=by
 have h:=a3R (-((-a)/1000000)*1000000)
 unfold a1p
 generalize held (-((-a)/1000000)*1000000)=x at h
 obtain⟨h1,h2⟩:=h
 exact⟨by omega,by omega⟩
def GK (E:a0C)(k:Nat):Prop:=a6M E->∀ t:Co,t.op=(k:Int)->a6R t->a0v k E.wins.length E.crons.length 256 t=true->(∀ x,x∈t.parts->b4n E x)->a0Z a0t k t (t.parts.map (srt E))≠0->srt E t=a0Z a0t k t (t.parts.map (srt E))->b4n E t
theorem a0W {E:a0C}{t:Co}{r:Int}(h:srt E t=r)(hr:r≠2)(hc:C64 (a0f E t).1):b4n E t:=⟨hc,fun e=>absurd (h.symm.trans e) hr⟩
theorem a0X {E:a0C}{t:Co}(h:(a0f E t).1=0\/(a0f E t).1=1):b4n E t:=⟨by rcases h with h | h<;>rw[h]<;>(unfold C64;decide),fun _=>h⟩
theorem a4S {E:a0C}{t x:Co}(hs:srt E t=srt E x)(hx:b4n E x)(h:(a0f E t).1=(a0f E x).1\/(a0f E t).1=0):b4n E t:=by
 rcases h with h | h
 ·exact⟨by rw[h];exact hx.1,fun e=>by rw[h];exact hx.2 (hs.symm.trans e)⟩
 ·exact a0X (.inl h)
theorem c0n (E:a0C):GK E 1:=by
 intro hE t hop hf hb hg hz hs
 obtain⟨op,n,m,ps⟩:=t
 obtain rfl:op=1:=hop
 dsimp only at *
 obtain⟨e1,e2⟩:=a0u (k:=1) (r:=1) (ts:=[]) rfl hz
 obtain rfl:=b0O e1
 have e:a0f E ⟨1,n,m,[]⟩=okR n:=by rw[a0i];rfl
 exact a0W (hs.trans e2) (by decide) (by rw[e];exact hf.n)
theorem c0m (E:a0C):GK E 2:=by
 intro hE t hop hf hb hg hz hs
 obtain⟨op,n,m,ps⟩:=t
 obtain rfl:op=2:=hop
 dsimp only at *
 obtain⟨e1,e2⟩:=a0u (k:=2) (r:=2) (ts:=[]) rfl hz
 obtain rfl:=b0O e1
 have e:a0f E ⟨2,n,m,[]⟩=okR n:=by rw[a0i];rfl
 have hb':(a0B n 2&&decide (m=0))=true:=hb
 simp only[a0B,Bool.and_eq_true,decide_eq_true_eq] at hb'
 exact a0X (by rw[e];show n=0\/n=1;omega)
theorem c0l (E:a0C):GK E 3:=by
 intro hE t hop hf hb hg hz hs
 obtain⟨op,n,m,ps⟩:=t
 obtain rfl:op=3:=hop
 dsimp only at *
 obtain⟨e1,e2⟩:=a0u (k:=3) (r:=1) (ts:=[]) rfl hz
 obtain rfl:=b0O e1
 have e:a0f E ⟨3,n,m,[]⟩=okR (held (E.rep*1000000)):=by rw[a0i];rfl
 exact a0W (hs.trans e2) (by decide) (by rw[e];exact a3R _)
theorem c0k (E:a0C):GK E 4:=by
 intro hE t hop hf hb hg hz hs
 obtain⟨op,n,m,ps⟩:=t
 obtain rfl:op=4:=hop
 dsimp only at *
 obtain⟨e1,e2⟩:=a0u (k:=4) (r:=1) (ts:=[]) rfl hz
 obtain rfl:=b0O e1
 have e:a0f E ⟨4,n,m,[]⟩=if (E.wins.getD n.toNat (0,0)).1=0 then okR (E.wins.getD n.toNat (0,0)).2 else noR (E.wins.getD n.toNat (0,0)).1:=by rw[a0i];rfl
 refine a0W (hs.trans e2) (by decide) ?_
 rw[e]
 split
 ·exact(hE.wins _).2
 ·exact a0o
theorem c0j (E:a0C):GK E 5:=by
 intro hE t hop hf hb hg hz hs
 obtain⟨op,n,m,ps⟩:=t
 obtain rfl:op=5:=hop
 dsimp only at *
 obtain⟨e1,e2⟩:=a0u (k:=5) (r:=2) (ts:=[]) rfl hz
 obtain rfl:=b0O e1
 have e:a0f E ⟨5,n,m,[]⟩=okR (b2i (E.crons.getD n.toNat false)):=by rw[a0i];rfl
 exact a0X (by rw[e];exact b1Y _)
theorem c0i (E:a0C):GK E 6:=by
 intro hE t hop hf hb hg hz hs
 obtain⟨op,n,m,ps⟩:=t
 obtain rfl:op=6:=hop
 dsimp only at *
 have e:a0f E ⟨6,n,m,ps⟩=noR n:=by rw[a0i];rfl
 exact a0X (by rw[e];exact .inl rfl)
theorem c0h (E:a0C):GK E 7:=by
 intro hE t hop hf hb hg hz hs
 obtain⟨op,n,m,ps⟩:=t
 obtain rfl:op=7:=hop
 dsimp only at *
 have hz':a0Q 1 (ps.map (srt E))≠0:=hz
 obtain⟨h1,h2,h3,h4⟩:=a1V hz'
 obtain⟨x,rfl⟩:=b7G (by simpa using h1)
 have e:a0f E ⟨7,n,m,[x]⟩=a0f E x:=by rw[a0i];rfl
 exact a4S (hs.trans h4) (hg x (by simp)) (by rw[e];exact .inl rfl)
theorem c0g (E:a0C):GK E 8:=by
 intro hE t hop hf hb hg hz hs
 obtain⟨op,n,m,ps⟩:=t
 obtain rfl:op=8:=hop
 dsimp only at *
 obtain⟨e1,e2⟩:=a0u (k:=8) (r:=1) (ts:=[1]) rfl hz
 obtain⟨x,rfl,q0⟩:=a5i e1
 have g0:=hg x (by simp)
 have e:a0f E ⟨8,n,m,[x]⟩=a0z (uF 8) (a0f E x):=by rw[a0i];rfl
 refine a0W (hs.trans e2) (by decide) ?_
 rw[e]
 rcases a1X (uF 8) (a0f E x) with h | h<;>rw[h]
 ·exact b2q 8 _ (fun h=>absurd h (by decide))
 ·exact a0o
theorem b9I (E:a0C):GK E 10:=by
 intro hE t hop hf hb hg hz hs
 obtain⟨op,n,m,ps⟩:=t
 obtain rfl:op=10:=hop
 dsimp only at *
 obtain⟨e1,e2⟩:=a0u (k:=10) (r:=1) (ts:=[1]) rfl hz
 obtain⟨x,rfl,q0⟩:=a5i e1
 have g0:=hg x (by simp)
 have e:a0f E ⟨10,n,m,[x]⟩=a0z (uF 10) (a0f E x):=by rw[a0i];rfl
 refine a0W (hs.trans e2) (by decide) ?_
 rw[e]
 rcases a1X (uF 10) (a0f E x) with h | h<;>rw[h]
 ·exact b2q 10 _ (fun h=>absurd h (by decide))
 ·exact a0o
theorem b9H (E:a0C):GK E 11:=by
 intro hE t hop hf hb hg hz hs
 obtain⟨op,n,m,ps⟩:=t
 obtain rfl:op=11:=hop
 dsimp only at *
 obtain⟨e1,e2⟩:=a0u (k:=11) (r:=1) (ts:=[1]) rfl hz
 obtain⟨x,rfl,q0⟩:=a5i e1
 have g0:=hg x (by simp)
 have e:a0f E ⟨11,n,m,[x]⟩=a0z (uF 11) (a0f E x):=by rw[a0i];rfl
 refine a0W (hs.trans e2) (by decide) ?_
 rw[e]
 rcases a1X (uF 11) (a0f E x) with h | h<;>rw[h]
 ·exact b2q 11 _ (fun h=>absurd h (by decide))
 ·exact a0o
theorem b9G (E:a0C):GK E 12:=by
 intro hE t hop hf hb hg hz hs
 obtain⟨op,n,m,ps⟩:=t
 obtain rfl:op=12:=hop
 dsimp only at *
 obtain⟨e1,e2⟩:=a0u (k:=12) (r:=1) (ts:=[1]) rfl hz
 obtain⟨x,rfl,q0⟩:=a5i e1
 have g0:=hg x (by simp)
 have e:a0f E ⟨12,n,m,[x]⟩=a0z (uF 12) (a0f E x):=by rw[a0i];rfl
 refine a0W (hs.trans e2) (by decide) ?_
 rw[e]
 rcases a1X (uF 12) (a0f E x) with h | h<;>rw[h]
 ·exact b2q 12 _ (fun h=>absurd h (by decide))
 ·exact a0o
theorem c0f (E:a0C):GK E 9:=by
 intro hE t hop hf hb hg hz hs
 obtain⟨op,n,m,ps⟩:=t
 obtain rfl:op=9:=hop
 dsimp only at *
 obtain⟨e1,e2⟩:=a0u (k:=9) (r:=2) (ts:=[2]) rfl hz
 obtain⟨x,rfl,q0⟩:=a5i e1
 have g0:=hg x (by simp)
 have e:a0f E ⟨9,n,m,[x]⟩=a0z (uF 9) (a0f E x):=by rw[a0i];rfl
 refine a0X ?_
 rw[e]
 rcases a1X (uF 9) (a0f E x) with h | h<;>rw[h]
 ·show 1-(a0f E x).1=0\/1-(a0f E x).1=1
  rcases g0.2 q0 with h | h<;>rw[h]<;>decide
 ·exact .inl rfl
theorem b9F (E:a0C):GK E 13:=by
 intro hE t hop hf hb hg hz hs
 obtain⟨op,n,m,ps⟩:=t
 obtain rfl:op=13:=hop
 dsimp only at *
 obtain⟨e1,e2⟩:=a0u (k:=13) (r:=1) (ts:=[1]) rfl hz
 obtain⟨x,rfl,q0⟩:=a5i e1
 have g0:=hg x (by simp)
 have e:a0f E ⟨13,n,m,[x]⟩=a0z (fun a=>held (a*n/m)) (a0f E x):=by rw[a0i];rfl
 refine a0W (hs.trans e2) (by decide) ?_
 rw[e]
 rcases a1X (fun a=>held (a*n/m)) (a0f E x) with h | h<;>rw[h]
 ·exact a3R _
 ·exact a0o
theorem b9E (E:a0C):GK E 14:=by
 intro hE t hop hf hb hg hz hs
 obtain⟨op,n,m,ps⟩:=t
 obtain rfl:op=14:=hop
 dsimp only at *
 obtain⟨e1,e2⟩:=a0u (k:=14) (r:=1) (ts:=[1,1]) rfl hz
 obtain⟨x,y,rfl,q0,q1⟩:=a2I e1
 have g0:=hg x (by simp)
 have g1:=hg y (by simp)
 have e:a0f E ⟨14,n,m,[x,y]⟩=a0F (fun a b=>okR (bF 14 a b)) (a0f E x) (a0f E y):=by rw[a0i];rfl
 refine a0W (hs.trans e2) (by decide) ?_
 rw[e]
 rcases a1m (fun a b=>okR (bF 14 a b)) (a0f E x) (a0f E y) with h | h<;>rw[h]
 ·exact b1X 14 _ _ g0.1 g1.1
 ·exact a0o
theorem b9D (E:a0C):GK E 15:=by
 intro hE t hop hf hb hg hz hs
 obtain⟨op,n,m,ps⟩:=t
 obtain rfl:op=15:=hop
 dsimp only at *
 obtain⟨e1,e2⟩:=a0u (k:=15) (r:=1) (ts:=[1,1]) rfl hz
 obtain⟨x,y,rfl,q0,q1⟩:=a2I e1
 have g0:=hg x (by simp)
 have g1:=hg y (by simp)
 have e:a0f E ⟨15,n,m,[x,y]⟩=a0F (fun a b=>okR (bF 15 a b)) (a0f E x) (a0f E y):=by rw[a0i];rfl
 refine a0W (hs.trans e2) (by decide) ?_
 rw[e]
 rcases a1m (fun a b=>okR (bF 15 a b)) (a0f E x) (a0f E y) with h | h<;>rw[h]
 ·exact b1X 15 _ _ g0.1 g1.1
 ·exact a0o
theorem b9C (E:a0C):GK E 16:=by
 intro hE t hop hf hb hg hz hs
 obtain⟨op,n,m,ps⟩:=t
 obtain rfl:op=16:=hop
 dsimp only at *
 obtain⟨e1,e2⟩:=a0u (k:=16) (r:=1) (ts:=[1,1]) rfl hz
 obtain⟨x,y,rfl,q0,q1⟩:=a2I e1
 have g0:=hg x (by simp)
 have g1:=hg y (by simp)
 have e:a0f E ⟨16,n,m,[x,y]⟩=a0F (fun a b=>okR (bF 16 a b)) (a0f E x) (a0f E y):=by rw[a0i];rfl
 refine a0W (hs.trans e2) (by decide) ?_
 rw[e]
 rcases a1m (fun a b=>okR (bF 16 a b)) (a0f E x) (a0f E y) with h | h<;>rw[h]
 ·exact b1X 16 _ _ g0.1 g1.1
 ·exact a0o
theorem b9v (E:a0C):GK E 23:=by
 intro hE t hop hf hb hg hz hs
 obtain⟨op,n,m,ps⟩:=t
 obtain rfl:op=23:=hop
 dsimp only at *
 obtain⟨e1,e2⟩:=a0u (k:=23) (r:=1) (ts:=[1,1]) rfl hz
 obtain⟨x,y,rfl,q0,q1⟩:=a2I e1
 have g0:=hg x (by simp)
 have g1:=hg y (by simp)
 have e:a0f E ⟨23,n,m,[x,y]⟩=a0F (fun a b=>okR (bF 23 a b)) (a0f E x) (a0f E y):=by rw[a0i];rfl
 refine a0W (hs.trans e2) (by decide) ?_
 rw[e]
 rcases a1m (fun a b=>okR (bF 23 a b)) (a0f E x) (a0f E y) with h | h<;>rw[h]
 ·exact b1X 23 _ _ g0.1 g1.1
 ·exact a0o
theorem b9u (E:a0C):GK E 24:=by
 intro hE t hop hf hb hg hz hs
 obtain⟨op,n,m,ps⟩:=t
 obtain rfl:op=24:=hop
 dsimp only at *
 obtain⟨e1,e2⟩:=a0u (k:=24) (r:=1) (ts:=[1,1]) rfl hz
 obtain⟨x,y,rfl,q0,q1⟩:=a2I e1
 have g0:=hg x (by simp)
 have g1:=hg y (by simp)
 have e:a0f E ⟨24,n,m,[x,y]⟩=a0F (fun a b=>okR (bF 24 a b)) (a0f E x) (a0f E y):=by rw[a0i];rfl
 refine a0W (hs.trans e2) (by decide) ?_
 rw[e]
 rcases a1m (fun a b=>okR (bF 24 a b)) (a0f E x) (a0f E y) with h | h<;>rw[h]
 ·exact b1X 24 _ _ g0.1 g1.1
 ·exact a0o
theorem b9B (E:a0C):GK E 17:=by
 intro hE t hop hf hb hg hz hs
 obtain⟨op,n,m,ps⟩:=t
 obtain rfl:op=17:=hop
 dsimp only at *
 obtain⟨e1,e2⟩:=a0u (k:=17) (r:=1) (ts:=[1,1]) rfl hz
 obtain⟨x,y,rfl,q0,q1⟩:=a2I e1
 have g0:=hg x (by simp)
 have g1:=hg y (by simp)
 have e:a0f E ⟨17,n,m,[x,y]⟩=a0F a8z (a0f E x) (a0f E y):=by rw[a0i];rfl
 refine a0W (hs.trans e2) (by decide) ?_
 rw[e]
 rcases a1m a8z (a0f E x) (a0f E y) with h | h<;>rw[h]
 ·unfold a8z
  split
  ·exact a0o
  ·exact a3R _
 ·exact a0o
theorem b9A (E:a0C):GK E 18:=by
 intro hE t hop hf hb hg hz hs
 obtain⟨op,n,m,ps⟩:=t
 obtain rfl:op=18:=hop
 dsimp only at *
 obtain⟨e1,e2⟩:=a0u (k:=18) (r:=2) (ts:=[1,1]) rfl hz
 obtain⟨x,y,rfl,q0,q1⟩:=a2I e1
 have g0:=hg x (by simp)
 have g1:=hg y (by simp)
 have e:a0f E ⟨18,n,m,[x,y]⟩=a0F (fun a b=>okR (bF 18 a b)) (a0f E x) (a0f E y):=by rw[a0i];rfl
 refine a0X ?_
 rw[e]
 rcases a1m (fun a b=>okR (bF 18 a b)) (a0f E x) (a0f E y) with h | h<;>rw[h]
 ·exact a9K 18 _ _ (by decide) (by decide)
 ·exact .inl rfl
theorem b9z (E:a0C):GK E 19:=by
 intro hE t hop hf hb hg hz hs
 obtain⟨op,n,m,ps⟩:=t
 obtain rfl:op=19:=hop
 dsimp only at *
 obtain⟨e1,e2⟩:=a0u (k:=19) (r:=2) (ts:=[1,1]) rfl hz
 obtain⟨x,y,rfl,q0,q1⟩:=a2I e1
 have g0:=hg x (by simp)
 have g1:=hg y (by simp)
 have e:a0f E ⟨19,n,m,[x,y]⟩=a0F (fun a b=>okR (bF 19 a b)) (a0f E x) (a0f E y):=by rw[a0i];rfl
 refine a0X ?_
 rw[e]
 rcases a1m (fun a b=>okR (bF 19 a b)) (a0f E x) (a0f E y) with h | h<;>rw[h]
 ·exact a9K 19 _ _ (by decide) (by decide)
 ·exact .inl rfl
theorem b9y (E:a0C):GK E 20:=by
 intro hE t hop hf hb hg hz hs
 obtain⟨op,n,m,ps⟩:=t
 obtain rfl:op=20:=hop
 dsimp only at *
 obtain⟨e1,e2⟩:=a0u (k:=20) (r:=2) (ts:=[1,1]) rfl hz
 obtain⟨x,y,rfl,q0,q1⟩:=a2I e1
 have g0:=hg x (by simp)
 have g1:=hg y (by simp)
 have e:a0f E ⟨20,n,m,[x,y]⟩=a0F (fun a b=>okR (bF 20 a b)) (a0f E x) (a0f E y):=by rw[a0i];rfl
 refine a0X ?_
 rw[e]
 rcases a1m (fun a b=>okR (bF 20 a b)) (a0f E x) (a0f E y) with h | h<;>rw[h]
 ·exact a9K 20 _ _ (by decide) (by decide)
 ·exact .inl rfl
theorem b9x (E:a0C):GK E 21:=by
 intro hE t hop hf hb hg hz hs
 obtain⟨op,n,m,ps⟩:=t
 obtain rfl:op=21:=hop
 dsimp only at *
 obtain⟨e1,e2⟩:=a0u (k:=21) (r:=2) (ts:=[1,1]) rfl hz
 obtain⟨x,y,rfl,q0,q1⟩:=a2I e1
 have g0:=hg x (by simp)
 have g1:=hg y (by simp)
 have e:a0f E ⟨21,n,m,[x,y]⟩=a0F (fun a b=>okR (bF 21 a b)) (a0f E x) (a0f E y):=by rw[a0i];rfl
 refine a0X ?_
 rw[e]
 rcases a1m (fun a b=>okR (bF 21 a b)) (a0f E x) (a0f E y) with h | h<;>rw[h]
 ·exact a9K 21 _ _ (by decide) (by decide)
 ·exact .inl rfl
theorem b9w (E:a0C):GK E 22:=by
 intro hE t hop hf hb hg hz hs
 obtain⟨op,n,m,ps⟩:=t
 obtain rfl:op=22:=hop
 dsimp only at *
 obtain⟨e1,e2⟩:=a0u (k:=22) (r:=2) (ts:=[1,1]) rfl hz
 obtain⟨x,y,rfl,q0,q1⟩:=a2I e1
 have g0:=hg x (by simp)
 have g1:=hg y (by simp)
 have e:a0f E ⟨22,n,m,[x,y]⟩=a0F (fun a b=>okR (bF 22 a b)) (a0f E x) (a0f E y):=by rw[a0i];rfl
 refine a0X ?_
 rw[e]
 rcases a1m (fun a b=>okR (bF 22 a b)) (a0f E x) (a0f E y) with h | h<;>rw[h]
 ·exact a9K 22 _ _ (by decide) (by decide)
 ·exact .inl rfl
theorem b9t (E:a0C):GK E 25:=by
 intro hE t hop hf hb hg hz hs
 obtain⟨op,n,m,ps⟩:=t
 obtain rfl:op=25:=hop
 dsimp only at *
 obtain⟨e1,e2⟩:=a0u (k:=25) (r:=2) (ts:=[2,2]) rfl hz
 obtain⟨x,y,rfl,q0,q1⟩:=a2I e1
 have g0:=hg x (by simp)
 have g1:=hg y (by simp)
 have e:a0f E ⟨25,n,m,[x,y]⟩=if (a0f E x).2=0/\(a0f E x).1≠0 then a0f E y else noR (a0f E x).2:=by rw[a0i];rfl
 refine a0X ?_
 rw[e]
 split
 ·exact g1.2 q1
 ·exact .inl rfl
theorem b9s (E:a0C):GK E 26:=by
 intro hE t hop hf hb hg hz hs
 obtain⟨op,n,m,ps⟩:=t
 obtain rfl:op=26:=hop
 dsimp only at *
 obtain⟨e1,e2⟩:=a0u (k:=26) (r:=2) (ts:=[2,2]) rfl hz
 obtain⟨x,y,rfl,q0,q1⟩:=a2I e1
 have g0:=hg x (by simp)
 have g1:=hg y (by simp)
 have e:a0f E ⟨26,n,m,[x,y]⟩=if (a0f E x).2=0/\(a0f E x).1≠1 then a0f E y else a0f E x:=by rw[a0i];rfl
 refine a0X ?_
 rw[e]
 split
 ·exact g1.2 q1
 ·exact g0.2 q0
theorem b9r (E:a0C):GK E 27:=by
 intro hE t hop hf hb hg hz hs
 obtain⟨op,n,m,ps⟩:=t
 obtain rfl:op=27:=hop
 dsimp only at *
 have hz':a0Q 2 (ps.map (srt E))≠0:=hz
 obtain⟨h1,h2,h3,h4⟩:=a1V hz'
 obtain⟨x,y,rfl⟩:=b8k (by simpa using h1)
 have hy:srt E y=srt E x:=h3 (srt E y) (by simp)
 have e:a0f E ⟨27,n,m,[x,y]⟩=if (a0f E x).2=0 then a0f E x else a0f E y:=by rw[a0i];rfl
 by_cases h:(a0f E x).2=0
 ·rw[if_pos h] at e
  exact a4S (hs.trans h4) (hg x (by simp)) (by rw[e];exact .inl rfl)
 ·rw[if_neg h] at e
  exact a4S ((hs.trans h4).trans hy.symm) (hg y (by simp)) (by rw[e];exact .inl rfl)
theorem b9q (E:a0C):GK E 28:=by
 intro hE t hop hf hb hg hz hs
 obtain⟨op,n,m,ps⟩:=t
 obtain rfl:op=28:=hop
 dsimp only at *
 have hz':a1t (ps.map (srt E))≠0:=hz
 obtain⟨a,h1,h4⟩:=a3W hz'
 obtain⟨x,y,z,rfl⟩:=b9k (by have:=congrArg List.length h1;simpa using this)
 simp only[List.map_cons,List.map_nil,List.cons.injEq,and_true] at h1
 obtain⟨hx,hy,hz2⟩:=h1
 have e:a0f E ⟨28,n,m,[x,y,z]⟩=if (a0f E x).2=0 then (if (a0f E x).1=1 then a0f E y else a0f E z) else noR (a0f E x).2:=by rw[a0i];rfl
 by_cases h:(a0f E x).2=0
 ·rw[if_pos h] at e
  by_cases h':(a0f E x).1=1
  ·rw[if_pos h'] at e
   exact a4S ((hs.trans h4).trans hy.symm) (hg y (by simp)) (by rw[e];exact .inl rfl)
  ·rw[if_neg h'] at e
   exact a4S ((hs.trans h4).trans hz2.symm) (hg z (by simp)) (by rw[e];exact .inl rfl)
 ·rw[if_neg h] at e
  exact a0X (by rw[e];exact .inl rfl)
theorem b9p (E:a0C):GK E 29:=by
 intro hE t hop hf hb hg hz hs
 obtain⟨op,n,m,ps⟩:=t
 obtain rfl:op=29:=hop
 dsimp only at *
 have e:a0f E ⟨29,n,m,ps⟩=noR 4:=by rw[a0i];rfl
 exact a0X (by rw[e];exact .inl rfl)
theorem b9o (E:a0C):GK E 30:=by
 intro hE t hop hf hb hg hz hs
 obtain⟨op,n,m,ps⟩:=t
 obtain rfl:op=30:=hop
 dsimp only at *
 obtain⟨e1,e2⟩:=a0u (k:=30) (r:=3) (ts:=[1]) rfl hz
 obtain⟨x,rfl,q0⟩:=a5i e1
 have g0:=hg x (by simp)
 have e:a0f E ⟨30,n,m,[x]⟩=a0z a1p (a0f E x):=by rw[a0i];rfl
 refine a0W (hs.trans e2) (by decide) ?_
 rw[e]
 rcases a1X a1p (a0f E x) with h | h<;>rw[h]
 ·exact a6H _
 ·exact a0o
theorem b9n (E:a0C):GK E 31:=by
 intro hE t hop hf hb hg hz hs
 obtain⟨op,n,m,ps⟩:=t
 obtain rfl:op=31:=hop
 dsimp only at *
 obtain⟨e1,e2⟩:=a0u (k:=31) (r:=3) (ts:=[1]) rfl hz
 obtain⟨x,rfl,q0⟩:=a5i e1
 have g0:=hg x (by simp)
 have e:a0f E ⟨31,n,m,[x]⟩=a0z (fun a=>held (E.rep+a1p a)) (a0f E x):=by rw[a0i];rfl
 refine a0W (hs.trans e2) (by decide) ?_
 rw[e]
 rcases a1X (fun a=>held (E.rep+a1p a)) (a0f E x) with h | h<;>rw[h]
 ·exact a3R _
 ·exact a0o
theorem b9m (E:a0C):GK E 32:=by
 intro hE t hop hf hb hg hz hs
 obtain⟨op,n,m,ps⟩:=t
 obtain rfl:op=32:=hop
 dsimp only at *
 have e:a0f E ⟨32,n,m,ps⟩=b4B ps (ps.map (a0f E)):=by rw[a0i];rfl
 have hl:srt E ⟨32,n,m,ps⟩=3\/srt E ⟨32,n,m,ps⟩=0:=by
  rw[hs]
  show a0t _ _=3\/a0t _ _=0
  unfold a0t
  split
  ·exact .inl rfl
  ·exact .inr rfl
 refine a0W (r:=3) (hl.resolve_right (fun h=>hz (hs.symm.trans h))) (by decide) ?_
 rw[e]
 unfold b4B
 split
 ·generalize a2g _ _ _ _ _=i
  by_cases h:i<ps.length
  ·rw[show (ps.map (a0f E)).getD i (0,0)=a0f E ps[i] from by simp[List.getD,List.getElem?_map,List.getElem?_eq_getElem h]]
   exact(hg _ (List.getElem_mem h)).1
  ·rw[show (ps.map (a0f E)).getD i (0,0)=(0,0) from by simp[List.getD,List.getElem?_map,List.getElem?_eq_none (Nat.not_lt.1 h)]]
   exact a0o
 ·exact a0o
theorem b7L (E:a0C):∀ k,1<=k->k<=32->GK E k:=a2p (c0n E) (c0m E) (c0l E) (c0k E) (c0j E) (c0i E) (c0h E) (c0g E) (c0f E) (b9I E) (b9H E) (b9G E) (b9F E) (b9E E) (b9D E) (b9C E) (b9B E) (b9A E) (b9z E) (b9y E) (b9x E) (b9w E) (b9v E) (b9u E) (b9t E) (b9s E) (b9r E) (b9q E) (b9p E) (b9o E) (b9n E) (b9m E)
def b4l (t:Co):Prop:=∃ w v,a0m w t v
theorem b4l.parts {t x:Co}(h:b4l t)(hx:x∈t.parts):b4l x:=by
 obtain⟨w,v,hs⟩:=h
 obtain⟨b,off,cap,-,-,-,-,hp⟩:=hs.parts.open (List.length_pos_of_mem hx)
 obtain⟨i,hi,rfl⟩:=List.getElem_of_mem hx
 obtain⟨u,-,hu⟩:=hp i hi
 exact⟨w,u,hu⟩
theorem b4l.fit {t:Co}(h:b4l t):a6R t:=by
 obtain⟨w,v,hs⟩:=h
 exact hs.fit
theorem a6w (E:a0C)(hE:a6M E)(t:Co):b4l t->srt E t≠0->b4n E t:=by
 induction t using Co.ind with
 | h t ih=>
   intro hl hz
   obtain⟨k,hop,h1,h2,hb,hp,hs⟩:=a4U hz
   exact b7L E k h1 h2 hE t hop hl.fit hb (fun x hx=>ih x hx (hl.parts hx) (hp x hx)) (by rw[<-hs];exact hz) hs
def c0x (E:a0C)(x:Co):Prop:=TeC E x/\b4n E x
def PK (E:a0C)(k:Nat):Prop:=a6M E->∀ t:Co,t.op=(k:Int)->a0q t<=8192->a0v k E.wins.length E.crons.length 256 t=true->(∀ x,x∈t.parts->c0x E x)->a0Z a0t k t (t.parts.map (srt E))≠0->a6R t->WkC E k t
theorem c0e (E:a0C):PK E 1:=by
 intro hE t hop hn hb hg hz hf
 obtain⟨op,n,m,ps⟩:=t
 obtain rfl:op=1:=hop
 dsimp only at *
 exact b4s E _ 1 (.inl rfl) rfl
theorem c0d (E:a0C):PK E 2:=by
 intro hE t hop hn hb hg hz hf
 obtain⟨op,n,m,ps⟩:=t
 obtain rfl:op=2:=hop
 dsimp only at *
 exact b4s E _ 2 (.inr rfl) rfl
theorem c0c (E:a0C):PK E 3:=by
 intro hE t hop hn hb hg hz hf
 obtain⟨op,n,m,ps⟩:=t
 obtain rfl:op=3:=hop
 dsimp only at *
 exact b7d E _ rfl
theorem c0b (E:a0C):PK E 4:=by
 intro hE t hop hn hb hg hz hf
 obtain⟨op,n,m,ps⟩:=t
 obtain rfl:op=4:=hop
 dsimp only at *
 have hb':(a0B n E.wins.length&&decide (m=0))=true:=hb
 simp only[a0B,Bool.and_eq_true,decide_eq_true_eq] at hb'
 exact b7c E _ rfl hb'.1.1 hb'.1.2
theorem c0a (E:a0C):PK E 5:=by
 intro hE t hop hn hb hg hz hf
 obtain⟨op,n,m,ps⟩:=t
 obtain rfl:op=5:=hop
 dsimp only at *
 have hb':(a0B n E.crons.length&&decide (m=0))=true:=hb
 simp only[a0B,Bool.and_eq_true,decide_eq_true_eq] at hb'
 exact b4X E _ rfl hb'.1.1 hb'.1.2
theorem b9Z (E:a0C):PK E 6:=by
 intro hE t hop hn hb hg hz hf
 obtain⟨op,n,m,ps⟩:=t
 obtain rfl:op=6:=hop
 dsimp only at *
 have hb':(decide (1<=n)&&(decide (n<=3)&&(decide (m=1)||decide (m=2))))=true:=hb
 simp only[Bool.and_eq_true,decide_eq_true_eq] at hb'
 exact b4W E _ rfl (by show n≠0;omega)
theorem b9Y (E:a0C):PK E 7:=by
 intro hE t hop hn hb hg hz hf
 obtain⟨op,n,m,ps⟩:=t
 obtain rfl:op=7:=hop
 dsimp only at *
 have hz':a0Q 1 (ps.map (srt E))≠0:=hz
 obtain⟨h1,-,-,-⟩:=a1V hz'
 obtain⟨x,rfl⟩:=b7G (by simpa using h1)
 exact b4U E n m x (hg x (by simp)).1
theorem b9X (E:a0C):PK E 8:=by
 intro hE t hop hn hb hg hz hf
 obtain⟨op,n,m,ps⟩:=t
 obtain rfl:op=8:=hop
 dsimp only at *
 obtain⟨e1,-⟩:=a0u (k:=8) (r:=1) (ts:=[1]) rfl hz
 obtain⟨x,rfl,q0⟩:=a5i e1
 obtain⟨H0,g0⟩:=hg x (by simp)
 intro v tb b w f q hs ht hw
 obtain⟨p,e,hp⟩:=hw
 cases e
 have hT:a0f E ⟨8,n,m,[x]⟩=a0z (uF 8) (a0f E x):=by rw[a0i];rfl
 rw[hT]
 exact b0D E 8 n m x 95 p (uF 8) b4u.1 H0 (fun W=>b4u.2 _ W g0.1 trivial) v tb b w hs ht hp
theorem b9W (E:a0C):PK E 9:=by
 intro hE t hop hn hb hg hz hf
 obtain⟨op,n,m,ps⟩:=t
 obtain rfl:op=9:=hop
 dsimp only at *
 obtain⟨e1,-⟩:=a0u (k:=9) (r:=2) (ts:=[2]) rfl hz
 obtain⟨x,rfl,q0⟩:=a5i e1
 obtain⟨H0,g0⟩:=hg x (by simp)
 intro v tb b w f q hs ht hw
 obtain⟨p,e,hp⟩:=hw
 cases e
 have hT:a0f E ⟨9,n,m,[x]⟩=a0z (uF 9) (a0f E x):=by rw[a0i];rfl
 rw[hT]
 exact b0D E 9 n m x 96 p (uF 9) b4t.1 H0 (fun W=>b4t.2 _ W g0.1 (g0.2 q0)) v tb b w hs ht hp
theorem b9f (E:a0C):PK E 10:=by
 intro hE t hop hn hb hg hz hf
 obtain⟨op,n,m,ps⟩:=t
 obtain rfl:op=10:=hop
 dsimp only at *
 obtain⟨e1,-⟩:=a0u (k:=10) (r:=1) (ts:=[1]) rfl hz
 obtain⟨x,rfl,q0⟩:=a5i e1
 obtain⟨H0,g0⟩:=hg x (by simp)
 intro v tb b w f q hs ht hw
 obtain⟨p,e,hp⟩:=hw
 cases e
 have hT:a0f E ⟨10,n,m,[x]⟩=a0z (uF 10) (a0f E x):=by rw[a0i];rfl
 rw[hT]
 exact b0D E 10 n m x 97 p (uF 10) b4v.1 H0 (fun W=>b4v.2 _ W g0.1 trivial) v tb b w hs ht hp
theorem b9e (E:a0C):PK E 11:=by
 intro hE t hop hn hb hg hz hf
 obtain⟨op,n,m,ps⟩:=t
 obtain rfl:op=11:=hop
 dsimp only at *
 obtain⟨e1,-⟩:=a0u (k:=11) (r:=1) (ts:=[1]) rfl hz
 obtain⟨x,rfl,q0⟩:=a5i e1
 obtain⟨H0,g0⟩:=hg x (by simp)
 intro v tb b w f q hs ht hw
 obtain⟨p,e,hp⟩:=hw
 cases e
 have hT:a0f E ⟨11,n,m,[x]⟩=a0z (uF 11) (a0f E x):=by rw[a0i];rfl
 rw[hT]
 exact b0D E 11 n m x 98 p (uF 11) a9X.1 H0 (fun W=>a9X.2 _ W g0.1 trivial) v tb b w hs ht hp
theorem b9d (E:a0C):PK E 12:=by
 intro hE t hop hn hb hg hz hf
 obtain⟨op,n,m,ps⟩:=t
 obtain rfl:op=12:=hop
 dsimp only at *
 obtain⟨e1,-⟩:=a0u (k:=12) (r:=1) (ts:=[1]) rfl hz
 obtain⟨x,rfl,q0⟩:=a5i e1
 obtain⟨H0,g0⟩:=hg x (by simp)
 intro v tb b w f q hs ht hw
 obtain⟨p,e,hp⟩:=hw
 cases e
 have hT:a0f E ⟨12,n,m,[x]⟩=a0z (uF 12) (a0f E x):=by rw[a0i];rfl
 rw[hT]
 exact b0D E 12 n m x 99 p (uF 12) a8n.1 H0 (fun W=>a8n.2 _ W g0.1 trivial) v tb b w hs ht hp
theorem b9c (E:a0C):PK E 13:=by
 intro hE t hop hn hb hg hz hf
 obtain⟨op,n,m,ps⟩:=t
 obtain rfl:op=13:=hop
 dsimp only at *
 obtain⟨e1,-⟩:=a0u (k:=13) (r:=1) (ts:=[1]) rfl hz
 obtain⟨x,rfl,q0⟩:=a5i e1
 obtain⟨H0,g0⟩:=hg x (by simp)
 have hb':(decide (0<=n)&&decide (1<=m))=true:=hb
 simp only[Bool.and_eq_true,decide_eq_true_eq] at hb'
 exact b2p E n m x H0 (fun W=>b4h _ n m g0.1.1 (a5C g0.1) hb'.1 (a5C hf.n) hb'.2 (a5C hf.m) (a4X _ _ (by omega) (by have:=a5C hf.m;dsimp only at this;omega)) W)
theorem b9b (E:a0C):PK E 14:=by
 intro hE t hop hn hb hg hz hf
 obtain⟨op,n,m,ps⟩:=t
 obtain rfl:op=14:=hop
 dsimp only at *
 obtain⟨e1,-⟩:=a0u (k:=14) (r:=1) (ts:=[1,1]) rfl hz
 obtain⟨x,y,rfl,q0,q1⟩:=a2I e1
 obtain⟨H0,g0⟩:=hg x (by simp)
 obtain⟨H1,g1⟩:=hg y (by simp)
 intro v tb b w f q hs ht hw
 obtain⟨p,e,hp⟩:=hw
 cases e
 have hT:a0f E ⟨14,n,m,[x,y]⟩=a0F (fun a b=>okR (bF 14 a b)) (a0f E x) (a0f E y):=by rw[a0i];rfl
 rw[hT]
 exact a5j E 14 n m x y 103 p (bF 14) b4M.1 H0 H1 (fun W=>b4M.2 _ _ W g0.1 g1.1) v tb b w hs ht hp
theorem b9a (E:a0C):PK E 15:=by
 intro hE t hop hn hb hg hz hf
 obtain⟨op,n,m,ps⟩:=t
 obtain rfl:op=15:=hop
 dsimp only at *
 obtain⟨e1,-⟩:=a0u (k:=15) (r:=1) (ts:=[1,1]) rfl hz
 obtain⟨x,y,rfl,q0,q1⟩:=a2I e1
 obtain⟨H0,g0⟩:=hg x (by simp)
 obtain⟨H1,g1⟩:=hg y (by simp)
 intro v tb b w f q hs ht hw
 obtain⟨p,e,hp⟩:=hw
 cases e
 have hT:a0f E ⟨15,n,m,[x,y]⟩=a0F (fun a b=>okR (bF 15 a b)) (a0f E x) (a0f E y):=by rw[a0i];rfl
 rw[hT]
 exact a5j E 15 n m x y 104 p (bF 15) b4I.1 H0 H1 (fun W=>b4I.2 _ _ W g0.1 g1.1) v tb b w hs ht hp
theorem b8Z (E:a0C):PK E 16:=by
 intro hE t hop hn hb hg hz hf
 obtain⟨op,n,m,ps⟩:=t
 obtain rfl:op=16:=hop
 dsimp only at *
 obtain⟨e1,-⟩:=a0u (k:=16) (r:=1) (ts:=[1,1]) rfl hz
 obtain⟨x,y,rfl,q0,q1⟩:=a2I e1
 obtain⟨H0,g0⟩:=hg x (by simp)
 obtain⟨H1,g1⟩:=hg y (by simp)
 intro v tb b w f q hs ht hw
 obtain⟨p,e,hp⟩:=hw
 cases e
 have hT:a0f E ⟨16,n,m,[x,y]⟩=a0F (fun a b=>okR (bF 16 a b)) (a0f E x) (a0f E y):=by rw[a0i];rfl
 rw[hT]
 exact a5j E 16 n m x y 105 p (bF 16) b4J.1 H0 H1 (fun W=>b4J.2 _ _ W g0.1 g1.1) v tb b w hs ht hp
theorem b8Y (E:a0C):PK E 17:=by
 intro hE t hop hn hb hg hz hf
 obtain⟨op,n,m,ps⟩:=t
 obtain rfl:op=17:=hop
 dsimp only at *
 obtain⟨e1,-⟩:=a0u (k:=17) (r:=1) (ts:=[1,1]) rfl hz
 obtain⟨x,y,rfl,q0,q1⟩:=a2I e1
 obtain⟨H0,g0⟩:=hg x (by simp)
 obtain⟨H1,g1⟩:=hg y (by simp)
 intro v tb b w f q hs ht hw
 cases hw
 have hT:a0f E ⟨17,n,m,[x,y]⟩=a0F a8z (a0f E x) (a0f E y):=by rw[a0i];rfl
 rw[hT]
 refine b9L E 17 n m x y H0 H1 (fun W=>?_) v tb b w hs ht
 by_cases h:(a0f E y).1=0
 ·rw[if_pos h,decide_eq_false (fun k=>k h),h]
  exact b4p _ W
 ·rw[if_neg h,decide_eq_true h]
  exact b8g _ _ g0.1.1 (a5C g0.1) g1.1.1 (a5C g1.1) h (a4X _ _ (by omega) (by have:=g1.1.1;have:=g1.1.2;omega)) W
theorem b8X (E:a0C):PK E 18:=by
 intro hE t hop hn hb hg hz hf
 obtain⟨op,n,m,ps⟩:=t
 obtain rfl:op=18:=hop
 dsimp only at *
 obtain⟨e1,-⟩:=a0u (k:=18) (r:=2) (ts:=[1,1]) rfl hz
 obtain⟨x,y,rfl,q0,q1⟩:=a2I e1
 obtain⟨H0,g0⟩:=hg x (by simp)
 obtain⟨H1,g1⟩:=hg y (by simp)
 intro v tb b w f q hs ht hw
 obtain⟨p,e,hp⟩:=hw
 cases e
 have hT:a0f E ⟨18,n,m,[x,y]⟩=a0F (fun a b=>okR (bF 18 a b)) (a0f E x) (a0f E y):=by rw[a0i];rfl
 rw[hT]
 exact a5j E 18 n m x y 107 p (bF 18) b1T.1 H0 H1 (fun W=>b1T.2 _ _ W g0.1 g1.1) v tb b w hs ht hp
theorem b8W (E:a0C):PK E 19:=by
 intro hE t hop hn hb hg hz hf
 obtain⟨op,n,m,ps⟩:=t
 obtain rfl:op=19:=hop
 dsimp only at *
 obtain⟨e1,-⟩:=a0u (k:=19) (r:=2) (ts:=[1,1]) rfl hz
 obtain⟨x,y,rfl,q0,q1⟩:=a2I e1
 obtain⟨H0,g0⟩:=hg x (by simp)
 obtain⟨H1,g1⟩:=hg y (by simp)
 intro v tb b w f q hs ht hw
 obtain⟨p,e,hp⟩:=hw
 cases e
 have hT:a0f E ⟨19,n,m,[x,y]⟩=a0F (fun a b=>okR (bF 19 a b)) (a0f E x) (a0f E y):=by rw[a0i];rfl
 rw[hT]
 exact a5j E 19 n m x y 108 p (bF 19) b4L.1 H0 H1 (fun W=>b4L.2 _ _ W g0.1 g1.1) v tb b w hs ht hp
theorem b8V (E:a0C):PK E 20:=by
 intro hE t hop hn hb hg hz hf
 obtain⟨op,n,m,ps⟩:=t
 obtain rfl:op=20:=hop
 dsimp only at *
 obtain⟨e1,-⟩:=a0u (k:=20) (r:=2) (ts:=[1,1]) rfl hz
 obtain⟨x,y,rfl,q0,q1⟩:=a2I e1
 obtain⟨H0,g0⟩:=hg x (by simp)
 obtain⟨H1,g1⟩:=hg y (by simp)
 intro v tb b w f q hs ht hw
 obtain⟨p,e,hp⟩:=hw
 cases e
 have hT:a0f E ⟨20,n,m,[x,y]⟩=a0F (fun a b=>okR (bF 20 a b)) (a0f E x) (a0f E y):=by rw[a0i];rfl
 rw[hT]
 exact a5j E 20 n m x y 109 p (bF 20) b7X.1 H0 H1 (fun W=>b7X.2 _ _ W g0.1 g1.1) v tb b w hs ht hp
theorem b8U (E:a0C):PK E 21:=by
 intro hE t hop hn hb hg hz hf
 obtain⟨op,n,m,ps⟩:=t
 obtain rfl:op=21:=hop
 dsimp only at *
 obtain⟨e1,-⟩:=a0u (k:=21) (r:=2) (ts:=[1,1]) rfl hz
 obtain⟨x,y,rfl,q0,q1⟩:=a2I e1
 obtain⟨H0,g0⟩:=hg x (by simp)
 obtain⟨H1,g1⟩:=hg y (by simp)
 intro v tb b w f q hs ht hw
 obtain⟨p,e,hp⟩:=hw
 cases e
 have hT:a0f E ⟨21,n,m,[x,y]⟩=a0F (fun a b=>okR (bF 21 a b)) (a0f E x) (a0f E y):=by rw[a0i];rfl
 rw[hT]
 exact a5j E 21 n m x y 110 p (bF 21) b1S.1 H0 H1 (fun W=>b1S.2 _ _ W g0.1 g1.1) v tb b w hs ht hp
theorem b8T (E:a0C):PK E 22:=by
 intro hE t hop hn hb hg hz hf
 obtain⟨op,n,m,ps⟩:=t
 obtain rfl:op=22:=hop
 dsimp only at *
 obtain⟨e1,-⟩:=a0u (k:=22) (r:=2) (ts:=[1,1]) rfl hz
 obtain⟨x,y,rfl,q0,q1⟩:=a2I e1
 obtain⟨H0,g0⟩:=hg x (by simp)
 obtain⟨H1,g1⟩:=hg y (by simp)
 intro v tb b w f q hs ht hw
 obtain⟨p,e,hp⟩:=hw
 cases e
 have hT:a0f E ⟨22,n,m,[x,y]⟩=a0F (fun a b=>okR (bF 22 a b)) (a0f E x) (a0f E y):=by rw[a0i];rfl
 rw[hT]
 exact a5j E 22 n m x y 111 p (bF 22) b4K.1 H0 H1 (fun W=>b4K.2 _ _ W g0.1 g1.1) v tb b w hs ht hp
theorem b8S (E:a0C):PK E 23:=by
 intro hE t hop hn hb hg hz hf
 obtain⟨op,n,m,ps⟩:=t
 obtain rfl:op=23:=hop
 dsimp only at *
 obtain⟨e1,-⟩:=a0u (k:=23) (r:=1) (ts:=[1,1]) rfl hz
 obtain⟨x,y,rfl,q0,q1⟩:=a2I e1
 obtain⟨H0,g0⟩:=hg x (by simp)
 obtain⟨H1,g1⟩:=hg y (by simp)
 intro v tb b w f q hs ht hw
 obtain⟨p,e,hp⟩:=hw
 cases e
 have hT:a0f E ⟨23,n,m,[x,y]⟩=a0F (fun a b=>okR (bF 23 a b)) (a0f E x) (a0f E y):=by rw[a0i];rfl
 rw[hT]
 exact a5j E 23 n m x y 112 p (bF 23) a7v.1 H0 H1 (fun W=>a7v.2 _ _ W g0.1 g1.1) v tb b w hs ht hp
theorem b8R (E:a0C):PK E 24:=by
 intro hE t hop hn hb hg hz hf
 obtain⟨op,n,m,ps⟩:=t
 obtain rfl:op=24:=hop
 dsimp only at *
 obtain⟨e1,-⟩:=a0u (k:=24) (r:=1) (ts:=[1,1]) rfl hz
 obtain⟨x,y,rfl,q0,q1⟩:=a2I e1
 obtain⟨H0,g0⟩:=hg x (by simp)
 obtain⟨H1,g1⟩:=hg y (by simp)
 intro v tb b w f q hs ht hw
 obtain⟨p,e,hp⟩:=hw
 cases e
 have hT:a0f E ⟨24,n,m,[x,y]⟩=a0F (fun a b=>okR (bF 24 a b)) (a0f E x) (a0f E y):=by rw[a0i];rfl
 rw[hT]
 exact a5j E 24 n m x y 113 p (bF 24) a5S.1 H0 H1 (fun W=>a5S.2 _ _ W g0.1 g1.1) v tb b w hs ht hp
theorem b8Q (E:a0C):PK E 25:=by
 intro hE t hop hn hb hg hz hf
 obtain⟨op,n,m,ps⟩:=t
 obtain rfl:op=25:=hop
 dsimp only at *
 obtain⟨e1,-⟩:=a0u (k:=25) (r:=2) (ts:=[2,2]) rfl hz
 obtain⟨x,y,rfl,q0,q1⟩:=a2I e1
 obtain⟨H0,g0⟩:=hg x (by simp)
 obtain⟨H1,g1⟩:=hg y (by simp)
 exact b7e E n m x y H0 H1
theorem b8P (E:a0C):PK E 26:=by
 intro hE t hop hn hb hg hz hf
 obtain⟨op,n,m,ps⟩:=t
 obtain rfl:op=26:=hop
 dsimp only at *
 obtain⟨e1,-⟩:=a0u (k:=26) (r:=2) (ts:=[2,2]) rfl hz
 obtain⟨x,y,rfl,q0,q1⟩:=a2I e1
 obtain⟨H0,g0⟩:=hg x (by simp)
 obtain⟨H1,g1⟩:=hg y (by simp)
 exact b8w E n m x y H0 H1
theorem b8O (E:a0C):PK E 27:=by
 intro hE t hop hn hb hg hz hf
 obtain⟨op,n,m,ps⟩:=t
 obtain rfl:op=27:=hop
 dsimp only at *
 have hz':a0Q 2 (ps.map (srt E))≠0:=hz
 obtain⟨h1,-,-,-⟩:=a1V hz'
 obtain⟨x,y,rfl⟩:=b8k (by simpa using h1)
 exact a9T E n m x y (hg x (by simp)).1 (hg y (by simp)).1
theorem b8N (E:a0C):PK E 28:=by
 intro hE t hop hn hb hg hz hf
 obtain⟨op,n,m,ps⟩:=t
 obtain rfl:op=28:=hop
 dsimp only at *
 have hz':a1t (ps.map (srt E))≠0:=hz
 obtain⟨a,h1,-⟩:=a3W hz'
 obtain⟨x,y,z,rfl⟩:=b9k (by have:=congrArg List.length h1;simpa using this)
 exact a9U E n m x y z (hg x (by simp)).1 (hg y (by simp)).1 (hg z (by simp)).1
theorem b8M (E:a0C):PK E 29:=by
 intro hE t hop hn hb hg hz hf
 obtain⟨op,n,m,ps⟩:=t
 obtain rfl:op=29:=hop
 dsimp only at *
 exact b4V E _ rfl
theorem b8L (E:a0C):PK E 30:=by
 intro hE t hop hn hb hg hz hf
 obtain⟨op,n,m,ps⟩:=t
 obtain rfl:op=30:=hop
 dsimp only at *
 obtain⟨e1,-⟩:=a0u (k:=30) (r:=3) (ts:=[1]) rfl hz
 obtain⟨x,rfl,q0⟩:=a5i e1
 obtain⟨H0,g0⟩:=hg x (by simp)
 exact b8v E n m x H0 (fun W=>a7y _ g0.1.1 (a5C g0.1) W)
theorem b8K (E:a0C):PK E 31:=by
 intro hE t hop hn hb hg hz hf
 obtain⟨op,n,m,ps⟩:=t
 obtain rfl:op=31:=hop
 dsimp only at *
 obtain⟨e1,-⟩:=a0u (k:=31) (r:=3) (ts:=[1]) rfl hz
 obtain⟨x,rfl,q0⟩:=a5i e1
 obtain⟨H0,g0⟩:=hg x (by simp)
 exact b8x E n m x H0 (fun W=>a7y _ g0.1.1 (a5C g0.1) W) (fun W=>b2k _ _ hE.rep.1 (a5C hE.rep) (a6H _).1 (a5C (a6H _)) W)
theorem b8J (E:a0C):PK E 32:=by
 intro hE t hop hn hb hg hz hf
 obtain⟨op,n,m,ps⟩:=t
 obtain rfl:op=32:=hop
 dsimp only at *
 have hz':a0t ⟨32,n,m,ps⟩ (ps.map (srt E))≠0:=hz
 have hl:a4w ⟨32,n,m,ps⟩ (ps.map (srt E)):=(a3Q _ _).1 (by
  unfold a0t at hz'
  split at hz'
  ·assumption
  ·exact absurd rfl hz')
 have hlen:ps.length<=8192:=by
  have h1:=a1w ps
  rw[a1a] at hn
  have h2:1+a0D ps<=8192:=hn
  omega
 intro v tb b w f q hs ht hw
 cases hw
 have hT:a0f E ⟨32,n,m,ps⟩=b4B ps (ps.map (a0f E)):=by rw[a0i];rfl
 rw[hT]
 exact b3m E 32 n m ps (by have:=hl.1;simpa using this) (by have:=hl.2.1;simpa using this) hlen (fun x hx=>(hg x hx).1) v tb b w hs ht
theorem b7A (E:a0C):∀ k,1<=k->k<=32->PK E k:=a2p (c0e E) (c0d E) (c0c E) (c0b E) (c0a E) (b9Z E) (b9Y E) (b9X E) (b9W E) (b9f E) (b9e E) (b9d E) (b9c E) (b9b E) (b9a E) (b8Z E) (b8Y E) (b8X E) (b8W E) (b8V E) (b8U E) (b8T E) (b8S E) (b8R E) (b8Q E) (b8P E) (b8O E) (b8N E) (b8M E) (b8L E) (b8K E) (b8J E)
theorem b2s (E:a0C)(hE:a6M E)(t:Co):b4l t->a0q t<=8192->srt E t≠0->TeC E t:=by
 induction t using Co.ind with
 | h t ih=>
   intro hl hn hz
   obtain⟨k,hop,h1,h2,hb,hp,hs⟩:=a4U hz
   refine a9B E t k h1 h2 hop (b7A E k h1 h2 hE t hop hn hb (fun x hx=>⟨ih x hx (hl.parts hx) ?_ (hp x hx),a6w E hE x (hl.parts hx) (hp x hx)⟩) (by rw[<-hs];exact hz) hl.fit)
   have:=a0P hx
   omega
end Go.Proofs.YtkbmgloilckdhaaGreatDoor
