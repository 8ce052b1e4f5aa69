import Derived.Test.YtdgjjnpdbdmdkaaGreatDoorMhC
namespace Go.Proofs.YtdgjjnpdbdmdkaaGreatDoor
open Go.RowKit
set_option maxHeartbeats 1000000 in
set_option maxRecDepth 20000 in
theorem a5r (E:a0y)(k tn tm:Int)(x0 x1:Co)(g p:Nat)(F:Int->Int->Int)(hE:Ent g)(H0:TeC E x0)(H1:TeC E x1)(HS:∀ W:World,Calls Tryz.prog g #[.int .i64 (a0e E x0).1,.int .i64 (a0e E x1).1] W fun e w'=>e=.returned (.int .i64 (F (a0e E x0).1 (a0e E x1).1))/\Below W.heap.size W w')(v:Value)(tb b:Nat)(w:World)(hs:a0l w ⟨k,tn,tm,[x0,x1]⟩ v)(ht:a7C w tb b E)(hp:FnF w p (.func (.func g) #[] #[])):
 Calls Tryz.prog 173 #[.pointer (some ⟨tb,0,none⟩),coV ⟨k,tn,tm,[x0,x1]⟩ v,.pointer (some ⟨p,0,none⟩)] w fun e w'=>e=.returned (a2t (a0A (fun a b=>okR (F a b)) (a0e E x0) (a0e E x1)))/\Below w.heap.size w w':=by
 obtain⟨Rv,hRv⟩:∃ Rv,Hid (Rv=a2t (a0A (fun a b=>okR (F a b)) (a0e E x0) (a0e E x1))):=⟨_,rfl⟩
 rw[<-hRv.out]
 have HC:=a0a (fun W (hW:Below w.heap.size w W)=>b4J E k tn tm x0 x1 H0 H1 v tb b W (hs.next hW) (ht.next hW))
 obtain⟨pb,off,cap,u0,u1,rfl,-,-,-,-,-⟩:=a5H hs.parts
 have HA:Hid (∀ o,Below w.heap.size w (w.alloc o)):=fun o=>(Below.refl _ _).alloc (Nat.le_refl _) _
 have HSs:=a0a HS
 clear hs ht HS H0 H1
 generalize a0e E x0=r0 at *
 generalize a0e E x1=r1 at *
 obtain⟨n0',e0⟩:=r0
 obtain⟨n1',e1⟩:=r1
 dsimp only at HSs
 by_cases he:e0=0
 case neg=>
  have hR:Hid (Rv=Value.tuple #[.int .i64 0,.iface 155 (.agg #[.int .i64 e0])]):=by show _=_;rw[hRv.out];unfold a0A;rw[if_neg he];exact a0G _ he
  have ep:a3n (n0',e0) (n1',e1)=.tuple #[.int .i64 0,.int .i64 0,.iface 155 (.agg #[.int .i64 e0])]:=by unfold a3n;rw[if_neg he,a3s he]
  simp only[ep] at HC
  clear hRv ep
  go_enter Tryz.func173,Tryz.ntmps173
  go_wp2_with fail
  refine Calls.mono (HC.out _ (HA.out _)) ?_
  rintro e w1 ⟨rfl,b1⟩
  have HB:=a0a (a0b (HA.out _) b1 (by simp))
  clear b1 HC
  go_wp2_with fail
  go_ret2
  exact⟨by rw[hR.out];rfl,HB.out⟩
 subst he
 by_cases he:e1=0
 case neg=>
  have hR:Hid (Rv=Value.tuple #[.int .i64 0,.iface 155 (.agg #[.int .i64 e1])]):=by show _=_;rw[hRv.out];unfold a0A;rw[if_pos rfl,if_neg he];exact a0G _ he
  have ep:a3n (n0',0) (n1',e1)=.tuple #[.int .i64 n0',.int .i64 n1',.iface 155 (.agg #[.int .i64 e1])]:=by unfold a3n;rw[if_pos rfl,a3s he]
  simp only[ep] at HC
  clear hRv ep
  go_enter Tryz.func173,Tryz.ntmps173
  go_wp2_with fail
  refine Calls.mono (HC.out _ (HA.out _)) ?_
  rintro e w1 ⟨rfl,b1⟩
  have HB:=a0a (a0b (HA.out _) b1 (by simp))
  clear b1 HC
  go_wp2_with fail
  go_ret2
  exact⟨by rw[hR.out];rfl,HB.out⟩
 subst he
 have ep:a3n (n0',0) (n1',0)=.tuple #[.int .i64 n0',.int .i64 n1',.nilIface]:=by unfold a3n;rw[if_pos rfl,a5P]
 simp only[ep] at HC
 clear ep
 have hR:Hid (Rv=Value.tuple #[.int .i64 (F n0' n1'),.nilIface]):=by show _=_;rw[hRv.out];unfold a0A;rw[if_pos rfl,if_pos rfl];exact a0K _ rfl
 have HP:=a0a hp
 unfold Ent at hE
 clear hRv hp
 go_enter Tryz.func173,Tryz.ntmps173
 go_wp2_with fail
 refine Calls.mono (HC.out _ (HA.out _)) ?_
 rintro e w1 ⟨rfl,b1⟩
 have HB:=a0a (a0b (HA.out _) b1 (by simp))
 clear b1 HC
 obtain⟨lp2,fp2⟩:=HP.out.next HB.out
 go_wp2_with fail
 refine Calls.mono (HSs.out _) ?_
 rintro e w3 ⟨rfl,b3⟩
 have HB3:=kb HB b3
 clear b3 HSs
 go_wp2_with fail
 go_ret2
 exact⟨by rw[hR.out];rfl,HB3.out⟩
set_option maxHeartbeats 1000000 in
set_option maxRecDepth 20000 in
theorem b9l (E:a0y)(k tn tm:Int)(x0 x1:Co)(H0:TeC E x0)(H1:TeC E x1)(HS:∀ W:World,Calls Tryz.prog 181 #[.int .i64 (a0e E x0).1,.int .i64 (a0e E x1).1] W fun e w'=>e=.returned (.tuple #[.int .i64 (if (a0e E x1).1=0 then 0 else held (fl ((a0e E x0).1*1000000) (a0e E x1).1)),.bool (decide ((a0e E x1).1≠0))])/\Below W.heap.size W w')(v:Value)(tb b:Nat)(w:World)(hs:a0l w ⟨k,tn,tm,[x0,x1]⟩ v)(ht:a7C w tb b E):
 Calls Tryz.prog 130 #[.pointer (some ⟨tb,0,none⟩),coV ⟨k,tn,tm,[x0,x1]⟩ v] w fun e w'=>e=.returned (a2t (a0A a8f (a0e E x0) (a0e E x1)))/\Below w.heap.size w w':=by
 obtain⟨Rv,hRv⟩:∃ Rv,Hid (Rv=a2t (a0A a8f (a0e E x0) (a0e E x1))):=⟨_,rfl⟩
 rw[<-hRv.out]
 have HC:=a0a (fun W (hW:Below w.heap.size w W)=>b4J E k tn tm x0 x1 H0 H1 v tb b W (hs.next hW) (ht.next hW))
 obtain⟨pb,off,cap,u0,u1,rfl,-,-,-,-,-⟩:=a5H hs.parts
 have HA:Hid (∀ o,Below w.heap.size w (w.alloc o)):=fun o=>(Below.refl _ _).alloc (Nat.le_refl _) _
 have HSs:=a0a HS
 clear hs ht HS H0 H1
 generalize a0e E x0=r0 at *
 generalize a0e E x1=r1 at *
 obtain⟨n0',e0⟩:=r0
 obtain⟨n1',e1⟩:=r1
 dsimp only at HSs
 by_cases he:e0=0
 case neg=>
  have hR:Hid (Rv=Value.tuple #[.int .i64 0,.iface 155 (.agg #[.int .i64 e0])]):=by show _=_;rw[hRv.out];unfold a0A;rw[if_neg he];exact a0G _ he
  have ep:a3n (n0',e0) (n1',e1)=.tuple #[.int .i64 0,.int .i64 0,.iface 155 (.agg #[.int .i64 e0])]:=by unfold a3n;rw[if_neg he,a3s he]
  simp only[ep] at HC
  clear hRv ep
  go_enter Tryz.func130,Tryz.ntmps130
  go_wp2_with fail
  refine Calls.mono (HC.out _ (HA.out _)) ?_
  rintro e w1 ⟨rfl,b1⟩
  have HB:=a0a (a0b (HA.out _) b1 (by simp))
  clear b1 HC
  go_wp2_with fail
  go_ret2
  exact⟨by rw[hR.out];rfl,HB.out⟩
 subst he
 by_cases he:e1=0
 case neg=>
  have hR:Hid (Rv=Value.tuple #[.int .i64 0,.iface 155 (.agg #[.int .i64 e1])]):=by show _=_;rw[hRv.out];unfold a0A;rw[if_pos rfl,if_neg he];exact a0G _ he
  have ep:a3n (n0',0) (n1',e1)=.tuple #[.int .i64 n0',.int .i64 n1',.iface 155 (.agg #[.int .i64 e1])]:=by unfold a3n;rw[if_pos rfl,a3s he]
  simp only[ep] at HC
  clear hRv ep
  go_enter Tryz.func130,Tryz.ntmps130
  go_wp2_with fail
  refine Calls.mono (HC.out _ (HA.out _)) ?_
  rintro e w1 ⟨rfl,b1⟩
  have HB:=a0a (a0b (HA.out _) b1 (by simp))
  clear b1 HC
  go_wp2_with fail
  go_ret2
  exact⟨by rw[hR.out];rfl,HB.out⟩
 subst he
 have ep:a3n (n0',0) (n1',0)=.tuple #[.int .i64 n0',.int .i64 n1',.nilIface]:=by unfold a3n;rw[if_pos rfl,a5P]
 simp only[ep] at HC
 clear ep
 by_cases hz:n1'=0
 ·have hR:Hid (Rv=Value.tuple #[.int .i64 0,.iface 155 (.agg #[.int .i64 2])]):=by show _=_;rw[hRv.out];unfold a0A;rw[if_pos rfl,if_pos rfl];unfold a8f;rw[if_pos hz];exact a0G _ (by decide)
  have d:decide (n1'≠0)=false:=decide_eq_false (fun h=>h hz)
  rw[if_pos hz,d] at HSs
  clear hRv d
  subst hz
  go_enter Tryz.func130,Tryz.ntmps130
  go_wp2_with fail
  refine Calls.mono (HC.out _ (HA.out _)) ?_
  rintro e w1 ⟨rfl,b1⟩
  have HB:=a0a (a0b (HA.out _) b1 (by simp))
  clear b1 HC
  go_wp2_with fail
  refine Calls.mono (HSs.out _) ?_
  rintro e w3 ⟨rfl,b3⟩
  have HB3:=kb HB b3
  clear b3 HSs
  go_wp2_with fail
  go_ret2
  exact⟨by rw[hR.out];rfl,HB3.out⟩
 ·have hR:Hid (Rv=Value.tuple #[.int .i64 (held (fl (n0'*1000000) n1')),.nilIface]):=by show _=_;rw[hRv.out];unfold a0A;rw[if_pos rfl,if_pos rfl];unfold a8f;rw[if_neg hz];exact a0K _ rfl
  have d:decide (n1'≠0)=true:=decide_eq_true hz
  rw[if_neg hz,d] at HSs
  clear hRv d
  go_enter Tryz.func130,Tryz.ntmps130
  go_wp2_with fail
  refine Calls.mono (HC.out _ (HA.out _)) ?_
  rintro e w1 ⟨rfl,b1⟩
  have HB:=a0a (a0b (HA.out _) b1 (by simp))
  clear b1 HC
  go_wp2_with fail
  refine Calls.mono (HSs.out _) ?_
  rintro e w3 ⟨rfl,b3⟩
  have HB3:=kb HB b3
  clear b3 HSs
  go_wp2_with fail
  go_ret2
  exact⟨by rw[hR.out];rfl,HB3.out⟩
theorem a3c {ps:List Co}{v:Int}{L f i:Nat}(h:¬ i+1<L)(hf:0<f):a1Z ps v L f i=L-1:=by
 obtain⟨f',rfl⟩:∃ f',f=f'+1:=⟨f-1,by omega⟩
 rw[a1Z,if_neg h]
theorem a3b {ps:List Co}{v:Int}{L f i:Nat}(h:i+1<L)(hv:v<(ps.getD i co0).n)(hf:0<f):a1Z ps v L f i=i+1:=by
 obtain⟨f',rfl⟩:∃ f',f=f'+1:=⟨f-1,by omega⟩
 rw[a1Z,if_pos h,if_pos hv]
theorem a4n {ps:List Co}{v:Int}{L f i:Nat}(h:i+1<L)(hv:¬ v<(ps.getD i co0).n):a1Z ps v L (f+1) i=a1Z ps v L f (i+2):=by
 rw[a1Z,if_pos h,if_neg hv]
def a9p (ps:List Co)(rs:List Rs):Rs:=if (rs.getD 0 (0,0)).2=0 then rs.getD (a1Z ps (rs.getD 0 (0,0)).1 ps.length ps.length 1) (0,0) else noR (rs.getD 0 (0,0)).2
set_option maxHeartbeats 4000000 in
set_option maxRecDepth 20000 in
theorem b3y (E:a0y)(k tn tm:Int)(ps:List Co)(h2:2<=ps.length)(hev:ps.length%2=0)(hmx:ps.length<=8192)(H:∀ x,x∈ps->TeC E x)(v:Value)(tb b:Nat)(w:World)(hs:a0l w ⟨k,tn,tm,ps⟩ v)(ht:a7C w tb b E):
 Calls Tryz.prog 148 #[.pointer (some ⟨tb,0,none⟩),coV ⟨k,tn,tm,ps⟩ v] w fun e w'=>e=.returned (a2t (a9p ps (ps.map (a0e E))))/\Below w.heap.size w w':=by
 obtain⟨Rv,hRv⟩:∃ Rv,Hid (Rv=a2t (a9p ps (ps.map (a0e E)))):=⟨_,rfl⟩
 rw[<-hRv.out]
 obtain⟨pb,off,cap,rfl,k1,k2,lp,hx⟩:=hs.parts.open (by show 0<ps.length;omega)
 dsimp only at k1 k2 hx
 have gR:∀ i (h:i<ps.length),(ps.map (a0e E)).getD i (0,0)=a0e E ps[i]:=fun i h=>by simp[List.getD,List.getElem?_map,List.getElem?_eq_getElem h]
 have gP:∀ i (h:i<ps.length),ps.getD i co0=ps[i]:=fun i h=>by simp[List.getD,List.getElem?_eq_getElem h]
 have HC:Hid (∀ i (h:i<ps.length) W,Below w.heap.size w W->∃ a n,a1D w pb (off+i*4) ps[i] (.slice a ps[i].parts.length n)/\Calls Tryz.prog 169 #[.pointer (some ⟨tb,0,none⟩),coV ps[i] (.slice a ps[i].parts.length n)] W fun e w'=>e=.returned (a2t (a0e E ps[i]))/\Below W.heap.size W w'):=fun i h W hW=>by
  obtain⟨u,f6,s6⟩:=hx i h
  obtain⟨a,n,rfl,-,-⟩:=s6.parts.shape
  exact⟨a,n,f6,H _ (List.getElem_mem h) _ tb b W (s6.next hW) (ht.next hW)⟩
 have HA:Hid (∀ o,Below w.heap.size w (w.alloc o)):=fun o=>(Below.refl _ _).alloc (Nat.le_refl _) _
 have HX:=a0a (Box.new w (coL ⟨k,tn,tm,ps⟩ (.slice (some ⟨pb,off,none⟩) ps.length cap)) 30)
 obtain⟨a0,n0,f0,-⟩:=HC.out 0 (by omega) w (Below.refl _ _)
 obtain⟨p0,p1,p2,p3⟩:=f0
 simp only[Nat.zero_mul,Nat.add_zero] at p0 p1 p2 p3
 obtain⟨L,hL⟩:∃ L,Hid (L=ps.length):=⟨_,rfl⟩
 have hl0:0<L:=by rw[hL.out];omega
 have hl0':(0:Int)<(L:Int):=by omega
 have h1:Hid (∀ W,Below w.heap.size w W->Calls Tryz.prog 169 #[.pointer (some ⟨tb,0,none⟩),coV ps[0] (.slice a0 ps[0].parts.length n0)] W fun e w'=>e=.returned (a2t (a0e E ps[0]))/\Below W.heap.size W w'):=fun W hW=>by
  obtain⟨a,n,f6,c6⟩:=HC.out 0 (by omega) W hW
  have e:=f6.c3
  simp only[Nat.zero_mul,Nat.add_zero] at e
  rw[p3] at e
  simp only[Option.some.injEq,Value.slice.injEq,true_and] at e
  obtain⟨rfl,rfl⟩:=e
  exact c6
 have hRe:Hid (Rv=a2t (if (a0e E ps[0]).2=0 then (ps.map (a0e E)).getD (a1Z ps (a0e E ps[0]).1 ps.length ps.length 1) (0,0) else noR (a0e E ps[0]).2)):=by
  show _=_
  rw[hRv.out];unfold a9p;rw[gR 0 (by omega)]
 have HGR:=a0a gR
 have HGP:=a0a gP
 clear hs ht hx gR gP hRv
 generalize a0e E ps[0]=r0 at *
 generalize ps[0]=x0 at *
 show Calls _ _ #[_,coV ⟨k,tn,tm,ps⟩ (.slice (some ⟨pb,off,none⟩) ps.length cap)] _ _
 rw[<-hL.out] at HX k1 hRe h2 hev hmx ⊢
 obtain⟨n0',e0⟩:=r0
 dsimp only at hRe
 by_cases he:e0=0
 case neg=>
  have hR:Hid (Rv=Value.tuple #[.int .i64 0,.iface 155 (.agg #[.int .i64 e0])]):=by show _=_;rw[hRe.out,if_neg he];exact a0G _ he
  go_enter Tryz.func148,Tryz.ntmps148
  go_wp2_with fail
  refine Calls.mono (h1.out _ (HA.out _)) ?_
  rintro e w1 ⟨he1,b1⟩
  rw[a0G n0' he] at he1
  subst he1
  have HB:=a0a (a0b (HA.out _) b1 (by simp))
  clear b1 hRe h1 HX p0 p1 p2 p3
  go_wp2_with fail
  go_ret2
  exact⟨by rw[hR.out];rfl,HB.out⟩
 subst he
 have hRe2:Hid (Rv=a2t ((ps.map (a0e E)).getD (a1Z ps n0' L L 1) (0,0))):=hRe.out
 clear hRe
 go_enter Tryz.func148,Tryz.ntmps148
 go_wp2_with fail
 refine Calls.mono (h1.out _ (HA.out _)) ?_
 rintro e w1 ⟨he1,b1⟩
 rw[a0K (n0',0) rfl] at he1
 subst he1
 have HB:=a0a (a0b (HA.out _) b1 (by simp))
 have X1:=HX.out.next b1
 have c3:=X1.cell 3 _ rfl
 have x1l:=X1.lt
 clear b1 HX X1 p0 p1 p2 p3 h1
 obtain⟨M,rfl⟩:∃ M,L=M+1:=⟨L-1,by omega⟩
 have lp1:=Nat.lt_of_lt_of_le lp HB.out.size
 go_wp2_with fail
 go_loopw [9] (fun x wr=>∃ (i f:Nat),x=.int .i64 (i:Nat)/\i<=M/\Hid (i%2=1)/\Hid (M+1<=i+2*f)/\Hid (a1Z ps n0' (M+1) f i=a1Z ps n0' (M+1) (M+1) 1)/\wr=w1) (fun x _=>match x with | .int _ p=>((M:Int)-p).toNat | _=>0)
 case atStart=>exact⟨1,M+1,rfl,by omega,a0a rfl,a0a (by omega),a0a rfl,rfl⟩
 case round=>
  obtain⟨i,f,rfl,hj,HO,HF,HJ,rfl⟩:=hrel
  by_cases hlt:i<M
  ·have hlt':(i:Int)<(M:Int):=by omega
   have hi1:i<ps.length:=by rw[<-hL.out];omega
   have hi2:i+1<ps.length:=by rw[<-hL.out];omega
   obtain⟨a5,n5,f5,-⟩:=HC.out i hi1 wr HB.out
   have q1:=(f5.keep (w':=wr) (fun j=>HB.out.cell (p:=⟨pb,j,none⟩) lp)).c1
   have gp:=HGP.out i hi1
   have hil:(i:Int)<(M:Int)+1:=by omega
   by_cases hv:n0'<ps[i].n
   ·have hJ2:a1Z ps n0' (M+1) f i=i+1:=a3b (by omega) (by rw[gp];exact hv) (by have:=HF.out;omega)
    obtain⟨a6,n6,f6,c6⟩:=HC.out (i+1) hi2 wr HB.out
    obtain⟨p0,p1,p2,p3⟩:=f6.keep (w':=wr) (fun j=>HB.out.cell (p:=⟨pb,j,none⟩) lp)
    have hR:Hid (Rv=a2t (a0e E ps[i+1])):=by show _=_;rw[hRe2.out,<-HJ.out,hJ2,HGR.out (i+1) hi2]
    have HC6:=a0a c6
    have hil2:(i:Int)+1<(M:Int)+1:=by omega
    clear hRe2 HJ hJ2 gp f5 f6 c6 HC
    generalize a0e E ps[i+1]=r6 at *
    generalize ps[i+1]=x6 at *
    generalize ps[i].n=n7 at *
    go_wp2_with fail
    refine Calls.mono HC6.out ?_
    rintro e w2 ⟨rfl,b2⟩
    have HB2:=kb HB b2
    clear b2 p0 p1 p2 p3
    go_wp2_with fail
    go_ret2
    exact⟨by rw[hR.out];rfl,HB2.out⟩
   ·obtain⟨f',rfl⟩:∃ f',f=f'+1:=⟨f-1,by have:=HF.out;omega⟩
    have hJ2:Hid (a1Z ps n0' (M+1) f' (i+2)=a1Z ps n0' (M+1) (M+1) 1):=by
     show _=_
     rw[<-HJ.out,a4n (by omega) (by rw[gp];exact hv)]
    clear hRe2 HJ gp f5 HC
    generalize ps[i].n=n7 at *
    go_wp2_with fail
    go_roundw
    case rel=>exact⟨i+2,f',by go_num,by have:=HO.out;omega,a0a (by have:=HO.out;omega),a0a (by have:=HF.out;omega),hJ2.out,by first | rfl | trivial⟩
    case measure=>simp;omega
  ·have hlt':¬(i:Int)<(M:Int):=by omega
   obtain rfl:i=M:=by omega
   have hiM:i<ps.length:=by rw[<-hL.out];omega
   have hJ2:a1Z ps n0' (i+1) f i=i:=a3c (by omega) (by have:=HF.out;omega)
   obtain⟨a6,n6,f6,c6⟩:=HC.out i hiM wr HB.out
   obtain⟨p0,p1,p2,p3⟩:=f6.keep (w':=wr) (fun j=>HB.out.cell (p:=⟨pb,j,none⟩) lp)
   have hR:Hid (Rv=a2t (a0e E ps[i])):=by show _=_;rw[hRe2.out,<-HJ.out,hJ2,HGR.out i hiM]
   have HC6:=a0a c6
   clear hRe2 HJ hJ2 f6 c6 HC
   generalize a0e E ps[i]=r6 at *
   generalize ps[i]=x6 at *
   go_wp2_with fail
   refine Calls.mono HC6.out ?_
   rintro e w2 ⟨rfl,b2⟩
   have HB2:=kb HB b2
   clear b2 p0 p1 p2 p3
   go_wp2_with fail
   go_ret2
   exact⟨by rw[hR.out];rfl,HB2.out⟩
def UnC (g:Nat)(P:Int->Prop)(F:Int->Int):Prop:=Ent g/\∀ (a:Int) (W:World),C64 a->P a->Calls Tryz.prog g #[.int .i64 a] W fun e w'=>e=.returned (.int .i64 (F a))/\Below W.heap.size W w'
def BiC (g:Nat)(F:Int->Int->Int):Prop:=Ent g/\∀ (a b:Int) (W:World),C64 a->C64 b->Calls Tryz.prog g #[.int .i64 a,.int .i64 b] W fun e w'=>e=.returned (.int .i64 (F a b))/\Below W.heap.size W w'
theorem a4L {a:Int}(h:C64 a):a<9223372036854775808:=by have:=h.2;omega
theorem b4G:UnC 119 (fun _=>True) (uF 8):=⟨fun _ _=>by kernel_rfl,fun a W h _=>b1Z a h.1 (a4L h) W⟩
theorem b4H:UnC 121 (fun _=>True) (uF 10):=⟨fun _ _=>by kernel_rfl,fun a W h _=>b6O a h.1 (a4L h) W⟩
theorem a9T:UnC 122 (fun _=>True) (uF 11):=⟨fun _ _=>by kernel_rfl,fun a W h _=>a8Q a h.1 (a4L h) W⟩
theorem a8p:UnC 123 (fun _=>True) (uF 12):=⟨fun _ _=>by kernel_rfl,fun a W h _=>b2b a h.1 (a4L h) W⟩
theorem b4F:UnC 120 (fun a=>a=0\/a=1) (uF 9):=⟨fun _ _=>by kernel_rfl,fun a W h hp=>by
 show Calls Tryz.prog 120 #[.int .i64 a] W fun e w'=>e=.returned (.int .i64 (1-a))/\Below W.heap.size W w'
 rcases hp with rfl | rfl
 ·go_enter Tryz.func120,Tryz.ntmps120
  go_wp2_with fail
  go_ret
  exact⟨rfl,Below.refl _ _⟩
 ·go_enter Tryz.func120,Tryz.ntmps120
  go_wp2_with fail
  go_ret
  exact⟨rfl,Below.refl _ _⟩⟩
theorem b4U:BiC 127 (bF 14):=⟨fun _ _=>by kernel_rfl,fun a b W ha hb=>b2g a b ha.1 (a4L ha) hb.1 (a4L hb) W⟩
theorem b4Q:BiC 128 (bF 15):=⟨fun _ _=>by kernel_rfl,fun a b W ha hb=>b1Y a b ha.1 (a4L ha) hb.1 (a4L hb) W⟩
theorem b4R:BiC 129 (bF 16):=⟨fun _ _=>by kernel_rfl,fun a b W ha hb=>b7N a b ha.1 (a4L ha) hb.1 (a4L hb) (a5i _ _ (by decide) (by decide)) W⟩
theorem b1M:BiC 131 (bF 18):=⟨fun _ _=>by kernel_rfl,fun a b W ha hb=>by
 show Calls Tryz.prog 131 #[.int .i64 a,.int .i64 b] W fun e w'=>e=.returned (.int .i64 (b2i (decide (a<b))))/\Below W.heap.size W w'
 clear ha hb
 have HC:=a0a (fun x W=>a2x x W)
 by_cases h:a<b
 ·rw[decide_eq_true h]
  skip
  go_enter Tryz.func131,Tryz.ntmps131
  go_wp2_with fail
  refine Calls.mono (HC.out _ _) ?_
  rintro e w1 ⟨rfl,rfl⟩
  go_wp2_with fail
  go_ret
  exact⟨rfl,Below.refl _ _⟩
 ·rw[decide_eq_false h]
  skip
  go_enter Tryz.func131,Tryz.ntmps131
  go_wp2_with fail
  refine Calls.mono (HC.out _ _) ?_
  rintro e w1 ⟨rfl,rfl⟩
  go_wp2_with fail
  go_ret
  exact⟨rfl,Below.refl _ _⟩⟩
theorem b4T:BiC 132 (bF 19):=⟨fun _ _=>by kernel_rfl,fun a b W ha hb=>by
 show Calls Tryz.prog 132 #[.int .i64 a,.int .i64 b] W fun e w'=>e=.returned (.int .i64 (b2i (decide (a<=b))))/\Below W.heap.size W w'
 clear ha hb
 have HC:=a0a (fun x W=>a2x x W)
 by_cases h:a<=b
 ·rw[decide_eq_true h]
  skip
  go_enter Tryz.func132,Tryz.ntmps132
  go_wp2_with fail
  refine Calls.mono (HC.out _ _) ?_
  rintro e w1 ⟨rfl,rfl⟩
  go_wp2_with fail
  go_ret
  exact⟨rfl,Below.refl _ _⟩
 ·rw[decide_eq_false h]
  skip
  go_enter Tryz.func132,Tryz.ntmps132
  go_wp2_with fail
  refine Calls.mono (HC.out _ _) ?_
  rintro e w1 ⟨rfl,rfl⟩
  go_wp2_with fail
  go_ret
  exact⟨rfl,Below.refl _ _⟩⟩
theorem b7E:BiC 133 (bF 20):=⟨fun _ _=>by kernel_rfl,fun a b W ha hb=>by
 show Calls Tryz.prog 133 #[.int .i64 a,.int .i64 b] W fun e w'=>e=.returned (.int .i64 (b2i (decide (a=b))))/\Below W.heap.size W w'
 clear ha hb
 have HC:=a0a (fun x W=>a2x x W)
 by_cases h:a=b
 ·rw[decide_eq_true h]
  subst h
  go_enter Tryz.func133,Tryz.ntmps133
  go_wp2_with fail
  refine Calls.mono (HC.out _ _) ?_
  rintro e w1 ⟨rfl,rfl⟩
  go_wp2_with fail
  go_ret
  exact⟨rfl,Below.refl _ _⟩
 ·rw[decide_eq_false h]
  have k:(a==b)=false:=by simpa using h
  go_enter Tryz.func133,Tryz.ntmps133
  go_wp2_with fail
  refine Calls.mono (HC.out _ _) ?_
  rintro e w1 ⟨rfl,rfl⟩
  go_wp2_with fail
  go_ret
  exact⟨rfl,Below.refl _ _⟩⟩
theorem b1L:BiC 134 (bF 21):=⟨fun _ _=>by kernel_rfl,fun a b W ha hb=>by
 show Calls Tryz.prog 134 #[.int .i64 a,.int .i64 b] W fun e w'=>e=.returned (.int .i64 (b2i (decide (b<a))))/\Below W.heap.size W w'
 clear ha hb
 have HC:=a0a (fun x W=>a2x x W)
 by_cases h:b<a
 ·rw[decide_eq_true h]
  skip
  go_enter Tryz.func134,Tryz.ntmps134
  go_wp2_with fail
  refine Calls.mono (HC.out _ _) ?_
  rintro e w1 ⟨rfl,rfl⟩
  go_wp2_with fail
  go_ret
  exact⟨rfl,Below.refl _ _⟩
 ·rw[decide_eq_false h]
  skip
  go_enter Tryz.func134,Tryz.ntmps134
  go_wp2_with fail
  refine Calls.mono (HC.out _ _) ?_
  rintro e w1 ⟨rfl,rfl⟩
  go_wp2_with fail
  go_ret
  exact⟨rfl,Below.refl _ _⟩⟩
theorem b4S:BiC 135 (bF 22):=⟨fun _ _=>by kernel_rfl,fun a b W ha hb=>by
 show Calls Tryz.prog 135 #[.int .i64 a,.int .i64 b] W fun e w'=>e=.returned (.int .i64 (b2i (decide (b<=a))))/\Below W.heap.size W w'
 clear ha hb
 have HC:=a0a (fun x W=>a2x x W)
 by_cases h:b<=a
 ·rw[decide_eq_true h]
  skip
  go_enter Tryz.func135,Tryz.ntmps135
  go_wp2_with fail
  refine Calls.mono (HC.out _ _) ?_
  rintro e w1 ⟨rfl,rfl⟩
  go_wp2_with fail
  go_ret
  exact⟨rfl,Below.refl _ _⟩
 ·rw[decide_eq_false h]
  skip
  go_enter Tryz.func135,Tryz.ntmps135
  go_wp2_with fail
  refine Calls.mono (HC.out _ _) ?_
  rintro e w1 ⟨rfl,rfl⟩
  go_wp2_with fail
  go_ret
  exact⟨rfl,Below.refl _ _⟩⟩
theorem a7w:BiC 136 (bF 23):=⟨fun _ _=>by kernel_rfl,fun a b W ha hb=>by
 show Calls Tryz.prog 136 #[.int .i64 a,.int .i64 b] W fun e w'=>e=.returned (.int .i64 (min a b))/\Below W.heap.size W w'
 clear ha hb
 rcases Int.lt_trichotomy a b with h | h | h
 ·rw[Int.min_eq_left (Int.le_of_lt h)]
  have h2:¬ b<a:=by omega
  have h3:¬ b<=a:=by omega
  go_enter Tryz.func136,Tryz.ntmps136
  go_wp2_with fail
  go_ret
  exact⟨rfl,Below.refl _ _⟩
 ·subst h
  rw[Int.min_eq_left (Int.le_refl a)]
  go_enter Tryz.func136,Tryz.ntmps136
  go_wp2_with fail
  go_ret
  exact⟨rfl,Below.refl _ _⟩
 ·rw[Int.min_eq_right (Int.le_of_lt h)]
  have h2:¬ a<b:=by omega
  have h3:¬ a<=b:=by omega
  go_enter Tryz.func136,Tryz.ntmps136
  go_wp2_with fail
  go_ret
  exact⟨rfl,Below.refl _ _⟩⟩
theorem a5Z:BiC 137 (bF 24):=⟨fun _ _=>by kernel_rfl,fun a b W ha hb=>by
 show Calls Tryz.prog 137 #[.int .i64 a,.int .i64 b] W fun e w'=>e=.returned (.int .i64 (max a b))/\Below W.heap.size W w'
 clear ha hb
 rcases Int.lt_trichotomy a b with h | h | h
 ·rw[Int.max_eq_right (Int.le_of_lt h)]
  have h2:¬ b<a:=by omega
  have h3:¬ b<=a:=by omega
  go_enter Tryz.func137,Tryz.ntmps137
  go_wp2_with fail
  go_ret
  exact⟨rfl,Below.refl _ _⟩
 ·subst h
  rw[Int.max_eq_right (Int.le_refl a)]
  go_enter Tryz.func137,Tryz.ntmps137
  go_wp2_with fail
  go_ret
  exact⟨rfl,Below.refl _ _⟩
 ·rw[Int.max_eq_left (Int.le_of_lt h)]
  have h2:¬ a<b:=by omega
  have h3:¬ a<=b:=by omega
  go_enter Tryz.func137,Tryz.ntmps137
  go_wp2_with fail
  go_ret
  exact⟨rfl,Below.refl _ _⟩⟩
theorem a3U {E:a0y}{t:Co}(h:srt E t≠0):∃ k:Nat,t.op=(k:Int)/\1<=k/\k<=32/\a0t k E.wins.length E.crons.length 256 t=true/\(∀ x,x∈t.parts->srt E x≠0)/\srt E t=a0L a0n k t (t.parts.map (srt E)):=by
 have e:=a0S a0n E.wins.length E.crons.length 256 t
 unfold srt at h ⊢
 by_cases h1:1<=t.op/\t.op<=32
 ·rw[if_pos h1] at e
  by_cases h2:a0t t.op.toNat E.wins.length E.crons.length 256 t=true
  ·rw[if_pos h2] at e
   by_cases h3:(t.parts.map (a0f a0n E.wins.length E.crons.length 256)).contains 0=true
   ·rw[if_pos h3] at e;exact absurd e h
   ·rw[if_neg h3] at e
    refine⟨t.op.toNat,by omega,by omega,by omega,h2,fun x hx hz=>h3 ?_,e⟩
    rw[List.contains_iff_mem,List.mem_map]
    exact⟨x,hx,hz⟩
  ·rw[if_neg h2] at e;exact absurd e h
 ·rw[if_neg h1] at e;exact absurd e h
theorem a0u {k:Nat}{c:Co}{ss:List Int}{r:Int}{ts:List Int}(hm:mkT.getD k none=some (r,ts))(h:a0L a0n k c ss≠0):ss=ts/\a0L a0n k c ss=r:=by
 unfold a0L at h ⊢
 rw[hm] at h ⊢
 dsimp only[mkF] at h ⊢
 by_cases e:ss=ts
 ·exact⟨e,if_pos e⟩
 ·rw[if_neg e] at h;exact absurd rfl h
theorem b0E {E:a0y}{l:List Co}(h:l.map (srt E)=[]):l=[]:=by simpa using h
theorem a4K {E:a0y}{l:List Co}{a:Int}(h:l.map (srt E)=[a]):∃ x,l=[x]/\srt E x=a:=by
 match l,h with
 | [x],h=>exact⟨x,rfl,by simpa using h⟩
theorem a2D {E:a0y}{l:List Co}{a b:Int}(h:l.map (srt E)=[a,b]):∃ x y,l=[x,y]/\srt E x=a/\srt E y=b:=by
 match l,h with
 | [x,y],h=>exact⟨x,y,rfl,by simpa using h⟩
theorem b7j {l:List Co}(h:l.length=1):∃ x,l=[x]:=by
 match l,h with
 | [x],h=>exact⟨x,rfl⟩
theorem b7T {l:List Co}(h:l.length=2):∃ x y,l=[x,y]:=by
 match l,h with
 | [x,y],h=>exact⟨x,y,rfl⟩
theorem b8K {l:List Co}(h:l.length=3):∃ x y z,l=[x,y,z]:=by
 match l,h with
 | [x,y,z],h=>exact⟨x,y,z,rfl⟩
theorem a1r {k:Nat}{ss:List Int}(h:a0R k ss≠0):ss.length=k/\ss.headD 0≠3/\(∀ x,x∈ss->x=ss.headD 0)/\a0R k ss=ss.headD 0:=by
 by_cases e:ss.length=k/\ss.headD 0≠3/\∀ x,x∈ss->x=ss.headD 0
 ·exact⟨e.1,e.2.1,e.2.2,a6a e⟩
 ·exact absurd (a1J e) h
theorem a3Z {ss:List Int}(h:a1l ss≠0):∃ a,ss=[2,a,a]/\a1l ss=a:=by
 unfold a1l at h ⊢
 by_cases e:ss.headD 0=2
 ·rw[if_pos e] at h ⊢
  obtain⟨h1,h2,h3,h4⟩:=a1r h
  match ss,e,h1,h3,h4 with
  | [x,a,b],e,h1,h3,h4=>
    have hb:b=a:=h3 b (by simp)
    have hx:x=2:=e
    subst hb hx
    exact⟨b,rfl,h4⟩
 ·rw[if_neg e] at h;exact absurd rfl h
def b2k (E:a0y)(t:Co):Prop:=C64 (a0e E t).1/\(srt E t=2->(a0e E t).1=0\/(a0e E t).1=1)
theorem a3S (n:Int):C64 (held n):=b0P n
theorem b1S (b:Bool):b2i b=0\/b2i b=1:=by cases b<;>simp[b2i]
theorem b7F (b:Bool):C64 (b2i b):=by rcases b1S b with h | h<;>rw[h]<;>(unfold C64;decide)
theorem a1V (f:Int->Int)(a:Rs):(a0x f a).1=f a.1\/(a0x f a).1=0:=by unfold a0x;split<;>simp
theorem a1o (f:Int->Int->Rs)(a b:Rs):(a0A f a b).1=(f a.1 b.1).1\/(a0A f a b).1=0:=by unfold a0A;split<;>(try split)<;>simp
theorem a0p:C64 0:=by unfold C64;decide
theorem b2o (k:Nat)(a:Int)(h:k=9->a=0\/a=1):C64 (uF k a):=by
 unfold uF
 split
 ·exact a3S _
 ·split
  ·next e=>rcases h e with h | h<;>rw[h]<;>(unfold C64;decide)
  ·split
   ·exact a3S _
   ·split<;>exact a3S _
theorem b1R (k:Nat)(a b:Int)(ha:C64 a)(hb:C64 b):C64 (bF k a b):=by
 have hm:C64 (min a b):=by rcases Int.le_total a b with h | h<;>simp[Int.min_eq_left,Int.min_eq_right,h,ha,hb]
 have hM:C64 (max a b):=by rcases Int.le_total a b with h | h<;>simp[Int.max_eq_left,Int.max_eq_right,h,ha,hb]
 unfold bF
 repeat' split
 all_goals first | exact a3S _ | exact b7F _ | exact hm | exact hM
theorem a9G (k:Nat)(a b:Int)(h1:18<=k)(h2:k<=22):bF k a b=0\/bF k a b=1:=by
 unfold bF
 repeat' split
 all_goals first | exact b1S _ | omega
theorem a3X (a:Int):C64 (a0T a):=by
 have h:=a3S (-((-a)/1000000)*1000000)
 unfold a0T
 generalize held (-((-a)/1000000)*1000000)=x at h
 obtain⟨h1,h2⟩:=h
 exact⟨by omega,by omega⟩
def GK (E:a0y)(k:Nat):Prop:=a4E E->∀ t:Co,t.op=(k:Int)->b2e t->a0t k E.wins.length E.crons.length 256 t=true->(∀ x,x∈t.parts->b2k E x)->a0L a0n k t (t.parts.map (srt E))≠0->srt E t=a0L a0n k t (t.parts.map (srt E))->b2k E t
theorem a0Y {E:a0y}{t:Co}{r:Int}(h:srt E t=r)(hr:r≠2)(hc:C64 (a0e E t).1):b2k E t:=⟨hc,fun e=>absurd (h.symm.trans e) hr⟩
theorem a0Z {E:a0y}{t:Co}(h:(a0e E t).1=0\/(a0e E t).1=1):b2k E t:=⟨by rcases h with h | h<;>rw[h]<;>(unfold C64;decide),fun _=>h⟩
theorem a5f {E:a0y}{t x:Co}(hs:srt E t=srt E x)(hx:b2k E x)(h:(a0e E t).1=(a0e E x).1\/(a0e E t).1=0):b2k E t:=by
 rcases h with h | h
 ·exact⟨by rw[h];exact hx.1,fun e=>by rw[h];exact hx.2 (hs.symm.trans e)⟩
 ·exact a0Z (.inl h)
theorem b9N (E:a0y):GK E 1:=by
 intro hE t hop hf hb hg hz hs
 obtain⟨op,n,m,ps⟩:=t
 obtain rfl:op=1:=hop
 dsimp only at *
 obtain⟨e1,e2⟩:=a0u (k:=1) (r:=1) (ts:=[]) rfl hz
 obtain rfl:=b0E e1
 have e:a0e E ⟨1,n,m,[]⟩=okR n:=by rw[a0g];rfl
 exact a0Y (hs.trans e2) (by decide) (by rw[e];exact hf.n)
theorem b9M (E:a0y):GK E 2:=by
 intro hE t hop hf hb hg hz hs
 obtain⟨op,n,m,ps⟩:=t
 obtain rfl:op=2:=hop
 dsimp only at *
 obtain⟨e1,e2⟩:=a0u (k:=2) (r:=2) (ts:=[]) rfl hz
 obtain rfl:=b0E e1
 have e:a0e E ⟨2,n,m,[]⟩=okR n:=by rw[a0g];rfl
 have hb':(a0C n 2&&decide (m=0))=true:=hb
 simp only[a0C,Bool.and_eq_true,decide_eq_true_eq] at hb'
 exact a0Z (by rw[e];show n=0\/n=1;omega)
theorem b9L (E:a0y):GK E 3:=by
 intro hE t hop hf hb hg hz hs
 obtain⟨op,n,m,ps⟩:=t
 obtain rfl:op=3:=hop
 dsimp only at *
 obtain⟨e1,e2⟩:=a0u (k:=3) (r:=1) (ts:=[]) rfl hz
 obtain rfl:=b0E e1
 have e:a0e E ⟨3,n,m,[]⟩=okR (held (E.rep*1000000)):=by rw[a0g];rfl
 exact a0Y (hs.trans e2) (by decide) (by rw[e];exact a3S _)
theorem b9K (E:a0y):GK E 4:=by
 intro hE t hop hf hb hg hz hs
 obtain⟨op,n,m,ps⟩:=t
 obtain rfl:op=4:=hop
 dsimp only at *
 obtain⟨e1,e2⟩:=a0u (k:=4) (r:=1) (ts:=[]) rfl hz
 obtain rfl:=b0E e1
 have e:a0e E ⟨4,n,m,[]⟩=if (E.wins.getD n.toNat (0,0)).1=0 then okR (E.wins.getD n.toNat (0,0)).2 else noR (E.wins.getD n.toNat (0,0)).1:=by rw[a0g];rfl
 refine a0Y (hs.trans e2) (by decide) ?_
 rw[e]
 split
 ·exact(hE.wins _).2
 ·exact a0p
theorem b9J (E:a0y):GK E 5:=by
 intro hE t hop hf hb hg hz hs
 obtain⟨op,n,m,ps⟩:=t
 obtain rfl:op=5:=hop
 dsimp only at *
 obtain⟨e1,e2⟩:=a0u (k:=5) (r:=2) (ts:=[]) rfl hz
 obtain rfl:=b0E e1
 have e:a0e E ⟨5,n,m,[]⟩=okR (b2i (E.crons.getD n.toNat false)):=by rw[a0g];rfl
 exact a0Z (by rw[e];exact b1S _)
theorem b9I (E:a0y):GK E 6:=by
 intro hE t hop hf hb hg hz hs
 obtain⟨op,n,m,ps⟩:=t
 obtain rfl:op=6:=hop
 dsimp only at *
 have e:a0e E ⟨6,n,m,ps⟩=noR n:=by rw[a0g];rfl
 exact a0Z (by rw[e];exact .inl rfl)
theorem b9H (E:a0y):GK E 7:=by
 intro hE t hop hf hb hg hz hs
 obtain⟨op,n,m,ps⟩:=t
 obtain rfl:op=7:=hop
 dsimp only at *
 have hz':a0R 1 (ps.map (srt E))≠0:=hz
 obtain⟨h1,h2,h3,h4⟩:=a1r hz'
 obtain⟨x,rfl⟩:=b7j (by simpa using h1)
 have e:a0e E ⟨7,n,m,[x]⟩=a0e E x:=by rw[a0g];rfl
 exact a5f (hs.trans h4) (hg x (by simp)) (by rw[e];exact .inl rfl)
theorem b9G (E:a0y):GK E 8:=by
 intro hE t hop hf hb hg hz hs
 obtain⟨op,n,m,ps⟩:=t
 obtain rfl:op=8:=hop
 dsimp only at *
 obtain⟨e1,e2⟩:=a0u (k:=8) (r:=1) (ts:=[1]) rfl hz
 obtain⟨x,rfl,q0⟩:=a4K e1
 have g0:=hg x (by simp)
 have e:a0e E ⟨8,n,m,[x]⟩=a0x (uF 8) (a0e E x):=by rw[a0g];rfl
 refine a0Y (hs.trans e2) (by decide) ?_
 rw[e]
 rcases a1V (uF 8) (a0e E x) with h | h<;>rw[h]
 ·exact b2o 8 _ (fun h=>absurd h (by decide))
 ·exact a0p
theorem b9i (E:a0y):GK E 10:=by
 intro hE t hop hf hb hg hz hs
 obtain⟨op,n,m,ps⟩:=t
 obtain rfl:op=10:=hop
 dsimp only at *
 obtain⟨e1,e2⟩:=a0u (k:=10) (r:=1) (ts:=[1]) rfl hz
 obtain⟨x,rfl,q0⟩:=a4K e1
 have g0:=hg x (by simp)
 have e:a0e E ⟨10,n,m,[x]⟩=a0x (uF 10) (a0e E x):=by rw[a0g];rfl
 refine a0Y (hs.trans e2) (by decide) ?_
 rw[e]
 rcases a1V (uF 10) (a0e E x) with h | h<;>rw[h]
 ·exact b2o 10 _ (fun h=>absurd h (by decide))
 ·exact a0p
theorem b9h (E:a0y):GK E 11:=by
 intro hE t hop hf hb hg hz hs
 obtain⟨op,n,m,ps⟩:=t
 obtain rfl:op=11:=hop
 dsimp only at *
 obtain⟨e1,e2⟩:=a0u (k:=11) (r:=1) (ts:=[1]) rfl hz
 obtain⟨x,rfl,q0⟩:=a4K e1
 have g0:=hg x (by simp)
 have e:a0e E ⟨11,n,m,[x]⟩=a0x (uF 11) (a0e E x):=by rw[a0g];rfl
 refine a0Y (hs.trans e2) (by decide) ?_
 rw[e]
 rcases a1V (uF 11) (a0e E x) with h | h<;>rw[h]
 ·exact b2o 11 _ (fun h=>absurd h (by decide))
 ·exact a0p
theorem b9g (E:a0y):GK E 12:=by
 intro hE t hop hf hb hg hz hs
 obtain⟨op,n,m,ps⟩:=t
 obtain rfl:op=12:=hop
 dsimp only at *
 obtain⟨e1,e2⟩:=a0u (k:=12) (r:=1) (ts:=[1]) rfl hz
 obtain⟨x,rfl,q0⟩:=a4K e1
 have g0:=hg x (by simp)
 have e:a0e E ⟨12,n,m,[x]⟩=a0x (uF 12) (a0e E x):=by rw[a0g];rfl
 refine a0Y (hs.trans e2) (by decide) ?_
 rw[e]
 rcases a1V (uF 12) (a0e E x) with h | h<;>rw[h]
 ·exact b2o 12 _ (fun h=>absurd h (by decide))
 ·exact a0p
theorem b9F (E:a0y):GK E 9:=by
 intro hE t hop hf hb hg hz hs
 obtain⟨op,n,m,ps⟩:=t
 obtain rfl:op=9:=hop
 dsimp only at *
 obtain⟨e1,e2⟩:=a0u (k:=9) (r:=2) (ts:=[2]) rfl hz
 obtain⟨x,rfl,q0⟩:=a4K e1
 have g0:=hg x (by simp)
 have e:a0e E ⟨9,n,m,[x]⟩=a0x (uF 9) (a0e E x):=by rw[a0g];rfl
 refine a0Z ?_
 rw[e]
 rcases a1V (uF 9) (a0e E x) with h | h<;>rw[h]
 ·show 1-(a0e E x).1=0\/1-(a0e E x).1=1
  rcases g0.2 q0 with h | h<;>rw[h]<;>decide
 ·exact .inl rfl
theorem b9f (E:a0y):GK E 13:=by
 intro hE t hop hf hb hg hz hs
 obtain⟨op,n,m,ps⟩:=t
 obtain rfl:op=13:=hop
 dsimp only at *
 obtain⟨e1,e2⟩:=a0u (k:=13) (r:=1) (ts:=[1]) rfl hz
 obtain⟨x,rfl,q0⟩:=a4K e1
 have g0:=hg x (by simp)
 have e:a0e E ⟨13,n,m,[x]⟩=a0x (fun a=>held (a*n/m)) (a0e E x):=by rw[a0g];rfl
 refine a0Y (hs.trans e2) (by decide) ?_
 rw[e]
 rcases a1V (fun a=>held (a*n/m)) (a0e E x) with h | h<;>rw[h]
 ·exact a3S _
 ·exact a0p
theorem b9e (E:a0y):GK E 14:=by
 intro hE t hop hf hb hg hz hs
 obtain⟨op,n,m,ps⟩:=t
 obtain rfl:op=14:=hop
 dsimp only at *
 obtain⟨e1,e2⟩:=a0u (k:=14) (r:=1) (ts:=[1,1]) rfl hz
 obtain⟨x,y,rfl,q0,q1⟩:=a2D e1
 have g0:=hg x (by simp)
 have g1:=hg y (by simp)
 have e:a0e E ⟨14,n,m,[x,y]⟩=a0A (fun a b=>okR (bF 14 a b)) (a0e E x) (a0e E y):=by rw[a0g];rfl
 refine a0Y (hs.trans e2) (by decide) ?_
 rw[e]
 rcases a1o (fun a b=>okR (bF 14 a b)) (a0e E x) (a0e E y) with h | h<;>rw[h]
 ·exact b1R 14 _ _ g0.1 g1.1
 ·exact a0p
theorem b9d (E:a0y):GK E 15:=by
 intro hE t hop hf hb hg hz hs
 obtain⟨op,n,m,ps⟩:=t
 obtain rfl:op=15:=hop
 dsimp only at *
 obtain⟨e1,e2⟩:=a0u (k:=15) (r:=1) (ts:=[1,1]) rfl hz
 obtain⟨x,y,rfl,q0,q1⟩:=a2D e1
 have g0:=hg x (by simp)
 have g1:=hg y (by simp)
 have e:a0e E ⟨15,n,m,[x,y]⟩=a0A (fun a b=>okR (bF 15 a b)) (a0e E x) (a0e E y):=by rw[a0g];rfl
 refine a0Y (hs.trans e2) (by decide) ?_
 rw[e]
 rcases a1o (fun a b=>okR (bF 15 a b)) (a0e E x) (a0e E y) with h | h<;>rw[h]
 ·exact b1R 15 _ _ g0.1 g1.1
 ·exact a0p
theorem b9c (E:a0y):GK E 16:=by
 intro hE t hop hf hb hg hz hs
 obtain⟨op,n,m,ps⟩:=t
 obtain rfl:op=16:=hop
 dsimp only at *
 obtain⟨e1,e2⟩:=a0u (k:=16) (r:=1) (ts:=[1,1]) rfl hz
 obtain⟨x,y,rfl,q0,q1⟩:=a2D e1
 have g0:=hg x (by simp)
 have g1:=hg y (by simp)
 have e:a0e E ⟨16,n,m,[x,y]⟩=a0A (fun a b=>okR (bF 16 a b)) (a0e E x) (a0e E y):=by rw[a0g];rfl
 refine a0Y (hs.trans e2) (by decide) ?_
 rw[e]
 rcases a1o (fun a b=>okR (bF 16 a b)) (a0e E x) (a0e E y) with h | h<;>rw[h]
 ·exact b1R 16 _ _ g0.1 g1.1
 ·exact a0p
theorem b8V (E:a0y):GK E 23:=by
 intro hE t hop hf hb hg hz hs
 obtain⟨op,n,m,ps⟩:=t
 obtain rfl:op=23:=hop
 dsimp only at *
 obtain⟨e1,e2⟩:=a0u (k:=23) (r:=1) (ts:=[1,1]) rfl hz
 obtain⟨x,y,rfl,q0,q1⟩:=a2D e1
 have g0:=hg x (by simp)
 have g1:=hg y (by simp)
 have e:a0e E ⟨23,n,m,[x,y]⟩=a0A (fun a b=>okR (bF 23 a b)) (a0e E x) (a0e E y):=by rw[a0g];rfl
 refine a0Y (hs.trans e2) (by decide) ?_
 rw[e]
 rcases a1o (fun a b=>okR (bF 23 a b)) (a0e E x) (a0e E y) with h | h<;>rw[h]
 ·exact b1R 23 _ _ g0.1 g1.1
 ·exact a0p
theorem b8U (E:a0y):GK E 24:=by
 intro hE t hop hf hb hg hz hs
 obtain⟨op,n,m,ps⟩:=t
 obtain rfl:op=24:=hop
 dsimp only at *
 obtain⟨e1,e2⟩:=a0u (k:=24) (r:=1) (ts:=[1,1]) rfl hz
 obtain⟨x,y,rfl,q0,q1⟩:=a2D e1
 have g0:=hg x (by simp)
 have g1:=hg y (by simp)
 have e:a0e E ⟨24,n,m,[x,y]⟩=a0A (fun a b=>okR (bF 24 a b)) (a0e E x) (a0e E y):=by rw[a0g];rfl
 refine a0Y (hs.trans e2) (by decide) ?_
 rw[e]
 rcases a1o (fun a b=>okR (bF 24 a b)) (a0e E x) (a0e E y) with h | h<;>rw[h]
 ·exact b1R 24 _ _ g0.1 g1.1
 ·exact a0p
theorem b9b (E:a0y):GK E 17:=by
 intro hE t hop hf hb hg hz hs
 obtain⟨op,n,m,ps⟩:=t
 obtain rfl:op=17:=hop
 dsimp only at *
 obtain⟨e1,e2⟩:=a0u (k:=17) (r:=1) (ts:=[1,1]) rfl hz
 obtain⟨x,y,rfl,q0,q1⟩:=a2D e1
 have g0:=hg x (by simp)
 have g1:=hg y (by simp)
 have e:a0e E ⟨17,n,m,[x,y]⟩=a0A a8f (a0e E x) (a0e E y):=by rw[a0g];rfl
 refine a0Y (hs.trans e2) (by decide) ?_
 rw[e]
 rcases a1o a8f (a0e E x) (a0e E y) with h | h<;>rw[h]
 ·unfold a8f
  split
  ·exact a0p
  ·exact a3S _
 ·exact a0p
theorem b9a (E:a0y):GK E 18:=by
 intro hE t hop hf hb hg hz hs
 obtain⟨op,n,m,ps⟩:=t
 obtain rfl:op=18:=hop
 dsimp only at *
 obtain⟨e1,e2⟩:=a0u (k:=18) (r:=2) (ts:=[1,1]) rfl hz
 obtain⟨x,y,rfl,q0,q1⟩:=a2D e1
 have g0:=hg x (by simp)
 have g1:=hg y (by simp)
 have e:a0e E ⟨18,n,m,[x,y]⟩=a0A (fun a b=>okR (bF 18 a b)) (a0e E x) (a0e E y):=by rw[a0g];rfl
 refine a0Z ?_
 rw[e]
 rcases a1o (fun a b=>okR (bF 18 a b)) (a0e E x) (a0e E y) with h | h<;>rw[h]
 ·exact a9G 18 _ _ (by decide) (by decide)
 ·exact .inl rfl
theorem b8Z (E:a0y):GK E 19:=by
 intro hE t hop hf hb hg hz hs
 obtain⟨op,n,m,ps⟩:=t
 obtain rfl:op=19:=hop
 dsimp only at *
 obtain⟨e1,e2⟩:=a0u (k:=19) (r:=2) (ts:=[1,1]) rfl hz
 obtain⟨x,y,rfl,q0,q1⟩:=a2D e1
 have g0:=hg x (by simp)
 have g1:=hg y (by simp)
 have e:a0e E ⟨19,n,m,[x,y]⟩=a0A (fun a b=>okR (bF 19 a b)) (a0e E x) (a0e E y):=by rw[a0g];rfl
 refine a0Z ?_
 rw[e]
 rcases a1o (fun a b=>okR (bF 19 a b)) (a0e E x) (a0e E y) with h | h<;>rw[h]
 ·exact a9G 19 _ _ (by decide) (by decide)
 ·exact .inl rfl
theorem b8Y (E:a0y):GK E 20:=by
 intro hE t hop hf hb hg hz hs
 obtain⟨op,n,m,ps⟩:=t
 obtain rfl:op=20:=hop
 dsimp only at *
 obtain⟨e1,e2⟩:=a0u (k:=20) (r:=2) (ts:=[1,1]) rfl hz
 obtain⟨x,y,rfl,q0,q1⟩:=a2D e1
 have g0:=hg x (by simp)
 have g1:=hg y (by simp)
 have e:a0e E ⟨20,n,m,[x,y]⟩=a0A (fun a b=>okR (bF 20 a b)) (a0e E x) (a0e E y):=by rw[a0g];rfl
 refine a0Z ?_
 rw[e]
 rcases a1o (fun a b=>okR (bF 20 a b)) (a0e E x) (a0e E y) with h | h<;>rw[h]
 ·exact a9G 20 _ _ (by decide) (by decide)
 ·exact .inl rfl
theorem b8X (E:a0y):GK E 21:=by
 intro hE t hop hf hb hg hz hs
 obtain⟨op,n,m,ps⟩:=t
 obtain rfl:op=21:=hop
 dsimp only at *
 obtain⟨e1,e2⟩:=a0u (k:=21) (r:=2) (ts:=[1,1]) rfl hz
 obtain⟨x,y,rfl,q0,q1⟩:=a2D e1
 have g0:=hg x (by simp)
 have g1:=hg y (by simp)
 have e:a0e E ⟨21,n,m,[x,y]⟩=a0A (fun a b=>okR (bF 21 a b)) (a0e E x) (a0e E y):=by rw[a0g];rfl
 refine a0Z ?_
 rw[e]
 rcases a1o (fun a b=>okR (bF 21 a b)) (a0e E x) (a0e E y) with h | h<;>rw[h]
 ·exact a9G 21 _ _ (by decide) (by decide)
 ·exact .inl rfl
theorem b8W (E:a0y):GK E 22:=by
 intro hE t hop hf hb hg hz hs
 obtain⟨op,n,m,ps⟩:=t
 obtain rfl:op=22:=hop
 dsimp only at *
 obtain⟨e1,e2⟩:=a0u (k:=22) (r:=2) (ts:=[1,1]) rfl hz
 obtain⟨x,y,rfl,q0,q1⟩:=a2D e1
 have g0:=hg x (by simp)
 have g1:=hg y (by simp)
 have e:a0e E ⟨22,n,m,[x,y]⟩=a0A (fun a b=>okR (bF 22 a b)) (a0e E x) (a0e E y):=by rw[a0g];rfl
 refine a0Z ?_
 rw[e]
 rcases a1o (fun a b=>okR (bF 22 a b)) (a0e E x) (a0e E y) with h | h<;>rw[h]
 ·exact a9G 22 _ _ (by decide) (by decide)
 ·exact .inl rfl
theorem b8T (E:a0y):GK E 25:=by
 intro hE t hop hf hb hg hz hs
 obtain⟨op,n,m,ps⟩:=t
 obtain rfl:op=25:=hop
 dsimp only at *
 obtain⟨e1,e2⟩:=a0u (k:=25) (r:=2) (ts:=[2,2]) rfl hz
 obtain⟨x,y,rfl,q0,q1⟩:=a2D e1
 have g0:=hg x (by simp)
 have g1:=hg y (by simp)
 have e:a0e E ⟨25,n,m,[x,y]⟩=if (a0e E x).2=0/\(a0e E x).1≠0 then a0e E y else noR (a0e E x).2:=by rw[a0g];rfl
 refine a0Z ?_
 rw[e]
 split
 ·exact g1.2 q1
 ·exact .inl rfl
theorem b8S (E:a0y):GK E 26:=by
 intro hE t hop hf hb hg hz hs
 obtain⟨op,n,m,ps⟩:=t
 obtain rfl:op=26:=hop
 dsimp only at *
 obtain⟨e1,e2⟩:=a0u (k:=26) (r:=2) (ts:=[2,2]) rfl hz
 obtain⟨x,y,rfl,q0,q1⟩:=a2D e1
 have g0:=hg x (by simp)
 have g1:=hg y (by simp)
 have e:a0e E ⟨26,n,m,[x,y]⟩=if (a0e E x).2=0/\(a0e E x).1≠1 then a0e E y else a0e E x:=by rw[a0g];rfl
 refine a0Z ?_
 rw[e]
 split
 ·exact g1.2 q1
 ·exact g0.2 q0
theorem b8R (E:a0y):GK E 27:=by
 intro hE t hop hf hb hg hz hs
 obtain⟨op,n,m,ps⟩:=t
 obtain rfl:op=27:=hop
 dsimp only at *
 have hz':a0R 2 (ps.map (srt E))≠0:=hz
 obtain⟨h1,h2,h3,h4⟩:=a1r hz'
 obtain⟨x,y,rfl⟩:=b7T (by simpa using h1)
 have hy:srt E y=srt E x:=h3 (srt E y) (by simp)
 have e:a0e E ⟨27,n,m,[x,y]⟩=if (a0e E x).2=0 then a0e E x else a0e E y:=by rw[a0g];rfl
 by_cases h:(a0e E x).2=0
 ·rw[if_pos h] at e
  exact a5f (hs.trans h4) (hg x (by simp)) (by rw[e];exact .inl rfl)
 ·rw[if_neg h] at e
  exact a5f ((hs.trans h4).trans hy.symm) (hg y (by simp)) (by rw[e];exact .inl rfl)
theorem b8Q (E:a0y):GK E 28:=by
 intro hE t hop hf hb hg hz hs
 obtain⟨op,n,m,ps⟩:=t
 obtain rfl:op=28:=hop
 dsimp only at *
 have hz':a1l (ps.map (srt E))≠0:=hz
 obtain⟨a,h1,h4⟩:=a3Z hz'
 obtain⟨x,y,z,rfl⟩:=b8K (by have:=congrArg List.length h1;simpa using this)
 simp only[List.map_cons,List.map_nil,List.cons.injEq,and_true] at h1
 obtain⟨hx,hy,hz2⟩:=h1
 have e:a0e E ⟨28,n,m,[x,y,z]⟩=if (a0e E x).2=0 then (if (a0e E x).1=1 then a0e E y else a0e E z) else noR (a0e E x).2:=by rw[a0g];rfl
 by_cases h:(a0e E x).2=0
 ·rw[if_pos h] at e
  by_cases h':(a0e E x).1=1
  ·rw[if_pos h'] at e
   exact a5f ((hs.trans h4).trans hy.symm) (hg y (by simp)) (by rw[e];exact .inl rfl)
  ·rw[if_neg h'] at e
   exact a5f ((hs.trans h4).trans hz2.symm) (hg z (by simp)) (by rw[e];exact .inl rfl)
 ·rw[if_neg h] at e
  exact a0Z (by rw[e];exact .inl rfl)
theorem b8P (E:a0y):GK E 29:=by
 intro hE t hop hf hb hg hz hs
 obtain⟨op,n,m,ps⟩:=t
 obtain rfl:op=29:=hop
 dsimp only at *
 have e:a0e E ⟨29,n,m,ps⟩=noR 4:=by rw[a0g];rfl
 exact a0Z (by rw[e];exact .inl rfl)
theorem b8O (E:a0y):GK E 30:=by
 intro hE t hop hf hb hg hz hs
 obtain⟨op,n,m,ps⟩:=t
 obtain rfl:op=30:=hop
 dsimp only at *
 obtain⟨e1,e2⟩:=a0u (k:=30) (r:=3) (ts:=[1]) rfl hz
 obtain⟨x,rfl,q0⟩:=a4K e1
 have g0:=hg x (by simp)
 have e:a0e E ⟨30,n,m,[x]⟩=a0x a0T (a0e E x):=by rw[a0g];rfl
 refine a0Y (hs.trans e2) (by decide) ?_
 rw[e]
 rcases a1V a0T (a0e E x) with h | h<;>rw[h]
 ·exact a3X _
 ·exact a0p
theorem b8N (E:a0y):GK E 31:=by
 intro hE t hop hf hb hg hz hs
 obtain⟨op,n,m,ps⟩:=t
 obtain rfl:op=31:=hop
 dsimp only at *
 obtain⟨e1,e2⟩:=a0u (k:=31) (r:=3) (ts:=[1]) rfl hz
 obtain⟨x,rfl,q0⟩:=a4K e1
 have g0:=hg x (by simp)
 have e:a0e E ⟨31,n,m,[x]⟩=a0x (fun a=>held (E.rep+a0T a)) (a0e E x):=by rw[a0g];rfl
 refine a0Y (hs.trans e2) (by decide) ?_
 rw[e]
 rcases a1V (fun a=>held (E.rep+a0T a)) (a0e E x) with h | h<;>rw[h]
 ·exact a3S _
 ·exact a0p
theorem b8M (E:a0y):GK E 32:=by
 intro hE t hop hf hb hg hz hs
 obtain⟨op,n,m,ps⟩:=t
 obtain rfl:op=32:=hop
 dsimp only at *
 have e:a0e E ⟨32,n,m,ps⟩=a9p ps (ps.map (a0e E)):=by rw[a0g];rfl
 have hl:srt E ⟨32,n,m,ps⟩=3\/srt E ⟨32,n,m,ps⟩=0:=by
  rw[hs]
  show a0n _ _=3\/a0n _ _=0
  unfold a0n
  split
  ·exact .inl rfl
  ·exact .inr rfl
 refine a0Y (r:=3) (hl.resolve_right (fun h=>hz (hs.symm.trans h))) (by decide) ?_
 rw[e]
 unfold a9p
 split
 ·generalize a1Z _ _ _ _ _=i
  by_cases h:i<ps.length
  ·rw[show (ps.map (a0e E)).getD i (0,0)=a0e E ps[i] from by simp[List.getD,List.getElem?_map,List.getElem?_eq_getElem h]]
   exact(hg _ (List.getElem_mem h)).1
  ·rw[show (ps.map (a0e E)).getD i (0,0)=(0,0) from by simp[List.getD,List.getElem?_map,List.getElem?_eq_none (Nat.not_lt.1 h)]]
   exact a0p
 ·exact a0p
theorem b7o (E:a0y):∀ k,1<=k->k<=32->GK E k:=a2p (b9N E) (b9M E) (b9L E) (b9K E) (b9J E) (b9I E) (b9H E) (b9G E) (b9F E) (b9i E) (b9h E) (b9g E) (b9f E) (b9e E) (b9d E) (b9c E) (b9b E) (b9a E) (b8Z E) (b8Y E) (b8X E) (b8W E) (b8V E) (b8U E) (b8T E) (b8S E) (b8R E) (b8Q E) (b8P E) (b8O E) (b8N E) (b8M E)
def b2j (t:Co):Prop:=∃ w v,a0l w t v
theorem b2j.parts {t x:Co}(h:b2j t)(hx:x∈t.parts):b2j x:=by
 obtain⟨w,v,hs⟩:=h
 obtain⟨b,off,cap,-,-,-,-,hp⟩:=hs.parts.open (List.length_pos_of_mem hx)
 obtain⟨i,hi,rfl⟩:=List.getElem_of_mem hx
 obtain⟨u,-,hu⟩:=hp i hi
 exact⟨w,u,hu⟩
theorem b2j.fit {t:Co}(h:b2j t):b2e t:=by
 obtain⟨w,v,hs⟩:=h
 exact hs.fit
theorem a4N (E:a0y)(hE:a4E E)(t:Co):b2j t->srt E t≠0->b2k E t:=by
 induction t using Co.ind with
 | h t ih=>
   intro hl hz
   obtain⟨k,hop,h1,h2,hb,hp,hs⟩:=a3U hz
   exact b7o E k h1 h2 hE t hop hl.fit hb (fun x hx=>ih x hx (hl.parts hx) (hp x hx)) (by rw[<-hs];exact hz) hs
def b9X (E:a0y)(x:Co):Prop:=TeC E x/\b2k E x
def PK (E:a0y)(k:Nat):Prop:=a4E E->∀ t:Co,t.op=(k:Int)->a0q t<=8192->a0t k E.wins.length E.crons.length 256 t=true->(∀ x,x∈t.parts->b9X E x)->a0L a0n k t (t.parts.map (srt E))≠0->b2e t->WkC E k t
theorem b9E (E:a0y):PK E 1:=by
 intro hE t hop hn hb hg hz hf
 obtain⟨op,n,m,ps⟩:=t
 obtain rfl:op=1:=hop
 dsimp only at *
 exact b4E E _ 1 (.inl rfl) rfl
theorem b9D (E:a0y):PK E 2:=by
 intro hE t hop hn hb hg hz hf
 obtain⟨op,n,m,ps⟩:=t
 obtain rfl:op=2:=hop
 dsimp only at *
 exact b4E E _ 2 (.inr rfl) rfl
theorem b9C (E:a0y):PK E 3:=by
 intro hE t hop hn hb hg hz hf
 obtain⟨op,n,m,ps⟩:=t
 obtain rfl:op=3:=hop
 dsimp only at *
 exact b6U E _ rfl
theorem b9B (E:a0y):PK E 4:=by
 intro hE t hop hn hb hg hz hf
 obtain⟨op,n,m,ps⟩:=t
 obtain rfl:op=4:=hop
 dsimp only at *
 have hb':(a0C n E.wins.length&&decide (m=0))=true:=hb
 simp only[a0C,Bool.and_eq_true,decide_eq_true_eq] at hb'
 exact b6T E _ rfl hb'.1.1 hb'.1.2
theorem b9A (E:a0y):PK E 5:=by
 intro hE t hop hn hb hg hz hf
 obtain⟨op,n,m,ps⟩:=t
 obtain rfl:op=5:=hop
 dsimp only at *
 have hb':(a0C n E.crons.length&&decide (m=0))=true:=hb
 simp only[a0C,Bool.and_eq_true,decide_eq_true_eq] at hb'
 exact b5g E _ rfl hb'.1.1 hb'.1.2
theorem b9z (E:a0y):PK E 6:=by
 intro hE t hop hn hb hg hz hf
 obtain⟨op,n,m,ps⟩:=t
 obtain rfl:op=6:=hop
 dsimp only at *
 have hb':(decide (1<=n)&&(decide (n<=3)&&(decide (m=1)||decide (m=2))))=true:=hb
 simp only[Bool.and_eq_true,decide_eq_true_eq] at hb'
 exact b5f E _ rfl (by show n≠0;omega)
theorem b9y (E:a0y):PK E 7:=by
 intro hE t hop hn hb hg hz hf
 obtain⟨op,n,m,ps⟩:=t
 obtain rfl:op=7:=hop
 dsimp only at *
 have hz':a0R 1 (ps.map (srt E))≠0:=hz
 obtain⟨h1,-,-,-⟩:=a1r hz'
 obtain⟨x,rfl⟩:=b7j (by simpa using h1)
 exact b5d E n m x (hg x (by simp)).1
theorem b9x (E:a0y):PK E 8:=by
 intro hE t hop hn hb hg hz hf
 obtain⟨op,n,m,ps⟩:=t
 obtain rfl:op=8:=hop
 dsimp only at *
 obtain⟨e1,-⟩:=a0u (k:=8) (r:=1) (ts:=[1]) rfl hz
 obtain⟨x,rfl,q0⟩:=a4K e1
 obtain⟨H0,g0⟩:=hg x (by simp)
 intro v tb b w f q hs ht hw
 obtain⟨p,e,hp⟩:=hw
 cases e
 have hT:a0e E ⟨8,n,m,[x]⟩=a0x (uF 8) (a0e E x):=by rw[a0g];rfl
 rw[hT]
 exact b0u E 8 n m x 119 p (uF 8) b4G.1 H0 (fun W=>b4G.2 _ W g0.1 trivial) v tb b w hs ht hp
theorem b9w (E:a0y):PK E 9:=by
 intro hE t hop hn hb hg hz hf
 obtain⟨op,n,m,ps⟩:=t
 obtain rfl:op=9:=hop
 dsimp only at *
 obtain⟨e1,-⟩:=a0u (k:=9) (r:=2) (ts:=[2]) rfl hz
 obtain⟨x,rfl,q0⟩:=a4K e1
 obtain⟨H0,g0⟩:=hg x (by simp)
 intro v tb b w f q hs ht hw
 obtain⟨p,e,hp⟩:=hw
 cases e
 have hT:a0e E ⟨9,n,m,[x]⟩=a0x (uF 9) (a0e E x):=by rw[a0g];rfl
 rw[hT]
 exact b0u E 9 n m x 120 p (uF 9) b4F.1 H0 (fun W=>b4F.2 _ W g0.1 (g0.2 q0)) v tb b w hs ht hp
theorem b8F (E:a0y):PK E 10:=by
 intro hE t hop hn hb hg hz hf
 obtain⟨op,n,m,ps⟩:=t
 obtain rfl:op=10:=hop
 dsimp only at *
 obtain⟨e1,-⟩:=a0u (k:=10) (r:=1) (ts:=[1]) rfl hz
 obtain⟨x,rfl,q0⟩:=a4K e1
 obtain⟨H0,g0⟩:=hg x (by simp)
 intro v tb b w f q hs ht hw
 obtain⟨p,e,hp⟩:=hw
 cases e
 have hT:a0e E ⟨10,n,m,[x]⟩=a0x (uF 10) (a0e E x):=by rw[a0g];rfl
 rw[hT]
 exact b0u E 10 n m x 121 p (uF 10) b4H.1 H0 (fun W=>b4H.2 _ W g0.1 trivial) v tb b w hs ht hp
theorem b8E (E:a0y):PK E 11:=by
 intro hE t hop hn hb hg hz hf
 obtain⟨op,n,m,ps⟩:=t
 obtain rfl:op=11:=hop
 dsimp only at *
 obtain⟨e1,-⟩:=a0u (k:=11) (r:=1) (ts:=[1]) rfl hz
 obtain⟨x,rfl,q0⟩:=a4K e1
 obtain⟨H0,g0⟩:=hg x (by simp)
 intro v tb b w f q hs ht hw
 obtain⟨p,e,hp⟩:=hw
 cases e
 have hT:a0e E ⟨11,n,m,[x]⟩=a0x (uF 11) (a0e E x):=by rw[a0g];rfl
 rw[hT]
 exact b0u E 11 n m x 122 p (uF 11) a9T.1 H0 (fun W=>a9T.2 _ W g0.1 trivial) v tb b w hs ht hp
theorem b8D (E:a0y):PK E 12:=by
 intro hE t hop hn hb hg hz hf
 obtain⟨op,n,m,ps⟩:=t
 obtain rfl:op=12:=hop
 dsimp only at *
 obtain⟨e1,-⟩:=a0u (k:=12) (r:=1) (ts:=[1]) rfl hz
 obtain⟨x,rfl,q0⟩:=a4K e1
 obtain⟨H0,g0⟩:=hg x (by simp)
 intro v tb b w f q hs ht hw
 obtain⟨p,e,hp⟩:=hw
 cases e
 have hT:a0e E ⟨12,n,m,[x]⟩=a0x (uF 12) (a0e E x):=by rw[a0g];rfl
 rw[hT]
 exact b0u E 12 n m x 123 p (uF 12) a8p.1 H0 (fun W=>a8p.2 _ W g0.1 trivial) v tb b w hs ht hp
theorem b8C (E:a0y):PK E 13:=by
 intro hE t hop hn hb hg hz hf
 obtain⟨op,n,m,ps⟩:=t
 obtain rfl:op=13:=hop
 dsimp only at *
 obtain⟨e1,-⟩:=a0u (k:=13) (r:=1) (ts:=[1]) rfl hz
 obtain⟨x,rfl,q0⟩:=a4K e1
 obtain⟨H0,g0⟩:=hg x (by simp)
 have hb':(decide (0<=n)&&decide (1<=m))=true:=hb
 simp only[Bool.and_eq_true,decide_eq_true_eq] at hb'
 exact b2n E n m x H0 (fun W=>b4w _ n m g0.1.1 (a4L g0.1) hb'.1 (a4L hf.n) hb'.2 (a4L hf.m) (a5i _ _ (by omega) (by have:=a4L hf.m;dsimp only at this;omega)) W)
theorem b8B (E:a0y):PK E 14:=by
 intro hE t hop hn hb hg hz hf
 obtain⟨op,n,m,ps⟩:=t
 obtain rfl:op=14:=hop
 dsimp only at *
 obtain⟨e1,-⟩:=a0u (k:=14) (r:=1) (ts:=[1,1]) rfl hz
 obtain⟨x,y,rfl,q0,q1⟩:=a2D e1
 obtain⟨H0,g0⟩:=hg x (by simp)
 obtain⟨H1,g1⟩:=hg y (by simp)
 intro v tb b w f q hs ht hw
 obtain⟨p,e,hp⟩:=hw
 cases e
 have hT:a0e E ⟨14,n,m,[x,y]⟩=a0A (fun a b=>okR (bF 14 a b)) (a0e E x) (a0e E y):=by rw[a0g];rfl
 rw[hT]
 exact a5r E 14 n m x y 127 p (bF 14) b4U.1 H0 H1 (fun W=>b4U.2 _ _ W g0.1 g1.1) v tb b w hs ht hp
theorem b8A (E:a0y):PK E 15:=by
 intro hE t hop hn hb hg hz hf
 obtain⟨op,n,m,ps⟩:=t
 obtain rfl:op=15:=hop
 dsimp only at *
 obtain⟨e1,-⟩:=a0u (k:=15) (r:=1) (ts:=[1,1]) rfl hz
 obtain⟨x,y,rfl,q0,q1⟩:=a2D e1
 obtain⟨H0,g0⟩:=hg x (by simp)
 obtain⟨H1,g1⟩:=hg y (by simp)
 intro v tb b w f q hs ht hw
 obtain⟨p,e,hp⟩:=hw
 cases e
 have hT:a0e E ⟨15,n,m,[x,y]⟩=a0A (fun a b=>okR (bF 15 a b)) (a0e E x) (a0e E y):=by rw[a0g];rfl
 rw[hT]
 exact a5r E 15 n m x y 128 p (bF 15) b4Q.1 H0 H1 (fun W=>b4Q.2 _ _ W g0.1 g1.1) v tb b w hs ht hp
theorem b8z (E:a0y):PK E 16:=by
 intro hE t hop hn hb hg hz hf
 obtain⟨op,n,m,ps⟩:=t
 obtain rfl:op=16:=hop
 dsimp only at *
 obtain⟨e1,-⟩:=a0u (k:=16) (r:=1) (ts:=[1,1]) rfl hz
 obtain⟨x,y,rfl,q0,q1⟩:=a2D e1
 obtain⟨H0,g0⟩:=hg x (by simp)
 obtain⟨H1,g1⟩:=hg y (by simp)
 intro v tb b w f q hs ht hw
 obtain⟨p,e,hp⟩:=hw
 cases e
 have hT:a0e E ⟨16,n,m,[x,y]⟩=a0A (fun a b=>okR (bF 16 a b)) (a0e E x) (a0e E y):=by rw[a0g];rfl
 rw[hT]
 exact a5r E 16 n m x y 129 p (bF 16) b4R.1 H0 H1 (fun W=>b4R.2 _ _ W g0.1 g1.1) v tb b w hs ht hp
theorem b8y (E:a0y):PK E 17:=by
 intro hE t hop hn hb hg hz hf
 obtain⟨op,n,m,ps⟩:=t
 obtain rfl:op=17:=hop
 dsimp only at *
 obtain⟨e1,-⟩:=a0u (k:=17) (r:=1) (ts:=[1,1]) rfl hz
 obtain⟨x,y,rfl,q0,q1⟩:=a2D e1
 obtain⟨H0,g0⟩:=hg x (by simp)
 obtain⟨H1,g1⟩:=hg y (by simp)
 intro v tb b w f q hs ht hw
 cases hw
 have hT:a0e E ⟨17,n,m,[x,y]⟩=a0A a8f (a0e E x) (a0e E y):=by rw[a0g];rfl
 rw[hT]
 refine b9l E 17 n m x y H0 H1 (fun W=>?_) v tb b w hs ht
 by_cases h:(a0e E y).1=0
 ·rw[if_pos h,decide_eq_false (fun k=>k h),h]
  exact b4B _ W
 ·rw[if_neg h,decide_eq_true h]
  exact b7P _ _ g0.1.1 (a4L g0.1) g1.1.1 (a4L g1.1) h (a5i _ _ (by omega) (by have:=g1.1.1;have:=g1.1.2;omega)) W
theorem b8x (E:a0y):PK E 18:=by
 intro hE t hop hn hb hg hz hf
 obtain⟨op,n,m,ps⟩:=t
 obtain rfl:op=18:=hop
 dsimp only at *
 obtain⟨e1,-⟩:=a0u (k:=18) (r:=2) (ts:=[1,1]) rfl hz
 obtain⟨x,y,rfl,q0,q1⟩:=a2D e1
 obtain⟨H0,g0⟩:=hg x (by simp)
 obtain⟨H1,g1⟩:=hg y (by simp)
 intro v tb b w f q hs ht hw
 obtain⟨p,e,hp⟩:=hw
 cases e
 have hT:a0e E ⟨18,n,m,[x,y]⟩=a0A (fun a b=>okR (bF 18 a b)) (a0e E x) (a0e E y):=by rw[a0g];rfl
 rw[hT]
 exact a5r E 18 n m x y 131 p (bF 18) b1M.1 H0 H1 (fun W=>b1M.2 _ _ W g0.1 g1.1) v tb b w hs ht hp
theorem b8w (E:a0y):PK E 19:=by
 intro hE t hop hn hb hg hz hf
 obtain⟨op,n,m,ps⟩:=t
 obtain rfl:op=19:=hop
 dsimp only at *
 obtain⟨e1,-⟩:=a0u (k:=19) (r:=2) (ts:=[1,1]) rfl hz
 obtain⟨x,y,rfl,q0,q1⟩:=a2D e1
 obtain⟨H0,g0⟩:=hg x (by simp)
 obtain⟨H1,g1⟩:=hg y (by simp)
 intro v tb b w f q hs ht hw
 obtain⟨p,e,hp⟩:=hw
 cases e
 have hT:a0e E ⟨19,n,m,[x,y]⟩=a0A (fun a b=>okR (bF 19 a b)) (a0e E x) (a0e E y):=by rw[a0g];rfl
 rw[hT]
 exact a5r E 19 n m x y 132 p (bF 19) b4T.1 H0 H1 (fun W=>b4T.2 _ _ W g0.1 g1.1) v tb b w hs ht hp
theorem b8v (E:a0y):PK E 20:=by
 intro hE t hop hn hb hg hz hf
 obtain⟨op,n,m,ps⟩:=t
 obtain rfl:op=20:=hop
 dsimp only at *
 obtain⟨e1,-⟩:=a0u (k:=20) (r:=2) (ts:=[1,1]) rfl hz
 obtain⟨x,y,rfl,q0,q1⟩:=a2D e1
 obtain⟨H0,g0⟩:=hg x (by simp)
 obtain⟨H1,g1⟩:=hg y (by simp)
 intro v tb b w f q hs ht hw
 obtain⟨p,e,hp⟩:=hw
 cases e
 have hT:a0e E ⟨20,n,m,[x,y]⟩=a0A (fun a b=>okR (bF 20 a b)) (a0e E x) (a0e E y):=by rw[a0g];rfl
 rw[hT]
 exact a5r E 20 n m x y 133 p (bF 20) b7E.1 H0 H1 (fun W=>b7E.2 _ _ W g0.1 g1.1) v tb b w hs ht hp
theorem b8u (E:a0y):PK E 21:=by
 intro hE t hop hn hb hg hz hf
 obtain⟨op,n,m,ps⟩:=t
 obtain rfl:op=21:=hop
 dsimp only at *
 obtain⟨e1,-⟩:=a0u (k:=21) (r:=2) (ts:=[1,1]) rfl hz
 obtain⟨x,y,rfl,q0,q1⟩:=a2D e1
 obtain⟨H0,g0⟩:=hg x (by simp)
 obtain⟨H1,g1⟩:=hg y (by simp)
 intro v tb b w f q hs ht hw
 obtain⟨p,e,hp⟩:=hw
 cases e
 have hT:a0e E ⟨21,n,m,[x,y]⟩=a0A (fun a b=>okR (bF 21 a b)) (a0e E x) (a0e E y):=by rw[a0g];rfl
 rw[hT]
 exact a5r E 21 n m x y 134 p (bF 21) b1L.1 H0 H1 (fun W=>b1L.2 _ _ W g0.1 g1.1) v tb b w hs ht hp
theorem b8t (E:a0y):PK E 22:=by
 intro hE t hop hn hb hg hz hf
 obtain⟨op,n,m,ps⟩:=t
 obtain rfl:op=22:=hop
 dsimp only at *
 obtain⟨e1,-⟩:=a0u (k:=22) (r:=2) (ts:=[1,1]) rfl hz
 obtain⟨x,y,rfl,q0,q1⟩:=a2D e1
 obtain⟨H0,g0⟩:=hg x (by simp)
 obtain⟨H1,g1⟩:=hg y (by simp)
 intro v tb b w f q hs ht hw
 obtain⟨p,e,hp⟩:=hw
 cases e
 have hT:a0e E ⟨22,n,m,[x,y]⟩=a0A (fun a b=>okR (bF 22 a b)) (a0e E x) (a0e E y):=by rw[a0g];rfl
 rw[hT]
 exact a5r E 22 n m x y 135 p (bF 22) b4S.1 H0 H1 (fun W=>b4S.2 _ _ W g0.1 g1.1) v tb b w hs ht hp
theorem b8s (E:a0y):PK E 23:=by
 intro hE t hop hn hb hg hz hf
 obtain⟨op,n,m,ps⟩:=t
 obtain rfl:op=23:=hop
 dsimp only at *
 obtain⟨e1,-⟩:=a0u (k:=23) (r:=1) (ts:=[1,1]) rfl hz
 obtain⟨x,y,rfl,q0,q1⟩:=a2D e1
 obtain⟨H0,g0⟩:=hg x (by simp)
 obtain⟨H1,g1⟩:=hg y (by simp)
 intro v tb b w f q hs ht hw
 obtain⟨p,e,hp⟩:=hw
 cases e
 have hT:a0e E ⟨23,n,m,[x,y]⟩=a0A (fun a b=>okR (bF 23 a b)) (a0e E x) (a0e E y):=by rw[a0g];rfl
 rw[hT]
 exact a5r E 23 n m x y 136 p (bF 23) a7w.1 H0 H1 (fun W=>a7w.2 _ _ W g0.1 g1.1) v tb b w hs ht hp
theorem b8r (E:a0y):PK E 24:=by
 intro hE t hop hn hb hg hz hf
 obtain⟨op,n,m,ps⟩:=t
 obtain rfl:op=24:=hop
 dsimp only at *
 obtain⟨e1,-⟩:=a0u (k:=24) (r:=1) (ts:=[1,1]) rfl hz
 obtain⟨x,y,rfl,q0,q1⟩:=a2D e1
 obtain⟨H0,g0⟩:=hg x (by simp)
 obtain⟨H1,g1⟩:=hg y (by simp)
 intro v tb b w f q hs ht hw
 obtain⟨p,e,hp⟩:=hw
 cases e
 have hT:a0e E ⟨24,n,m,[x,y]⟩=a0A (fun a b=>okR (bF 24 a b)) (a0e E x) (a0e E y):=by rw[a0g];rfl
 rw[hT]
 exact a5r E 24 n m x y 137 p (bF 24) a5Z.1 H0 H1 (fun W=>a5Z.2 _ _ W g0.1 g1.1) v tb b w hs ht hp
theorem b8q (E:a0y):PK E 25:=by
 intro hE t hop hn hb hg hz hf
 obtain⟨op,n,m,ps⟩:=t
 obtain rfl:op=25:=hop
 dsimp only at *
 obtain⟨e1,-⟩:=a0u (k:=25) (r:=2) (ts:=[2,2]) rfl hz
 obtain⟨x,y,rfl,q0,q1⟩:=a2D e1
 obtain⟨H0,g0⟩:=hg x (by simp)
 obtain⟨H1,g1⟩:=hg y (by simp)
 exact b6V E n m x y H0 H1
theorem b8p (E:a0y):PK E 26:=by
 intro hE t hop hn hb hg hz hf
 obtain⟨op,n,m,ps⟩:=t
 obtain rfl:op=26:=hop
 dsimp only at *
 obtain⟨e1,-⟩:=a0u (k:=26) (r:=2) (ts:=[2,2]) rfl hz
 obtain⟨x,y,rfl,q0,q1⟩:=a2D e1
 obtain⟨H0,g0⟩:=hg x (by simp)
 obtain⟨H1,g1⟩:=hg y (by simp)
 exact b8f E n m x y H0 H1
theorem b8o (E:a0y):PK E 27:=by
 intro hE t hop hn hb hg hz hf
 obtain⟨op,n,m,ps⟩:=t
 obtain rfl:op=27:=hop
 dsimp only at *
 have hz':a0R 2 (ps.map (srt E))≠0:=hz
 obtain⟨h1,-,-,-⟩:=a1r hz'
 obtain⟨x,y,rfl⟩:=b7T (by simpa using h1)
 exact a9P E n m x y (hg x (by simp)).1 (hg y (by simp)).1
theorem b8n (E:a0y):PK E 28:=by
 intro hE t hop hn hb hg hz hf
 obtain⟨op,n,m,ps⟩:=t
 obtain rfl:op=28:=hop
 dsimp only at *
 have hz':a1l (ps.map (srt E))≠0:=hz
 obtain⟨a,h1,-⟩:=a3Z hz'
 obtain⟨x,y,z,rfl⟩:=b8K (by have:=congrArg List.length h1;simpa using this)
 exact a9Q E n m x y z (hg x (by simp)).1 (hg y (by simp)).1 (hg z (by simp)).1
theorem b8m (E:a0y):PK E 29:=by
 intro hE t hop hn hb hg hz hf
 obtain⟨op,n,m,ps⟩:=t
 obtain rfl:op=29:=hop
 dsimp only at *
 exact b5e E _ rfl
theorem b8l (E:a0y):PK E 30:=by
 intro hE t hop hn hb hg hz hf
 obtain⟨op,n,m,ps⟩:=t
 obtain rfl:op=30:=hop
 dsimp only at *
 obtain⟨e1,-⟩:=a0u (k:=30) (r:=3) (ts:=[1]) rfl hz
 obtain⟨x,rfl,q0⟩:=a4K e1
 obtain⟨H0,g0⟩:=hg x (by simp)
 exact b8e E n m x H0 (fun W=>a7z _ g0.1.1 (a4L g0.1) W)
theorem b8k (E:a0y):PK E 31:=by
 intro hE t hop hn hb hg hz hf
 obtain⟨op,n,m,ps⟩:=t
 obtain rfl:op=31:=hop
 dsimp only at *
 obtain⟨e1,-⟩:=a0u (k:=31) (r:=3) (ts:=[1]) rfl hz
 obtain⟨x,rfl,q0⟩:=a4K e1
 obtain⟨H0,g0⟩:=hg x (by simp)
 exact b8g E n m x H0 (fun W=>a7z _ g0.1.1 (a4L g0.1) W) (fun W=>b2g _ _ hE.rep.1 (a4L hE.rep) (a3X _).1 (a4L (a3X _)) W)
theorem b8j (E:a0y):PK E 32:=by
 intro hE t hop hn hb hg hz hf
 obtain⟨op,n,m,ps⟩:=t
 obtain rfl:op=32:=hop
 dsimp only at *
 have hz':a0n ⟨32,n,m,ps⟩ (ps.map (srt E))≠0:=hz
 have hl:a4g ⟨32,n,m,ps⟩ (ps.map (srt E)):=(a3d _ _).1 (by
  unfold a0n at hz'
  split at hz'
  ·assumption
  ·exact absurd rfl hz')
 have hlen:ps.length<=8192:=by
  have h1:=a1w ps
  rw[a1d] at hn
  have h2:1+a0F ps<=8192:=hn
  omega
 intro v tb b w f q hs ht hw
 cases hw
 have hT:a0e E ⟨32,n,m,ps⟩=a9p ps (ps.map (a0e E)):=by rw[a0g];rfl
 rw[hT]
 exact b3y E 32 n m ps (by have:=hl.1;simpa using this) (by have:=hl.2.1;simpa using this) hlen (fun x hx=>(hg x hx).1) v tb b w hs ht
theorem b7d (E:a0y):∀ k,1<=k->k<=32->PK E k:=a2p (b9E E) (b9D E) (b9C E) (b9B E) (b9A E) (b9z E) (b9y E) (b9x E) (b9w E) (b8F E) (b8E E) (b8D E) (b8C E) (b8B E) (b8A E) (b8z E) (b8y E) (b8x E) (b8w E) (b8v E) (b8u E) (b8t E) (b8s E) (b8r E) (b8q E) (b8p E) (b8o E) (b8n E) (b8m E) (b8l E) (b8k E) (b8j E)
theorem b2q (E:a0y)(hE:a4E E)(t:Co):b2j t->a0q t<=8192->srt E t≠0->TeC E t:=by
 induction t using Co.ind with
 | h t ih=>
   intro hl hn hz
   obtain⟨k,hop,h1,h2,hb,hp,hs⟩:=a3U hz
   refine a9w E t k h1 h2 hop (b7d E k h1 h2 hE t hop hn hb (fun x hx=>⟨ih x hx (hl.parts hx) ?_ (hp x hx),a4N E hE x (hl.parts hx) (hp x hx)⟩) (by rw[<-hs];exact hz) hl.fit)
   have:=a0J hx
   omega
end Go.Proofs.YtdgjjnpdbdmdkaaGreatDoor
