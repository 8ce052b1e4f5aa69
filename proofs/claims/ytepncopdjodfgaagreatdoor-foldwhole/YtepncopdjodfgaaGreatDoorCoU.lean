import Derived.Test.YtepncopdjodfgaaGreatDoorMgX
namespace Go.Proofs.YtepncopdjodfgaaGreatDoor
open Go.RowKit
set_option maxHeartbeats 1000000 in
set_option maxRecDepth 20000 in
theorem two_c (E:EnvP)(k tn tm:Int)(x0 x1:Co)(g p:Nat)(F:Int->Int->Int)(hE:Ent g)(H0:TeC E x0)(H1:TeC E x1)(HS:∀ W:World,Calls Tryz.prog g #[.int .i64 (telV E x0).1,.int .i64 (telV E x1).1] W fun e w'=>e=.returned (.int .i64 (F (telV E x0).1 (telV E x1).1))/\Below W.heap.size W w')(v:Value)(tb b:Nat)(w:World)(hs:CSits w ⟨k,tn,tm,[x0,x1]⟩ v)(ht:TlAt w tb b E)(hp:FnF w p (.func (.func g) #[] #[])):
 Calls Tryz.prog 247 #[.pointer (some ⟨tb,0,none⟩),coV ⟨k,tn,tm,[x0,x1]⟩ v,.pointer (some ⟨p,0,none⟩)] w fun e w'=>e=.returned (resV (ofTwoR (fun a b=>okR (F a b)) (telV E x0) (telV E x1)))/\Below w.heap.size w w':=by
 obtain⟨Rv,hRv⟩:∃ Rv,Hid (Rv=resV (ofTwoR (fun a b=>okR (F a b)) (telV E x0) (telV E x1))):=⟨_,rfl⟩
 rw[<-hRv.out]
 have HC:=chid (fun W (hW:Below w.heap.size w W)=>pair_c E k tn tm x0 x1 H0 H1 v tb b W (hs.next hW) (ht.next hW))
 obtain⟨pb,off,cap,u0,u1,rfl,-,-,-,-,-⟩:=parts2 hs.parts
 have HA:Hid (∀ o,Below w.heap.size w (w.alloc o)):=fun o=>(Below.refl _ _).alloc (Nat.le_refl _) _
 have HSs:=chid HS
 clear hs ht HS H0 H1
 generalize telV E x0=r0 at *
 generalize telV E x1=r1 at *
 obtain⟨n0',e0⟩:=r0
 obtain⟨n1',e1⟩:=r1
 dsimp only at HSs
 by_cases he:e0=0
 case neg=>
  have hR:Hid (Rv=Value.tuple #[.int .i64 0,.iface 237 (.agg #[.int .i64 e0])]):=by show _=_;rw[hRv.out];unfold ofTwoR;rw[if_neg he];exact resV_err _ he
  have ep:pairV (n0',e0) (n1',e1)=.tuple #[.int .i64 0,.int .i64 0,.iface 237 (.agg #[.int .i64 e0])]:=by unfold pairV;rw[if_neg he,errV_n he]
  simp only[ep] at HC
  clear hRv ep
  go_enter Tryz.func247,Tryz.ntmps247
  go_wp2_with fail
  refine Calls.mono (HC.out _ (HA.out _)) ?_
  rintro e w1 ⟨rfl,b1⟩
  have HB:=chid (cbelow_on (HA.out _) b1 (by simp))
  clear b1 HC
  go_wp2_with fail
  go_ret2
  exact⟨by rw[hR.out];rfl,HB.out⟩
 subst he
 by_cases he:e1=0
 case neg=>
  have hR:Hid (Rv=Value.tuple #[.int .i64 0,.iface 237 (.agg #[.int .i64 e1])]):=by show _=_;rw[hRv.out];unfold ofTwoR;rw[if_pos rfl,if_neg he];exact resV_err _ he
  have ep:pairV (n0',0) (n1',e1)=.tuple #[.int .i64 n0',.int .i64 n1',.iface 237 (.agg #[.int .i64 e1])]:=by unfold pairV;rw[if_pos rfl,errV_n he]
  simp only[ep] at HC
  clear hRv ep
  go_enter Tryz.func247,Tryz.ntmps247
  go_wp2_with fail
  refine Calls.mono (HC.out _ (HA.out _)) ?_
  rintro e w1 ⟨rfl,b1⟩
  have HB:=chid (cbelow_on (HA.out _) b1 (by simp))
  clear b1 HC
  go_wp2_with fail
  go_ret2
  exact⟨by rw[hR.out];rfl,HB.out⟩
 subst he
 have ep:pairV (n0',0) (n1',0)=.tuple #[.int .i64 n0',.int .i64 n1',.nilIface]:=by unfold pairV;rw[if_pos rfl,errV_0]
 simp only[ep] at HC
 clear ep
 have hR:Hid (Rv=Value.tuple #[.int .i64 (F n0' n1'),.nilIface]):=by show _=_;rw[hRv.out];unfold ofTwoR;rw[if_pos rfl,if_pos rfl];exact resV_ok _ rfl
 have HP:=chid hp
 unfold Ent at hE
 clear hRv hp
 go_enter Tryz.func247,Tryz.ntmps247
 go_wp2_with fail
 refine Calls.mono (HC.out _ (HA.out _)) ?_
 rintro e w1 ⟨rfl,b1⟩
 have HB:=chid (cbelow_on (HA.out _) b1 (by simp))
 clear b1 HC
 obtain⟨lp2,fp2⟩:=HP.out.next HB.out
 go_wp2_with fail
 refine Calls.mono (HSs.out _) ?_
 rintro e w3 ⟨rfl,b3⟩
 have HB3:=chid (cbelow_on HB.out b3 HB.out.size)
 clear b3 HSs
 go_wp2_with fail
 go_ret2
 exact⟨by rw[hR.out];rfl,HB3.out⟩
set_option maxHeartbeats 1000000 in
set_option maxRecDepth 20000 in
theorem div_c (E:EnvP)(k tn tm:Int)(x0 x1:Co)(H0:TeC E x0)(H1:TeC E x1)(HS:∀ W:World,Calls Tryz.prog 255 #[.int .i64 (telV E x0).1,.int .i64 (telV E x1).1] W fun e w'=>e=.returned (.tuple #[.int .i64 (if (telV E x1).1=0 then 0 else held (fl ((telV E x0).1*1000000) (telV E x1).1)),.bool (decide ((telV E x1).1≠0))])/\Below W.heap.size W w')(v:Value)(tb b:Nat)(w:World)(hs:CSits w ⟨k,tn,tm,[x0,x1]⟩ v)(ht:TlAt w tb b E):
 Calls Tryz.prog 194 #[.pointer (some ⟨tb,0,none⟩),coV ⟨k,tn,tm,[x0,x1]⟩ v] w fun e w'=>e=.returned (resV (ofTwoR divR (telV E x0) (telV E x1)))/\Below w.heap.size w w':=by
 obtain⟨Rv,hRv⟩:∃ Rv,Hid (Rv=resV (ofTwoR divR (telV E x0) (telV E x1))):=⟨_,rfl⟩
 rw[<-hRv.out]
 have HC:=chid (fun W (hW:Below w.heap.size w W)=>pair_c E k tn tm x0 x1 H0 H1 v tb b W (hs.next hW) (ht.next hW))
 obtain⟨pb,off,cap,u0,u1,rfl,-,-,-,-,-⟩:=parts2 hs.parts
 have HA:Hid (∀ o,Below w.heap.size w (w.alloc o)):=fun o=>(Below.refl _ _).alloc (Nat.le_refl _) _
 have HSs:=chid HS
 clear hs ht HS H0 H1
 generalize telV E x0=r0 at *
 generalize telV E x1=r1 at *
 obtain⟨n0',e0⟩:=r0
 obtain⟨n1',e1⟩:=r1
 dsimp only at HSs
 by_cases he:e0=0
 case neg=>
  have hR:Hid (Rv=Value.tuple #[.int .i64 0,.iface 237 (.agg #[.int .i64 e0])]):=by show _=_;rw[hRv.out];unfold ofTwoR;rw[if_neg he];exact resV_err _ he
  have ep:pairV (n0',e0) (n1',e1)=.tuple #[.int .i64 0,.int .i64 0,.iface 237 (.agg #[.int .i64 e0])]:=by unfold pairV;rw[if_neg he,errV_n he]
  simp only[ep] at HC
  clear hRv ep
  go_enter Tryz.func194,Tryz.ntmps194
  go_wp2_with fail
  refine Calls.mono (HC.out _ (HA.out _)) ?_
  rintro e w1 ⟨rfl,b1⟩
  have HB:=chid (cbelow_on (HA.out _) b1 (by simp))
  clear b1 HC
  go_wp2_with fail
  go_ret2
  exact⟨by rw[hR.out];rfl,HB.out⟩
 subst he
 by_cases he:e1=0
 case neg=>
  have hR:Hid (Rv=Value.tuple #[.int .i64 0,.iface 237 (.agg #[.int .i64 e1])]):=by show _=_;rw[hRv.out];unfold ofTwoR;rw[if_pos rfl,if_neg he];exact resV_err _ he
  have ep:pairV (n0',0) (n1',e1)=.tuple #[.int .i64 n0',.int .i64 n1',.iface 237 (.agg #[.int .i64 e1])]:=by unfold pairV;rw[if_pos rfl,errV_n he]
  simp only[ep] at HC
  clear hRv ep
  go_enter Tryz.func194,Tryz.ntmps194
  go_wp2_with fail
  refine Calls.mono (HC.out _ (HA.out _)) ?_
  rintro e w1 ⟨rfl,b1⟩
  have HB:=chid (cbelow_on (HA.out _) b1 (by simp))
  clear b1 HC
  go_wp2_with fail
  go_ret2
  exact⟨by rw[hR.out];rfl,HB.out⟩
 subst he
 have ep:pairV (n0',0) (n1',0)=.tuple #[.int .i64 n0',.int .i64 n1',.nilIface]:=by unfold pairV;rw[if_pos rfl,errV_0]
 simp only[ep] at HC
 clear ep
 by_cases hz:n1'=0
 ·have hR:Hid (Rv=Value.tuple #[.int .i64 0,.iface 237 (.agg #[.int .i64 2])]):=by show _=_;rw[hRv.out];unfold ofTwoR;rw[if_pos rfl,if_pos rfl];unfold divR;rw[if_pos hz];exact resV_err _ (by decide)
  have d:decide (n1'≠0)=false:=decide_eq_false (fun h=>h hz)
  rw[if_pos hz,d] at HSs
  clear hRv d
  subst hz
  go_enter Tryz.func194,Tryz.ntmps194
  go_wp2_with fail
  refine Calls.mono (HC.out _ (HA.out _)) ?_
  rintro e w1 ⟨rfl,b1⟩
  have HB:=chid (cbelow_on (HA.out _) b1 (by simp))
  clear b1 HC
  go_wp2_with fail
  refine Calls.mono (HSs.out _) ?_
  rintro e w3 ⟨rfl,b3⟩
  have HB3:=chid (cbelow_on HB.out b3 HB.out.size)
  clear b3 HSs
  go_wp2_with fail
  go_ret2
  exact⟨by rw[hR.out];rfl,HB3.out⟩
 ·have hR:Hid (Rv=Value.tuple #[.int .i64 (held (fl (n0'*1000000) n1')),.nilIface]):=by show _=_;rw[hRv.out];unfold ofTwoR;rw[if_pos rfl,if_pos rfl];unfold divR;rw[if_neg hz];exact resV_ok _ rfl
  have d:decide (n1'≠0)=true:=decide_eq_true hz
  rw[if_neg hz,d] at HSs
  clear hRv d
  go_enter Tryz.func194,Tryz.ntmps194
  go_wp2_with fail
  refine Calls.mono (HC.out _ (HA.out _)) ?_
  rintro e w1 ⟨rfl,b1⟩
  have HB:=chid (cbelow_on (HA.out _) b1 (by simp))
  clear b1 HC
  go_wp2_with fail
  refine Calls.mono (HSs.out _) ?_
  rintro e w3 ⟨rfl,b3⟩
  have HB3:=chid (cbelow_on HB.out b3 HB.out.size)
  clear b3 HSs
  go_wp2_with fail
  go_ret2
  exact⟨by rw[hR.out];rfl,HB3.out⟩
theorem ladI_end {ps:List Co}{v:Int}{L f i:Nat}(h:¬ i+1<L)(hf:0<f):ladI ps v L f i=L-1:=by
 obtain⟨f',rfl⟩:∃ f',f=f'+1:=⟨f-1,by omega⟩
 rw[ladI,if_neg h]
theorem ladI_hit {ps:List Co}{v:Int}{L f i:Nat}(h:i+1<L)(hv:v<(ps.getD i co0).n)(hf:0<f):ladI ps v L f i=i+1:=by
 obtain⟨f',rfl⟩:∃ f',f=f'+1:=⟨f-1,by omega⟩
 rw[ladI,if_pos h,if_pos hv]
theorem ladI_on {ps:List Co}{v:Int}{L f i:Nat}(h:i+1<L)(hv:¬ v<(ps.getD i co0).n):ladI ps v L (f+1) i=ladI ps v L f (i+2):=by
 rw[ladI,if_pos h,if_neg hv]
def ladR (ps:List Co)(rs:List Rs):Rs:=if (rs.getD 0 (0,0)).2=0 then rs.getD (ladI ps (rs.getD 0 (0,0)).1 ps.length ps.length 1) (0,0) else noR (rs.getD 0 (0,0)).2
set_option maxHeartbeats 4000000 in
set_option maxRecDepth 20000 in
theorem ladder_c (E:EnvP)(k tn tm:Int)(ps:List Co)(h2:2<=ps.length)(hev:ps.length%2=0)(hmx:ps.length<=8192)(H:∀ x,x∈ps->TeC E x)(v:Value)(tb b:Nat)(w:World)(hs:CSits w ⟨k,tn,tm,ps⟩ v)(ht:TlAt w tb b E):
 Calls Tryz.prog 212 #[.pointer (some ⟨tb,0,none⟩),coV ⟨k,tn,tm,ps⟩ v] w fun e w'=>e=.returned (resV (ladR ps (ps.map (telV E))))/\Below w.heap.size w w':=by
 obtain⟨Rv,hRv⟩:∃ Rv,Hid (Rv=resV (ladR ps (ps.map (telV E)))):=⟨_,rfl⟩
 rw[<-hRv.out]
 obtain⟨pb,off,cap,rfl,k1,k2,lp,hx⟩:=hs.parts.open (by show 0<ps.length;omega)
 dsimp only at k1 k2 hx
 have gR:∀ i (h:i<ps.length),(ps.map (telV E)).getD i (0,0)=telV E ps[i]:=fun i h=>by simp[List.getD,List.getElem?_map,List.getElem?_eq_getElem h]
 have gP:∀ i (h:i<ps.length),ps.getD i co0=ps[i]:=fun i h=>by simp[List.getD,List.getElem?_eq_getElem h]
 have HC:Hid (∀ i (h:i<ps.length) W,Below w.heap.size w W->∃ a n,Four w pb (off+i*4) ps[i] (.slice a ps[i].parts.length n)/\Calls Tryz.prog 231 #[.pointer (some ⟨tb,0,none⟩),coV ps[i] (.slice a ps[i].parts.length n)] W fun e w'=>e=.returned (resV (telV E ps[i]))/\Below W.heap.size W w'):=fun i h W hW=>by
  obtain⟨u,f6,s6⟩:=hx i h
  obtain⟨a,n,rfl,-,-⟩:=s6.parts.shape
  exact⟨a,n,f6,H _ (List.getElem_mem h) _ tb b W (s6.next hW) (ht.next hW)⟩
 have HA:Hid (∀ o,Below w.heap.size w (w.alloc o)):=fun o=>(Below.refl _ _).alloc (Nat.le_refl _) _
 have HX:=chid (Box.new w (coL ⟨k,tn,tm,ps⟩ (.slice (some ⟨pb,off,none⟩) ps.length cap)) 30)
 obtain⟨a0,n0,f0,-⟩:=HC.out 0 (by omega) w (Below.refl _ _)
 obtain⟨p0,p1,p2,p3⟩:=f0
 simp only[Nat.zero_mul,Nat.add_zero] at p0 p1 p2 p3
 obtain⟨L,hL⟩:∃ L,Hid (L=ps.length):=⟨_,rfl⟩
 have hl0:0<L:=by rw[hL.out];omega
 have hl0':(0:Int)<(L:Int):=by omega
 have h1:Hid (∀ W,Below w.heap.size w W->Calls Tryz.prog 231 #[.pointer (some ⟨tb,0,none⟩),coV ps[0] (.slice a0 ps[0].parts.length n0)] W fun e w'=>e=.returned (resV (telV E ps[0]))/\Below W.heap.size W w'):=fun W hW=>by
  obtain⟨a,n,f6,c6⟩:=HC.out 0 (by omega) W hW
  have e:=f6.c3
  simp only[Nat.zero_mul,Nat.add_zero] at e
  rw[p3] at e
  simp only[Option.some.injEq,Value.slice.injEq,true_and] at e
  obtain⟨rfl,rfl⟩:=e
  exact c6
 have hRe:Hid (Rv=resV (if (telV E ps[0]).2=0 then (ps.map (telV E)).getD (ladI ps (telV E ps[0]).1 ps.length ps.length 1) (0,0) else noR (telV E ps[0]).2)):=by
  show _=_
  rw[hRv.out];unfold ladR;rw[gR 0 (by omega)]
 have HGR:=chid gR
 have HGP:=chid gP
 clear hs ht hx gR gP hRv
 generalize telV E ps[0]=r0 at *
 generalize ps[0]=x0 at *
 show Calls _ _ #[_,coV ⟨k,tn,tm,ps⟩ (.slice (some ⟨pb,off,none⟩) ps.length cap)] _ _
 rw[<-hL.out] at HX k1 hRe h2 hev hmx ⊢
 obtain⟨n0',e0⟩:=r0
 dsimp only at hRe
 by_cases he:e0=0
 case neg=>
  have hR:Hid (Rv=Value.tuple #[.int .i64 0,.iface 237 (.agg #[.int .i64 e0])]):=by show _=_;rw[hRe.out,if_neg he];exact resV_err _ he
  go_enter Tryz.func212,Tryz.ntmps212
  go_wp2_with fail
  refine Calls.mono (h1.out _ (HA.out _)) ?_
  rintro e w1 ⟨he1,b1⟩
  rw[resV_err n0' he] at he1
  subst he1
  have HB:=chid (cbelow_on (HA.out _) b1 (by simp))
  clear b1 hRe h1 HX p0 p1 p2 p3
  go_wp2_with fail
  go_ret2
  exact⟨by rw[hR.out];rfl,HB.out⟩
 subst he
 have hRe2:Hid (Rv=resV ((ps.map (telV E)).getD (ladI ps n0' L L 1) (0,0))):=hRe.out
 clear hRe
 go_enter Tryz.func212,Tryz.ntmps212
 go_wp2_with fail
 refine Calls.mono (h1.out _ (HA.out _)) ?_
 rintro e w1 ⟨he1,b1⟩
 rw[resV_ok (n0',0) rfl] at he1
 subst he1
 have HB:=chid (cbelow_on (HA.out _) b1 (by simp))
 have X1:=HX.out.next b1
 have c3:=X1.cell 3 _ rfl
 have x1l:=X1.lt
 clear b1 HX X1 p0 p1 p2 p3 h1
 obtain⟨M,rfl⟩:∃ M,L=M+1:=⟨L-1,by omega⟩
 have lp1:=Nat.lt_of_lt_of_le lp HB.out.size
 go_wp2_with fail
 go_loopw [9] (fun x wr=>∃ (i f:Nat),x=.int .i64 (i:Nat)/\i<=M/\Hid (i%2=1)/\Hid (M+1<=i+2*f)/\Hid (ladI ps n0' (M+1) f i=ladI ps n0' (M+1) (M+1) 1)/\wr=w1) (fun x _=>match x with | .int _ p=>((M:Int)-p).toNat | _=>0)
 case atStart=>exact⟨1,M+1,rfl,by omega,chid rfl,chid (by omega),chid rfl,rfl⟩
 case round=>
  obtain⟨i,f,rfl,hj,HO,HF,HJ,rfl⟩:=hrel
  by_cases hlt:i<M
  ·have hlt':(i:Int)<(M:Int):=by omega
   have hi1:i<ps.length:=by rw[<-hL.out];omega
   have hi2:i+1<ps.length:=by rw[<-hL.out];omega
   obtain⟨a5,n5,f5,-⟩:=HC.out i hi1 wr HB.out
   have q1:=(f5.keep (w':=wr) (fun j=>HB.out.cell (p:=⟨pb,j,none⟩) lp)).c1
   have gp:=HGP.out i hi1
   have hil:(i:Int)<(M:Int)+1:=by omega
   by_cases hv:n0'<ps[i].n
   ·have hJ2:ladI ps n0' (M+1) f i=i+1:=ladI_hit (by omega) (by rw[gp];exact hv) (by have:=HF.out;omega)
    obtain⟨a6,n6,f6,c6⟩:=HC.out (i+1) hi2 wr HB.out
    obtain⟨p0,p1,p2,p3⟩:=f6.keep (w':=wr) (fun j=>HB.out.cell (p:=⟨pb,j,none⟩) lp)
    have hR:Hid (Rv=resV (telV E ps[i+1])):=by show _=_;rw[hRe2.out,<-HJ.out,hJ2,HGR.out (i+1) hi2]
    have HC6:=chid c6
    have hil2:(i:Int)+1<(M:Int)+1:=by omega
    clear hRe2 HJ hJ2 gp f5 f6 c6 HC
    generalize telV E ps[i+1]=r6 at *
    generalize ps[i+1]=x6 at *
    generalize ps[i].n=n7 at *
    go_wp2_with fail
    refine Calls.mono HC6.out ?_
    rintro e w2 ⟨rfl,b2⟩
    have HB2:=chid (cbelow_on HB.out b2 HB.out.size)
    clear b2 p0 p1 p2 p3
    go_wp2_with fail
    go_ret2
    exact⟨by rw[hR.out];rfl,HB2.out⟩
   ·obtain⟨f',rfl⟩:∃ f',f=f'+1:=⟨f-1,by have:=HF.out;omega⟩
    have hJ2:Hid (ladI ps n0' (M+1) f' (i+2)=ladI ps n0' (M+1) (M+1) 1):=by
     show _=_
     rw[<-HJ.out,ladI_on (by omega) (by rw[gp];exact hv)]
    clear hRe2 HJ gp f5 HC
    generalize ps[i].n=n7 at *
    go_wp2_with fail
    go_roundw
    case rel=>exact⟨i+2,f',by go_num,by have:=HO.out;omega,chid (by have:=HO.out;omega),chid (by have:=HF.out;omega),hJ2.out,by first | rfl | trivial⟩
    case measure=>simp;omega
  ·have hlt':¬(i:Int)<(M:Int):=by omega
   obtain rfl:i=M:=by omega
   have hiM:i<ps.length:=by rw[<-hL.out];omega
   have hJ2:ladI ps n0' (i+1) f i=i:=ladI_end (by omega) (by have:=HF.out;omega)
   obtain⟨a6,n6,f6,c6⟩:=HC.out i hiM wr HB.out
   obtain⟨p0,p1,p2,p3⟩:=f6.keep (w':=wr) (fun j=>HB.out.cell (p:=⟨pb,j,none⟩) lp)
   have hR:Hid (Rv=resV (telV E ps[i])):=by show _=_;rw[hRe2.out,<-HJ.out,hJ2,HGR.out i hiM]
   have HC6:=chid c6
   clear hRe2 HJ hJ2 f6 c6 HC
   generalize telV E ps[i]=r6 at *
   generalize ps[i]=x6 at *
   go_wp2_with fail
   refine Calls.mono HC6.out ?_
   rintro e w2 ⟨rfl,b2⟩
   have HB2:=chid (cbelow_on HB.out b2 HB.out.size)
   clear b2 p0 p1 p2 p3
   go_wp2_with fail
   go_ret2
   exact⟨by rw[hR.out];rfl,HB2.out⟩
end Go.Proofs.YtepncopdjodfgaaGreatDoor
