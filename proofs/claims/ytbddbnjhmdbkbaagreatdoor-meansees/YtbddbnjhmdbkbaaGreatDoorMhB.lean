import Derived.Test.YtbddbnjhmdbkbaaGreatDoorMhC
namespace Go.Proofs.YtbddbnjhmdbkbaaGreatDoor
open Go.RowKit
set_option maxHeartbeats 1000000 in
set_option maxRecDepth 20000 in
theorem a5R (E:a0z)(k tn tm:Int)(x0 x1:Co)(g p:Nat)(F:Int->Int->Int)(hE:Ent g)(H0:TeC E x0)(H1:TeC E x1)(HS:∀ W:World,Calls Tryz.prog g #[.int .i64 (a0e E x0).1,.int .i64 (a0e E x1).1] W fun e w'=>e=.returned (.int .i64 (F (a0e E x0).1 (a0e E x1).1))/\Below W.heap.size W w')(v:Value)(tb b:Nat)(w:World)(hs:a0p w ⟨k,tn,tm,[x0,x1]⟩ v)(ht:a7U w tb b E)(hp:FnF w p (.func (.func g) #[] #[])):
 Calls Tryz.prog 222 #[.pointer (some ⟨tb,0,none⟩),coV ⟨k,tn,tm,[x0,x1]⟩ v,.pointer (some ⟨p,0,none⟩)] w fun e w'=>e=.returned (a1Z (a0E (fun a b=>okR (F a b)) (a0e E x0) (a0e E x1)))/\Below w.heap.size w w':=by
 obtain⟨Rv,hRv⟩:∃ Rv,Hid (Rv=a1Z (a0E (fun a b=>okR (F a b)) (a0e E x0) (a0e E x1))):=⟨_,rfl⟩
 rw[<-hRv.out]
 have HC:=a0a (fun W (hW:Below w.heap.size w W)=>b7V E k tn tm x0 x1 H0 H1 v tb b W (hs.next hW) (ht.next hW))
 obtain⟨pb,off,cap,u0,u1,rfl,-,-,-,-,-⟩:=a6j hs.parts
 have HA:Hid (∀ o,Below w.heap.size w (w.alloc o)):=fun o=>(ZD _ _).alloc (ZB _) _
 have HSs:=a0a HS
 clear hs ht HS H0 H1
 generalize a0e E x0=r0 at *
 generalize a0e E x1=r1 at *
 obtain⟨n0',e0⟩:=r0
 obtain⟨n1',e1⟩:=r1
 dsimp only at HSs
 by_cases he:e0=0
 case neg=>
  have hR:Hid (Rv=Value.tuple #[.int .i64 0,.iface 238 (.agg #[.int .i64 e0])]):=by show _=_;rw[hRv.out];unfold a0E;rw[if_neg he];exact a0o _ he
  have ep:a3t (n0',e0) (n1',e1)=.tuple #[.int .i64 0,.int .i64 0,.iface 238 (.agg #[.int .i64 e0])]:=by unfold a3t;rw[if_neg he,a3B he]
  simp only[ep] at HC
  clear hRv ep
  go_enter Tryz.func222,Tryz.ntmps222
  go_wp2_with fail
  refine ZE (HC.out _ (HA.out _)) ?_
  rintro e w1 ⟨rfl,b1⟩
  have HB:=a0a (a0b (HA.out _) b1 (by simp))
  clear b1 HC
  go_wp2_with fail
  go_ret2
  exact⟨by rw[hR.out];rfl,HB.out⟩
 subst he
 by_cases he:e1=0
 case neg=>
  have hR:Hid (Rv=Value.tuple #[.int .i64 0,.iface 238 (.agg #[.int .i64 e1])]):=by show _=_;rw[hRv.out];unfold a0E;rw[if_pos rfl,if_neg he];exact a0o _ he
  have ep:a3t (n0',0) (n1',e1)=.tuple #[.int .i64 n0',.int .i64 n1',.iface 238 (.agg #[.int .i64 e1])]:=by unfold a3t;rw[if_pos rfl,a3B he]
  simp only[ep] at HC
  clear hRv ep
  go_enter Tryz.func222,Tryz.ntmps222
  go_wp2_with fail
  refine ZE (HC.out _ (HA.out _)) ?_
  rintro e w1 ⟨rfl,b1⟩
  have HB:=a0a (a0b (HA.out _) b1 (by simp))
  clear b1 HC
  go_wp2_with fail
  go_ret2
  exact⟨by rw[hR.out];rfl,HB.out⟩
 subst he
 have ep:a3t (n0',0) (n1',0)=.tuple #[.int .i64 n0',.int .i64 n1',.nilIface]:=by unfold a3t;rw[if_pos rfl,a6w]
 simp only[ep] at HC
 clear ep
 have hR:Hid (Rv=Value.tuple #[.int .i64 (F n0' n1'),.nilIface]):=by show _=_;rw[hRv.out];unfold a0E;rw[if_pos rfl,if_pos rfl];exact a0u _ rfl
 have HP:=a0a hp
 unfold Ent at hE
 clear hRv hp
 go_enter Tryz.func222,Tryz.ntmps222
 go_wp2_with fail
 refine ZE (HC.out _ (HA.out _)) ?_
 rintro e w1 ⟨rfl,b1⟩
 have HB:=a0a (a0b (HA.out _) b1 (by simp))
 clear b1 HC
 obtain⟨lp2,fp2⟩:=HP.out.next HB.out
 go_wp2_with fail
 refine ZE (HSs.out _) ?_
 rintro e w3 ⟨rfl,b3⟩
 have HB3:=kb HB b3
 clear b3 HSs
 go_wp2_with fail
 go_ret2
 exact⟨by rw[hR.out];rfl,HB3.out⟩
set_option maxHeartbeats 1000000 in
set_option maxRecDepth 20000 in
theorem c3H (E:a0z)(k tn tm:Int)(x0 x1:Co)(H0:TeC E x0)(H1:TeC E x1)(HS:∀ W:World,Calls Tryz.prog 230 #[.int .i64 (a0e E x0).1,.int .i64 (a0e E x1).1] W fun e w'=>e=.returned (.tuple #[.int .i64 (if (a0e E x1).1=0 then 0 else held (fl ((a0e E x0).1*1000000) (a0e E x1).1)),.bool (decide ((a0e E x1).1≠0))])/\Below W.heap.size W w')(v:Value)(tb b:Nat)(w:World)(hs:a0p w ⟨k,tn,tm,[x0,x1]⟩ v)(ht:a7U w tb b E):
 Calls Tryz.prog 158 #[.pointer (some ⟨tb,0,none⟩),coV ⟨k,tn,tm,[x0,x1]⟩ v] w fun e w'=>e=.returned (a1Z (a0E b7a (a0e E x0) (a0e E x1)))/\Below w.heap.size w w':=by
 obtain⟨Rv,hRv⟩:∃ Rv,Hid (Rv=a1Z (a0E b7a (a0e E x0) (a0e E x1))):=⟨_,rfl⟩
 rw[<-hRv.out]
 have HC:=a0a (fun W (hW:Below w.heap.size w W)=>b7V E k tn tm x0 x1 H0 H1 v tb b W (hs.next hW) (ht.next hW))
 obtain⟨pb,off,cap,u0,u1,rfl,-,-,-,-,-⟩:=a6j hs.parts
 have HA:Hid (∀ o,Below w.heap.size w (w.alloc o)):=fun o=>(ZD _ _).alloc (ZB _) _
 have HSs:=a0a HS
 clear hs ht HS H0 H1
 generalize a0e E x0=r0 at *
 generalize a0e E x1=r1 at *
 obtain⟨n0',e0⟩:=r0
 obtain⟨n1',e1⟩:=r1
 dsimp only at HSs
 by_cases he:e0=0
 case neg=>
  have hR:Hid (Rv=Value.tuple #[.int .i64 0,.iface 238 (.agg #[.int .i64 e0])]):=by show _=_;rw[hRv.out];unfold a0E;rw[if_neg he];exact a0o _ he
  have ep:a3t (n0',e0) (n1',e1)=.tuple #[.int .i64 0,.int .i64 0,.iface 238 (.agg #[.int .i64 e0])]:=by unfold a3t;rw[if_neg he,a3B he]
  simp only[ep] at HC
  clear hRv ep
  go_enter Tryz.func158,Tryz.ntmps158
  go_wp2_with fail
  refine ZE (HC.out _ (HA.out _)) ?_
  rintro e w1 ⟨rfl,b1⟩
  have HB:=a0a (a0b (HA.out _) b1 (by simp))
  clear b1 HC
  go_wp2_with fail
  go_ret2
  exact⟨by rw[hR.out];rfl,HB.out⟩
 subst he
 by_cases he:e1=0
 case neg=>
  have hR:Hid (Rv=Value.tuple #[.int .i64 0,.iface 238 (.agg #[.int .i64 e1])]):=by show _=_;rw[hRv.out];unfold a0E;rw[if_pos rfl,if_neg he];exact a0o _ he
  have ep:a3t (n0',0) (n1',e1)=.tuple #[.int .i64 n0',.int .i64 n1',.iface 238 (.agg #[.int .i64 e1])]:=by unfold a3t;rw[if_pos rfl,a3B he]
  simp only[ep] at HC
  clear hRv ep
  go_enter Tryz.func158,Tryz.ntmps158
  go_wp2_with fail
  refine ZE (HC.out _ (HA.out _)) ?_
  rintro e w1 ⟨rfl,b1⟩
  have HB:=a0a (a0b (HA.out _) b1 (by simp))
  clear b1 HC
  go_wp2_with fail
  go_ret2
  exact⟨by rw[hR.out];rfl,HB.out⟩
 subst he
 have ep:a3t (n0',0) (n1',0)=.tuple #[.int .i64 n0',.int .i64 n1',.nilIface]:=by unfold a3t;rw[if_pos rfl,a6w]
 simp only[ep] at HC
 clear ep
 by_cases hz:n1'=0
 ·have hR:Hid (Rv=Value.tuple #[.int .i64 0,.iface 238 (.agg #[.int .i64 2])]):=by show _=_;rw[hRv.out];unfold a0E;rw[if_pos rfl,if_pos rfl];unfold b7a;rw[if_pos hz];exact a0o _ (by decide)
  have d:decide (n1'≠0)=false:=decide_eq_false (fun h=>h hz)
  rw[if_pos hz,d] at HSs
  clear hRv d
  subst hz
  go_enter Tryz.func158,Tryz.ntmps158
  go_wp2_with fail
  refine ZE (HC.out _ (HA.out _)) ?_
  rintro e w1 ⟨rfl,b1⟩
  have HB:=a0a (a0b (HA.out _) b1 (by simp))
  clear b1 HC
  go_wp2_with fail
  refine ZE (HSs.out _) ?_
  rintro e w3 ⟨rfl,b3⟩
  have HB3:=kb HB b3
  clear b3 HSs
  go_wp2_with fail
  go_ret2
  exact⟨by rw[hR.out];rfl,HB3.out⟩
 ·have hR:Hid (Rv=Value.tuple #[.int .i64 (held (fl (n0'*1000000) n1')),.nilIface]):=by show _=_;rw[hRv.out];unfold a0E;rw[if_pos rfl,if_pos rfl];unfold b7a;rw[if_neg hz];exact a0u _ rfl
  have d:decide (n1'≠0)=true:=decide_eq_true hz
  rw[if_neg hz,d] at HSs
  clear hRv d
  go_enter Tryz.func158,Tryz.ntmps158
  go_wp2_with fail
  refine ZE (HC.out _ (HA.out _)) ?_
  rintro e w1 ⟨rfl,b1⟩
  have HB:=a0a (a0b (HA.out _) b1 (by simp))
  clear b1 HC
  go_wp2_with fail
  refine ZE (HSs.out _) ?_
  rintro e w3 ⟨rfl,b3⟩
  have HB3:=kb HB b3
  clear b3 HSs
  go_wp2_with fail
  go_ret2
  exact⟨by rw[hR.out];rfl,HB3.out⟩
theorem b6C {ps:List Co}{v:Int}{L f i:Nat}(h:¬ i+1<L)(hf:0<f):a7o ps v L f i=L-1:=by
 obtain⟨f',rfl⟩:∃ f',f=f'+1:=⟨f-1,by omega⟩
 rw[a7o,if_neg h]
theorem b6B {ps:List Co}{v:Int}{L f i:Nat}(h:i+1<L)(hv:v<(ps.getD i co0).n)(hf:0<f):a7o ps v L f i=i+1:=by
 obtain⟨f',rfl⟩:∃ f',f=f'+1:=⟨f-1,by omega⟩
 rw[a7o,if_pos h,if_pos hv]
theorem b9B {ps:List Co}{v:Int}{L f i:Nat}(h:i+1<L)(hv:¬ v<(ps.getD i co0).n):a7o ps v L (f+1) i=a7o ps v L f (i+2):=by
 rw[a7o,if_pos h,if_neg hv]
def c0K (ps:List Co)(rs:List Rs):Rs:=if (rs.getD 0 (0,0)).2=0 then rs.getD (a7o ps (rs.getD 0 (0,0)).1 ps.length ps.length 1) (0,0) else noR (rs.getD 0 (0,0)).2
set_option maxHeartbeats 4000000 in
set_option maxRecDepth 20000 in
theorem b6A (E:a0z)(k tn tm:Int)(ps:List Co)(h2:2<=ps.length)(hev:ps.length%2=0)(hmx:ps.length<=8192)(H:∀ x,x∈ps->TeC E x)(v:Value)(tb b:Nat)(w:World)(hs:a0p w ⟨k,tn,tm,ps⟩ v)(ht:a7U w tb b E):
 Calls Tryz.prog 176 #[.pointer (some ⟨tb,0,none⟩),coV ⟨k,tn,tm,ps⟩ v] w fun e w'=>e=.returned (a1Z (c0K ps (ps.map (a0e E))))/\Below w.heap.size w w':=by
 obtain⟨Rv,hRv⟩:∃ Rv,Hid (Rv=a1Z (c0K ps (ps.map (a0e E)))):=⟨_,rfl⟩
 rw[<-hRv.out]
 obtain⟨pb,off,cap,rfl,k1,k2,lp,hx⟩:=hs.parts.open (by show 0<ps.length;omega)
 dsimp only at k1 k2 hx
 have gR:∀ i (h:i<ps.length),(ps.map (a0e E)).getD i (0,0)=a0e E ps[i]:=fun i h=>by simp[List.getD,List.getElem?_map,List.getElem?_eq_getElem h]
 have gP:∀ i (h:i<ps.length),ps.getD i co0=ps[i]:=fun i h=>by simp[List.getD,List.getElem?_eq_getElem h]
 have HC:Hid (∀ i (h:i<ps.length) W,Below w.heap.size w W->∃ a n,a9d w pb (off+i*4) ps[i] (.slice a ps[i].parts.length n)/\Calls Tryz.prog 199 #[.pointer (some ⟨tb,0,none⟩),coV ps[i] (.slice a ps[i].parts.length n)] W fun e w'=>e=.returned (a1Z (a0e E ps[i]))/\Below W.heap.size W w'):=fun i h W hW=>by
  obtain⟨u,f6,s6⟩:=hx i h
  obtain⟨a,n,rfl,-,-⟩:=s6.parts.shape
  exact⟨a,n,f6,H _ (List.getElem_mem h) _ tb b W (s6.next hW) (ht.next hW)⟩
 have HA:Hid (∀ o,Below w.heap.size w (w.alloc o)):=fun o=>(ZD _ _).alloc (ZB _) _
 have HX:=a0a (Box.new w (coL ⟨k,tn,tm,ps⟩ (.slice (some ⟨pb,off,none⟩) ps.length cap)) 30)
 obtain⟨a0,n0,f0,-⟩:=HC.out 0 (by omega) w (ZD _ _)
 obtain⟨p0,p1,p2,p3⟩:=f0
 simp only[Nat.zero_mul,Nat.add_zero] at p0 p1 p2 p3
 obtain⟨L,hL⟩:∃ L,Hid (L=ps.length):=⟨_,rfl⟩
 have hl0:0<L:=by rw[hL.out];omega
 have hl0':(0:Int)<(L:Int):=by omega
 have h1:Hid (∀ W,Below w.heap.size w W->Calls Tryz.prog 199 #[.pointer (some ⟨tb,0,none⟩),coV ps[0] (.slice a0 ps[0].parts.length n0)] W fun e w'=>e=.returned (a1Z (a0e E ps[0]))/\Below W.heap.size W w'):=fun W hW=>by
  obtain⟨a,n,f6,c6⟩:=HC.out 0 (by omega) W hW
  have e:=f6.c3
  simp only[Nat.zero_mul,Nat.add_zero] at e
  rw[p3] at e
  simp only[Option.some.injEq,Value.slice.injEq,true_and] at e
  obtain⟨rfl,rfl⟩:=e
  exact c6
 have hRe:Hid (Rv=a1Z (if (a0e E ps[0]).2=0 then (ps.map (a0e E)).getD (a7o ps (a0e E ps[0]).1 ps.length ps.length 1) (0,0) else noR (a0e E ps[0]).2)):=by
  show _=_
  rw[hRv.out];unfold c0K;rw[gR 0 (by omega)]
 have HGR:=a0a gR
 have HGP:=a0a gP
 clear hs ht hx gR gP hRv
 generalize a0e E ps[0]=r0 at *
 generalize ps[0]=x0 at *
 show Calls _ _ #[_,coV ⟨k,tn,tm,ps⟩ (.slice (some ⟨pb,off,none⟩) ps.length cap)] _ _
 rw[<-hL.out] at HX k1 hRe h2 hev hmx ⊢
 obtain⟨n0',e0⟩:=r0
 dsimp only at hRe
 by_cases he:e0=0
 case neg=>
  have hR:Hid (Rv=Value.tuple #[.int .i64 0,.iface 238 (.agg #[.int .i64 e0])]):=by show _=_;rw[hRe.out,if_neg he];exact a0o _ he
  go_enter Tryz.func176,Tryz.ntmps176
  go_wp2_with fail
  refine ZE (h1.out _ (HA.out _)) ?_
  rintro e w1 ⟨he1,b1⟩
  rw[a0o n0' he] at he1
  subst he1
  have HB:=a0a (a0b (HA.out _) b1 (by simp))
  clear b1 hRe h1 HX p0 p1 p2 p3
  go_wp2_with fail
  go_ret2
  exact⟨by rw[hR.out];rfl,HB.out⟩
 subst he
 have hRe2:Hid (Rv=a1Z ((ps.map (a0e E)).getD (a7o ps n0' L L 1) (0,0))):=hRe.out
 clear hRe
 go_enter Tryz.func176,Tryz.ntmps176
 go_wp2_with fail
 refine ZE (h1.out _ (HA.out _)) ?_
 rintro e w1 ⟨he1,b1⟩
 rw[a0u (n0',0) rfl] at he1
 subst he1
 have HB:=a0a (a0b (HA.out _) b1 (by simp))
 have X1:=HX.out.next b1
 have c3:=X1.cell 3 _ rfl
 have x1l:=X1.lt
 clear b1 HX X1 p0 p1 p2 p3 h1
 obtain⟨M,rfl⟩:∃ M,L=M+1:=⟨L-1,by omega⟩
 have lp1:=ZA lp HB.out.size
 go_wp2_with fail
 go_loopw [9] (fun x wr=>∃ (i f:Nat),x=.int .i64 (i:Nat)/\i<=M/\Hid (i%2=1)/\Hid (M+1<=i+2*f)/\Hid (a7o ps n0' (M+1) f i=a7o ps n0' (M+1) (M+1) 1)/\wr=w1) (fun x _=>match x with | .int _ p=>((M:Int)-p).toNat | _=>0)
 case atStart=>exact⟨1,M+1,rfl,by omega,a0a rfl,a0a (by omega),a0a rfl,rfl⟩
 case round=>
  obtain⟨i,f,rfl,hj,HO,HF,HJ,rfl⟩:=hrel
  by_cases hlt:i<M
  ·have hlt':(i:Int)<(M:Int):=by omega
   have hi1:i<ps.length:=by rw[<-hL.out];omega
   have hi2:i+1<ps.length:=by rw[<-hL.out];omega
   obtain⟨a5,n5,f5,-⟩:=HC.out i hi1 wr HB.out
   have q1:=(f5.keep (w':=wr) (fun j=>HB.out.cell (p:=⟨pb,j,none⟩) lp)).c1
   have gp:=HGP.out i hi1
   have hil:(i:Int)<(M:Int)+1:=by omega
   by_cases hv:n0'<ps[i].n
   ·have hJ2:a7o ps n0' (M+1) f i=i+1:=b6B (by omega) (by rw[gp];exact hv) (by have:=HF.out;omega)
    obtain⟨a6,n6,f6,c6⟩:=HC.out (i+1) hi2 wr HB.out
    obtain⟨p0,p1,p2,p3⟩:=f6.keep (w':=wr) (fun j=>HB.out.cell (p:=⟨pb,j,none⟩) lp)
    have hR:Hid (Rv=a1Z (a0e E ps[i+1])):=by show _=_;rw[hRe2.out,<-HJ.out,hJ2,HGR.out (i+1) hi2]
    have HC6:=a0a c6
    have hil2:(i:Int)+1<(M:Int)+1:=by omega
    clear hRe2 HJ hJ2 gp f5 f6 c6 HC
    generalize a0e E ps[i+1]=r6 at *
    generalize ps[i+1]=x6 at *
    generalize ps[i].n=n7 at *
    go_wp2_with fail
    refine ZE HC6.out ?_
    rintro e w2 ⟨rfl,b2⟩
    have HB2:=kb HB b2
    clear b2 p0 p1 p2 p3
    go_wp2_with fail
    go_ret2
    exact⟨by rw[hR.out];rfl,HB2.out⟩
   ·obtain⟨f',rfl⟩:∃ f',f=f'+1:=⟨f-1,by have:=HF.out;omega⟩
    have hJ2:Hid (a7o ps n0' (M+1) f' (i+2)=a7o ps n0' (M+1) (M+1) 1):=by
     show _=_
     rw[<-HJ.out,b9B (by omega) (by rw[gp];exact hv)]
    clear hRe2 HJ gp f5 HC
    generalize ps[i].n=n7 at *
    go_wp2_with fail
    go_roundw
    case rel=>exact⟨i+2,f',by go_num,by have:=HO.out;omega,a0a (by have:=HO.out;omega),a0a (by have:=HF.out;omega),hJ2.out,by first | rfl | trivial⟩
    case measure=>simp;omega
  ·have hlt':¬(i:Int)<(M:Int):=by omega
   obtain rfl:i=M:=by omega
   have hiM:i<ps.length:=by rw[<-hL.out];omega
   have hJ2:a7o ps n0' (i+1) f i=i:=b6C (by omega) (by have:=HF.out;omega)
   obtain⟨a6,n6,f6,c6⟩:=HC.out i hiM wr HB.out
   obtain⟨p0,p1,p2,p3⟩:=f6.keep (w':=wr) (fun j=>HB.out.cell (p:=⟨pb,j,none⟩) lp)
   have hR:Hid (Rv=a1Z (a0e E ps[i])):=by show _=_;rw[hRe2.out,<-HJ.out,hJ2,HGR.out i hiM]
   have HC6:=a0a c6
   clear hRe2 HJ hJ2 f6 c6 HC
   generalize a0e E ps[i]=r6 at *
   generalize ps[i]=x6 at *
   go_wp2_with fail
   refine ZE HC6.out ?_
   rintro e w2 ⟨rfl,b2⟩
   have HB2:=kb HB b2
   clear b2 p0 p1 p2 p3
   go_wp2_with fail
   go_ret2
   exact⟨by rw[hR.out];rfl,HB2.out⟩
def UnC (g:Nat)(P:Int->Prop)(F:Int->Int):Prop:=Ent g/\∀ (a:Int) (W:World),C64 a->P a->Calls Tryz.prog g #[.int .i64 a] W fun e w'=>e=.returned (.int .i64 (F a))/\Below W.heap.size W w'
def BiC (g:Nat)(F:Int->Int->Int):Prop:=Ent g/\∀ (a b:Int) (W:World),C64 a->C64 b->Calls Tryz.prog g #[.int .i64 a,.int .i64 b] W fun e w'=>e=.returned (.int .i64 (F a b))/\Below W.heap.size W w'
theorem a6q {a:Int}(h:C64 a):a<9223372036854775808:=by have:=h.2;omega
theorem b7Q:UnC 147 (fun _=>True) (uF 8):=⟨fun _ _=>by kernel_rfl,fun a W h _=>b5g a h.1 (a6q h) W⟩
theorem b7R:UnC 149 (fun _=>True) (uF 10):=⟨fun _ _=>by kernel_rfl,fun a W h _=>c0H a h.1 (a6q h) W⟩
theorem b2N:UnC 150 (fun _=>True) (uF 11):=⟨fun _ _=>by kernel_rfl,fun a W h _=>b1h a h.1 (a6q h) W⟩
theorem b0m:UnC 151 (fun _=>True) (uF 12):=⟨fun _ _=>by kernel_rfl,fun a W h _=>b5k a h.1 (a6q h) W⟩
theorem b7P:UnC 148 (fun a=>a=0\/a=1) (uF 9):=⟨fun _ _=>by kernel_rfl,fun a W h hp=>by
 show Calls Tryz.prog 148 #[.int .i64 a] W fun e w'=>e=.returned (.int .i64 (1-a))/\Below W.heap.size W w'
 rcases hp with rfl | rfl
 ·go_enter Tryz.func148,Tryz.ntmps148
  go_wp2_with fail
  go_ret
  exact⟨rfl,ZD _ _⟩
 ·go_enter Tryz.func148,Tryz.ntmps148
  go_wp2_with fail
  go_ret
  exact⟨rfl,ZD _ _⟩⟩
theorem b8n:BiC 155 (bF 14):=⟨fun _ _=>by kernel_rfl,fun a b W ha hb=>b5n a b ha.1 (a6q ha) hb.1 (a6q hb) W⟩
theorem b8j:BiC 156 (bF 15):=⟨fun _ _=>by kernel_rfl,fun a b W ha hb=>b0h a b ha.1 (a6q ha) hb.1 (a6q hb) W⟩
theorem b8k:BiC 157 (bF 16):=⟨fun _ _=>by kernel_rfl,fun a b W ha hb=>c2b a b ha.1 (a6q ha) hb.1 (a6q hb) (a4e _ _ (by decide) (by decide)) W⟩
theorem b4U:BiC 159 (bF 18):=⟨fun _ _=>by kernel_rfl,fun a b W ha hb=>by
 show Calls Tryz.prog 159 #[.int .i64 a,.int .i64 b] W fun e w'=>e=.returned (.int .i64 (b2i (decide (a<b))))/\Below W.heap.size W w'
 clear ha hb
 have HC:=a0a (fun x W=>a2z x W)
 by_cases h:a<b
 ·rw[decide_eq_true h]
  skip
  go_enter Tryz.func159,Tryz.ntmps159
  go_wp2_with fail
  refine ZE (HC.out _ _) ?_
  rintro e w1 ⟨rfl,rfl⟩
  go_wp2_with fail
  go_ret
  exact⟨rfl,ZD _ _⟩
 ·rw[decide_eq_false h]
  skip
  go_enter Tryz.func159,Tryz.ntmps159
  go_wp2_with fail
  refine ZE (HC.out _ _) ?_
  rintro e w1 ⟨rfl,rfl⟩
  go_wp2_with fail
  go_ret
  exact⟨rfl,ZD _ _⟩⟩
theorem b8m:BiC 160 (bF 19):=⟨fun _ _=>by kernel_rfl,fun a b W ha hb=>by
 show Calls Tryz.prog 160 #[.int .i64 a,.int .i64 b] W fun e w'=>e=.returned (.int .i64 (b2i (decide (a<=b))))/\Below W.heap.size W w'
 clear ha hb
 have HC:=a0a (fun x W=>a2z x W)
 by_cases h:a<=b
 ·rw[decide_eq_true h]
  skip
  go_enter Tryz.func160,Tryz.ntmps160
  go_wp2_with fail
  refine ZE (HC.out _ _) ?_
  rintro e w1 ⟨rfl,rfl⟩
  go_wp2_with fail
  go_ret
  exact⟨rfl,ZD _ _⟩
 ·rw[decide_eq_false h]
  skip
  go_enter Tryz.func160,Tryz.ntmps160
  go_wp2_with fail
  refine ZE (HC.out _ _) ?_
  rintro e w1 ⟨rfl,rfl⟩
  go_wp2_with fail
  go_ret
  exact⟨rfl,ZD _ _⟩⟩
theorem c1Q:BiC 161 (bF 20):=⟨fun _ _=>by kernel_rfl,fun a b W ha hb=>by
 show Calls Tryz.prog 161 #[.int .i64 a,.int .i64 b] W fun e w'=>e=.returned (.int .i64 (b2i (decide (a=b))))/\Below W.heap.size W w'
 clear ha hb
 have HC:=a0a (fun x W=>a2z x W)
 by_cases h:a=b
 ·rw[decide_eq_true h]
  subst h
  go_enter Tryz.func161,Tryz.ntmps161
  go_wp2_with fail
  refine ZE (HC.out _ _) ?_
  rintro e w1 ⟨rfl,rfl⟩
  go_wp2_with fail
  go_ret
  exact⟨rfl,ZD _ _⟩
 ·rw[decide_eq_false h]
  have k:(a==b)=false:=by simpa using h
  go_enter Tryz.func161,Tryz.ntmps161
  go_wp2_with fail
  refine ZE (HC.out _ _) ?_
  rintro e w1 ⟨rfl,rfl⟩
  go_wp2_with fail
  go_ret
  exact⟨rfl,ZD _ _⟩⟩
theorem b4T:BiC 162 (bF 21):=⟨fun _ _=>by kernel_rfl,fun a b W ha hb=>by
 show Calls Tryz.prog 162 #[.int .i64 a,.int .i64 b] W fun e w'=>e=.returned (.int .i64 (b2i (decide (b<a))))/\Below W.heap.size W w'
 clear ha hb
 have HC:=a0a (fun x W=>a2z x W)
 by_cases h:b<a
 ·rw[decide_eq_true h]
  skip
  go_enter Tryz.func162,Tryz.ntmps162
  go_wp2_with fail
  refine ZE (HC.out _ _) ?_
  rintro e w1 ⟨rfl,rfl⟩
  go_wp2_with fail
  go_ret
  exact⟨rfl,ZD _ _⟩
 ·rw[decide_eq_false h]
  skip
  go_enter Tryz.func162,Tryz.ntmps162
  go_wp2_with fail
  refine ZE (HC.out _ _) ?_
  rintro e w1 ⟨rfl,rfl⟩
  go_wp2_with fail
  go_ret
  exact⟨rfl,ZD _ _⟩⟩
theorem b8l:BiC 163 (bF 22):=⟨fun _ _=>by kernel_rfl,fun a b W ha hb=>by
 show Calls Tryz.prog 163 #[.int .i64 a,.int .i64 b] W fun e w'=>e=.returned (.int .i64 (b2i (decide (b<=a))))/\Below W.heap.size W w'
 clear ha hb
 have HC:=a0a (fun x W=>a2z x W)
 by_cases h:b<=a
 ·rw[decide_eq_true h]
  skip
  go_enter Tryz.func163,Tryz.ntmps163
  go_wp2_with fail
  refine ZE (HC.out _ _) ?_
  rintro e w1 ⟨rfl,rfl⟩
  go_wp2_with fail
  go_ret
  exact⟨rfl,ZD _ _⟩
 ·rw[decide_eq_false h]
  skip
  go_enter Tryz.func163,Tryz.ntmps163
  go_wp2_with fail
  refine ZE (HC.out _ _) ?_
  rintro e w1 ⟨rfl,rfl⟩
  go_wp2_with fail
  go_ret
  exact⟨rfl,ZD _ _⟩⟩
theorem a8W:BiC 164 (bF 23):=⟨fun _ _=>by kernel_rfl,fun a b W ha hb=>by
 show Calls Tryz.prog 164 #[.int .i64 a,.int .i64 b] W fun e w'=>e=.returned (.int .i64 (min a b))/\Below W.heap.size W w'
 clear ha hb
 rcases Int.lt_trichotomy a b with h | h | h
 ·rw[Int.min_eq_left (Int.le_of_lt h)]
  have h2:¬ b<a:=by omega
  have h3:¬ b<=a:=by omega
  go_enter Tryz.func164,Tryz.ntmps164
  go_wp2_with fail
  go_ret
  exact⟨rfl,ZD _ _⟩
 ·subst h
  rw[Int.min_eq_left (Int.le_refl a)]
  go_enter Tryz.func164,Tryz.ntmps164
  go_wp2_with fail
  go_ret
  exact⟨rfl,ZD _ _⟩
 ·rw[Int.min_eq_right (Int.le_of_lt h)]
  have h2:¬ a<b:=by omega
  have h3:¬ a<=b:=by omega
  go_enter Tryz.func164,Tryz.ntmps164
  go_wp2_with fail
  go_ret
  exact⟨rfl,ZD _ _⟩⟩
theorem a6B:BiC 165 (bF 24):=⟨fun _ _=>by kernel_rfl,fun a b W ha hb=>by
 show Calls Tryz.prog 165 #[.int .i64 a,.int .i64 b] W fun e w'=>e=.returned (.int .i64 (max a b))/\Below W.heap.size W w'
 clear ha hb
 rcases Int.lt_trichotomy a b with h | h | h
 ·rw[Int.max_eq_right (Int.le_of_lt h)]
  have h2:¬ b<a:=by omega
  have h3:¬ b<=a:=by omega
  go_enter Tryz.func165,Tryz.ntmps165
  go_wp2_with fail
  go_ret
  exact⟨rfl,ZD _ _⟩
 ·subst h
  rw[Int.max_eq_right (Int.le_refl a)]
  go_enter Tryz.func165,Tryz.ntmps165
  go_wp2_with fail
  go_ret
  exact⟨rfl,ZD _ _⟩
 ·rw[Int.max_eq_left (Int.le_of_lt h)]
  have h2:¬ a<b:=by omega
  have h3:¬ a<=b:=by omega
  go_enter Tryz.func165,Tryz.ntmps165
  go_wp2_with fail
  go_ret
  exact⟨rfl,ZD _ _⟩⟩
theorem a8H {E:a0z}{t:Co}(h:srt E t≠0):∃ k:Nat,t.op=(k:Int)/\1<=k/\k<=32/\a0m k E.wins.length E.crons.length 256 t=true/\(∀ x,x∈t.parts->srt E x≠0)/\srt E t=a1s a0H k t (t.parts.map (srt E)):=by
 have e:=a1f a0H E.wins.length E.crons.length 256 t
 unfold srt at h ⊢
 by_cases h1:1<=t.op/\t.op<=32
 ·rw[if_pos h1] at e
  by_cases h2:a0m t.op.toNat E.wins.length E.crons.length 256 t=true
  ·rw[if_pos h2] at e
   by_cases h3:(t.parts.map (a0l a0H E.wins.length E.crons.length 256)).contains 0=true
   ·rw[if_pos h3] at e;exact absurd e h
   ·rw[if_neg h3] at e
    refine⟨t.op.toNat,by omega,by omega,by omega,h2,fun x hx hz=>h3 ?_,e⟩
    rw[List.contains_iff_mem,List.mem_map]
    exact⟨x,hx,hz⟩
  ·rw[if_neg h2] at e;exact absurd e h
 ·rw[if_neg h1] at e;exact absurd e h
theorem a0K {k:Nat}{c:Co}{ss:List Int}{r:Int}{ts:List Int}(hm:mkT.getD k none=some (r,ts))(h:a1s a0H k c ss≠0):ss=ts/\a1s a0H k c ss=r:=by
 unfold a1s at h ⊢
 rw[hm] at h ⊢
 dsimp only[mkF] at h ⊢
 by_cases e:ss=ts
 ·exact⟨e,if_pos e⟩
 ·rw[if_neg e] at h;exact absurd rfl h
theorem c1t {E:a0z}{l:List Co}(h:l.map (srt E)=[]):l=[]:=by simpa using h
theorem a9i {E:a0z}{l:List Co}{a:Int}(h:l.map (srt E)=[a]):∃ x,l=[x]/\srt E x=a:=by
 match l,h with
 | [x],h=>exact⟨x,rfl,by simpa using h⟩
theorem a4G {E:a0z}{l:List Co}{a b:Int}(h:l.map (srt E)=[a,b]):∃ x y,l=[x,y]/\srt E x=a/\srt E y=b:=by
 match l,h with
 | [x,y],h=>exact⟨x,y,rfl,by simpa using h⟩
theorem c3e {l:List Co}(h:l.length=1):∃ x,l=[x]:=by
 match l,h with
 | [x],h=>exact⟨x,rfl⟩
theorem c3X {l:List Co}(h:l.length=2):∃ x y,l=[x,y]:=by
 match l,h with
 | [x,y],h=>exact⟨x,y,rfl⟩
theorem c3W {l:List Co}(h:l.length=3):∃ x y z,l=[x,y,z]:=by
 match l,h with
 | [x,y,z],h=>exact⟨x,y,z,rfl⟩
theorem a3r {k:Nat}{ss:List Int}(h:a0R k ss≠0):ss.length=k/\ss.headD 0≠3/\(∀ x,x∈ss->x=ss.headD 0)/\a0R k ss=ss.headD 0:=by
 by_cases e:ss.length=k/\ss.headD 0≠3/\∀ x,x∈ss->x=ss.headD 0
 ·exact⟨e.1,e.2.1,e.2.2,a6D e⟩
 ·exact absurd (a1H e) h
theorem a8O {ss:List Int}(h:a1X ss≠0):∃ a,ss=[2,a,a]/\a1X ss=a:=by
 unfold a1X at h ⊢
 by_cases e:ss.headD 0=2
 ·rw[if_pos e] at h ⊢
  obtain⟨h1,h2,h3,h4⟩:=a3r h
  match ss,e,h1,h3,h4 with
  | [x,a,b],e,h1,h3,h4=>
    have hb:b=a:=h3 b (by simp)
    have hx:x=2:=e
    subst hb hx
    exact⟨b,rfl,h4⟩
 ·rw[if_neg e] at h;exact absurd rfl h
def b8r (E:a0z)(t:Co):Prop:=C64 (a0e E t).1/\(srt E t=2->(a0e E t).1=0\/(a0e E t).1=1)
theorem a4b (n:Int):C64 (held n):=b3Z n
theorem b5a (b:Bool):b2i b=0\/b2i b=1:=by cases b<;>simp[b2i]
theorem c1S (b:Bool):C64 (b2i b):=by rcases b5a b with h | h<;>rw[h]<;>(unfold C64;decide)
theorem a1S (f:Int->Int)(a:Rs):(a0B f a).1=f a.1\/(a0B f a).1=0:=by unfold a0B;split<;>simp
theorem a1j (f:Int->Int->Rs)(a b:Rs):(a0E f a b).1=(f a.1 b.1).1\/(a0E f a b).1=0:=by unfold a0E;split<;>(try split)<;>simp
theorem a0r:C64 0:=by unfold C64;decide
theorem b5B (k:Nat)(a:Int)(h:k=9->a=0\/a=1):C64 (uF k a):=by
 unfold uF
 split
 ·exact a4b _
 ·split
  ·next e=>rcases h e with h | h<;>rw[h]<;>(unfold C64;decide)
  ·split
   ·exact a4b _
   ·split<;>exact a4b _
theorem b4Y (k:Nat)(a b:Int)(ha:C64 a)(hb:C64 b):C64 (bF k a b):=by
 have hm:C64 (min a b):=by rcases Int.le_total a b with h | h<;>simp[Int.min_eq_left,Int.min_eq_right,h,ha,hb]
 have hM:C64 (max a b):=by rcases Int.le_total a b with h | h<;>simp[Int.max_eq_left,Int.max_eq_right,h,ha,hb]
 unfold bF
 repeat' split
 all_goals first | exact a4b _ | exact c1S _ | exact hm | exact hM
theorem b4Z (k:Nat)(a b:Int)(h1:18<=k)(h2:k<=22):bF k a b=0\/bF k a b=1:=by
 unfold bF
 repeat' split
 all_goals first | exact b5a _ | omega
theorem a7J (a:Int):C64 (a1k a):=by
 have h:=a4b (-((-a)/1000000)*1000000)
 unfold a1k
 generalize held (-((-a)/1000000)*1000000)=x at h
 obtain⟨h1,h2⟩:=h
 exact⟨by omega,by omega⟩
def GK (E:a0z)(k:Nat):Prop:=b2z E->∀ t:Co,t.op=(k:Int)->c0G t->a0m k E.wins.length E.crons.length 256 t=true->(∀ x,x∈t.parts->b8r E x)->a1s a0H k t (t.parts.map (srt E))≠0->srt E t=a1s a0H k t (t.parts.map (srt E))->b8r E t
theorem a0O {E:a0z}{t:Co}{r:Int}(h:srt E t=r)(hr:r≠2)(hc:C64 (a0e E t).1):b8r E t:=⟨hc,fun e=>absurd (h.symm.trans e) hr⟩
theorem a0P {E:a0z}{t:Co}(h:(a0e E t).1=0\/(a0e E t).1=1):b8r E t:=⟨by rcases h with h | h<;>rw[h]<;>(unfold C64;decide),fun _=>h⟩
theorem a5A {E:a0z}{t x:Co}(hs:srt E t=srt E x)(hx:b8r E x)(h:(a0e E t).1=(a0e E x).1\/(a0e E t).1=0):b8r E t:=by
 rcases h with h | h
 ·exact⟨by rw[h];exact hx.1,fun e=>by rw[h];exact hx.2 (hs.symm.trans e)⟩
 ·exact a0P (.inl h)
theorem c4G (E:a0z):GK E 1:=by
 intro hE t hop hf hb hg hz hs
 obtain⟨op,n,m,ps⟩:=t
 obtain rfl:op=1:=hop
 dsimp only at *
 obtain⟨e1,e2⟩:=a0K (k:=1) (r:=1) (ts:=[]) rfl hz
 obtain rfl:=c1t e1
 have e:a0e E ⟨1,n,m,[]⟩=okR n:=by rw[a0g];rfl
 exact a0O (hs.trans e2) (by decide) (by rw[e];exact hf.n)
theorem c4F (E:a0z):GK E 2:=by
 intro hE t hop hf hb hg hz hs
 obtain⟨op,n,m,ps⟩:=t
 obtain rfl:op=2:=hop
 dsimp only at *
 obtain⟨e1,e2⟩:=a0K (k:=2) (r:=2) (ts:=[]) rfl hz
 obtain rfl:=c1t e1
 have e:a0e E ⟨2,n,m,[]⟩=okR n:=by rw[a0g];rfl
 have hb':(a0w n 2&&decide (m=0))=true:=hb
 simp only[a0w,Bool.and_eq_true,decide_eq_true_eq] at hb'
 exact a0P (by rw[e];show n=0\/n=1;omega)
theorem c4E (E:a0z):GK E 3:=by
 intro hE t hop hf hb hg hz hs
 obtain⟨op,n,m,ps⟩:=t
 obtain rfl:op=3:=hop
 dsimp only at *
 obtain⟨e1,e2⟩:=a0K (k:=3) (r:=1) (ts:=[]) rfl hz
 obtain rfl:=c1t e1
 have e:a0e E ⟨3,n,m,[]⟩=okR (held (E.rep*1000000)):=by rw[a0g];rfl
 exact a0O (hs.trans e2) (by decide) (by rw[e];exact a4b _)
theorem c4D (E:a0z):GK E 4:=by
 intro hE t hop hf hb hg hz hs
 obtain⟨op,n,m,ps⟩:=t
 obtain rfl:op=4:=hop
 dsimp only at *
 obtain⟨e1,e2⟩:=a0K (k:=4) (r:=1) (ts:=[]) rfl hz
 obtain rfl:=c1t e1
 have e:a0e E ⟨4,n,m,[]⟩=if (E.wins.getD n.toNat (0,0)).1=0 then okR (E.wins.getD n.toNat (0,0)).2 else noR (E.wins.getD n.toNat (0,0)).1:=by rw[a0g];rfl
 refine a0O (hs.trans e2) (by decide) ?_
 rw[e]
 split
 ·exact(hE.wins _).2
 ·exact a0r
theorem c4C (E:a0z):GK E 5:=by
 intro hE t hop hf hb hg hz hs
 obtain⟨op,n,m,ps⟩:=t
 obtain rfl:op=5:=hop
 dsimp only at *
 obtain⟨e1,e2⟩:=a0K (k:=5) (r:=2) (ts:=[]) rfl hz
 obtain rfl:=c1t e1
 have e:a0e E ⟨5,n,m,[]⟩=okR (b2i (E.crons.getD n.toNat false)):=by rw[a0g];rfl
 exact a0P (by rw[e];exact b5a _)
theorem c4B (E:a0z):GK E 6:=by
 intro hE t hop hf hb hg hz hs
 obtain⟨op,n,m,ps⟩:=t
 obtain rfl:op=6:=hop
 dsimp only at *
 have e:a0e E ⟨6,n,m,ps⟩=noR n:=by rw[a0g];rfl
 exact a0P (by rw[e];exact .inl rfl)
theorem c4A (E:a0z):GK E 7:=by
 intro hE t hop hf hb hg hz hs
 obtain⟨op,n,m,ps⟩:=t
 obtain rfl:op=7:=hop
 dsimp only at *
 have hz':a0R 1 (ps.map (srt E))≠0:=hz
 obtain⟨h1,h2,h3,h4⟩:=a3r hz'
 obtain⟨x,rfl⟩:=c3e (by simpa using h1)
 have e:a0e E ⟨7,n,m,[x]⟩=a0e E x:=by rw[a0g];rfl
 exact a5A (hs.trans h4) (hg x (by simp)) (by rw[e];exact .inl rfl)
theorem c4z (E:a0z):GK E 8:=by
 intro hE t hop hf hb hg hz hs
 obtain⟨op,n,m,ps⟩:=t
 obtain rfl:op=8:=hop
 dsimp only at *
 obtain⟨e1,e2⟩:=a0K (k:=8) (r:=1) (ts:=[1]) rfl hz
 obtain⟨x,rfl,q0⟩:=a9i e1
 have g0:=hg x (by simp)
 have e:a0e E ⟨8,n,m,[x]⟩=a0B (uF 8) (a0e E x):=by rw[a0g];rfl
 refine a0O (hs.trans e2) (by decide) ?_
 rw[e]
 rcases a1S (uF 8) (a0e E x) with h | h<;>rw[h]
 ·exact b5B 8 _ (fun h=>absurd h (by decide))
 ·exact a0r
theorem c3C (E:a0z):GK E 10:=by
 intro hE t hop hf hb hg hz hs
 obtain⟨op,n,m,ps⟩:=t
 obtain rfl:op=10:=hop
 dsimp only at *
 obtain⟨e1,e2⟩:=a0K (k:=10) (r:=1) (ts:=[1]) rfl hz
 obtain⟨x,rfl,q0⟩:=a9i e1
 have g0:=hg x (by simp)
 have e:a0e E ⟨10,n,m,[x]⟩=a0B (uF 10) (a0e E x):=by rw[a0g];rfl
 refine a0O (hs.trans e2) (by decide) ?_
 rw[e]
 rcases a1S (uF 10) (a0e E x) with h | h<;>rw[h]
 ·exact b5B 10 _ (fun h=>absurd h (by decide))
 ·exact a0r
theorem c3B (E:a0z):GK E 11:=by
 intro hE t hop hf hb hg hz hs
 obtain⟨op,n,m,ps⟩:=t
 obtain rfl:op=11:=hop
 dsimp only at *
 obtain⟨e1,e2⟩:=a0K (k:=11) (r:=1) (ts:=[1]) rfl hz
 obtain⟨x,rfl,q0⟩:=a9i e1
 have g0:=hg x (by simp)
 have e:a0e E ⟨11,n,m,[x]⟩=a0B (uF 11) (a0e E x):=by rw[a0g];rfl
 refine a0O (hs.trans e2) (by decide) ?_
 rw[e]
 rcases a1S (uF 11) (a0e E x) with h | h<;>rw[h]
 ·exact b5B 11 _ (fun h=>absurd h (by decide))
 ·exact a0r
theorem c3A (E:a0z):GK E 12:=by
 intro hE t hop hf hb hg hz hs
 obtain⟨op,n,m,ps⟩:=t
 obtain rfl:op=12:=hop
 dsimp only at *
 obtain⟨e1,e2⟩:=a0K (k:=12) (r:=1) (ts:=[1]) rfl hz
 obtain⟨x,rfl,q0⟩:=a9i e1
 have g0:=hg x (by simp)
 have e:a0e E ⟨12,n,m,[x]⟩=a0B (uF 12) (a0e E x):=by rw[a0g];rfl
 refine a0O (hs.trans e2) (by decide) ?_
 rw[e]
 rcases a1S (uF 12) (a0e E x) with h | h<;>rw[h]
 ·exact b5B 12 _ (fun h=>absurd h (by decide))
 ·exact a0r
theorem c4y (E:a0z):GK E 9:=by
 intro hE t hop hf hb hg hz hs
 obtain⟨op,n,m,ps⟩:=t
 obtain rfl:op=9:=hop
 dsimp only at *
 obtain⟨e1,e2⟩:=a0K (k:=9) (r:=2) (ts:=[2]) rfl hz
 obtain⟨x,rfl,q0⟩:=a9i e1
 have g0:=hg x (by simp)
 have e:a0e E ⟨9,n,m,[x]⟩=a0B (uF 9) (a0e E x):=by rw[a0g];rfl
 refine a0P ?_
 rw[e]
 rcases a1S (uF 9) (a0e E x) with h | h<;>rw[h]
 ·show 1-(a0e E x).1=0\/1-(a0e E x).1=1
  rcases g0.2 q0 with h | h<;>rw[h]<;>decide
 ·exact .inl rfl
theorem c3z (E:a0z):GK E 13:=by
 intro hE t hop hf hb hg hz hs
 obtain⟨op,n,m,ps⟩:=t
 obtain rfl:op=13:=hop
 dsimp only at *
 obtain⟨e1,e2⟩:=a0K (k:=13) (r:=1) (ts:=[1]) rfl hz
 obtain⟨x,rfl,q0⟩:=a9i e1
 have g0:=hg x (by simp)
 have e:a0e E ⟨13,n,m,[x]⟩=a0B (fun a=>held (a*n/m)) (a0e E x):=by rw[a0g];rfl
 refine a0O (hs.trans e2) (by decide) ?_
 rw[e]
 rcases a1S (fun a=>held (a*n/m)) (a0e E x) with h | h<;>rw[h]
 ·exact a4b _
 ·exact a0r
theorem c3y (E:a0z):GK E 14:=by
 intro hE t hop hf hb hg hz hs
 obtain⟨op,n,m,ps⟩:=t
 obtain rfl:op=14:=hop
 dsimp only at *
 obtain⟨e1,e2⟩:=a0K (k:=14) (r:=1) (ts:=[1,1]) rfl hz
 obtain⟨x,y,rfl,q0,q1⟩:=a4G e1
 have g0:=hg x (by simp)
 have g1:=hg y (by simp)
 have e:a0e E ⟨14,n,m,[x,y]⟩=a0E (fun a b=>okR (bF 14 a b)) (a0e E x) (a0e E y):=by rw[a0g];rfl
 refine a0O (hs.trans e2) (by decide) ?_
 rw[e]
 rcases a1j (fun a b=>okR (bF 14 a b)) (a0e E x) (a0e E y) with h | h<;>rw[h]
 ·exact b4Y 14 _ _ g0.1 g1.1
 ·exact a0r
theorem c3x (E:a0z):GK E 15:=by
 intro hE t hop hf hb hg hz hs
 obtain⟨op,n,m,ps⟩:=t
 obtain rfl:op=15:=hop
 dsimp only at *
 obtain⟨e1,e2⟩:=a0K (k:=15) (r:=1) (ts:=[1,1]) rfl hz
 obtain⟨x,y,rfl,q0,q1⟩:=a4G e1
 have g0:=hg x (by simp)
 have g1:=hg y (by simp)
 have e:a0e E ⟨15,n,m,[x,y]⟩=a0E (fun a b=>okR (bF 15 a b)) (a0e E x) (a0e E y):=by rw[a0g];rfl
 refine a0O (hs.trans e2) (by decide) ?_
 rw[e]
 rcases a1j (fun a b=>okR (bF 15 a b)) (a0e E x) (a0e E y) with h | h<;>rw[h]
 ·exact b4Y 15 _ _ g0.1 g1.1
 ·exact a0r
theorem c3w (E:a0z):GK E 16:=by
 intro hE t hop hf hb hg hz hs
 obtain⟨op,n,m,ps⟩:=t
 obtain rfl:op=16:=hop
 dsimp only at *
 obtain⟨e1,e2⟩:=a0K (k:=16) (r:=1) (ts:=[1,1]) rfl hz
 obtain⟨x,y,rfl,q0,q1⟩:=a4G e1
 have g0:=hg x (by simp)
 have g1:=hg y (by simp)
 have e:a0e E ⟨16,n,m,[x,y]⟩=a0E (fun a b=>okR (bF 16 a b)) (a0e E x) (a0e E y):=by rw[a0g];rfl
 refine a0O (hs.trans e2) (by decide) ?_
 rw[e]
 rcases a1j (fun a b=>okR (bF 16 a b)) (a0e E x) (a0e E y) with h | h<;>rw[h]
 ·exact b4Y 16 _ _ g0.1 g1.1
 ·exact a0r
theorem c3p (E:a0z):GK E 23:=by
 intro hE t hop hf hb hg hz hs
 obtain⟨op,n,m,ps⟩:=t
 obtain rfl:op=23:=hop
 dsimp only at *
 obtain⟨e1,e2⟩:=a0K (k:=23) (r:=1) (ts:=[1,1]) rfl hz
 obtain⟨x,y,rfl,q0,q1⟩:=a4G e1
 have g0:=hg x (by simp)
 have g1:=hg y (by simp)
 have e:a0e E ⟨23,n,m,[x,y]⟩=a0E (fun a b=>okR (bF 23 a b)) (a0e E x) (a0e E y):=by rw[a0g];rfl
 refine a0O (hs.trans e2) (by decide) ?_
 rw[e]
 rcases a1j (fun a b=>okR (bF 23 a b)) (a0e E x) (a0e E y) with h | h<;>rw[h]
 ·exact b4Y 23 _ _ g0.1 g1.1
 ·exact a0r
theorem c3o (E:a0z):GK E 24:=by
 intro hE t hop hf hb hg hz hs
 obtain⟨op,n,m,ps⟩:=t
 obtain rfl:op=24:=hop
 dsimp only at *
 obtain⟨e1,e2⟩:=a0K (k:=24) (r:=1) (ts:=[1,1]) rfl hz
 obtain⟨x,y,rfl,q0,q1⟩:=a4G e1
 have g0:=hg x (by simp)
 have g1:=hg y (by simp)
 have e:a0e E ⟨24,n,m,[x,y]⟩=a0E (fun a b=>okR (bF 24 a b)) (a0e E x) (a0e E y):=by rw[a0g];rfl
 refine a0O (hs.trans e2) (by decide) ?_
 rw[e]
 rcases a1j (fun a b=>okR (bF 24 a b)) (a0e E x) (a0e E y) with h | h<;>rw[h]
 ·exact b4Y 24 _ _ g0.1 g1.1
 ·exact a0r
theorem c3v (E:a0z):GK E 17:=by
 intro hE t hop hf hb hg hz hs
 obtain⟨op,n,m,ps⟩:=t
 obtain rfl:op=17:=hop
 dsimp only at *
 obtain⟨e1,e2⟩:=a0K (k:=17) (r:=1) (ts:=[1,1]) rfl hz
 obtain⟨x,y,rfl,q0,q1⟩:=a4G e1
 have g0:=hg x (by simp)
 have g1:=hg y (by simp)
 have e:a0e E ⟨17,n,m,[x,y]⟩=a0E b7a (a0e E x) (a0e E y):=by rw[a0g];rfl
 refine a0O (hs.trans e2) (by decide) ?_
 rw[e]
 rcases a1j b7a (a0e E x) (a0e E y) with h | h<;>rw[h]
 ·unfold b7a
  split
  ·exact a0r
  ·exact a4b _
 ·exact a0r
theorem c3u (E:a0z):GK E 18:=by
 intro hE t hop hf hb hg hz hs
 obtain⟨op,n,m,ps⟩:=t
 obtain rfl:op=18:=hop
 dsimp only at *
 obtain⟨e1,e2⟩:=a0K (k:=18) (r:=2) (ts:=[1,1]) rfl hz
 obtain⟨x,y,rfl,q0,q1⟩:=a4G e1
 have g0:=hg x (by simp)
 have g1:=hg y (by simp)
 have e:a0e E ⟨18,n,m,[x,y]⟩=a0E (fun a b=>okR (bF 18 a b)) (a0e E x) (a0e E y):=by rw[a0g];rfl
 refine a0P ?_
 rw[e]
 rcases a1j (fun a b=>okR (bF 18 a b)) (a0e E x) (a0e E y) with h | h<;>rw[h]
 ·exact b4Z 18 _ _ (by decide) (by decide)
 ·exact .inl rfl
theorem c3t (E:a0z):GK E 19:=by
 intro hE t hop hf hb hg hz hs
 obtain⟨op,n,m,ps⟩:=t
 obtain rfl:op=19:=hop
 dsimp only at *
 obtain⟨e1,e2⟩:=a0K (k:=19) (r:=2) (ts:=[1,1]) rfl hz
 obtain⟨x,y,rfl,q0,q1⟩:=a4G e1
 have g0:=hg x (by simp)
 have g1:=hg y (by simp)
 have e:a0e E ⟨19,n,m,[x,y]⟩=a0E (fun a b=>okR (bF 19 a b)) (a0e E x) (a0e E y):=by rw[a0g];rfl
 refine a0P ?_
 rw[e]
 rcases a1j (fun a b=>okR (bF 19 a b)) (a0e E x) (a0e E y) with h | h<;>rw[h]
 ·exact b4Z 19 _ _ (by decide) (by decide)
 ·exact .inl rfl
theorem c3s (E:a0z):GK E 20:=by
 intro hE t hop hf hb hg hz hs
 obtain⟨op,n,m,ps⟩:=t
 obtain rfl:op=20:=hop
 dsimp only at *
 obtain⟨e1,e2⟩:=a0K (k:=20) (r:=2) (ts:=[1,1]) rfl hz
 obtain⟨x,y,rfl,q0,q1⟩:=a4G e1
 have g0:=hg x (by simp)
 have g1:=hg y (by simp)
 have e:a0e E ⟨20,n,m,[x,y]⟩=a0E (fun a b=>okR (bF 20 a b)) (a0e E x) (a0e E y):=by rw[a0g];rfl
 refine a0P ?_
 rw[e]
 rcases a1j (fun a b=>okR (bF 20 a b)) (a0e E x) (a0e E y) with h | h<;>rw[h]
 ·exact b4Z 20 _ _ (by decide) (by decide)
 ·exact .inl rfl
theorem c3r (E:a0z):GK E 21:=by
 intro hE t hop hf hb hg hz hs
 obtain⟨op,n,m,ps⟩:=t
 obtain rfl:op=21:=hop
 dsimp only at *
 obtain⟨e1,e2⟩:=a0K (k:=21) (r:=2) (ts:=[1,1]) rfl hz
 obtain⟨x,y,rfl,q0,q1⟩:=a4G e1
 have g0:=hg x (by simp)
 have g1:=hg y (by simp)
 have e:a0e E ⟨21,n,m,[x,y]⟩=a0E (fun a b=>okR (bF 21 a b)) (a0e E x) (a0e E y):=by rw[a0g];rfl
 refine a0P ?_
 rw[e]
 rcases a1j (fun a b=>okR (bF 21 a b)) (a0e E x) (a0e E y) with h | h<;>rw[h]
 ·exact b4Z 21 _ _ (by decide) (by decide)
 ·exact .inl rfl
theorem c3q (E:a0z):GK E 22:=by
 intro hE t hop hf hb hg hz hs
 obtain⟨op,n,m,ps⟩:=t
 obtain rfl:op=22:=hop
 dsimp only at *
 obtain⟨e1,e2⟩:=a0K (k:=22) (r:=2) (ts:=[1,1]) rfl hz
 obtain⟨x,y,rfl,q0,q1⟩:=a4G e1
 have g0:=hg x (by simp)
 have g1:=hg y (by simp)
 have e:a0e E ⟨22,n,m,[x,y]⟩=a0E (fun a b=>okR (bF 22 a b)) (a0e E x) (a0e E y):=by rw[a0g];rfl
 refine a0P ?_
 rw[e]
 rcases a1j (fun a b=>okR (bF 22 a b)) (a0e E x) (a0e E y) with h | h<;>rw[h]
 ·exact b4Z 22 _ _ (by decide) (by decide)
 ·exact .inl rfl
theorem c3n (E:a0z):GK E 25:=by
 intro hE t hop hf hb hg hz hs
 obtain⟨op,n,m,ps⟩:=t
 obtain rfl:op=25:=hop
 dsimp only at *
 obtain⟨e1,e2⟩:=a0K (k:=25) (r:=2) (ts:=[2,2]) rfl hz
 obtain⟨x,y,rfl,q0,q1⟩:=a4G e1
 have g0:=hg x (by simp)
 have g1:=hg y (by simp)
 have e:a0e E ⟨25,n,m,[x,y]⟩=if (a0e E x).2=0/\(a0e E x).1≠0 then a0e E y else noR (a0e E x).2:=by rw[a0g];rfl
 refine a0P ?_
 rw[e]
 split
 ·exact g1.2 q1
 ·exact .inl rfl
theorem c3m (E:a0z):GK E 26:=by
 intro hE t hop hf hb hg hz hs
 obtain⟨op,n,m,ps⟩:=t
 obtain rfl:op=26:=hop
 dsimp only at *
 obtain⟨e1,e2⟩:=a0K (k:=26) (r:=2) (ts:=[2,2]) rfl hz
 obtain⟨x,y,rfl,q0,q1⟩:=a4G e1
 have g0:=hg x (by simp)
 have g1:=hg y (by simp)
 have e:a0e E ⟨26,n,m,[x,y]⟩=if (a0e E x).2=0/\(a0e E x).1≠1 then a0e E y else a0e E x:=by rw[a0g];rfl
 refine a0P ?_
 rw[e]
 split
 ·exact g1.2 q1
 ·exact g0.2 q0
theorem c3l (E:a0z):GK E 27:=by
 intro hE t hop hf hb hg hz hs
 obtain⟨op,n,m,ps⟩:=t
 obtain rfl:op=27:=hop
 dsimp only at *
 have hz':a0R 2 (ps.map (srt E))≠0:=hz
 obtain⟨h1,h2,h3,h4⟩:=a3r hz'
 obtain⟨x,y,rfl⟩:=c3X (by simpa using h1)
 have hy:srt E y=srt E x:=h3 (srt E y) (by simp)
 have e:a0e E ⟨27,n,m,[x,y]⟩=if (a0e E x).2=0 then a0e E x else a0e E y:=by rw[a0g];rfl
 by_cases h:(a0e E x).2=0
 ·rw[if_pos h] at e
  exact a5A (hs.trans h4) (hg x (by simp)) (by rw[e];exact .inl rfl)
 ·rw[if_neg h] at e
  exact a5A ((hs.trans h4).trans hy.symm) (hg y (by simp)) (by rw[e];exact .inl rfl)
theorem c3k (E:a0z):GK E 28:=by
 intro hE t hop hf hb hg hz hs
 obtain⟨op,n,m,ps⟩:=t
 obtain rfl:op=28:=hop
 dsimp only at *
 have hz':a1X (ps.map (srt E))≠0:=hz
 obtain⟨a,h1,h4⟩:=a8O hz'
 obtain⟨x,y,z,rfl⟩:=c3W (by have:=congrArg List.length h1;simpa using this)
 simp only[List.map_cons,List.map_nil,List.cons.injEq,and_true] at h1
 obtain⟨hx,hy,hz2⟩:=h1
 have e:a0e E ⟨28,n,m,[x,y,z]⟩=if (a0e E x).2=0 then (if (a0e E x).1=1 then a0e E y else a0e E z) else noR (a0e E x).2:=by rw[a0g];rfl
 by_cases h:(a0e E x).2=0
 ·rw[if_pos h] at e
  by_cases h':(a0e E x).1=1
  ·rw[if_pos h'] at e
   exact a5A ((hs.trans h4).trans hy.symm) (hg y (by simp)) (by rw[e];exact .inl rfl)
  ·rw[if_neg h'] at e
   exact a5A ((hs.trans h4).trans hz2.symm) (hg z (by simp)) (by rw[e];exact .inl rfl)
 ·rw[if_neg h] at e
  exact a0P (by rw[e];exact .inl rfl)
theorem c3j (E:a0z):GK E 29:=by
 intro hE t hop hf hb hg hz hs
 obtain⟨op,n,m,ps⟩:=t
 obtain rfl:op=29:=hop
 dsimp only at *
 have e:a0e E ⟨29,n,m,ps⟩=noR 4:=by rw[a0g];rfl
 exact a0P (by rw[e];exact .inl rfl)
theorem c3i (E:a0z):GK E 30:=by
 intro hE t hop hf hb hg hz hs
 obtain⟨op,n,m,ps⟩:=t
 obtain rfl:op=30:=hop
 dsimp only at *
 obtain⟨e1,e2⟩:=a0K (k:=30) (r:=3) (ts:=[1]) rfl hz
 obtain⟨x,rfl,q0⟩:=a9i e1
 have g0:=hg x (by simp)
 have e:a0e E ⟨30,n,m,[x]⟩=a0B a1k (a0e E x):=by rw[a0g];rfl
 refine a0O (hs.trans e2) (by decide) ?_
 rw[e]
 rcases a1S a1k (a0e E x) with h | h<;>rw[h]
 ·exact a7J _
 ·exact a0r
theorem c3h (E:a0z):GK E 31:=by
 intro hE t hop hf hb hg hz hs
 obtain⟨op,n,m,ps⟩:=t
 obtain rfl:op=31:=hop
 dsimp only at *
 obtain⟨e1,e2⟩:=a0K (k:=31) (r:=3) (ts:=[1]) rfl hz
 obtain⟨x,rfl,q0⟩:=a9i e1
 have g0:=hg x (by simp)
 have e:a0e E ⟨31,n,m,[x]⟩=a0B (fun a=>held (E.rep+a1k a)) (a0e E x):=by rw[a0g];rfl
 refine a0O (hs.trans e2) (by decide) ?_
 rw[e]
 rcases a1S (fun a=>held (E.rep+a1k a)) (a0e E x) with h | h<;>rw[h]
 ·exact a4b _
 ·exact a0r
theorem c3g (E:a0z):GK E 32:=by
 intro hE t hop hf hb hg hz hs
 obtain⟨op,n,m,ps⟩:=t
 obtain rfl:op=32:=hop
 dsimp only at *
 have e:a0e E ⟨32,n,m,ps⟩=c0K ps (ps.map (a0e E)):=by rw[a0g];rfl
 have hl:srt E ⟨32,n,m,ps⟩=3\/srt E ⟨32,n,m,ps⟩=0:=by
  rw[hs]
  show a0H _ _=3\/a0H _ _=0
  unfold a0H
  split
  ·exact .inl rfl
  ·exact .inr rfl
 refine a0O (r:=3) (hl.resolve_right (fun h=>hz (hs.symm.trans h))) (by decide) ?_
 rw[e]
 unfold c0K
 split
 ·generalize a7o _ _ _ _ _=i
  by_cases h:i<ps.length
  ·rw[show (ps.map (a0e E)).getD i (0,0)=a0e E ps[i] from by simp[List.getD,List.getElem?_map,List.getElem?_eq_getElem h]]
   exact(hg _ (List.getElem_mem h)).1
  ·rw[show (ps.map (a0e E)).getD i (0,0)=(0,0) from by simp[List.getD,List.getElem?_map,List.getElem?_eq_none (Nat.not_lt.1 h)]]
   exact a0r
 ·exact a0r
theorem c1B (E:a0z):∀ k,1<=k->k<=32->GK E k:=a2n (c4G E) (c4F E) (c4E E) (c4D E) (c4C E) (c4B E) (c4A E) (c4z E) (c4y E) (c3C E) (c3B E) (c3A E) (c3z E) (c3y E) (c3x E) (c3w E) (c3v E) (c3u E) (c3t E) (c3s E) (c3r E) (c3q E) (c3p E) (c3o E) (c3n E) (c3m E) (c3l E) (c3k E) (c3j E) (c3i E) (c3h E) (c3g E)
def c0C (t:Co):Prop:=∃ w v,a0p w t v
theorem c0C.parts {t x:Co}(h:c0C t)(hx:x∈t.parts):c0C x:=by
 obtain⟨w,v,hs⟩:=h
 obtain⟨b,off,cap,-,-,-,-,hp⟩:=hs.parts.open (List.length_pos_of_mem hx)
 obtain⟨i,hi,rfl⟩:=List.getElem_of_mem hx
 obtain⟨u,-,hu⟩:=hp i hi
 exact⟨w,u,hu⟩
theorem c0C.fit {t:Co}(h:c0C t):c0G t:=by
 obtain⟨w,v,hs⟩:=h
 exact hs.fit
theorem b6N (E:a0z)(hE:b2z E)(t:Co):c0C t->srt E t≠0->b8r E t:=by
 induction t using Co.ind with
 | h t ih=>
   intro hl hz
   obtain⟨k,hop,h1,h2,hb,hp,hs⟩:=a8H hz
   exact c1B E k h1 h2 hE t hop hl.fit hb (fun x hx=>ih x hx (hl.parts hx) (hp x hx)) (by rw[<-hs];exact hz) hs
def c4R (E:a0z)(x:Co):Prop:=TeC E x/\b8r E x
def PK (E:a0z)(k:Nat):Prop:=b2z E->∀ t:Co,t.op=(k:Int)->a0G t<=8192->a0m k E.wins.length E.crons.length 256 t=true->(∀ x,x∈t.parts->c4R E x)->a1s a0H k t (t.parts.map (srt E))≠0->c0G t->WkC E k t
theorem c4v (E:a0z):PK E 1:=by
 intro hE t hop hn hb hg hz hf
 obtain⟨op,n,m,ps⟩:=t
 obtain rfl:op=1:=hop
 dsimp only at *
 exact b7M E _ 1 (.inl rfl) rfl
theorem c4u (E:a0z):PK E 2:=by
 intro hE t hop hn hb hg hz hf
 obtain⟨op,n,m,ps⟩:=t
 obtain rfl:op=2:=hop
 dsimp only at *
 exact b7M E _ 2 (.inr rfl) rfl
theorem c4t (E:a0z):PK E 3:=by
 intro hE t hop hn hb hg hz hf
 obtain⟨op,n,m,ps⟩:=t
 obtain rfl:op=3:=hop
 dsimp only at *
 exact c0S E _ rfl
theorem c4s (E:a0z):PK E 4:=by
 intro hE t hop hn hb hg hz hf
 obtain⟨op,n,m,ps⟩:=t
 obtain rfl:op=4:=hop
 dsimp only at *
 have hb':(a0w n E.wins.length&&decide (m=0))=true:=hb
 simp only[a0w,Bool.and_eq_true,decide_eq_true_eq] at hb'
 exact c0R E _ rfl hb'.1.1 hb'.1.2
theorem c4r (E:a0z):PK E 5:=by
 intro hE t hop hn hb hg hz hf
 obtain⟨op,n,m,ps⟩:=t
 obtain rfl:op=5:=hop
 dsimp only at *
 have hb':(a0w n E.crons.length&&decide (m=0))=true:=hb
 simp only[a0w,Bool.and_eq_true,decide_eq_true_eq] at hb'
 exact b8A E _ rfl hb'.1.1 hb'.1.2
theorem c4q (E:a0z):PK E 6:=by
 intro hE t hop hn hb hg hz hf
 obtain⟨op,n,m,ps⟩:=t
 obtain rfl:op=6:=hop
 dsimp only at *
 have hb':(decide (1<=n)&&(decide (n<=3)&&(decide (m=1)||decide (m=2))))=true:=hb
 simp only[Bool.and_eq_true,decide_eq_true_eq] at hb'
 exact b8z E _ rfl (by show n≠0;omega)
theorem c4p (E:a0z):PK E 7:=by
 intro hE t hop hn hb hg hz hf
 obtain⟨op,n,m,ps⟩:=t
 obtain rfl:op=7:=hop
 dsimp only at *
 have hz':a0R 1 (ps.map (srt E))≠0:=hz
 obtain⟨h1,-,-,-⟩:=a3r hz'
 obtain⟨x,rfl⟩:=c3e (by simpa using h1)
 exact b8x E n m x (hg x (by simp)).1
theorem c4o (E:a0z):PK E 8:=by
 intro hE t hop hn hb hg hz hf
 obtain⟨op,n,m,ps⟩:=t
 obtain rfl:op=8:=hop
 dsimp only at *
 obtain⟨e1,-⟩:=a0K (k:=8) (r:=1) (ts:=[1]) rfl hz
 obtain⟨x,rfl,q0⟩:=a9i e1
 obtain⟨H0,g0⟩:=hg x (by simp)
 intro v tb b w f q hs ht hw
 obtain⟨p,e,hp⟩:=hw
 cases e
 have hT:a0e E ⟨8,n,m,[x]⟩=a0B (uF 8) (a0e E x):=by rw[a0g];rfl
 rw[hT]
 exact b3x E 8 n m x 147 p (uF 8) b7Q.1 H0 (fun W=>b7Q.2 _ W g0.1 trivial) v tb b w hs ht hp
theorem c4n (E:a0z):PK E 9:=by
 intro hE t hop hn hb hg hz hf
 obtain⟨op,n,m,ps⟩:=t
 obtain rfl:op=9:=hop
 dsimp only at *
 obtain⟨e1,-⟩:=a0K (k:=9) (r:=2) (ts:=[2]) rfl hz
 obtain⟨x,rfl,q0⟩:=a9i e1
 obtain⟨H0,g0⟩:=hg x (by simp)
 intro v tb b w f q hs ht hw
 obtain⟨p,e,hp⟩:=hw
 cases e
 have hT:a0e E ⟨9,n,m,[x]⟩=a0B (uF 9) (a0e E x):=by rw[a0g];rfl
 rw[hT]
 exact b3x E 9 n m x 148 p (uF 9) b7P.1 H0 (fun W=>b7P.2 _ W g0.1 (g0.2 q0)) v tb b w hs ht hp
theorem c2Y (E:a0z):PK E 10:=by
 intro hE t hop hn hb hg hz hf
 obtain⟨op,n,m,ps⟩:=t
 obtain rfl:op=10:=hop
 dsimp only at *
 obtain⟨e1,-⟩:=a0K (k:=10) (r:=1) (ts:=[1]) rfl hz
 obtain⟨x,rfl,q0⟩:=a9i e1
 obtain⟨H0,g0⟩:=hg x (by simp)
 intro v tb b w f q hs ht hw
 obtain⟨p,e,hp⟩:=hw
 cases e
 have hT:a0e E ⟨10,n,m,[x]⟩=a0B (uF 10) (a0e E x):=by rw[a0g];rfl
 rw[hT]
 exact b3x E 10 n m x 149 p (uF 10) b7R.1 H0 (fun W=>b7R.2 _ W g0.1 trivial) v tb b w hs ht hp
theorem c2X (E:a0z):PK E 11:=by
 intro hE t hop hn hb hg hz hf
 obtain⟨op,n,m,ps⟩:=t
 obtain rfl:op=11:=hop
 dsimp only at *
 obtain⟨e1,-⟩:=a0K (k:=11) (r:=1) (ts:=[1]) rfl hz
 obtain⟨x,rfl,q0⟩:=a9i e1
 obtain⟨H0,g0⟩:=hg x (by simp)
 intro v tb b w f q hs ht hw
 obtain⟨p,e,hp⟩:=hw
 cases e
 have hT:a0e E ⟨11,n,m,[x]⟩=a0B (uF 11) (a0e E x):=by rw[a0g];rfl
 rw[hT]
 exact b3x E 11 n m x 150 p (uF 11) b2N.1 H0 (fun W=>b2N.2 _ W g0.1 trivial) v tb b w hs ht hp
theorem c2W (E:a0z):PK E 12:=by
 intro hE t hop hn hb hg hz hf
 obtain⟨op,n,m,ps⟩:=t
 obtain rfl:op=12:=hop
 dsimp only at *
 obtain⟨e1,-⟩:=a0K (k:=12) (r:=1) (ts:=[1]) rfl hz
 obtain⟨x,rfl,q0⟩:=a9i e1
 obtain⟨H0,g0⟩:=hg x (by simp)
 intro v tb b w f q hs ht hw
 obtain⟨p,e,hp⟩:=hw
 cases e
 have hT:a0e E ⟨12,n,m,[x]⟩=a0B (uF 12) (a0e E x):=by rw[a0g];rfl
 rw[hT]
 exact b3x E 12 n m x 151 p (uF 12) b0m.1 H0 (fun W=>b0m.2 _ W g0.1 trivial) v tb b w hs ht hp
theorem c2V (E:a0z):PK E 13:=by
 intro hE t hop hn hb hg hz hf
 obtain⟨op,n,m,ps⟩:=t
 obtain rfl:op=13:=hop
 dsimp only at *
 obtain⟨e1,-⟩:=a0K (k:=13) (r:=1) (ts:=[1]) rfl hz
 obtain⟨x,rfl,q0⟩:=a9i e1
 obtain⟨H0,g0⟩:=hg x (by simp)
 have hb':(decide (0<=n)&&decide (1<=m))=true:=hb
 simp only[Bool.and_eq_true,decide_eq_true_eq] at hb'
 exact b5v E n m x H0 (fun W=>b7z _ n m g0.1.1 (a6q g0.1) hb'.1 (a6q hf.n) hb'.2 (a6q hf.m) (a4e _ _ (by omega) (by have:=a6q hf.m;dsimp only at this;omega)) W)
theorem c2U (E:a0z):PK E 14:=by
 intro hE t hop hn hb hg hz hf
 obtain⟨op,n,m,ps⟩:=t
 obtain rfl:op=14:=hop
 dsimp only at *
 obtain⟨e1,-⟩:=a0K (k:=14) (r:=1) (ts:=[1,1]) rfl hz
 obtain⟨x,y,rfl,q0,q1⟩:=a4G e1
 obtain⟨H0,g0⟩:=hg x (by simp)
 obtain⟨H1,g1⟩:=hg y (by simp)
 intro v tb b w f q hs ht hw
 obtain⟨p,e,hp⟩:=hw
 cases e
 have hT:a0e E ⟨14,n,m,[x,y]⟩=a0E (fun a b=>okR (bF 14 a b)) (a0e E x) (a0e E y):=by rw[a0g];rfl
 rw[hT]
 exact a5R E 14 n m x y 155 p (bF 14) b8n.1 H0 H1 (fun W=>b8n.2 _ _ W g0.1 g1.1) v tb b w hs ht hp
theorem c2T (E:a0z):PK E 15:=by
 intro hE t hop hn hb hg hz hf
 obtain⟨op,n,m,ps⟩:=t
 obtain rfl:op=15:=hop
 dsimp only at *
 obtain⟨e1,-⟩:=a0K (k:=15) (r:=1) (ts:=[1,1]) rfl hz
 obtain⟨x,y,rfl,q0,q1⟩:=a4G e1
 obtain⟨H0,g0⟩:=hg x (by simp)
 obtain⟨H1,g1⟩:=hg y (by simp)
 intro v tb b w f q hs ht hw
 obtain⟨p,e,hp⟩:=hw
 cases e
 have hT:a0e E ⟨15,n,m,[x,y]⟩=a0E (fun a b=>okR (bF 15 a b)) (a0e E x) (a0e E y):=by rw[a0g];rfl
 rw[hT]
 exact a5R E 15 n m x y 156 p (bF 15) b8j.1 H0 H1 (fun W=>b8j.2 _ _ W g0.1 g1.1) v tb b w hs ht hp
theorem c2S (E:a0z):PK E 16:=by
 intro hE t hop hn hb hg hz hf
 obtain⟨op,n,m,ps⟩:=t
 obtain rfl:op=16:=hop
 dsimp only at *
 obtain⟨e1,-⟩:=a0K (k:=16) (r:=1) (ts:=[1,1]) rfl hz
 obtain⟨x,y,rfl,q0,q1⟩:=a4G e1
 obtain⟨H0,g0⟩:=hg x (by simp)
 obtain⟨H1,g1⟩:=hg y (by simp)
 intro v tb b w f q hs ht hw
 obtain⟨p,e,hp⟩:=hw
 cases e
 have hT:a0e E ⟨16,n,m,[x,y]⟩=a0E (fun a b=>okR (bF 16 a b)) (a0e E x) (a0e E y):=by rw[a0g];rfl
 rw[hT]
 exact a5R E 16 n m x y 157 p (bF 16) b8k.1 H0 H1 (fun W=>b8k.2 _ _ W g0.1 g1.1) v tb b w hs ht hp
theorem c2R (E:a0z):PK E 17:=by
 intro hE t hop hn hb hg hz hf
 obtain⟨op,n,m,ps⟩:=t
 obtain rfl:op=17:=hop
 dsimp only at *
 obtain⟨e1,-⟩:=a0K (k:=17) (r:=1) (ts:=[1,1]) rfl hz
 obtain⟨x,y,rfl,q0,q1⟩:=a4G e1
 obtain⟨H0,g0⟩:=hg x (by simp)
 obtain⟨H1,g1⟩:=hg y (by simp)
 intro v tb b w f q hs ht hw
 cases hw
 have hT:a0e E ⟨17,n,m,[x,y]⟩=a0E b7a (a0e E x) (a0e E y):=by rw[a0g];rfl
 rw[hT]
 refine c3H E 17 n m x y H0 H1 (fun W=>?_) v tb b w hs ht
 by_cases h:(a0e E y).1=0
 ·rw[if_pos h,decide_eq_false (fun k=>k h),h]
  exact b7J _ W
 ·rw[if_neg h,decide_eq_true h]
  exact c2e _ _ g0.1.1 (a6q g0.1) g1.1.1 (a6q g1.1) h (a4e _ _ (by omega) (by have:=g1.1.1;have:=g1.1.2;omega)) W
theorem c2Q (E:a0z):PK E 18:=by
 intro hE t hop hn hb hg hz hf
 obtain⟨op,n,m,ps⟩:=t
 obtain rfl:op=18:=hop
 dsimp only at *
 obtain⟨e1,-⟩:=a0K (k:=18) (r:=2) (ts:=[1,1]) rfl hz
 obtain⟨x,y,rfl,q0,q1⟩:=a4G e1
 obtain⟨H0,g0⟩:=hg x (by simp)
 obtain⟨H1,g1⟩:=hg y (by simp)
 intro v tb b w f q hs ht hw
 obtain⟨p,e,hp⟩:=hw
 cases e
 have hT:a0e E ⟨18,n,m,[x,y]⟩=a0E (fun a b=>okR (bF 18 a b)) (a0e E x) (a0e E y):=by rw[a0g];rfl
 rw[hT]
 exact a5R E 18 n m x y 159 p (bF 18) b4U.1 H0 H1 (fun W=>b4U.2 _ _ W g0.1 g1.1) v tb b w hs ht hp
theorem c2P (E:a0z):PK E 19:=by
 intro hE t hop hn hb hg hz hf
 obtain⟨op,n,m,ps⟩:=t
 obtain rfl:op=19:=hop
 dsimp only at *
 obtain⟨e1,-⟩:=a0K (k:=19) (r:=2) (ts:=[1,1]) rfl hz
 obtain⟨x,y,rfl,q0,q1⟩:=a4G e1
 obtain⟨H0,g0⟩:=hg x (by simp)
 obtain⟨H1,g1⟩:=hg y (by simp)
 intro v tb b w f q hs ht hw
 obtain⟨p,e,hp⟩:=hw
 cases e
 have hT:a0e E ⟨19,n,m,[x,y]⟩=a0E (fun a b=>okR (bF 19 a b)) (a0e E x) (a0e E y):=by rw[a0g];rfl
 rw[hT]
 exact a5R E 19 n m x y 160 p (bF 19) b8m.1 H0 H1 (fun W=>b8m.2 _ _ W g0.1 g1.1) v tb b w hs ht hp
theorem c2O (E:a0z):PK E 20:=by
 intro hE t hop hn hb hg hz hf
 obtain⟨op,n,m,ps⟩:=t
 obtain rfl:op=20:=hop
 dsimp only at *
 obtain⟨e1,-⟩:=a0K (k:=20) (r:=2) (ts:=[1,1]) rfl hz
 obtain⟨x,y,rfl,q0,q1⟩:=a4G e1
 obtain⟨H0,g0⟩:=hg x (by simp)
 obtain⟨H1,g1⟩:=hg y (by simp)
 intro v tb b w f q hs ht hw
 obtain⟨p,e,hp⟩:=hw
 cases e
 have hT:a0e E ⟨20,n,m,[x,y]⟩=a0E (fun a b=>okR (bF 20 a b)) (a0e E x) (a0e E y):=by rw[a0g];rfl
 rw[hT]
 exact a5R E 20 n m x y 161 p (bF 20) c1Q.1 H0 H1 (fun W=>c1Q.2 _ _ W g0.1 g1.1) v tb b w hs ht hp
theorem c2N (E:a0z):PK E 21:=by
 intro hE t hop hn hb hg hz hf
 obtain⟨op,n,m,ps⟩:=t
 obtain rfl:op=21:=hop
 dsimp only at *
 obtain⟨e1,-⟩:=a0K (k:=21) (r:=2) (ts:=[1,1]) rfl hz
 obtain⟨x,y,rfl,q0,q1⟩:=a4G e1
 obtain⟨H0,g0⟩:=hg x (by simp)
 obtain⟨H1,g1⟩:=hg y (by simp)
 intro v tb b w f q hs ht hw
 obtain⟨p,e,hp⟩:=hw
 cases e
 have hT:a0e E ⟨21,n,m,[x,y]⟩=a0E (fun a b=>okR (bF 21 a b)) (a0e E x) (a0e E y):=by rw[a0g];rfl
 rw[hT]
 exact a5R E 21 n m x y 162 p (bF 21) b4T.1 H0 H1 (fun W=>b4T.2 _ _ W g0.1 g1.1) v tb b w hs ht hp
theorem c2M (E:a0z):PK E 22:=by
 intro hE t hop hn hb hg hz hf
 obtain⟨op,n,m,ps⟩:=t
 obtain rfl:op=22:=hop
 dsimp only at *
 obtain⟨e1,-⟩:=a0K (k:=22) (r:=2) (ts:=[1,1]) rfl hz
 obtain⟨x,y,rfl,q0,q1⟩:=a4G e1
 obtain⟨H0,g0⟩:=hg x (by simp)
 obtain⟨H1,g1⟩:=hg y (by simp)
 intro v tb b w f q hs ht hw
 obtain⟨p,e,hp⟩:=hw
 cases e
 have hT:a0e E ⟨22,n,m,[x,y]⟩=a0E (fun a b=>okR (bF 22 a b)) (a0e E x) (a0e E y):=by rw[a0g];rfl
 rw[hT]
 exact a5R E 22 n m x y 163 p (bF 22) b8l.1 H0 H1 (fun W=>b8l.2 _ _ W g0.1 g1.1) v tb b w hs ht hp
theorem c2L (E:a0z):PK E 23:=by
 intro hE t hop hn hb hg hz hf
 obtain⟨op,n,m,ps⟩:=t
 obtain rfl:op=23:=hop
 dsimp only at *
 obtain⟨e1,-⟩:=a0K (k:=23) (r:=1) (ts:=[1,1]) rfl hz
 obtain⟨x,y,rfl,q0,q1⟩:=a4G e1
 obtain⟨H0,g0⟩:=hg x (by simp)
 obtain⟨H1,g1⟩:=hg y (by simp)
 intro v tb b w f q hs ht hw
 obtain⟨p,e,hp⟩:=hw
 cases e
 have hT:a0e E ⟨23,n,m,[x,y]⟩=a0E (fun a b=>okR (bF 23 a b)) (a0e E x) (a0e E y):=by rw[a0g];rfl
 rw[hT]
 exact a5R E 23 n m x y 164 p (bF 23) a8W.1 H0 H1 (fun W=>a8W.2 _ _ W g0.1 g1.1) v tb b w hs ht hp
theorem c2K (E:a0z):PK E 24:=by
 intro hE t hop hn hb hg hz hf
 obtain⟨op,n,m,ps⟩:=t
 obtain rfl:op=24:=hop
 dsimp only at *
 obtain⟨e1,-⟩:=a0K (k:=24) (r:=1) (ts:=[1,1]) rfl hz
 obtain⟨x,y,rfl,q0,q1⟩:=a4G e1
 obtain⟨H0,g0⟩:=hg x (by simp)
 obtain⟨H1,g1⟩:=hg y (by simp)
 intro v tb b w f q hs ht hw
 obtain⟨p,e,hp⟩:=hw
 cases e
 have hT:a0e E ⟨24,n,m,[x,y]⟩=a0E (fun a b=>okR (bF 24 a b)) (a0e E x) (a0e E y):=by rw[a0g];rfl
 rw[hT]
 exact a5R E 24 n m x y 165 p (bF 24) a6B.1 H0 H1 (fun W=>a6B.2 _ _ W g0.1 g1.1) v tb b w hs ht hp
theorem c2J (E:a0z):PK E 25:=by
 intro hE t hop hn hb hg hz hf
 obtain⟨op,n,m,ps⟩:=t
 obtain rfl:op=25:=hop
 dsimp only at *
 obtain⟨e1,-⟩:=a0K (k:=25) (r:=2) (ts:=[2,2]) rfl hz
 obtain⟨x,y,rfl,q0,q1⟩:=a4G e1
 obtain⟨H0,g0⟩:=hg x (by simp)
 obtain⟨H1,g1⟩:=hg y (by simp)
 exact c0T E n m x y H0 H1
theorem c2I (E:a0z):PK E 26:=by
 intro hE t hop hn hb hg hz hf
 obtain⟨op,n,m,ps⟩:=t
 obtain rfl:op=26:=hop
 dsimp only at *
 obtain⟨e1,-⟩:=a0K (k:=26) (r:=2) (ts:=[2,2]) rfl hz
 obtain⟨x,y,rfl,q0,q1⟩:=a4G e1
 obtain⟨H0,g0⟩:=hg x (by simp)
 obtain⟨H1,g1⟩:=hg y (by simp)
 exact c2r E n m x y H0 H1
theorem c2H (E:a0z):PK E 27:=by
 intro hE t hop hn hb hg hz hf
 obtain⟨op,n,m,ps⟩:=t
 obtain rfl:op=27:=hop
 dsimp only at *
 have hz':a0R 2 (ps.map (srt E))≠0:=hz
 obtain⟨h1,-,-,-⟩:=a3r hz'
 obtain⟨x,y,rfl⟩:=c3X (by simpa using h1)
 exact b2H E n m x y (hg x (by simp)).1 (hg y (by simp)).1
theorem c2G (E:a0z):PK E 28:=by
 intro hE t hop hn hb hg hz hf
 obtain⟨op,n,m,ps⟩:=t
 obtain rfl:op=28:=hop
 dsimp only at *
 have hz':a1X (ps.map (srt E))≠0:=hz
 obtain⟨a,h1,-⟩:=a8O hz'
 obtain⟨x,y,z,rfl⟩:=c3W (by have:=congrArg List.length h1;simpa using this)
 exact b2I E n m x y z (hg x (by simp)).1 (hg y (by simp)).1 (hg z (by simp)).1
theorem c2F (E:a0z):PK E 29:=by
 intro hE t hop hn hb hg hz hf
 obtain⟨op,n,m,ps⟩:=t
 obtain rfl:op=29:=hop
 dsimp only at *
 exact b8y E _ rfl
theorem c2E (E:a0z):PK E 30:=by
 intro hE t hop hn hb hg hz hf
 obtain⟨op,n,m,ps⟩:=t
 obtain rfl:op=30:=hop
 dsimp only at *
 obtain⟨e1,-⟩:=a0K (k:=30) (r:=3) (ts:=[1]) rfl hz
 obtain⟨x,rfl,q0⟩:=a9i e1
 obtain⟨H0,g0⟩:=hg x (by simp)
 exact c2q E n m x H0 (fun W=>a9g _ g0.1.1 (a6q g0.1) W)
theorem c2D (E:a0z):PK E 31:=by
 intro hE t hop hn hb hg hz hf
 obtain⟨op,n,m,ps⟩:=t
 obtain rfl:op=31:=hop
 dsimp only at *
 obtain⟨e1,-⟩:=a0K (k:=31) (r:=3) (ts:=[1]) rfl hz
 obtain⟨x,rfl,q0⟩:=a9i e1
 obtain⟨H0,g0⟩:=hg x (by simp)
 exact c2s E n m x H0 (fun W=>a9g _ g0.1.1 (a6q g0.1) W) (fun W=>b5n _ _ hE.rep.1 (a6q hE.rep) (a7J _).1 (a6q (a7J _)) W)
theorem c2C (E:a0z):PK E 32:=by
 intro hE t hop hn hb hg hz hf
 obtain⟨op,n,m,ps⟩:=t
 obtain rfl:op=32:=hop
 dsimp only at *
 have hz':a0H ⟨32,n,m,ps⟩ (ps.map (srt E))≠0:=hz
 have hl:b0i ⟨32,n,m,ps⟩ (ps.map (srt E)):=(a7p _ _).1 (by
  unfold a0H at hz'
  split at hz'
  ·assumption
  ·exact absurd rfl hz')
 have hlen:ps.length<=8192:=by
  have h1:=a2u ps
  rw[a2j] at hn
  have h2:1+a0C ps<=8192:=hn
  omega
 intro v tb b w f q hs ht hw
 cases hw
 have hT:a0e E ⟨32,n,m,ps⟩=c0K ps (ps.map (a0e E)):=by rw[a0g];rfl
 rw[hT]
 exact b6A E 32 n m ps (by have:=hl.1;simpa using this) (by have:=hl.2.1;simpa using this) hlen (fun x hx=>(hg x hx).1) v tb b w hs ht
theorem c1m (E:a0z):∀ k,1<=k->k<=32->PK E k:=a2n (c4v E) (c4u E) (c4t E) (c4s E) (c4r E) (c4q E) (c4p E) (c4o E) (c4n E) (c2Y E) (c2X E) (c2W E) (c2V E) (c2U E) (c2T E) (c2S E) (c2R E) (c2Q E) (c2P E) (c2O E) (c2N E) (c2M E) (c2L E) (c2K E) (c2J E) (c2I E) (c2H E) (c2G E) (c2F E) (c2E E) (c2D E) (c2C E)
theorem a6O (E:a0z)(hE:b2z E)(t:Co):c0C t->a0G t<=8192->srt E t≠0->TeC E t:=by
 induction t using Co.ind with
 | h t ih=>
   intro hl hn hz
   obtain⟨k,hop,h1,h2,hb,hp,hs⟩:=a8H hz
   refine b2n E t k h1 h2 hop (c1m E k h1 h2 hE t hop hn hb (fun x hx=>⟨ih x hx (hl.parts hx) ?_ (hp x hx),b6N E hE x (hl.parts hx) (hp x hx)⟩) (by rw[<-hs];exact hz) hl.fit)
   have:=a1l hx
   omega
end Go.Proofs.YtbddbnjhmdbkbaaGreatDoor
