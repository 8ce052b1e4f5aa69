import Derived.Test.YtepncopdjodfgaaGreatDoorMgN
namespace Go.Proofs.YtepncopdjodfgaaGreatDoor
open Go.RowKit
theorem resV_err (n:Int){e:Int}(h:e≠0):resV (n,e)=.tuple #[.int .i64 n,.iface 237 (.agg #[.int .i64 e])]:=by
 show Value.tuple #[.int .i64 n,errV e]=_
 rw[errV_n h]
set_option maxHeartbeats 1000000 in
theorem wk_and (E:EnvP)(tn tm:Int)(x0 x1:Co)(H0:TeC E x0)(H1:TeC E x1):WkC E 25 ⟨25,tn,tm,[x0,x1]⟩:=by
 intro v tb b w f q hs ht hw
 cases hw
 obtain⟨Rv,hRv⟩:∃ Rv,Hid (Rv=resV (telV E ⟨25,tn,tm,[x0,x1]⟩)):=⟨_,rfl⟩
 rw[<-hRv.out]
 rw[telV_eq] at hRv
 obtain⟨pb,off,cap,u0,u1,rfl,k1,k2,lp,f0,s0,f1,s1⟩:=parts2 hs.parts
 obtain⟨a0,n0,rfl,-,-⟩:=s0.parts.shape
 have HC0:=chid (fun W (hW:Below w.heap.size w W)=>H0 _ tb b W (s0.next hW) (ht.next hW))
 obtain⟨a1,n1,rfl,-,-⟩:=s1.parts.shape
 have HC1:=chid (fun W (hW:Below w.heap.size w W)=>H1 _ tb b W (s1.next hW) (ht.next hW))
 have HA:Hid (∀ o,Below w.heap.size w (w.alloc o)):=fun o=>(Below.refl _ _).alloc (Nat.le_refl _) _
 have HF0:=chid f0
 have HF1:=chid f1
 obtain⟨p0,p1,p2,p3⟩:=f0
 have HX:=chid (Box.new w (coL ⟨25,tn,tm,[x0,x1]⟩ (.slice (some ⟨pb,off,none⟩) 2 cap)) 30)
 clear hs ht s0 s1
 have hT:Hid (Rv=resV (if (telV E x0).2=0/\(telV E x0).1≠0 then (telV E x1) else noR (telV E x0).2)):=hRv
 clear hRv
 generalize telV E x0=r0 at *
 generalize telV E x1=r1 at *
 obtain⟨n0',e0⟩:=r0
 dsimp only at hT
 by_cases he:e0=0
 case neg=>
  have hR:Hid (Rv=Value.tuple #[.int .i64 0,.iface 237 (.agg #[.int .i64 e0])]):=by show _=_;rw[hT.out,if_neg (fun h=>he h.1)];exact resV_err _ he
  go_enter Tryz.func202,Tryz.ntmps202
  go_wp2_with fail
  refine Calls.mono (HC0.out _ (HA.out _)) ?_
  rintro e w1 ⟨he1,b1⟩
  rw[resV_err n0' he] at he1
  subst he1
  have HB:=chid (cbelow_on (HA.out _) b1 (by simp))
  have X1:=HX.out.next b1
  have c0:=X1.cell 0 _ rfl
  have c1:=X1.cell 1 _ rfl
  have c2:=X1.cell 2 _ rfl
  have c3:=X1.cell 3 _ rfl
  have x1l:=X1.lt
  clear b1 HC0 HX X1 p0 p1 p2 p3
  clear hT
  go_wp2_with fail
  go_ret2
  exact⟨by rw[hR.out];rfl,HB.out⟩
 subst he
 by_cases hz:n0'=0
 ·subst hz
  have hR:Hid (Rv=Value.tuple #[.int .i64 0,.nilIface]):=by show _=_;rw[hT.out,if_neg (by simp)];exact resV_ok _ rfl
  go_enter Tryz.func202,Tryz.ntmps202
  go_wp2_with fail
  refine Calls.mono (HC0.out _ (HA.out _)) ?_
  rintro e w1 ⟨he1,b1⟩
  rw[resV_ok (0,0) rfl] at he1
  subst he1
  have HB:=chid (cbelow_on (HA.out _) b1 (by simp))
  have X1:=HX.out.next b1
  have c0:=X1.cell 0 _ rfl
  have c1:=X1.cell 1 _ rfl
  have c2:=X1.cell 2 _ rfl
  have c3:=X1.cell 3 _ rfl
  have x1l:=X1.lt
  clear b1 HC0 HX X1 p0 p1 p2 p3
  clear hT
  go_wp2_with fail
  go_ret2
  exact⟨by rw[hR.out];rfl,HB.out⟩
 ·have hR:Hid (Rv=resV r1):=by show _=_;rw[hT.out,if_pos ⟨rfl,hz⟩]
  have kz:(n0'==0)=false:=by simpa using hz
  go_enter Tryz.func202,Tryz.ntmps202
  go_wp2_with fail
  refine Calls.mono (HC0.out _ (HA.out _)) ?_
  rintro e w1 ⟨he1,b1⟩
  rw[resV_ok (n0',0) rfl] at he1
  subst he1
  have HB:=chid (cbelow_on (HA.out _) b1 (by simp))
  have X1:=HX.out.next b1
  have c0:=X1.cell 0 _ rfl
  have c1:=X1.cell 1 _ rfl
  have c2:=X1.cell 2 _ rfl
  have c3:=X1.cell 3 _ rfl
  have x1l:=X1.lt
  clear b1 HC0 HX X1 p0 p1 p2 p3
  clear hT
  obtain⟨p0,p1,p2,p3⟩:=HF1.out.keep (w':=w1) (fun j=>HB.out.cell (p:=⟨pb,j,none⟩) lp)
  have lp1:=Nat.lt_of_lt_of_le lp HB.out.size
  go_wp2_with fail
  refine Calls.mono (HC1.out _ HB.out) ?_
  rintro e w2 ⟨rfl,b2⟩
  have HB2:=chid (cbelow_on HB.out b2 HB.out.size)
  clear b2 p0 p1 p2 p3
  go_wp2_with fail
  go_ret2
  exact⟨by rw[hR.out];rfl,HB2.out⟩
set_option maxHeartbeats 1000000 in
theorem wk_or (E:EnvP)(tn tm:Int)(x0 x1:Co)(H0:TeC E x0)(H1:TeC E x1):WkC E 26 ⟨26,tn,tm,[x0,x1]⟩:=by
 intro v tb b w f q hs ht hw
 cases hw
 obtain⟨Rv,hRv⟩:∃ Rv,Hid (Rv=resV (telV E ⟨26,tn,tm,[x0,x1]⟩)):=⟨_,rfl⟩
 rw[<-hRv.out]
 rw[telV_eq] at hRv
 obtain⟨pb,off,cap,u0,u1,rfl,k1,k2,lp,f0,s0,f1,s1⟩:=parts2 hs.parts
 obtain⟨a0,n0,rfl,-,-⟩:=s0.parts.shape
 have HC0:=chid (fun W (hW:Below w.heap.size w W)=>H0 _ tb b W (s0.next hW) (ht.next hW))
 obtain⟨a1,n1,rfl,-,-⟩:=s1.parts.shape
 have HC1:=chid (fun W (hW:Below w.heap.size w W)=>H1 _ tb b W (s1.next hW) (ht.next hW))
 have HA:Hid (∀ o,Below w.heap.size w (w.alloc o)):=fun o=>(Below.refl _ _).alloc (Nat.le_refl _) _
 have HF0:=chid f0
 have HF1:=chid f1
 obtain⟨p0,p1,p2,p3⟩:=f0
 have HX:=chid (Box.new w (coL ⟨26,tn,tm,[x0,x1]⟩ (.slice (some ⟨pb,off,none⟩) 2 cap)) 30)
 clear hs ht s0 s1
 have hT:Hid (Rv=resV (if (telV E x0).2=0/\(telV E x0).1≠1 then (telV E x1) else (telV E x0))):=hRv
 clear hRv
 generalize telV E x0=r0 at *
 generalize telV E x1=r1 at *
 obtain⟨n0',e0⟩:=r0
 dsimp only at hT
 by_cases he:e0=0
 case neg=>
  have hR:Hid (Rv=Value.tuple #[.int .i64 n0',.iface 237 (.agg #[.int .i64 e0])]):=by show _=_;rw[hT.out,if_neg (fun h=>he h.1)];exact resV_err _ he
  go_enter Tryz.func203,Tryz.ntmps203
  go_wp2_with fail
  refine Calls.mono (HC0.out _ (HA.out _)) ?_
  rintro e w1 ⟨he1,b1⟩
  rw[resV_err n0' he] at he1
  subst he1
  have HB:=chid (cbelow_on (HA.out _) b1 (by simp))
  have X1:=HX.out.next b1
  have c0:=X1.cell 0 _ rfl
  have c1:=X1.cell 1 _ rfl
  have c2:=X1.cell 2 _ rfl
  have c3:=X1.cell 3 _ rfl
  have x1l:=X1.lt
  clear b1 HC0 HX X1 p0 p1 p2 p3
  clear hT
  go_wp2_with fail
  go_ret2
  exact⟨by rw[hR.out];rfl,HB.out⟩
 subst he
 by_cases hz:n0'=1
 ·subst hz
  have hR:Hid (Rv=Value.tuple #[.int .i64 1,.nilIface]):=by show _=_;rw[hT.out,if_neg (by simp)];exact resV_ok _ rfl
  go_enter Tryz.func203,Tryz.ntmps203
  go_wp2_with fail
  refine Calls.mono (HC0.out _ (HA.out _)) ?_
  rintro e w1 ⟨he1,b1⟩
  rw[resV_ok (1,0) rfl] at he1
  subst he1
  have HB:=chid (cbelow_on (HA.out _) b1 (by simp))
  have X1:=HX.out.next b1
  have c0:=X1.cell 0 _ rfl
  have c1:=X1.cell 1 _ rfl
  have c2:=X1.cell 2 _ rfl
  have c3:=X1.cell 3 _ rfl
  have x1l:=X1.lt
  clear b1 HC0 HX X1 p0 p1 p2 p3
  clear hT
  go_wp2_with fail
  go_ret2
  exact⟨by rw[hR.out];rfl,HB.out⟩
 ·have hR:Hid (Rv=resV r1):=by show _=_;rw[hT.out,if_pos ⟨rfl,hz⟩]
  have kz:(n0'==1)=false:=by simpa using hz
  go_enter Tryz.func203,Tryz.ntmps203
  go_wp2_with fail
  refine Calls.mono (HC0.out _ (HA.out _)) ?_
  rintro e w1 ⟨he1,b1⟩
  rw[resV_ok (n0',0) rfl] at he1
  subst he1
  have HB:=chid (cbelow_on (HA.out _) b1 (by simp))
  have X1:=HX.out.next b1
  have c0:=X1.cell 0 _ rfl
  have c1:=X1.cell 1 _ rfl
  have c2:=X1.cell 2 _ rfl
  have c3:=X1.cell 3 _ rfl
  have x1l:=X1.lt
  clear b1 HC0 HX X1 p0 p1 p2 p3
  clear hT
  obtain⟨p0,p1,p2,p3⟩:=HF1.out.keep (w':=w1) (fun j=>HB.out.cell (p:=⟨pb,j,none⟩) lp)
  have lp1:=Nat.lt_of_lt_of_le lp HB.out.size
  go_wp2_with fail
  refine Calls.mono (HC1.out _ HB.out) ?_
  rintro e w2 ⟨rfl,b2⟩
  have HB2:=chid (cbelow_on HB.out b2 HB.out.size)
  clear b2 p0 p1 p2 p3
  go_wp2_with fail
  go_ret2
  exact⟨by rw[hR.out];rfl,HB2.out⟩
set_option maxHeartbeats 1000000 in
theorem wk_choice (E:EnvP)(tn tm:Int)(x0 x1 x2:Co)(H0:TeC E x0)(H1:TeC E x1)(H2:TeC E x2):WkC E 28 ⟨28,tn,tm,[x0,x1,x2]⟩:=by
 intro v tb b w f q hs ht hw
 cases hw
 obtain⟨Rv,hRv⟩:∃ Rv,Hid (Rv=resV (telV E ⟨28,tn,tm,[x0,x1,x2]⟩)):=⟨_,rfl⟩
 rw[<-hRv.out]
 rw[telV_eq] at hRv
 obtain⟨pb,off,cap,u0,u1,u2,rfl,k1,k2,lp,f0,s0,f1,s1,f2,s2⟩:=parts3 hs.parts
 obtain⟨a0,n0,rfl,-,-⟩:=s0.parts.shape
 have HC0:=chid (fun W (hW:Below w.heap.size w W)=>H0 _ tb b W (s0.next hW) (ht.next hW))
 obtain⟨a1,n1,rfl,-,-⟩:=s1.parts.shape
 have HC1:=chid (fun W (hW:Below w.heap.size w W)=>H1 _ tb b W (s1.next hW) (ht.next hW))
 obtain⟨a2,n2,rfl,-,-⟩:=s2.parts.shape
 have HC2:=chid (fun W (hW:Below w.heap.size w W)=>H2 _ tb b W (s2.next hW) (ht.next hW))
 have HA:Hid (∀ o,Below w.heap.size w (w.alloc o)):=fun o=>(Below.refl _ _).alloc (Nat.le_refl _) _
 have HF0:=chid f0
 have HF1:=chid f1
 have HF2:=chid f2
 obtain⟨p0,p1,p2,p3⟩:=f0
 have HX:=chid (Box.new w (coL ⟨28,tn,tm,[x0,x1,x2]⟩ (.slice (some ⟨pb,off,none⟩) 3 cap)) 30)
 clear hs ht s0 s1 s2
 have hT:Hid (Rv=resV (if (telV E x0).2=0 then (if (telV E x0).1=1 then (telV E x1) else (telV E x2)) else noR (telV E x0).2)):=hRv
 clear hRv
 generalize telV E x0=r0 at *
 generalize telV E x1=r1 at *
 generalize telV E x2=r2 at *
 obtain⟨n0',e0⟩:=r0
 dsimp only at hT
 by_cases he:e0=0
 case neg=>
  have hR:Hid (Rv=Value.tuple #[.int .i64 0,.iface 237 (.agg #[.int .i64 e0])]):=by show _=_;rw[hT.out,if_neg he];exact resV_err _ he
  go_enter Tryz.func207,Tryz.ntmps207
  go_wp2_with fail
  refine Calls.mono (HC0.out _ (HA.out _)) ?_
  rintro e w1 ⟨he1,b1⟩
  rw[resV_err n0' he] at he1
  subst he1
  have HB:=chid (cbelow_on (HA.out _) b1 (by simp))
  have X1:=HX.out.next b1
  have c0:=X1.cell 0 _ rfl
  have c1:=X1.cell 1 _ rfl
  have c2:=X1.cell 2 _ rfl
  have c3:=X1.cell 3 _ rfl
  have x1l:=X1.lt
  clear b1 HC0 HX X1 p0 p1 p2 p3
  clear hT
  go_wp2_with fail
  go_ret2
  exact⟨by rw[hR.out];rfl,HB.out⟩
 subst he
 by_cases hz:n0'=1
 ·have hR:Hid (Rv=resV r1):=by show _=_;rw[hT.out,if_pos rfl,if_pos hz]
  subst hz
  go_enter Tryz.func207,Tryz.ntmps207
  go_wp2_with fail
  refine Calls.mono (HC0.out _ (HA.out _)) ?_
  rintro e w1 ⟨he1,b1⟩
  rw[resV_ok (1,0) rfl] at he1
  subst he1
  have HB:=chid (cbelow_on (HA.out _) b1 (by simp))
  have X1:=HX.out.next b1
  have c0:=X1.cell 0 _ rfl
  have c1:=X1.cell 1 _ rfl
  have c2:=X1.cell 2 _ rfl
  have c3:=X1.cell 3 _ rfl
  have x1l:=X1.lt
  clear b1 HC0 HX X1 p0 p1 p2 p3
  clear hT
  obtain⟨p0,p1,p2,p3⟩:=HF1.out.keep (w':=w1) (fun j=>HB.out.cell (p:=⟨pb,j,none⟩) lp)
  have lp1:=Nat.lt_of_lt_of_le lp HB.out.size
  go_wp2_with fail
  refine Calls.mono (HC1.out _ HB.out) ?_
  rintro e w2 ⟨rfl,b2⟩
  have HB2:=chid (cbelow_on HB.out b2 HB.out.size)
  clear b2 p0 p1 p2 p3
  go_wp2_with fail
  go_ret2
  exact⟨by rw[hR.out];rfl,HB2.out⟩
 ·have hR:Hid (Rv=resV r2):=by show _=_;rw[hT.out,if_pos rfl,if_neg hz]
  have kz:(n0'==1)=false:=by simpa using hz
  go_enter Tryz.func207,Tryz.ntmps207
  go_wp2_with fail
  refine Calls.mono (HC0.out _ (HA.out _)) ?_
  rintro e w1 ⟨he1,b1⟩
  rw[resV_ok (n0',0) rfl] at he1
  subst he1
  have HB:=chid (cbelow_on (HA.out _) b1 (by simp))
  have X1:=HX.out.next b1
  have c0:=X1.cell 0 _ rfl
  have c1:=X1.cell 1 _ rfl
  have c2:=X1.cell 2 _ rfl
  have c3:=X1.cell 3 _ rfl
  have x1l:=X1.lt
  clear b1 HC0 HX X1 p0 p1 p2 p3
  clear hT
  obtain⟨p0,p1,p2,p3⟩:=HF2.out.keep (w':=w1) (fun j=>HB.out.cell (p:=⟨pb,j,none⟩) lp)
  have lp1:=Nat.lt_of_lt_of_le lp HB.out.size
  go_wp2_with fail
  refine Calls.mono (HC2.out _ HB.out) ?_
  rintro e w2 ⟨rfl,b2⟩
  have HB2:=chid (cbelow_on HB.out b2 HB.out.size)
  clear b2 p0 p1 p2 p3
  go_wp2_with fail
  go_ret2
  exact⟨by rw[hR.out];rfl,HB2.out⟩
end Go.Proofs.YtepncopdjodfgaaGreatDoor
