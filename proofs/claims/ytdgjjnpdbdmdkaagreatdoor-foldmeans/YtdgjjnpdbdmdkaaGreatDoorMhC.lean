import Derived.Test.YtdgjjnpdbdmdkaaGreatDoorMgN
import Derived.Test.YtdgjjnpdbdmdkaaGreatDoorMhY
namespace Go.Proofs.YtdgjjnpdbdmdkaaGreatDoor
open Go.RowKit
theorem a0G (n:Int){e:Int}(h:e≠0):a2t (n,e)=.tuple #[.int .i64 n,.iface 155 (.agg #[.int .i64 e])]:=by
 show Value.tuple #[.int .i64 n,b1g e]=_
 rw[a3s h]
set_option maxHeartbeats 1000000 in
theorem b6V (E:a0y)(tn tm:Int)(x0 x1:Co)(H0:TeC E x0)(H1:TeC E x1):WkC E 25 ⟨25,tn,tm,[x0,x1]⟩:=by
 intro v tb b w f q hs ht hw
 cases hw
 obtain⟨Rv,hRv⟩:∃ Rv,Hid (Rv=a2t (a0e E ⟨25,tn,tm,[x0,x1]⟩)):=⟨_,rfl⟩
 rw[<-hRv.out]
 rw[a0g] at hRv
 obtain⟨pb,off,cap,u0,u1,rfl,k1,k2,lp,f0,s0,f1,s1⟩:=a5H hs.parts
 obtain⟨a0,n0,rfl,-,-⟩:=s0.parts.shape
 have HC0:=a0a (fun W (hW:Below w.heap.size w W)=>H0 _ tb b W (s0.next hW) (ht.next hW))
 obtain⟨a1,n1,rfl,-,-⟩:=s1.parts.shape
 have HC1:=a0a (fun W (hW:Below w.heap.size w W)=>H1 _ tb b W (s1.next hW) (ht.next hW))
 have HA:Hid (∀ o,Below w.heap.size w (w.alloc o)):=fun o=>(Below.refl _ _).alloc (Nat.le_refl _) _
 have HF0:=a0a f0
 have HF1:=a0a f1
 obtain⟨p0,p1,p2,p3⟩:=f0
 have HX:=a0a (Box.new w (coL ⟨25,tn,tm,[x0,x1]⟩ (.slice (some ⟨pb,off,none⟩) 2 cap)) 30)
 clear hs ht s0 s1
 have hT:Hid (Rv=a2t (if (a0e E x0).2=0/\(a0e E x0).1≠0 then (a0e E x1) else noR (a0e E x0).2)):=hRv
 clear hRv
 generalize a0e E x0=r0 at *
 generalize a0e E x1=r1 at *
 obtain⟨n0',e0⟩:=r0
 dsimp only at hT
 by_cases he:e0=0
 case neg=>
  have hR:Hid (Rv=Value.tuple #[.int .i64 0,.iface 155 (.agg #[.int .i64 e0])]):=by show _=_;rw[hT.out,if_neg (fun h=>he h.1)];exact a0G _ he
  go_enter Tryz.func138,Tryz.ntmps138
  go_wp2_with fail
  refine Calls.mono (HC0.out _ (HA.out _)) ?_
  rintro e w1 ⟨he1,b1⟩
  rw[a0G n0' he] at he1
  subst he1
  have HB:=a0a (a0b (HA.out _) b1 (by simp))
  have X1:=HX.out.next b1
  obtain⟨c0,c1,c2,c3⟩:=Box.c4 X1
  have x1l:=X1.lt
  clear b1 HC0 HX X1 p0 p1 p2 p3
  clear hT
  go_wp2_with fail
  go_ret2
  exact⟨by rw[hR.out];rfl,HB.out⟩
 subst he
 by_cases hz:n0'=0
 ·subst hz
  have hR:Hid (Rv=Value.tuple #[.int .i64 0,.nilIface]):=by show _=_;rw[hT.out,if_neg (by simp)];exact a0K _ rfl
  go_enter Tryz.func138,Tryz.ntmps138
  go_wp2_with fail
  refine Calls.mono (HC0.out _ (HA.out _)) ?_
  rintro e w1 ⟨he1,b1⟩
  rw[a0K (0,0) rfl] at he1
  subst he1
  have HB:=a0a (a0b (HA.out _) b1 (by simp))
  have X1:=HX.out.next b1
  obtain⟨c0,c1,c2,c3⟩:=Box.c4 X1
  have x1l:=X1.lt
  clear b1 HC0 HX X1 p0 p1 p2 p3
  clear hT
  go_wp2_with fail
  go_ret2
  exact⟨by rw[hR.out];rfl,HB.out⟩
 ·have hR:Hid (Rv=a2t r1):=by show _=_;rw[hT.out,if_pos ⟨rfl,hz⟩]
  have kz:(n0'==0)=false:=by simpa using hz
  go_enter Tryz.func138,Tryz.ntmps138
  go_wp2_with fail
  refine Calls.mono (HC0.out _ (HA.out _)) ?_
  rintro e w1 ⟨he1,b1⟩
  rw[a0K (n0',0) rfl] at he1
  subst he1
  have HB:=a0a (a0b (HA.out _) b1 (by simp))
  have X1:=HX.out.next b1
  obtain⟨c0,c1,c2,c3⟩:=Box.c4 X1
  have x1l:=X1.lt
  clear b1 HC0 HX X1 p0 p1 p2 p3
  clear hT
  obtain⟨p0,p1,p2,p3⟩:=HF1.out.keep (w':=w1) (fun j=>HB.out.cell (p:=⟨pb,j,none⟩) lp)
  have lp1:=Nat.lt_of_lt_of_le lp HB.out.size
  go_wp2_with fail
  refine Calls.mono (HC1.out _ HB.out) ?_
  rintro e w2 ⟨rfl,b2⟩
  have HB2:=kb HB b2
  clear b2 p0 p1 p2 p3
  go_wp2_with fail
  go_ret2
  exact⟨by rw[hR.out];rfl,HB2.out⟩
set_option maxHeartbeats 1000000 in
theorem b8f (E:a0y)(tn tm:Int)(x0 x1:Co)(H0:TeC E x0)(H1:TeC E x1):WkC E 26 ⟨26,tn,tm,[x0,x1]⟩:=by
 intro v tb b w f q hs ht hw
 cases hw
 obtain⟨Rv,hRv⟩:∃ Rv,Hid (Rv=a2t (a0e E ⟨26,tn,tm,[x0,x1]⟩)):=⟨_,rfl⟩
 rw[<-hRv.out]
 rw[a0g] at hRv
 obtain⟨pb,off,cap,u0,u1,rfl,k1,k2,lp,f0,s0,f1,s1⟩:=a5H hs.parts
 obtain⟨a0,n0,rfl,-,-⟩:=s0.parts.shape
 have HC0:=a0a (fun W (hW:Below w.heap.size w W)=>H0 _ tb b W (s0.next hW) (ht.next hW))
 obtain⟨a1,n1,rfl,-,-⟩:=s1.parts.shape
 have HC1:=a0a (fun W (hW:Below w.heap.size w W)=>H1 _ tb b W (s1.next hW) (ht.next hW))
 have HA:Hid (∀ o,Below w.heap.size w (w.alloc o)):=fun o=>(Below.refl _ _).alloc (Nat.le_refl _) _
 have HF0:=a0a f0
 have HF1:=a0a f1
 obtain⟨p0,p1,p2,p3⟩:=f0
 have HX:=a0a (Box.new w (coL ⟨26,tn,tm,[x0,x1]⟩ (.slice (some ⟨pb,off,none⟩) 2 cap)) 30)
 clear hs ht s0 s1
 have hT:Hid (Rv=a2t (if (a0e E x0).2=0/\(a0e E x0).1≠1 then (a0e E x1) else (a0e E x0))):=hRv
 clear hRv
 generalize a0e E x0=r0 at *
 generalize a0e E x1=r1 at *
 obtain⟨n0',e0⟩:=r0
 dsimp only at hT
 by_cases he:e0=0
 case neg=>
  have hR:Hid (Rv=Value.tuple #[.int .i64 n0',.iface 155 (.agg #[.int .i64 e0])]):=by show _=_;rw[hT.out,if_neg (fun h=>he h.1)];exact a0G _ he
  go_enter Tryz.func139,Tryz.ntmps139
  go_wp2_with fail
  refine Calls.mono (HC0.out _ (HA.out _)) ?_
  rintro e w1 ⟨he1,b1⟩
  rw[a0G n0' he] at he1
  subst he1
  have HB:=a0a (a0b (HA.out _) b1 (by simp))
  have X1:=HX.out.next b1
  obtain⟨c0,c1,c2,c3⟩:=Box.c4 X1
  have x1l:=X1.lt
  clear b1 HC0 HX X1 p0 p1 p2 p3
  clear hT
  go_wp2_with fail
  go_ret2
  exact⟨by rw[hR.out];rfl,HB.out⟩
 subst he
 by_cases hz:n0'=1
 ·subst hz
  have hR:Hid (Rv=Value.tuple #[.int .i64 1,.nilIface]):=by show _=_;rw[hT.out,if_neg (by simp)];exact a0K _ rfl
  go_enter Tryz.func139,Tryz.ntmps139
  go_wp2_with fail
  refine Calls.mono (HC0.out _ (HA.out _)) ?_
  rintro e w1 ⟨he1,b1⟩
  rw[a0K (1,0) rfl] at he1
  subst he1
  have HB:=a0a (a0b (HA.out _) b1 (by simp))
  have X1:=HX.out.next b1
  obtain⟨c0,c1,c2,c3⟩:=Box.c4 X1
  have x1l:=X1.lt
  clear b1 HC0 HX X1 p0 p1 p2 p3
  clear hT
  go_wp2_with fail
  go_ret2
  exact⟨by rw[hR.out];rfl,HB.out⟩
 ·have hR:Hid (Rv=a2t r1):=by show _=_;rw[hT.out,if_pos ⟨rfl,hz⟩]
  have kz:(n0'==1)=false:=by simpa using hz
  go_enter Tryz.func139,Tryz.ntmps139
  go_wp2_with fail
  refine Calls.mono (HC0.out _ (HA.out _)) ?_
  rintro e w1 ⟨he1,b1⟩
  rw[a0K (n0',0) rfl] at he1
  subst he1
  have HB:=a0a (a0b (HA.out _) b1 (by simp))
  have X1:=HX.out.next b1
  obtain⟨c0,c1,c2,c3⟩:=Box.c4 X1
  have x1l:=X1.lt
  clear b1 HC0 HX X1 p0 p1 p2 p3
  clear hT
  obtain⟨p0,p1,p2,p3⟩:=HF1.out.keep (w':=w1) (fun j=>HB.out.cell (p:=⟨pb,j,none⟩) lp)
  have lp1:=Nat.lt_of_lt_of_le lp HB.out.size
  go_wp2_with fail
  refine Calls.mono (HC1.out _ HB.out) ?_
  rintro e w2 ⟨rfl,b2⟩
  have HB2:=kb HB b2
  clear b2 p0 p1 p2 p3
  go_wp2_with fail
  go_ret2
  exact⟨by rw[hR.out];rfl,HB2.out⟩
set_option maxHeartbeats 1000000 in
theorem a9Q (E:a0y)(tn tm:Int)(x0 x1 x2:Co)(H0:TeC E x0)(H1:TeC E x1)(H2:TeC E x2):WkC E 28 ⟨28,tn,tm,[x0,x1,x2]⟩:=by
 intro v tb b w f q hs ht hw
 cases hw
 obtain⟨Rv,hRv⟩:∃ Rv,Hid (Rv=a2t (a0e E ⟨28,tn,tm,[x0,x1,x2]⟩)):=⟨_,rfl⟩
 rw[<-hRv.out]
 rw[a0g] at hRv
 obtain⟨pb,off,cap,u0,u1,u2,rfl,k1,k2,lp,f0,s0,f1,s1,f2,s2⟩:=b7e hs.parts
 obtain⟨a0,n0,rfl,-,-⟩:=s0.parts.shape
 have HC0:=a0a (fun W (hW:Below w.heap.size w W)=>H0 _ tb b W (s0.next hW) (ht.next hW))
 obtain⟨a1,n1,rfl,-,-⟩:=s1.parts.shape
 have HC1:=a0a (fun W (hW:Below w.heap.size w W)=>H1 _ tb b W (s1.next hW) (ht.next hW))
 obtain⟨a2,n2,rfl,-,-⟩:=s2.parts.shape
 have HC2:=a0a (fun W (hW:Below w.heap.size w W)=>H2 _ tb b W (s2.next hW) (ht.next hW))
 have HA:Hid (∀ o,Below w.heap.size w (w.alloc o)):=fun o=>(Below.refl _ _).alloc (Nat.le_refl _) _
 have HF0:=a0a f0
 have HF1:=a0a f1
 have HF2:=a0a f2
 obtain⟨p0,p1,p2,p3⟩:=f0
 have HX:=a0a (Box.new w (coL ⟨28,tn,tm,[x0,x1,x2]⟩ (.slice (some ⟨pb,off,none⟩) 3 cap)) 30)
 clear hs ht s0 s1 s2
 have hT:Hid (Rv=a2t (if (a0e E x0).2=0 then (if (a0e E x0).1=1 then (a0e E x1) else (a0e E x2)) else noR (a0e E x0).2)):=hRv
 clear hRv
 generalize a0e E x0=r0 at *
 generalize a0e E x1=r1 at *
 generalize a0e E x2=r2 at *
 obtain⟨n0',e0⟩:=r0
 dsimp only at hT
 by_cases he:e0=0
 case neg=>
  have hR:Hid (Rv=Value.tuple #[.int .i64 0,.iface 155 (.agg #[.int .i64 e0])]):=by show _=_;rw[hT.out,if_neg he];exact a0G _ he
  go_enter Tryz.func143,Tryz.ntmps143
  go_wp2_with fail
  refine Calls.mono (HC0.out _ (HA.out _)) ?_
  rintro e w1 ⟨he1,b1⟩
  rw[a0G n0' he] at he1
  subst he1
  have HB:=a0a (a0b (HA.out _) b1 (by simp))
  have X1:=HX.out.next b1
  obtain⟨c0,c1,c2,c3⟩:=Box.c4 X1
  have x1l:=X1.lt
  clear b1 HC0 HX X1 p0 p1 p2 p3
  clear hT
  go_wp2_with fail
  go_ret2
  exact⟨by rw[hR.out];rfl,HB.out⟩
 subst he
 by_cases hz:n0'=1
 ·have hR:Hid (Rv=a2t r1):=by show _=_;rw[hT.out,if_pos rfl,if_pos hz]
  subst hz
  go_enter Tryz.func143,Tryz.ntmps143
  go_wp2_with fail
  refine Calls.mono (HC0.out _ (HA.out _)) ?_
  rintro e w1 ⟨he1,b1⟩
  rw[a0K (1,0) rfl] at he1
  subst he1
  have HB:=a0a (a0b (HA.out _) b1 (by simp))
  have X1:=HX.out.next b1
  obtain⟨c0,c1,c2,c3⟩:=Box.c4 X1
  have x1l:=X1.lt
  clear b1 HC0 HX X1 p0 p1 p2 p3
  clear hT
  obtain⟨p0,p1,p2,p3⟩:=HF1.out.keep (w':=w1) (fun j=>HB.out.cell (p:=⟨pb,j,none⟩) lp)
  have lp1:=Nat.lt_of_lt_of_le lp HB.out.size
  go_wp2_with fail
  refine Calls.mono (HC1.out _ HB.out) ?_
  rintro e w2 ⟨rfl,b2⟩
  have HB2:=kb HB b2
  clear b2 p0 p1 p2 p3
  go_wp2_with fail
  go_ret2
  exact⟨by rw[hR.out];rfl,HB2.out⟩
 ·have hR:Hid (Rv=a2t r2):=by show _=_;rw[hT.out,if_pos rfl,if_neg hz]
  have kz:(n0'==1)=false:=by simpa using hz
  go_enter Tryz.func143,Tryz.ntmps143
  go_wp2_with fail
  refine Calls.mono (HC0.out _ (HA.out _)) ?_
  rintro e w1 ⟨he1,b1⟩
  rw[a0K (n0',0) rfl] at he1
  subst he1
  have HB:=a0a (a0b (HA.out _) b1 (by simp))
  have X1:=HX.out.next b1
  obtain⟨c0,c1,c2,c3⟩:=Box.c4 X1
  have x1l:=X1.lt
  clear b1 HC0 HX X1 p0 p1 p2 p3
  clear hT
  obtain⟨p0,p1,p2,p3⟩:=HF2.out.keep (w':=w1) (fun j=>HB.out.cell (p:=⟨pb,j,none⟩) lp)
  have lp1:=Nat.lt_of_lt_of_le lp HB.out.size
  go_wp2_with fail
  refine Calls.mono (HC2.out _ HB.out) ?_
  rintro e w2 ⟨rfl,b2⟩
  have HB2:=kb HB b2
  clear b2 p0 p1 p2 p3
  go_wp2_with fail
  go_ret2
  exact⟨by rw[hR.out];rfl,HB2.out⟩
set_option maxHeartbeats 1000000 in
theorem b7R (gb:Nat)(w:World):Calls Tryz.prog 193 #[.nilIface,.iface 178 (.pointer (some ⟨gb,0,none⟩))] w fun e w'=>e=.returned (.bool false)/\w'=w:=by
 go_enter Tryz.func193,Tryz.ntmps193
 go_wp2_with fail
 go_ret
 exact⟨rfl,rfl⟩
set_option maxHeartbeats 1000000 in
theorem a5F (r:Int)(w:World)(hg:GlE w):Calls Tryz.prog 182 #[b1g r] w fun e w'=>e=.returned (.int .i64 r)/\Below w.heap.size w w':=by
 have A:∀ o,Below w.heap.size w (w.alloc o):=fun o=>(Below.refl _ _).alloc (Nat.le_refl _) _
 by_cases h:r=0
 ·subst h
  rw[a5P]
  have HC:=a0a (fun gb W=>b7R gb W)
  have HA:=a0a A
  clear A hg
  go_enter Tryz.func182,Tryz.ntmps182
  go_wp2_with fail
  refine Calls.mono (HC.out _ _) ?_
  rintro e w1 ⟨rfl,rfl⟩
  go_wp2_with fail
  go_ret
  exact⟨rfl,HA.out _⟩
 ·rw[a3s h]
  have HC:=a0a (fun W (hW:Below w.heap.size w W) (hb:Box W w.heap.size [.int .i64 0])=>b9Y w.heap.size r _ W (GlE.next hg hW) hb)
  have HA:=a0a A
  clear A hg
  go_enter Tryz.func182,Tryz.ntmps182
  go_wp2_with fail
  refine Calls.mono (HC.out _ (HA.out _) (Box.new w _ _)) ?_
  rintro e w1 ⟨rfl,W,b1,rfl⟩
  have X:=((Box.new w [.int .i64 0] 155).next b1).set 0 (by simp) (.int .i64 r)
  have c0:=X.cell 0 _ rfl
  have x0:=X.lt
  have HB:=a0a ((a0b (HA.out (.cells #[.int .i64 0] 155)) b1 (by simp)).setCell (p:=⟨w.heap.size,0,none⟩) (Nat.le_refl _) (.int .i64 r))
  clear X b1
  generalize W.setCell _ _=w1 at *
  go_wp2_with fail
  go_ret
  exact⟨rfl,HB.out⟩
set_option maxHeartbeats 1000000 in
theorem a9P (E:a0y)(tn tm:Int)(x0 x1:Co)(H0:TeC E x0)(H1:TeC E x1):WkC E 27 ⟨27,tn,tm,[x0,x1]⟩:=by
 intro v tb b w f q hs ht hw
 cases hw
 obtain⟨Rv,hRv⟩:∃ Rv,Hid (Rv=a2t (a0e E ⟨27,tn,tm,[x0,x1]⟩)):=⟨_,rfl⟩
 rw[<-hRv.out]
 rw[a0g] at hRv
 obtain⟨pb,off,cap,u0,u1,rfl,k1,k2,lp,f0,s0,f1,s1⟩:=a5H hs.parts
 obtain⟨a0,n0,rfl,-,-⟩:=s0.parts.shape
 have HC0:=a0a (fun W (hW:Below w.heap.size w W)=>H0 _ tb b W (s0.next hW) (ht.next hW))
 obtain⟨a1,n1,rfl,-,-⟩:=s1.parts.shape
 have HC1:=a0a (fun W (hW:Below w.heap.size w W)=>H1 _ tb b W (s1.next hW) (ht.next hW))
 have HA:Hid (∀ o,Below w.heap.size w (w.alloc o)):=fun o=>(Below.refl _ _).alloc (Nat.le_refl _) _
 have HF0:=a0a f0
 have HF1:=a0a f1
 obtain⟨p0,p1,p2,p3⟩:=f0
 have HX:=a0a (Box.new w (coL ⟨27,tn,tm,[x0,x1]⟩ (.slice (some ⟨pb,off,none⟩) 2 cap)) 30)
 have HG:=a0a ht.gl
 clear hs ht s0 s1
 have hT:Hid (Rv=a2t (if (a0e E x0).2=0 then (a0e E x0) else (a0e E x1))):=hRv
 clear hRv
 generalize a0e E x0=r0 at *
 generalize a0e E x1=r1 at *
 obtain⟨n0',e0⟩:=r0
 dsimp only at hT
 have HR:Hid (∀ W,Below w.heap.size w W->Calls Tryz.prog 182 #[b1g e0] W fun e w'=>e=.returned (.int .i64 e0)/\Below W.heap.size W w'):=fun W hW=>a5F e0 W (GlE.next HG.out hW)
 by_cases he:e0=0
 case neg=>
  have hR:Hid (Rv=a2t r1):=by show _=_;rw[hT.out,if_neg he]
  rw[a3s he] at HR
  have kz:(e0 != 0)=true:=by simpa using he
  go_enter Tryz.func141,Tryz.ntmps141
  go_wp2_with fail
  refine Calls.mono (HC0.out _ (HA.out _)) ?_
  rintro e w1 ⟨he1,b1⟩
  rw[a0G n0' he] at he1
  subst he1
  have HB:=a0a (a0b (HA.out _) b1 (by simp))
  have X1:=HX.out.next b1
  obtain⟨c0,c1,c2,c3⟩:=Box.c4 X1
  have x1l:=X1.lt
  clear b1 HC0 HX X1 p0 p1 p2 p3
  clear hT
  go_wp2_with fail
  refine Calls.mono (HR.out _ HB.out) ?_
  rintro e w3 ⟨rfl,b3⟩
  have HB3:=kb HB b3
  replace c3:=(b3.cell (p:=⟨w.heap.size,3,none⟩) x1l).trans c3
  have x3l:=Nat.lt_of_lt_of_le x1l b3.size
  clear b3 c0 c1 c2 HR
  obtain⟨p0,p1,p2,p3⟩:=HF1.out.keep (w':=w3) (fun j=>HB3.out.cell (p:=⟨pb,j,none⟩) lp)
  have lp1:=Nat.lt_of_lt_of_le lp HB3.out.size
  go_wp2_with fail
  refine Calls.mono (HC1.out _ HB3.out) ?_
  rintro e w2 ⟨rfl,b2⟩
  have HB2:=kb HB3 b2
  clear b2 p0 p1 p2 p3
  go_wp2_with fail
  go_ret2
  exact⟨by rw[hR.out];rfl,HB2.out⟩
 subst he
 have hR:Hid (Rv=Value.tuple #[.int .i64 n0',.nilIface]):=by show _=_;rw[hT.out,if_pos rfl];exact a0K _ rfl
 rw[a5P] at HR
 go_enter Tryz.func141,Tryz.ntmps141
 go_wp2_with fail
 refine Calls.mono (HC0.out _ (HA.out _)) ?_
 rintro e w1 ⟨he1,b1⟩
 rw[a0K (n0',0) rfl] at he1
 subst he1
 have HB:=a0a (a0b (HA.out _) b1 (by simp))
 have X1:=HX.out.next b1
 obtain⟨c0,c1,c2,c3⟩:=Box.c4 X1
 have x1l:=X1.lt
 clear b1 HC0 HX X1 p0 p1 p2 p3
 clear hT
 go_wp2_with fail
 refine Calls.mono (HR.out _ HB.out) ?_
 rintro e w3 ⟨rfl,b3⟩
 have HB3:=kb HB b3
 clear b3 c0 c1 c2 c3 HR
 go_wp2_with fail
 go_ret2
 exact⟨by rw[hR.out];rfl,HB3.out⟩
set_option maxHeartbeats 1000000 in
theorem b2n (E:a0y)(tn tm:Int)(x0:Co)(H0:TeC E x0)(HS:∀ W:World,Calls Tryz.prog 172 #[.int .i64 (a0e E x0).1,.int .i64 tn,.int .i64 tm] W fun e w'=>e=.returned (.int .i64 (held ((a0e E x0).1*tn/tm)))/\Below W.heap.size W w'):WkC E 13 ⟨13,tn,tm,[x0]⟩:=by
 intro v tb b w f q hs ht hw
 cases hw
 obtain⟨Rv,hRv⟩:∃ Rv,Hid (Rv=a2t (a0e E ⟨13,tn,tm,[x0]⟩)):=⟨_,rfl⟩
 rw[<-hRv.out]
 rw[a0g] at hRv
 obtain⟨pb,off,cap,u0,rfl,k1,k2,lp,f0,s0⟩:=a5I hs.parts
 obtain⟨a0,n0,rfl,-,-⟩:=s0.parts.shape
 have HC0:=a0a (fun W (hW:Below w.heap.size w W)=>H0 _ tb b W (s0.next hW) (ht.next hW))
 have HA:Hid (∀ o,Below w.heap.size w (w.alloc o)):=fun o=>(Below.refl _ _).alloc (Nat.le_refl _) _
 have HF0:=a0a f0
 obtain⟨p0,p1,p2,p3⟩:=f0
 have HX:=a0a (Box.new w (coL ⟨13,tn,tm,[x0]⟩ (.slice (some ⟨pb,off,none⟩) 1 cap)) 30)
 clear hs ht s0
 have hT:Hid (Rv=a2t (a0x (fun a=>held (a*tn/tm)) (a0e E x0))):=hRv
 clear hRv
 generalize a0e E x0=r0 at *
 obtain⟨n0',e0⟩:=r0
 dsimp only at hT HS
 have HSs:=a0a HS
 clear HS
 by_cases he:e0=0
 case neg=>
  have hR:Hid (Rv=Value.tuple #[.int .i64 0,.iface 155 (.agg #[.int .i64 e0])]):=by show _=_;rw[hT.out];unfold a0x;rw[if_neg he];exact a0G _ he
  go_enter Tryz.func125,Tryz.ntmps125
  go_wp2_with fail
  refine Calls.mono (HC0.out _ (HA.out _)) ?_
  rintro e w1 ⟨he1,b1⟩
  rw[a0G n0' he] at he1
  subst he1
  have HB:=a0a (a0b (HA.out _) b1 (by simp))
  have X1:=HX.out.next b1
  obtain⟨c0,c1,c2,c3⟩:=Box.c4 X1
  have x1l:=X1.lt
  clear b1 HC0 HX X1 p0 p1 p2 p3
  clear hT
  go_wp2_with fail
  go_ret2
  exact⟨by rw[hR.out];rfl,HB.out⟩
 subst he
 have hR:Hid (Rv=Value.tuple #[.int .i64 (held (n0'*tn/tm)),.nilIface]):=by show _=_;rw[hT.out];unfold a0x;rw[if_pos rfl];exact a0K _ rfl
 go_enter Tryz.func125,Tryz.ntmps125
 go_wp2_with fail
 refine Calls.mono (HC0.out _ (HA.out _)) ?_
 rintro e w1 ⟨he1,b1⟩
 rw[a0K (n0',0) rfl] at he1
 subst he1
 have HB:=a0a (a0b (HA.out _) b1 (by simp))
 have X1:=HX.out.next b1
 obtain⟨c0,c1,c2,c3⟩:=Box.c4 X1
 have x1l:=X1.lt
 clear b1 HC0 HX X1 p0 p1 p2 p3
 clear hT
 go_wp2_with fail
 refine Calls.mono (HSs.out _) ?_
 rintro e w3 ⟨rfl,b3⟩
 have HB3:=kb HB b3
 clear b3 c0 c1 c2 c3 HSs
 go_wp2_with fail
 go_ret2
 exact⟨by rw[hR.out];rfl,HB3.out⟩
set_option maxHeartbeats 1000000 in
theorem b8e (E:a0y)(tn tm:Int)(x0:Co)(H0:TeC E x0)(HS:∀ W:World,Calls Tryz.prog 183 #[.int .i64 (a0e E x0).1] W fun e w'=>e=.returned (.int .i64 (a0T (a0e E x0).1))/\Below W.heap.size W w'):WkC E 30 ⟨30,tn,tm,[x0]⟩:=by
 intro v tb b w f q hs ht hw
 cases hw
 obtain⟨Rv,hRv⟩:∃ Rv,Hid (Rv=a2t (a0e E ⟨30,tn,tm,[x0]⟩)):=⟨_,rfl⟩
 rw[<-hRv.out]
 rw[a0g] at hRv
 obtain⟨pb,off,cap,u0,rfl,k1,k2,lp,f0,s0⟩:=a5I hs.parts
 obtain⟨a0,n0,rfl,-,-⟩:=s0.parts.shape
 have HC0:=a0a (fun W (hW:Below w.heap.size w W)=>H0 _ tb b W (s0.next hW) (ht.next hW))
 have HA:Hid (∀ o,Below w.heap.size w (w.alloc o)):=fun o=>(Below.refl _ _).alloc (Nat.le_refl _) _
 have HF0:=a0a f0
 obtain⟨p0,p1,p2,p3⟩:=f0
 have HX:=a0a (Box.new w (coL ⟨30,tn,tm,[x0]⟩ (.slice (some ⟨pb,off,none⟩) 1 cap)) 30)
 clear hs ht s0
 have hT:Hid (Rv=a2t (a0x a0T (a0e E x0))):=hRv
 clear hRv
 generalize a0e E x0=r0 at *
 obtain⟨n0',e0⟩:=r0
 dsimp only at hT HS
 have HSs:=a0a HS
 clear HS
 by_cases he:e0=0
 case neg=>
  have hR:Hid (Rv=Value.tuple #[.int .i64 0,.iface 155 (.agg #[.int .i64 e0])]):=by show _=_;rw[hT.out];unfold a0x;rw[if_neg he];exact a0G _ he
  go_enter Tryz.func145,Tryz.ntmps145
  go_wp2_with fail
  refine Calls.mono (HC0.out _ (HA.out _)) ?_
  rintro e w1 ⟨he1,b1⟩
  rw[a0G n0' he] at he1
  subst he1
  have HB:=a0a (a0b (HA.out _) b1 (by simp))
  have X1:=HX.out.next b1
  obtain⟨c0,c1,c2,c3⟩:=Box.c4 X1
  have x1l:=X1.lt
  clear b1 HC0 HX X1 p0 p1 p2 p3
  clear hT
  go_wp2_with fail
  go_ret2
  exact⟨by rw[hR.out];rfl,HB.out⟩
 subst he
 have hR:Hid (Rv=Value.tuple #[.int .i64 (a0T n0'),.nilIface]):=by show _=_;rw[hT.out];unfold a0x;rw[if_pos rfl];exact a0K _ rfl
 go_enter Tryz.func145,Tryz.ntmps145
 go_wp2_with fail
 refine Calls.mono (HC0.out _ (HA.out _)) ?_
 rintro e w1 ⟨he1,b1⟩
 rw[a0K (n0',0) rfl] at he1
 subst he1
 have HB:=a0a (a0b (HA.out _) b1 (by simp))
 have X1:=HX.out.next b1
 obtain⟨c0,c1,c2,c3⟩:=Box.c4 X1
 have x1l:=X1.lt
 clear b1 HC0 HX X1 p0 p1 p2 p3
 clear hT
 go_wp2_with fail
 refine Calls.mono (HSs.out _) ?_
 rintro e w3 ⟨rfl,b3⟩
 have HB3:=kb HB b3
 clear b3 c0 c1 c2 c3 HSs
 go_wp2_with fail
 go_ret2
 exact⟨by rw[hR.out];rfl,HB3.out⟩
set_option maxHeartbeats 1000000 in
theorem b9u (E:a0y)(k tn tm:Int)(x0:Co)(H0:TeC E x0)(HS:∀ W:World,Calls Tryz.prog 183 #[.int .i64 (a0e E x0).1] W fun e w'=>e=.returned (.int .i64 (a0T (a0e E x0).1))/\Below W.heap.size W w')(v:Value)(tb b:Nat)(w:World)(hs:a0l w ⟨k,tn,tm,[x0]⟩ v)(ht:a7C w tb b E):
 Calls Tryz.prog 145 #[.pointer (some ⟨tb,0,none⟩),coV ⟨k,tn,tm,[x0]⟩ v] w fun e w'=>e=.returned (a2t (a0x a0T (a0e E x0)))/\Below w.heap.size w w':=by
 obtain⟨Rv,hRv⟩:∃ Rv,Hid (Rv=a2t (a0x a0T (a0e E x0))):=⟨_,rfl⟩
 rw[<-hRv.out]
 obtain⟨pb,off,cap,u0,rfl,k1,k2,lp,f0,s0⟩:=a5I hs.parts
 obtain⟨a0,n0,rfl,-,-⟩:=s0.parts.shape
 have HC0:=a0a (fun W (hW:Below w.heap.size w W)=>H0 _ tb b W (s0.next hW) (ht.next hW))
 have HA:Hid (∀ o,Below w.heap.size w (w.alloc o)):=fun o=>(Below.refl _ _).alloc (Nat.le_refl _) _
 have HF0:=a0a f0
 obtain⟨p0,p1,p2,p3⟩:=f0
 have HX:=a0a (Box.new w (coL ⟨k,tn,tm,[x0]⟩ (.slice (some ⟨pb,off,none⟩) 1 cap)) 30)
 clear hs ht s0
 have hT:=hRv
 clear hRv
 generalize a0e E x0=r0 at *
 obtain⟨n0',e0⟩:=r0
 dsimp only at hT HS
 have HSs:=a0a HS
 clear HS
 by_cases he:e0=0
 case neg=>
  have hR:Hid (Rv=Value.tuple #[.int .i64 0,.iface 155 (.agg #[.int .i64 e0])]):=by show _=_;rw[hT.out];unfold a0x;rw[if_neg he];exact a0G _ he
  go_enter Tryz.func145,Tryz.ntmps145
  go_wp2_with fail
  refine Calls.mono (HC0.out _ (HA.out _)) ?_
  rintro e w1 ⟨he1,b1⟩
  rw[a0G n0' he] at he1
  subst he1
  have HB:=a0a (a0b (HA.out _) b1 (by simp))
  have X1:=HX.out.next b1
  obtain⟨c0,c1,c2,c3⟩:=Box.c4 X1
  have x1l:=X1.lt
  clear b1 HC0 HX X1 p0 p1 p2 p3
  clear hT
  go_wp2_with fail
  go_ret2
  exact⟨by rw[hR.out];rfl,HB.out⟩
 subst he
 have hR:Hid (Rv=Value.tuple #[.int .i64 (a0T n0'),.nilIface]):=by show _=_;rw[hT.out];unfold a0x;rw[if_pos rfl];exact a0K _ rfl
 go_enter Tryz.func145,Tryz.ntmps145
 go_wp2_with fail
 refine Calls.mono (HC0.out _ (HA.out _)) ?_
 rintro e w1 ⟨he1,b1⟩
 rw[a0K (n0',0) rfl] at he1
 subst he1
 have HB:=a0a (a0b (HA.out _) b1 (by simp))
 have X1:=HX.out.next b1
 obtain⟨c0,c1,c2,c3⟩:=Box.c4 X1
 have x1l:=X1.lt
 clear b1 HC0 HX X1 p0 p1 p2 p3
 clear hT
 go_wp2_with fail
 refine Calls.mono (HSs.out _) ?_
 rintro e w3 ⟨rfl,b3⟩
 have HB3:=kb HB b3
 clear b3 c0 c1 c2 c3 HSs
 go_wp2_with fail
 go_ret2
 exact⟨by rw[hR.out];rfl,HB3.out⟩
set_option maxHeartbeats 1000000 in
theorem b8g (E:a0y)(tn tm:Int)(x0:Co)(H0:TeC E x0)(HS:∀ W:World,Calls Tryz.prog 183 #[.int .i64 (a0e E x0).1] W fun e w'=>e=.returned (.int .i64 (a0T (a0e E x0).1))/\Below W.heap.size W w')(HD:∀ W:World,Calls Tryz.prog 127 #[.int .i64 E.rep,.int .i64 (a0T (a0e E x0).1)] W fun e w'=>e=.returned (.int .i64 (held (E.rep+a0T (a0e E x0).1)))/\Below W.heap.size W w'):WkC E 31 ⟨31,tn,tm,[x0]⟩:=by
 intro v tb b w f q hs ht hw
 cases hw
 have hT:Hid (a0e E ⟨31,tn,tm,[x0]⟩=a0x (fun a=>held (E.rep+a0T a)) (a0e E x0)):=by show _=_;rw[a0g];rfl
 obtain⟨Rv,hRv⟩:∃ Rv,Hid (Rv=a2t (a0e E ⟨31,tn,tm,[x0]⟩)):=⟨_,rfl⟩
 rw[<-hRv.out]
 have HC:=a0a (fun W (hW:Below w.heap.size w W)=>b9u E 31 tn tm x0 H0 HS v tb b W (hs.next hW) (ht.next hW))
 obtain⟨pb,off,cap,u0,rfl,-,-,-,-,-⟩:=a5I hs.parts
 obtain⟨-,s1,sl⟩:=ht.cell0
 have HA:Hid (∀ o,Below w.heap.size w (w.alloc o)):=fun o=>(Below.refl _ _).alloc (Nat.le_refl _) _
 have HDd:=a0a HD
 clear hs ht HS H0 HD
 generalize a0e E x0=r0 at *
 generalize a0e E _=RR at *
 obtain⟨n0',e0⟩:=r0
 dsimp only at HDd
 by_cases he:e0=0
 case neg=>
  have hR:Hid (Rv=Value.tuple #[.int .i64 0,.iface 155 (.agg #[.int .i64 e0])]):=by show _=_;rw[hRv.out,hT.out];unfold a0x;rw[if_neg he];exact a0G _ he
  have e1:a2t (a0x a0T (n0',e0))=Value.tuple #[.int .i64 0,.iface 155 (.agg #[.int .i64 e0])]:=by unfold a0x;rw[if_neg he];exact a0G _ he
  simp only[e1] at HC
  clear hRv hT e1
  go_enter Tryz.func146,Tryz.ntmps146
  go_wp2_with fail
  refine Calls.mono (HC.out _ (HA.out _)) ?_
  rintro e w1 ⟨rfl,b1⟩
  have HB:=a0a (a0b (HA.out _) b1 (by simp))
  clear b1 HC
  go_wp2_with fail
  go_ret2
  exact⟨by rw[hR.out];rfl,HB.out⟩
 subst he
 have hR:Hid (Rv=Value.tuple #[.int .i64 (held (E.rep+a0T n0')),.nilIface]):=by show _=_;rw[hRv.out,hT.out];unfold a0x;rw[if_pos rfl];exact a0K _ rfl
 have e1:a2t (a0x a0T (n0',0))=Value.tuple #[.int .i64 (a0T n0'),.nilIface]:=by unfold a0x;rw[if_pos rfl];exact a0K _ rfl
 simp only[e1] at HC
 clear hRv hT e1
 go_enter Tryz.func146,Tryz.ntmps146
 go_wp2_with fail
 refine Calls.mono (HC.out _ (HA.out _)) ?_
 rintro e w1 ⟨rfl,b1⟩
 have HB:=a0a (a0b (HA.out _) b1 (by simp))
 have s2:=(HB.out.cell (p:=⟨tb,1,none⟩) sl).trans s1
 have sl2:=Nat.lt_of_lt_of_le sl HB.out.size
 clear b1 HC s1
 go_wp2_with fail
 refine Calls.mono (HDd.out _) ?_
 rintro e w3 ⟨rfl,b3⟩
 have HB3:=kb HB b3
 clear b3 HDd
 go_wp2_with fail
 go_ret2
 exact⟨by rw[hR.out];rfl,HB3.out⟩
set_option maxHeartbeats 1000000 in
theorem b0u (E:a0y)(k tn tm:Int)(x0:Co)(g p:Nat)(F:Int->Int)(hE:Ent g)(H0:TeC E x0)(HS:∀ W:World,Calls Tryz.prog g #[.int .i64 (a0e E x0).1] W fun e w'=>e=.returned (.int .i64 (F (a0e E x0).1))/\Below W.heap.size W w')(v:Value)(tb b:Nat)(w:World)(hs:a0l w ⟨k,tn,tm,[x0]⟩ v)(ht:a7C w tb b E)(hp:FnF w p (.func (.func g) #[] #[])):
 Calls Tryz.prog 170 #[.pointer (some ⟨tb,0,none⟩),coV ⟨k,tn,tm,[x0]⟩ v,.pointer (some ⟨p,0,none⟩)] w fun e w'=>e=.returned (a2t (a0x F (a0e E x0)))/\Below w.heap.size w w':=by
 obtain⟨Rv,hRv⟩:∃ Rv,Hid (Rv=a2t (a0x F (a0e E x0))):=⟨_,rfl⟩
 rw[<-hRv.out]
 obtain⟨pb,off,cap,u0,rfl,k1,k2,lp,f0,s0⟩:=a5I hs.parts
 obtain⟨a0,n0,rfl,-,-⟩:=s0.parts.shape
 have HC0:=a0a (fun W (hW:Below w.heap.size w W)=>H0 _ tb b W (s0.next hW) (ht.next hW))
 have HA:Hid (∀ o,Below w.heap.size w (w.alloc o)):=fun o=>(Below.refl _ _).alloc (Nat.le_refl _) _
 have HF0:=a0a f0
 obtain⟨p0,p1,p2,p3⟩:=f0
 have HX:=a0a (Box.new w (coL ⟨k,tn,tm,[x0]⟩ (.slice (some ⟨pb,off,none⟩) 1 cap)) 30)
 clear hs ht s0
 have hT:=hRv
 clear hRv
 generalize a0e E x0=r0 at *
 obtain⟨n0',e0⟩:=r0
 dsimp only at hT HS
 have HSs:=a0a HS
 have HP:=a0a hp
 unfold Ent at hE
 clear HS hp
 by_cases he:e0=0
 case neg=>
  have hR:Hid (Rv=Value.tuple #[.int .i64 0,.iface 155 (.agg #[.int .i64 e0])]):=by show _=_;rw[hT.out];unfold a0x;rw[if_neg he];exact a0G _ he
  go_enter Tryz.func170,Tryz.ntmps170
  go_wp2_with fail
  refine Calls.mono (HC0.out _ (HA.out _)) ?_
  rintro e w1 ⟨he1,b1⟩
  rw[a0G n0' he] at he1
  subst he1
  have HB:=a0a (a0b (HA.out _) b1 (by simp))
  have X1:=HX.out.next b1
  obtain⟨c0,c1,c2,c3⟩:=Box.c4 X1
  have x1l:=X1.lt
  clear b1 HC0 HX X1 p0 p1 p2 p3
  clear hT
  go_wp2_with fail
  go_ret2
  exact⟨by rw[hR.out];rfl,HB.out⟩
 subst he
 have hR:Hid (Rv=Value.tuple #[.int .i64 (F n0'),.nilIface]):=by show _=_;rw[hT.out];unfold a0x;rw[if_pos rfl];exact a0K _ rfl
 go_enter Tryz.func170,Tryz.ntmps170
 go_wp2_with fail
 refine Calls.mono (HC0.out _ (HA.out _)) ?_
 rintro e w1 ⟨he1,b1⟩
 rw[a0K (n0',0) rfl] at he1
 subst he1
 have HB:=a0a (a0b (HA.out _) b1 (by simp))
 have X1:=HX.out.next b1
 obtain⟨c0,c1,c2,c3⟩:=Box.c4 X1
 have x1l:=X1.lt
 clear b1 HC0 HX X1 p0 p1 p2 p3
 clear hT
 obtain⟨lp2,fp2⟩:=HP.out.next HB.out
 go_wp2_with fail
 refine Calls.mono (HSs.out _) ?_
 rintro e w3 ⟨rfl,b3⟩
 have HB3:=kb HB b3
 clear b3 c0 c1 c2 c3 HSs
 go_wp2_with fail
 go_ret2
 exact⟨by rw[hR.out];rfl,HB3.out⟩
def a3n (a b:Rs):Value:=if a.2=0 then .tuple #[.int .i64 a.1,.int .i64 b.1,b1g b.2] else .tuple #[.int .i64 0,.int .i64 0,b1g a.2]
set_option maxHeartbeats 1000000 in
theorem b4J (E:a0y)(k tn tm:Int)(x0 x1:Co)(H0:TeC E x0)(H1:TeC E x1)(v:Value)(tb b:Nat)(w:World)(hs:a0l w ⟨k,tn,tm,[x0,x1]⟩ v)(ht:a7C w tb b E):
 Calls Tryz.prog 174 #[.pointer (some ⟨tb,0,none⟩),coV ⟨k,tn,tm,[x0,x1]⟩ v] w fun e w'=>e=.returned (a3n (a0e E x0) (a0e E x1))/\Below w.heap.size w w':=by
 obtain⟨Rv,hRv⟩:∃ Rv,Hid (Rv=a3n (a0e E x0) (a0e E x1)):=⟨_,rfl⟩
 rw[<-hRv.out]
 obtain⟨pb,off,cap,u0,u1,rfl,k1,k2,lp,f0,s0,f1,s1⟩:=a5H hs.parts
 obtain⟨a0,n0,rfl,-,-⟩:=s0.parts.shape
 have HC0:=a0a (fun W (hW:Below w.heap.size w W)=>H0 _ tb b W (s0.next hW) (ht.next hW))
 obtain⟨a1,n1,rfl,-,-⟩:=s1.parts.shape
 have HC1:=a0a (fun W (hW:Below w.heap.size w W)=>H1 _ tb b W (s1.next hW) (ht.next hW))
 have HA:Hid (∀ o,Below w.heap.size w (w.alloc o)):=fun o=>(Below.refl _ _).alloc (Nat.le_refl _) _
 have HF0:=a0a f0
 have HF1:=a0a f1
 obtain⟨p0,p1,p2,p3⟩:=f0
 have HX:=a0a (Box.new w (coL ⟨k,tn,tm,[x0,x1]⟩ (.slice (some ⟨pb,off,none⟩) 2 cap)) 30)
 clear hs ht s0 s1
 have hT:=hRv
 clear hRv
 generalize a0e E x0=r0 at *
 generalize a0e E x1=r1 at *
 obtain⟨n0',e0⟩:=r0
 by_cases he:e0=0
 case neg=>
  have hR:Hid (Rv=Value.tuple #[.int .i64 0,.int .i64 0,.iface 155 (.agg #[.int .i64 e0])]):=by show _=_;rw[hT.out];unfold a3n;rw[if_neg he,a3s he]
  go_enter Tryz.func174,Tryz.ntmps174
  go_wp2_with fail
  refine Calls.mono (HC0.out _ (HA.out _)) ?_
  rintro e w1 ⟨he1,b1⟩
  rw[a0G n0' he] at he1
  subst he1
  have HB:=a0a (a0b (HA.out _) b1 (by simp))
  have X1:=HX.out.next b1
  obtain⟨c0,c1,c2,c3⟩:=Box.c4 X1
  have x1l:=X1.lt
  clear b1 HC0 HX X1 p0 p1 p2 p3
  clear hT
  go_wp2_with fail
  go_ret3
  exact⟨by rw[hR.out];rfl,HB.out⟩
 subst he
 have hR:Hid (Rv=Value.tuple #[.int .i64 n0',.int .i64 r1.1,b1g r1.2]):=by show _=_;rw[hT.out];unfold a3n;exact if_pos rfl
 go_enter Tryz.func174,Tryz.ntmps174
 go_wp2_with fail
 refine Calls.mono (HC0.out _ (HA.out _)) ?_
 rintro e w1 ⟨he1,b1⟩
 rw[a0K (n0',0) rfl] at he1
 subst he1
 have HB:=a0a (a0b (HA.out _) b1 (by simp))
 have X1:=HX.out.next b1
 obtain⟨c0,c1,c2,c3⟩:=Box.c4 X1
 have x1l:=X1.lt
 clear b1 HC0 HX X1 p0 p1 p2 p3
 clear hT
 obtain⟨p0,p1,p2,p3⟩:=HF1.out.keep (w':=w1) (fun j=>HB.out.cell (p:=⟨pb,j,none⟩) lp)
 have lp1:=Nat.lt_of_lt_of_le lp HB.out.size
 go_wp2_with fail
 refine Calls.mono (HC1.out _ HB.out) ?_
 rintro e w2 ⟨rfl,b2⟩
 have HB2:=kb HB b2
 clear b2 p0 p1 p2 p3
 go_wp2_with fail
 go_ret3
 exact⟨by rw[hR.out];rfl,HB2.out⟩
end Go.Proofs.YtdgjjnpdbdmdkaaGreatDoor
