import Derived.Test.YtdgjjnpdbdmdkaaGreatDoorMgH
import Derived.Test.YtdgjjnpdbdmdkaaGreatDoorMgG
namespace Go.Proofs.YtdgjjnpdbdmdkaaGreatDoor
open Go.RowKit
abbrev reV (r:Rs):Value:=.agg #[.int .i64 r.2,.int .i64 r.1]
set_option maxHeartbeats 1000000 in
theorem a1E (n:Int)(w:World):Calls Tryz.prog 52 #[.int .i64 n] w fun e w'=>e=.returned (reV (okR n))/\Below w.heap.size w w':=by
 go_enter Tryz.func52,Tryz.ntmps52
 go_wp2_with fail
 refine bodyPost_ret (v:=reV (okR n)) (by simp[results,Tryz.results52,go_sem, *]) rfl ?_
 exact⟨rfl,(Below.refl _ _).alloc (Nat.le_refl _) _⟩
set_option maxHeartbeats 1000000 in
theorem a2C (b:Bool)(w:World):Calls Tryz.prog 54 #[.bool b] w fun e w'=>e=.returned (reV (okR (b2i b)))/\Below w.heap.size w w':=by
 cases b
 ·go_enter Tryz.func54,Tryz.ntmps54
  go_wp2_with fail
  refine bodyPost_ret (v:=reV (okR 0)) (by simp[results,Tryz.results54,go_sem, *]) rfl ?_
  exact⟨rfl,(Below.refl _ _).alloc (Nat.le_refl _) _⟩
 ·go_enter Tryz.func54,Tryz.ntmps54
  go_wp2_with fail
  refine bodyPost_ret (v:=reV (okR 1)) (by simp[results,Tryz.results54,go_sem, *]) rfl ?_
  exact⟨rfl,(Below.refl _ _).alloc (Nat.le_refl _) _⟩
set_option maxHeartbeats 4000000 in
theorem a2Z (k:Nat)(h1:8<=k)(h2:k<=13)(c:Co)(v:Value)(hc:c.op=(k:Int))(hf:b2e c)(a:Int)(ha:C64 a)(hb:k=9->a=0\/a=1)(hm:k=13->0<=c.n/\1<=c.m)(hv:∃ ad n cap,v=.slice ad n cap)(w:World)(R:Int)(hR:R=if k=13 then held (a*c.n/c.m) else uF k a):Calls Tryz.prog 55 #[coV c v,.int .i64 a] w fun e w'=>e=.returned (reV (okR R))/\Below w.heap.size w w':=by
 obtain⟨ad,n,cap,rfl⟩:=hv
 obtain⟨Y0,Y1,B0⟩:=a0k w 30 71 (coL c (.slice ad n cap)) [.int .i64 0,.int .i64 0]
 have X0:=a0a Y0
 have X1:=a0a Y1
 have HB0:=a0a B0
 clear Y0 Y1 B0
 obtain⟨a0,a1⟩:=ha
 have hks:k=8\/k=9\/k=10\/k=11\/k=12\/k=13:=by omega
 clear h1 h2
 obtain⟨c0,c1,c2⟩:=Box.c3 X0.out
 have l0:=X0.out.lt
 rcases hks with rfl | rfl | rfl | rfl | rfl | rfl
 ·obtain⟨op,nn,mm,ps⟩:=c
  obtain rfl:op=8:=hc
  obtain⟨⟨o1,o2⟩,⟨n1,n2⟩,m1,m2⟩:=hf
  dsimp only at c0 c1 c2 hR hm n1 n2 m1 m2
  have HC:=a0a (fun W:World=>b2Q a a0 (by omega) W)
  have hR2:=a0a hR
  have hE:Hid (R=a0W (-a)):=by show _=_;rw[hR];rfl
  clear hR hm hb o1 o2 hR2
  go_enter Tryz.func55,Tryz.ntmps55
  go_wp2_with fail
  refine Calls.mono (HC.out _) ?_
  rintro e w1 ⟨rfl,b1⟩
  have B1:=kb HB0 b1
  replace X1:=kn X1 b1
  clear b1 c0 c1 c2 l0 X0 HB0
  go_wp2_with fail
  refine Calls.mono (a1E _ _) ?_
  rintro e w2 ⟨rfl,b2⟩
  have B2:=kb B1 b2
  replace X1:=kn X1 b2
  clear b2
  obtain⟨z0,z1⟩:=Box.c2 X1.out
  have f0:=X1.out.free 0 (by simp)
  have f1:=X1.out.free 1 (by simp)
  have zl:=X1.out.lt
  go_wp2_with fail
  refine bodyPost_ret (v:=reV (okR (a0W (-a)))) (by simp[results,Tryz.results55,go_sem, *]) rfl ?_
  exact⟨by rw[hE.out],(B2.out.setCell (p:=⟨w.heap.size+1,0,none⟩) (by simp) _).setCell (p:=⟨w.heap.size+1,1,none⟩) (by simp) _⟩
 ·obtain⟨op,nn,mm,ps⟩:=c
  obtain rfl:op=9:=hc
  obtain⟨⟨o1,o2⟩,⟨n1,n2⟩,m1,m2⟩:=hf
  dsimp only at c0 c1 c2 hR hm n1 n2 m1 m2
  have hR2:=a0a hR
  have hE:Hid (R=b2i (a==0)):=by
   show _=_
   rw[hR]
   rcases hb rfl with rfl | rfl<;>rfl
  clear hR hm hb o1 o2 hR2
  go_enter Tryz.func55,Tryz.ntmps55
  go_wp2_with fail
  have B1:=HB0
  clear c0 c1 c2 l0 X0 HB0
  refine Calls.mono (a2C _ _) ?_
  rintro e w2 ⟨rfl,b2⟩
  have B2:=kb B1 b2
  replace X1:=kn X1 b2
  clear b2
  obtain⟨z0,z1⟩:=Box.c2 X1.out
  have f0:=X1.out.free 0 (by simp)
  have f1:=X1.out.free 1 (by simp)
  have zl:=X1.out.lt
  go_wp2_with fail
  refine bodyPost_ret (v:=reV (okR (b2i (a==0)))) (by simp[results,Tryz.results55,go_sem, *]) rfl ?_
  exact⟨by rw[hE.out],(B2.out.setCell (p:=⟨w.heap.size+1,0,none⟩) (by simp) _).setCell (p:=⟨w.heap.size+1,1,none⟩) (by simp) _⟩
 ·obtain⟨op,nn,mm,ps⟩:=c
  obtain rfl:op=10:=hc
  obtain⟨⟨o1,o2⟩,⟨n1,n2⟩,m1,m2⟩:=hf
  dsimp only at c0 c1 c2 hR hm n1 n2 m1 m2
  have HC:=a0a (fun W:World=>b3k a a0 (by omega) W)
  have hR2:=a0a hR
  have hE:Hid (R=a0W a.natAbs):=by show _=_;rw[hR];rfl
  clear hR hm hb o1 o2 hR2
  go_enter Tryz.func55,Tryz.ntmps55
  go_wp2_with fail
  refine Calls.mono (HC.out _) ?_
  rintro e w1 ⟨rfl,b1⟩
  have B1:=kb HB0 b1
  replace X1:=kn X1 b1
  clear b1 c0 c1 c2 l0 X0 HB0
  go_wp2_with fail
  refine Calls.mono (a1E _ _) ?_
  rintro e w2 ⟨rfl,b2⟩
  have B2:=kb B1 b2
  replace X1:=kn X1 b2
  clear b2
  obtain⟨z0,z1⟩:=Box.c2 X1.out
  have f0:=X1.out.free 0 (by simp)
  have f1:=X1.out.free 1 (by simp)
  have zl:=X1.out.lt
  go_wp2_with fail
  refine bodyPost_ret (v:=reV (okR (a0W a.natAbs))) (by simp[results,Tryz.results55,go_sem, *]) rfl ?_
  exact⟨by rw[hE.out],(B2.out.setCell (p:=⟨w.heap.size+1,0,none⟩) (by simp) _).setCell (p:=⟨w.heap.size+1,1,none⟩) (by simp) _⟩
 ·obtain⟨op,nn,mm,ps⟩:=c
  obtain rfl:op=11:=hc
  obtain⟨⟨o1,o2⟩,⟨n1,n2⟩,m1,m2⟩:=hf
  dsimp only at c0 c1 c2 hR hm n1 n2 m1 m2
  have HC:=a0a (fun W:World=>a7e a a0 (by omega) W)
  have hR2:=a0a hR
  have hE:Hid (R=a0W (-((-a)/1000000)*1000000)):=by show _=_;rw[hR];rfl
  clear hR hm hb o1 o2 hR2
  go_enter Tryz.func55,Tryz.ntmps55
  go_wp2_with fail
  refine Calls.mono (HC.out _) ?_
  rintro e w1 ⟨rfl,b1⟩
  have B1:=kb HB0 b1
  replace X1:=kn X1 b1
  clear b1 c0 c1 c2 l0 X0 HB0
  go_wp2_with fail
  refine Calls.mono (a1E _ _) ?_
  rintro e w2 ⟨rfl,b2⟩
  have B2:=kb B1 b2
  replace X1:=kn X1 b2
  clear b2
  obtain⟨z0,z1⟩:=Box.c2 X1.out
  have f0:=X1.out.free 0 (by simp)
  have f1:=X1.out.free 1 (by simp)
  have zl:=X1.out.lt
  go_wp2_with fail
  refine bodyPost_ret (v:=reV (okR (a0W (-((-a)/1000000)*1000000)))) (by simp[results,Tryz.results55,go_sem, *]) rfl ?_
  exact⟨by rw[hE.out],(B2.out.setCell (p:=⟨w.heap.size+1,0,none⟩) (by simp) _).setCell (p:=⟨w.heap.size+1,1,none⟩) (by simp) _⟩
 ·obtain⟨op,nn,mm,ps⟩:=c
  obtain rfl:op=12:=hc
  obtain⟨⟨o1,o2⟩,⟨n1,n2⟩,m1,m2⟩:=hf
  dsimp only at c0 c1 c2 hR hm n1 n2 m1 m2
  have HC:=a0a (fun W:World=>a9g a a0 (by omega) W)
  have hR2:=a0a hR
  have hE:Hid (R=a0W (a/1000000*1000000)):=by show _=_;rw[hR];rfl
  clear hR hm hb o1 o2 hR2
  go_enter Tryz.func55,Tryz.ntmps55
  go_wp2_with fail
  refine Calls.mono (HC.out _) ?_
  rintro e w1 ⟨rfl,b1⟩
  have B1:=kb HB0 b1
  replace X1:=kn X1 b1
  clear b1 c0 c1 c2 l0 X0 HB0
  go_wp2_with fail
  refine Calls.mono (a1E _ _) ?_
  rintro e w2 ⟨rfl,b2⟩
  have B2:=kb B1 b2
  replace X1:=kn X1 b2
  clear b2
  obtain⟨z0,z1⟩:=Box.c2 X1.out
  have f0:=X1.out.free 0 (by simp)
  have f1:=X1.out.free 1 (by simp)
  have zl:=X1.out.lt
  go_wp2_with fail
  refine bodyPost_ret (v:=reV (okR (a0W (a/1000000*1000000)))) (by simp[results,Tryz.results55,go_sem, *]) rfl ?_
  exact⟨by rw[hE.out],(B2.out.setCell (p:=⟨w.heap.size+1,0,none⟩) (by simp) _).setCell (p:=⟨w.heap.size+1,1,none⟩) (by simp) _⟩
 ·obtain⟨op,nn,mm,ps⟩:=c
  obtain rfl:op=13:=hc
  obtain⟨⟨o1,o2⟩,⟨n1,n2⟩,m1,m2⟩:=hf
  dsimp only at c0 c1 c2 hR hm n1 n2 m1 m2
  have HC:=a0a (fun W:World=>a9f a nn mm a0 (by omega) (hm rfl).1 (by omega) (hm rfl).2 (by omega) W)
  have hR2:=a0a hR
  have hE:Hid (R=a0W (a*nn/mm)):=by show _=_;rw[hR];rfl
  clear hR hm hb o1 o2 hR2
  go_enter Tryz.func55,Tryz.ntmps55
  go_wp2_with fail
  refine Calls.mono (HC.out _) ?_
  rintro e w1 ⟨rfl,b1⟩
  have B1:=kb HB0 b1
  replace X1:=kn X1 b1
  clear b1 c0 c1 c2 l0 X0 HB0
  go_wp2_with fail
  refine Calls.mono (a1E _ _) ?_
  rintro e w2 ⟨rfl,b2⟩
  have B2:=kb B1 b2
  replace X1:=kn X1 b2
  clear b2
  obtain⟨z0,z1⟩:=Box.c2 X1.out
  have f0:=X1.out.free 0 (by simp)
  have f1:=X1.out.free 1 (by simp)
  have zl:=X1.out.lt
  go_wp2_with fail
  refine bodyPost_ret (v:=reV (okR (a0W (a*nn/mm)))) (by simp[results,Tryz.results55,go_sem, *]) rfl ?_
  exact⟨by rw[hE.out],(B2.out.setCell (p:=⟨w.heap.size+1,0,none⟩) (by simp) _).setCell (p:=⟨w.heap.size+1,1,none⟩) (by simp) _⟩
set_option maxHeartbeats 4000000 in
theorem a1n (k:Nat)(h1:14<=k)(h2:k<=24)(a b:Int)(ha:C64 a)(hb:C64 b)(w:World)(R:Rs)(hR:R=if k=17 then a8f a b else okR (bF k a b)):Calls Tryz.prog 56 #[.int .i64 (k:Int),.int .i64 a,.int .i64 b] w fun e w'=>e=.returned (reV R)/\Below w.heap.size w w':=by
 have X1:=a0a (Box.new w [.int .i64 0,.int .i64 0] 71)
 have HB0:=a0a ((Below.refl w.heap.size w).alloc (Nat.le_refl _) (.cells [.int .i64 0,.int .i64 0].toArray 71))
 obtain⟨a0,a1⟩:=ha
 obtain⟨b0,b1⟩:=hb
 have hks:k=14\/k=15\/k=16\/k=17\/k=18\/k=19\/k=20\/k=21\/k=22\/k=23\/k=24:=by omega
 clear h1 h2
 rcases hks with rfl | rfl | rfl | rfl | rfl | rfl | rfl | rfl | rfl | rfl | rfl
 ·have hE:Hid (R=okR (a0W (a+b))):=by show _=_;rw[hR];rfl
  have HC:=a0a (fun W:World=>a8s a b a0 (by omega) b0 (by omega) W)
  clear hR
  go_enter Tryz.func56,Tryz.ntmps56
  go_wp2_with fail
  refine Calls.mono (HC.out _) ?_
  rintro e w1 ⟨rfl,b1⟩
  have B1:=kb HB0 b1
  replace X1:=kn X1 b1
  clear b1 HB0
  go_wp2_with fail
  refine Calls.mono (a1E _ _) ?_
  rintro e w2 ⟨rfl,b2⟩
  have B2:=kb B1 b2
  replace X1:=kn X1 b2
  clear b2
  obtain⟨z0,z1⟩:=Box.c2 X1.out
  have f0:=X1.out.free 0 (by simp)
  have f1:=X1.out.free 1 (by simp)
  have zl:=X1.out.lt
  go_wp2_with fail
  refine bodyPost_ret (v:=reV (okR (a0W (a+b)))) (by simp[results,Tryz.results56,go_sem, *]) rfl ?_
  exact⟨by rw[hE.out],(B2.out.setCell (p:=⟨w.heap.size,0,none⟩) (by simp) _).setCell (p:=⟨w.heap.size,1,none⟩) (by simp) _⟩
 ·have hE:Hid (R=okR (a0W (a-b))):=by show _=_;rw[hR];rfl
  have HC:=a0a (fun W:World=>b2E a b a0 (by omega) b0 (by omega) W)
  clear hR
  go_enter Tryz.func56,Tryz.ntmps56
  go_wp2_with fail
  refine Calls.mono (HC.out _) ?_
  rintro e w1 ⟨rfl,b1⟩
  have B1:=kb HB0 b1
  replace X1:=kn X1 b1
  clear b1 HB0
  go_wp2_with fail
  refine Calls.mono (a1E _ _) ?_
  rintro e w2 ⟨rfl,b2⟩
  have B2:=kb B1 b2
  replace X1:=kn X1 b2
  clear b2
  obtain⟨z0,z1⟩:=Box.c2 X1.out
  have f0:=X1.out.free 0 (by simp)
  have f1:=X1.out.free 1 (by simp)
  have zl:=X1.out.lt
  go_wp2_with fail
  refine bodyPost_ret (v:=reV (okR (a0W (a-b)))) (by simp[results,Tryz.results56,go_sem, *]) rfl ?_
  exact⟨by rw[hE.out],(B2.out.setCell (p:=⟨w.heap.size,0,none⟩) (by simp) _).setCell (p:=⟨w.heap.size,1,none⟩) (by simp) _⟩
 ·have hE:Hid (R=okR (a0W (a*b/1000000))):=by show _=_;rw[hR];rfl
  have HC:=a0a (fun W:World=>b2R a b a0 (by omega) b0 (by omega) W)
  clear hR
  go_enter Tryz.func56,Tryz.ntmps56
  go_wp2_with fail
  refine Calls.mono (HC.out _) ?_
  rintro e w1 ⟨rfl,b1⟩
  have B1:=kb HB0 b1
  replace X1:=kn X1 b1
  clear b1 HB0
  go_wp2_with fail
  refine Calls.mono (a1E _ _) ?_
  rintro e w2 ⟨rfl,b2⟩
  have B2:=kb B1 b2
  replace X1:=kn X1 b2
  clear b2
  obtain⟨z0,z1⟩:=Box.c2 X1.out
  have f0:=X1.out.free 0 (by simp)
  have f1:=X1.out.free 1 (by simp)
  have zl:=X1.out.lt
  go_wp2_with fail
  refine bodyPost_ret (v:=reV (okR (a0W (a*b/1000000)))) (by simp[results,Tryz.results56,go_sem, *]) rfl ?_
  exact⟨by rw[hE.out],(B2.out.setCell (p:=⟨w.heap.size,0,none⟩) (by simp) _).setCell (p:=⟨w.heap.size,1,none⟩) (by simp) _⟩
 ·by_cases hz:b=0
  ·subst hz
   have hE:Hid (R=noR 2):=by show _=_;rw[hR];rfl
   have HC:=a0a (fun W:World=>b0m a W)
   clear hR
   go_enter Tryz.func56,Tryz.ntmps56
   go_wp2_with fail
   refine Calls.mono (HC.out _) ?_
   rintro e w1 ⟨rfl,b1⟩
   have B1:=kb HB0 b1
   replace X1:=kn X1 b1
   clear b1 HB0
   obtain⟨z0,z1⟩:=Box.c2 X1.out
   have f0:=X1.out.free 0 (by simp)
   have f1:=X1.out.free 1 (by simp)
   have zl:=X1.out.lt
   go_wp2_with fail
   refine bodyPost_ret (v:=reV (noR 2)) (by simp[results,Tryz.results56,go_sem, *]) rfl ?_
   exact⟨by rw[hE.out],(B1.out.setCell (p:=⟨w.heap.size,0,none⟩) (by simp) _).setCell (p:=⟨w.heap.size,1,none⟩) (by simp) _⟩
  ·have hE:Hid (R=okR (a0W (b2B (a*1000000) b))):=by show _=_;rw[hR];exact if_neg hz
   have HC:=a0a (fun W:World=>b3j a b a0 (by omega) b0 (by omega) hz W)
   clear hR
   go_enter Tryz.func56,Tryz.ntmps56
   go_wp2_with fail
   refine Calls.mono (HC.out _) ?_
   rintro e w1 ⟨rfl,b1⟩
   have B1:=kb HB0 b1
   replace X1:=kn X1 b1
   clear b1 HB0
   go_wp2_with fail
   refine Calls.mono (a1E _ _) ?_
   rintro e w2 ⟨rfl,b2⟩
   have B2:=kb B1 b2
   replace X1:=kn X1 b2
   clear b2
   obtain⟨z0,z1⟩:=Box.c2 X1.out
   have f0:=X1.out.free 0 (by simp)
   have f1:=X1.out.free 1 (by simp)
   have zl:=X1.out.lt
   go_wp2_with fail
   refine bodyPost_ret (v:=reV (okR (a0W (b2B (a*1000000) b)))) (by simp[results,Tryz.results56,go_sem, *]) rfl ?_
   exact⟨by rw[hE.out],(B2.out.setCell (p:=⟨w.heap.size,0,none⟩) (by simp) _).setCell (p:=⟨w.heap.size,1,none⟩) (by simp) _⟩
 ·have hE:Hid (R=okR (b2i (decide (a<b)))):=by show _=_;rw[hR];rfl
  clear hR
  go_enter Tryz.func56,Tryz.ntmps56
  go_wp2_with fail
  have B1:=HB0
  clear HB0
  refine Calls.mono (a2C _ _) ?_
  rintro e w2 ⟨rfl,b2⟩
  have B2:=kb B1 b2
  replace X1:=kn X1 b2
  clear b2
  obtain⟨z0,z1⟩:=Box.c2 X1.out
  have f0:=X1.out.free 0 (by simp)
  have f1:=X1.out.free 1 (by simp)
  have zl:=X1.out.lt
  go_wp2_with fail
  refine bodyPost_ret (v:=reV (okR (b2i (decide (a<b))))) (by simp[results,Tryz.results56,go_sem, *]) rfl ?_
  exact⟨by rw[hE.out],(B2.out.setCell (p:=⟨w.heap.size,0,none⟩) (by simp) _).setCell (p:=⟨w.heap.size,1,none⟩) (by simp) _⟩
 ·have hE:Hid (R=okR (b2i (decide (a<=b)))):=by show _=_;rw[hR];rfl
  clear hR
  go_enter Tryz.func56,Tryz.ntmps56
  go_wp2_with fail
  have B1:=HB0
  clear HB0
  refine Calls.mono (a2C _ _) ?_
  rintro e w2 ⟨rfl,b2⟩
  have B2:=kb B1 b2
  replace X1:=kn X1 b2
  clear b2
  obtain⟨z0,z1⟩:=Box.c2 X1.out
  have f0:=X1.out.free 0 (by simp)
  have f1:=X1.out.free 1 (by simp)
  have zl:=X1.out.lt
  go_wp2_with fail
  refine bodyPost_ret (v:=reV (okR (b2i (decide (a<=b))))) (by simp[results,Tryz.results56,go_sem, *]) rfl ?_
  exact⟨by rw[hE.out],(B2.out.setCell (p:=⟨w.heap.size,0,none⟩) (by simp) _).setCell (p:=⟨w.heap.size,1,none⟩) (by simp) _⟩
 ·have hE:Hid (R=okR (b2i (a==b))):=by show _=_;rw[hR];show okR (b2i (decide (a=b)))=_;congr 2
  clear hR
  go_enter Tryz.func56,Tryz.ntmps56
  go_wp2_with fail
  have B1:=HB0
  clear HB0
  refine Calls.mono (a2C _ _) ?_
  rintro e w2 ⟨rfl,b2⟩
  have B2:=kb B1 b2
  replace X1:=kn X1 b2
  clear b2
  obtain⟨z0,z1⟩:=Box.c2 X1.out
  have f0:=X1.out.free 0 (by simp)
  have f1:=X1.out.free 1 (by simp)
  have zl:=X1.out.lt
  go_wp2_with fail
  refine bodyPost_ret (v:=reV (okR (b2i (a==b)))) (by simp[results,Tryz.results56,go_sem, *]) rfl ?_
  exact⟨by rw[hE.out],(B2.out.setCell (p:=⟨w.heap.size,0,none⟩) (by simp) _).setCell (p:=⟨w.heap.size,1,none⟩) (by simp) _⟩
 ·have hE:Hid (R=okR (b2i (decide (a>b)))):=by show _=_;rw[hR];rfl
  clear hR
  go_enter Tryz.func56,Tryz.ntmps56
  go_wp2_with fail
  have B1:=HB0
  clear HB0
  refine Calls.mono (a2C _ _) ?_
  rintro e w2 ⟨rfl,b2⟩
  have B2:=kb B1 b2
  replace X1:=kn X1 b2
  clear b2
  obtain⟨z0,z1⟩:=Box.c2 X1.out
  have f0:=X1.out.free 0 (by simp)
  have f1:=X1.out.free 1 (by simp)
  have zl:=X1.out.lt
  go_wp2_with fail
  refine bodyPost_ret (v:=reV (okR (b2i (decide (a>b))))) (by simp[results,Tryz.results56,go_sem, *]) rfl ?_
  exact⟨by rw[hE.out],(B2.out.setCell (p:=⟨w.heap.size,0,none⟩) (by simp) _).setCell (p:=⟨w.heap.size,1,none⟩) (by simp) _⟩
 ·have hE:Hid (R=okR (b2i (decide (a>=b)))):=by show _=_;rw[hR];rfl
  clear hR
  go_enter Tryz.func56,Tryz.ntmps56
  go_wp2_with fail
  have B1:=HB0
  clear HB0
  refine Calls.mono (a2C _ _) ?_
  rintro e w2 ⟨rfl,b2⟩
  have B2:=kb B1 b2
  replace X1:=kn X1 b2
  clear b2
  obtain⟨z0,z1⟩:=Box.c2 X1.out
  have f0:=X1.out.free 0 (by simp)
  have f1:=X1.out.free 1 (by simp)
  have zl:=X1.out.lt
  go_wp2_with fail
  refine bodyPost_ret (v:=reV (okR (b2i (decide (a>=b))))) (by simp[results,Tryz.results56,go_sem, *]) rfl ?_
  exact⟨by rw[hE.out],(B2.out.setCell (p:=⟨w.heap.size,0,none⟩) (by simp) _).setCell (p:=⟨w.heap.size,1,none⟩) (by simp) _⟩
 ·rcases Int.lt_trichotomy a b with h | h | h
  ·have hE:Hid (R=okR a):=by show _=_;rw[hR];show okR (min a b)=_;congr 1;omega
   have h3:a<=b:=by omega
   have h4:¬ b<a:=by omega
   have h5:¬ b<=a:=by omega
   clear hR
   go_enter Tryz.func56,Tryz.ntmps56
   go_wp2_with fail
   have B1:=HB0
   clear HB0
   refine Calls.mono (a1E _ _) ?_
   rintro e w2 ⟨rfl,b2⟩
   have B2:=kb B1 b2
   replace X1:=kn X1 b2
   clear b2
   obtain⟨z0,z1⟩:=Box.c2 X1.out
   have f0:=X1.out.free 0 (by simp)
   have f1:=X1.out.free 1 (by simp)
   have zl:=X1.out.lt
   go_wp2_with fail
   refine bodyPost_ret (v:=reV (okR a)) (by simp[results,Tryz.results56,go_sem, *]) rfl ?_
   exact⟨by rw[hE.out],(B2.out.setCell (p:=⟨w.heap.size,0,none⟩) (by simp) _).setCell (p:=⟨w.heap.size,1,none⟩) (by simp) _⟩
  ·have hE:Hid (R=okR a):=by show _=_;rw[hR];show okR (min a b)=_;congr 1;omega
   subst h
   clear hR
   go_enter Tryz.func56,Tryz.ntmps56
   go_wp2_with fail
   have B1:=HB0
   clear HB0
   refine Calls.mono (a1E _ _) ?_
   rintro e w2 ⟨rfl,b2⟩
   have B2:=kb B1 b2
   replace X1:=kn X1 b2
   clear b2
   obtain⟨z0,z1⟩:=Box.c2 X1.out
   have f0:=X1.out.free 0 (by simp)
   have f1:=X1.out.free 1 (by simp)
   have zl:=X1.out.lt
   go_wp2_with fail
   refine bodyPost_ret (v:=reV (okR a)) (by simp[results,Tryz.results56,go_sem, *]) rfl ?_
   exact⟨by rw[hE.out],(B2.out.setCell (p:=⟨w.heap.size,0,none⟩) (by simp) _).setCell (p:=⟨w.heap.size,1,none⟩) (by simp) _⟩
  ·have hE:Hid (R=okR b):=by show _=_;rw[hR];show okR (min a b)=_;congr 1;omega
   have h3:b<=a:=by omega
   have h4:¬ a<b:=by omega
   have h5:¬ a<=b:=by omega
   clear hR
   go_enter Tryz.func56,Tryz.ntmps56
   go_wp2_with fail
   have B1:=HB0
   clear HB0
   refine Calls.mono (a1E _ _) ?_
   rintro e w2 ⟨rfl,b2⟩
   have B2:=kb B1 b2
   replace X1:=kn X1 b2
   clear b2
   obtain⟨z0,z1⟩:=Box.c2 X1.out
   have f0:=X1.out.free 0 (by simp)
   have f1:=X1.out.free 1 (by simp)
   have zl:=X1.out.lt
   go_wp2_with fail
   refine bodyPost_ret (v:=reV (okR b)) (by simp[results,Tryz.results56,go_sem, *]) rfl ?_
   exact⟨by rw[hE.out],(B2.out.setCell (p:=⟨w.heap.size,0,none⟩) (by simp) _).setCell (p:=⟨w.heap.size,1,none⟩) (by simp) _⟩
 ·rcases Int.lt_trichotomy a b with h | h | h
  ·have hE:Hid (R=okR b):=by show _=_;rw[hR];show okR (max a b)=_;congr 1;omega
   have h3:a<=b:=by omega
   have h4:¬ b<a:=by omega
   have h5:¬ b<=a:=by omega
   clear hR
   go_enter Tryz.func56,Tryz.ntmps56
   go_wp2_with fail
   have B1:=HB0
   clear HB0
   refine Calls.mono (a1E _ _) ?_
   rintro e w2 ⟨rfl,b2⟩
   have B2:=kb B1 b2
   replace X1:=kn X1 b2
   clear b2
   obtain⟨z0,z1⟩:=Box.c2 X1.out
   have f0:=X1.out.free 0 (by simp)
   have f1:=X1.out.free 1 (by simp)
   have zl:=X1.out.lt
   go_wp2_with fail
   refine bodyPost_ret (v:=reV (okR b)) (by simp[results,Tryz.results56,go_sem, *]) rfl ?_
   exact⟨by rw[hE.out],(B2.out.setCell (p:=⟨w.heap.size,0,none⟩) (by simp) _).setCell (p:=⟨w.heap.size,1,none⟩) (by simp) _⟩
  ·have hE:Hid (R=okR a):=by show _=_;rw[hR];show okR (max a b)=_;congr 1;omega
   subst h
   clear hR
   go_enter Tryz.func56,Tryz.ntmps56
   go_wp2_with fail
   have B1:=HB0
   clear HB0
   refine Calls.mono (a1E _ _) ?_
   rintro e w2 ⟨rfl,b2⟩
   have B2:=kb B1 b2
   replace X1:=kn X1 b2
   clear b2
   obtain⟨z0,z1⟩:=Box.c2 X1.out
   have f0:=X1.out.free 0 (by simp)
   have f1:=X1.out.free 1 (by simp)
   have zl:=X1.out.lt
   go_wp2_with fail
   refine bodyPost_ret (v:=reV (okR a)) (by simp[results,Tryz.results56,go_sem, *]) rfl ?_
   exact⟨by rw[hE.out],(B2.out.setCell (p:=⟨w.heap.size,0,none⟩) (by simp) _).setCell (p:=⟨w.heap.size,1,none⟩) (by simp) _⟩
  ·have hE:Hid (R=okR a):=by show _=_;rw[hR];show okR (max a b)=_;congr 1;omega
   have h3:b<=a:=by omega
   have h4:¬ a<b:=by omega
   have h5:¬ a<=b:=by omega
   clear hR
   go_enter Tryz.func56,Tryz.ntmps56
   go_wp2_with fail
   have B1:=HB0
   clear HB0
   refine Calls.mono (a1E _ _) ?_
   rintro e w2 ⟨rfl,b2⟩
   have B2:=kb B1 b2
   replace X1:=kn X1 b2
   clear b2
   obtain⟨z0,z1⟩:=Box.c2 X1.out
   have f0:=X1.out.free 0 (by simp)
   have f1:=X1.out.free 1 (by simp)
   have zl:=X1.out.lt
   go_wp2_with fail
   refine bodyPost_ret (v:=reV (okR a)) (by simp[results,Tryz.results56,go_sem, *]) rfl ?_
   exact⟨by rw[hE.out],(B2.out.setCell (p:=⟨w.heap.size,0,none⟩) (by simp) _).setCell (p:=⟨w.heap.size,1,none⟩) (by simp) _⟩
end Go.Proofs.YtdgjjnpdbdmdkaaGreatDoor
