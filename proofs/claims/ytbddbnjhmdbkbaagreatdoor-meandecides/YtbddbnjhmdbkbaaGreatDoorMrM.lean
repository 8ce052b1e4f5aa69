import Derived.Test.YtbddbnjhmdbkbaaGreatDoorMgH
import Derived.Test.YtbddbnjhmdbkbaaGreatDoorMhB
namespace Go.Proofs.YtbddbnjhmdbkbaaGreatDoor
open Go.RowKit
abbrev reV (r:Rs):Value:=.agg #[.int .i64 r.2,.int .i64 r.1]
set_option maxHeartbeats 1000000 in
theorem a1M (n:Int)(w:World):Calls Tryz.prog 111 #[.int .i64 n] w fun e w'=>e=.returned (reV (okR n))/\Below w.heap.size w w':=by
 go_enter Tryz.func111,Tryz.ntmps111
 go_wp2_with fail
 refine bodyPost_ret (v:=reV (okR n)) (by simp[results,Tryz.results111,go_sem, *]) rfl ?_
 exact⟨rfl,(ZD _ _).alloc (ZB _) _⟩
set_option maxHeartbeats 1000000 in
theorem a3c (b:Bool)(w:World):Calls Tryz.prog 113 #[.bool b] w fun e w'=>e=.returned (reV (okR (b2i b)))/\Below w.heap.size w w':=by
 cases b
 ·go_enter Tryz.func113,Tryz.ntmps113
  go_wp2_with fail
  refine bodyPost_ret (v:=reV (okR 0)) (by simp[results,Tryz.results113,go_sem, *]) rfl ?_
  exact⟨rfl,(ZD _ _).alloc (ZB _) _⟩
 ·go_enter Tryz.func113,Tryz.ntmps113
  go_wp2_with fail
  refine bodyPost_ret (v:=reV (okR 1)) (by simp[results,Tryz.results113,go_sem, *]) rfl ?_
  exact⟨rfl,(ZD _ _).alloc (ZB _) _⟩
set_option maxHeartbeats 4000000 in
theorem b1f (k:Nat)(h1:8<=k)(h2:k<=13)(c:Co)(v:Value)(hc:c.op=(k:Int))(hf:b9S c)(a:Int)(ha:C64 a)(hb:k=9->a=0\/a=1)(hm:k=13->0<=c.n/\1<=c.m)(hv:∃ ad n cap,v=.slice ad n cap)(w:World)(R:Int)(hR:R=if k=13 then held (a*c.n/c.m) else uF k a):Calls Tryz.prog 114 #[coV c v,.int .i64 a] w fun e w'=>e=.returned (reV (okR R))/\Below w.heap.size w w':=by
 obtain⟨ad,n,cap,rfl⟩:=hv
 obtain⟨Y0,Y1,B0⟩:=a0n w 30 84 (coL c (.slice ad n cap)) [.int .i64 0,.int .i64 0]
 have X0:=a0a Y0
 have X1:=a0a Y1
 have HB0:=a0a B0
 clear Y0 Y1 B0
 obtain⟨a0,a1⟩:=ha
 have hks:k=8\/k=9\/k=10\/k=11\/k=12\/k=13:=by omega
 clear h1 h2
 obtain⟨c0,c1,c2⟩:=Box.c3 X0.out
 have l0:=X0.out.lt
 rcases hks with rfl | rfl | rfl | rfl | rfl | rfl
 ·obtain⟨op,nn,mm,ps⟩:=c
  obtain rfl:op=8:=hc
  obtain⟨⟨o1,o2⟩,⟨n1,n2⟩,m1,m2⟩:=hf
  dsimp only at c0 c1 c2 hR hm n1 n2 m1 m2
  have HC:=a0a (fun W:World=>b7r a a0 (by omega) W)
  have hR2:=a0a hR
  have hE:Hid (R=a0R (-a)):=by show _=_;rw[hR];rfl
  clear hR hm hb o1 o2 hR2
  go_enter Tryz.func114,Tryz.ntmps114
  go_wp2_with fail
  refine ZE (HC.out _) ?_
  rintro e w1 ⟨rfl,b1⟩
  have B1:=kb HB0 b1
  replace X1:=kn X1 b1
  clear b1 c0 c1 c2 l0 X0 HB0
  go_wp2_with fail
  refine ZE (a1M _ _) ?_
  rintro e w2 ⟨rfl,b2⟩
  have B2:=kb B1 b2
  replace X1:=kn X1 b2
  clear b2
  obtain⟨z0,z1⟩:=Box.c2 X1.out
  have f0:=X1.out.free 0 (by simp)
  have f1:=X1.out.free 1 (by simp)
  have zl:=X1.out.lt
  go_wp2_with fail
  refine bodyPost_ret (v:=reV (okR (a0R (-a)))) (by simp[results,Tryz.results114,go_sem, *]) rfl ?_
  exact⟨by rw[hE.out],(B2.out.setCell (p:=⟨w.heap.size+1,0,none⟩) (by simp) _).setCell (p:=⟨w.heap.size+1,1,none⟩) (by simp) _⟩
 ·obtain⟨op,nn,mm,ps⟩:=c
  obtain rfl:op=9:=hc
  obtain⟨⟨o1,o2⟩,⟨n1,n2⟩,m1,m2⟩:=hf
  dsimp only at c0 c1 c2 hR hm n1 n2 m1 m2
  have hR2:=a0a hR
  have hE:Hid (R=b2i (a==0)):=by
   show _=_
   rw[hR]
   rcases hb rfl with rfl | rfl<;>rfl
  clear hR hm hb o1 o2 hR2
  go_enter Tryz.func114,Tryz.ntmps114
  go_wp2_with fail
  have B1:=HB0
  clear c0 c1 c2 l0 X0 HB0
  refine ZE (a3c _ _) ?_
  rintro e w2 ⟨rfl,b2⟩
  have B2:=kb B1 b2
  replace X1:=kn X1 b2
  clear b2
  obtain⟨z0,z1⟩:=Box.c2 X1.out
  have f0:=X1.out.free 0 (by simp)
  have f1:=X1.out.free 1 (by simp)
  have zl:=X1.out.lt
  go_wp2_with fail
  refine bodyPost_ret (v:=reV (okR (b2i (a==0)))) (by simp[results,Tryz.results114,go_sem, *]) rfl ?_
  exact⟨by rw[hE.out],(B2.out.setCell (p:=⟨w.heap.size+1,0,none⟩) (by simp) _).setCell (p:=⟨w.heap.size+1,1,none⟩) (by simp) _⟩
 ·obtain⟨op,nn,mm,ps⟩:=c
  obtain rfl:op=10:=hc
  obtain⟨⟨o1,o2⟩,⟨n1,n2⟩,m1,m2⟩:=hf
  dsimp only at c0 c1 c2 hR hm n1 n2 m1 m2
  have HC:=a0a (fun W:World=>b7C a a0 (by omega) W)
  have hR2:=a0a hR
  have hE:Hid (R=a0R a.natAbs):=by show _=_;rw[hR];rfl
  clear hR hm hb o1 o2 hR2
  go_enter Tryz.func114,Tryz.ntmps114
  go_wp2_with fail
  refine ZE (HC.out _) ?_
  rintro e w1 ⟨rfl,b1⟩
  have B1:=kb HB0 b1
  replace X1:=kn X1 b1
  clear b1 c0 c1 c2 l0 X0 HB0
  go_wp2_with fail
  refine ZE (a1M _ _) ?_
  rintro e w2 ⟨rfl,b2⟩
  have B2:=kb B1 b2
  replace X1:=kn X1 b2
  clear b2
  obtain⟨z0,z1⟩:=Box.c2 X1.out
  have f0:=X1.out.free 0 (by simp)
  have f1:=X1.out.free 1 (by simp)
  have zl:=X1.out.lt
  go_wp2_with fail
  refine bodyPost_ret (v:=reV (okR (a0R a.natAbs))) (by simp[results,Tryz.results114,go_sem, *]) rfl ?_
  exact⟨by rw[hE.out],(B2.out.setCell (p:=⟨w.heap.size+1,0,none⟩) (by simp) _).setCell (p:=⟨w.heap.size+1,1,none⟩) (by simp) _⟩
 ·obtain⟨op,nn,mm,ps⟩:=c
  obtain rfl:op=11:=hc
  obtain⟨⟨o1,o2⟩,⟨n1,n2⟩,m1,m2⟩:=hf
  dsimp only at c0 c1 c2 hR hm n1 n2 m1 m2
  have HC:=a0a (fun W:World=>a9e a a0 (by omega) W)
  have hR2:=a0a hR
  have hE:Hid (R=a0R (-((-a)/1000000)*1000000)):=by show _=_;rw[hR];rfl
  clear hR hm hb o1 o2 hR2
  go_enter Tryz.func114,Tryz.ntmps114
  go_wp2_with fail
  refine ZE (HC.out _) ?_
  rintro e w1 ⟨rfl,b1⟩
  have B1:=kb HB0 b1
  replace X1:=kn X1 b1
  clear b1 c0 c1 c2 l0 X0 HB0
  go_wp2_with fail
  refine ZE (a1M _ _) ?_
  rintro e w2 ⟨rfl,b2⟩
  have B2:=kb B1 b2
  replace X1:=kn X1 b2
  clear b2
  obtain⟨z0,z1⟩:=Box.c2 X1.out
  have f0:=X1.out.free 0 (by simp)
  have f1:=X1.out.free 1 (by simp)
  have zl:=X1.out.lt
  go_wp2_with fail
  refine bodyPost_ret (v:=reV (okR (a0R (-((-a)/1000000)*1000000)))) (by simp[results,Tryz.results114,go_sem, *]) rfl ?_
  exact⟨by rw[hE.out],(B2.out.setCell (p:=⟨w.heap.size+1,0,none⟩) (by simp) _).setCell (p:=⟨w.heap.size+1,1,none⟩) (by simp) _⟩
 ·obtain⟨op,nn,mm,ps⟩:=c
  obtain rfl:op=12:=hc
  obtain⟨⟨o1,o2⟩,⟨n1,n2⟩,m1,m2⟩:=hf
  dsimp only at c0 c1 c2 hR hm n1 n2 m1 m2
  have HC:=a0a (fun W:World=>b2v a a0 (by omega) W)
  have hR2:=a0a hR
  have hE:Hid (R=a0R (a/1000000*1000000)):=by show _=_;rw[hR];rfl
  clear hR hm hb o1 o2 hR2
  go_enter Tryz.func114,Tryz.ntmps114
  go_wp2_with fail
  refine ZE (HC.out _) ?_
  rintro e w1 ⟨rfl,b1⟩
  have B1:=kb HB0 b1
  replace X1:=kn X1 b1
  clear b1 c0 c1 c2 l0 X0 HB0
  go_wp2_with fail
  refine ZE (a1M _ _) ?_
  rintro e w2 ⟨rfl,b2⟩
  have B2:=kb B1 b2
  replace X1:=kn X1 b2
  clear b2
  obtain⟨z0,z1⟩:=Box.c2 X1.out
  have f0:=X1.out.free 0 (by simp)
  have f1:=X1.out.free 1 (by simp)
  have zl:=X1.out.lt
  go_wp2_with fail
  refine bodyPost_ret (v:=reV (okR (a0R (a/1000000*1000000)))) (by simp[results,Tryz.results114,go_sem, *]) rfl ?_
  exact⟨by rw[hE.out],(B2.out.setCell (p:=⟨w.heap.size+1,0,none⟩) (by simp) _).setCell (p:=⟨w.heap.size+1,1,none⟩) (by simp) _⟩
 ·obtain⟨op,nn,mm,ps⟩:=c
  obtain rfl:op=13:=hc
  obtain⟨⟨o1,o2⟩,⟨n1,n2⟩,m1,m2⟩:=hf
  dsimp only at c0 c1 c2 hR hm n1 n2 m1 m2
  have HC:=a0a (fun W:World=>b2s a nn mm a0 (by omega) (hm rfl).1 (by omega) (hm rfl).2 (by omega) W)
  have hR2:=a0a hR
  have hE:Hid (R=a0R (a*nn/mm)):=by show _=_;rw[hR];rfl
  clear hR hm hb o1 o2 hR2
  go_enter Tryz.func114,Tryz.ntmps114
  go_wp2_with fail
  refine ZE (HC.out _) ?_
  rintro e w1 ⟨rfl,b1⟩
  have B1:=kb HB0 b1
  replace X1:=kn X1 b1
  clear b1 c0 c1 c2 l0 X0 HB0
  go_wp2_with fail
  refine ZE (a1M _ _) ?_
  rintro e w2 ⟨rfl,b2⟩
  have B2:=kb B1 b2
  replace X1:=kn X1 b2
  clear b2
  obtain⟨z0,z1⟩:=Box.c2 X1.out
  have f0:=X1.out.free 0 (by simp)
  have f1:=X1.out.free 1 (by simp)
  have zl:=X1.out.lt
  go_wp2_with fail
  refine bodyPost_ret (v:=reV (okR (a0R (a*nn/mm)))) (by simp[results,Tryz.results114,go_sem, *]) rfl ?_
  exact⟨by rw[hE.out],(B2.out.setCell (p:=⟨w.heap.size+1,0,none⟩) (by simp) _).setCell (p:=⟨w.heap.size+1,1,none⟩) (by simp) _⟩
set_option maxHeartbeats 4000000 in
theorem b4h (k:Nat)(h1:14<=k)(h2:k<=24)(a b:Int)(ha:C64 a)(hb:C64 b)(w:World)(R:Rs)(hR:R=if k=17 then b3e a b else okR (bF k a b)):Calls Tryz.prog 115 #[.int .i64 (k:Int),.int .i64 a,.int .i64 b] w fun e w'=>e=.returned (reV R)/\Below w.heap.size w w':=by
 have X1:=a0a (Box.new w [.int .i64 0,.int .i64 0] 84)
 have HB0:=a0a ((ZD w.heap.size w).alloc (ZB _) (.cells [.int .i64 0,.int .i64 0].toArray 84))
 obtain⟨a0,a1⟩:=ha
 obtain⟨b0,b1⟩:=hb
 have hks:k=14\/k=15\/k=16\/k=17\/k=18\/k=19\/k=20\/k=21\/k=22\/k=23\/k=24:=by omega
 clear h1 h2
 rcases hks with rfl | rfl | rfl | rfl | rfl | rfl | rfl | rfl | rfl | rfl | rfl
 ·have hE:Hid (R=okR (a0R (a+b))):=by show _=_;rw[hR];rfl
  have HC:=a0a (fun W:World=>b1i a b a0 (by omega) b0 (by omega) W)
  clear hR
  go_enter Tryz.func115,Tryz.ntmps115
  go_wp2_with fail
  refine ZE (HC.out _) ?_
  rintro e w1 ⟨rfl,b1⟩
  have B1:=kb HB0 b1
  replace X1:=kn X1 b1
  clear b1 HB0
  go_wp2_with fail
  refine ZE (a1M _ _) ?_
  rintro e w2 ⟨rfl,b2⟩
  have B2:=kb B1 b2
  replace X1:=kn X1 b2
  clear b2
  obtain⟨z0,z1⟩:=Box.c2 X1.out
  have f0:=X1.out.free 0 (by simp)
  have f1:=X1.out.free 1 (by simp)
  have zl:=X1.out.lt
  go_wp2_with fail
  refine bodyPost_ret (v:=reV (okR (a0R (a+b)))) (by simp[results,Tryz.results115,go_sem, *]) rfl ?_
  exact⟨by rw[hE.out],(B2.out.setCell (p:=⟨w.heap.size,0,none⟩) (by simp) _).setCell (p:=⟨w.heap.size,1,none⟩) (by simp) _⟩
 ·have hE:Hid (R=okR (a0R (a-b))):=by show _=_;rw[hR];rfl
  have HC:=a0a (fun W:World=>b7k a b a0 (by omega) b0 (by omega) W)
  clear hR
  go_enter Tryz.func115,Tryz.ntmps115
  go_wp2_with fail
  refine ZE (HC.out _) ?_
  rintro e w1 ⟨rfl,b1⟩
  have B1:=kb HB0 b1
  replace X1:=kn X1 b1
  clear b1 HB0
  go_wp2_with fail
  refine ZE (a1M _ _) ?_
  rintro e w2 ⟨rfl,b2⟩
  have B2:=kb B1 b2
  replace X1:=kn X1 b2
  clear b2
  obtain⟨z0,z1⟩:=Box.c2 X1.out
  have f0:=X1.out.free 0 (by simp)
  have f1:=X1.out.free 1 (by simp)
  have zl:=X1.out.lt
  go_wp2_with fail
  refine bodyPost_ret (v:=reV (okR (a0R (a-b)))) (by simp[results,Tryz.results115,go_sem, *]) rfl ?_
  exact⟨by rw[hE.out],(B2.out.setCell (p:=⟨w.heap.size,0,none⟩) (by simp) _).setCell (p:=⟨w.heap.size,1,none⟩) (by simp) _⟩
 ·have hE:Hid (R=okR (a0R (a*b/1000000))):=by show _=_;rw[hR];rfl
  have HC:=a0a (fun W:World=>b7s a b a0 (by omega) b0 (by omega) W)
  clear hR
  go_enter Tryz.func115,Tryz.ntmps115
  go_wp2_with fail
  refine ZE (HC.out _) ?_
  rintro e w1 ⟨rfl,b1⟩
  have B1:=kb HB0 b1
  replace X1:=kn X1 b1
  clear b1 HB0
  go_wp2_with fail
  refine ZE (a1M _ _) ?_
  rintro e w2 ⟨rfl,b2⟩
  have B2:=kb B1 b2
  replace X1:=kn X1 b2
  clear b2
  obtain⟨z0,z1⟩:=Box.c2 X1.out
  have f0:=X1.out.free 0 (by simp)
  have f1:=X1.out.free 1 (by simp)
  have zl:=X1.out.lt
  go_wp2_with fail
  refine bodyPost_ret (v:=reV (okR (a0R (a*b/1000000)))) (by simp[results,Tryz.results115,go_sem, *]) rfl ?_
  exact⟨by rw[hE.out],(B2.out.setCell (p:=⟨w.heap.size,0,none⟩) (by simp) _).setCell (p:=⟨w.heap.size,1,none⟩) (by simp) _⟩
 ·by_cases hz:b=0
  ·subst hz
   have hE:Hid (R=noR 2):=by show _=_;rw[hR];rfl
   have HC:=a0a (fun W:World=>b4n a W)
   clear hR
   go_enter Tryz.func115,Tryz.ntmps115
   go_wp2_with fail
   refine ZE (HC.out _) ?_
   rintro e w1 ⟨rfl,b1⟩
   have B1:=kb HB0 b1
   replace X1:=kn X1 b1
   clear b1 HB0
   obtain⟨z0,z1⟩:=Box.c2 X1.out
   have f0:=X1.out.free 0 (by simp)
   have f1:=X1.out.free 1 (by simp)
   have zl:=X1.out.lt
   go_wp2_with fail
   refine bodyPost_ret (v:=reV (noR 2)) (by simp[results,Tryz.results115,go_sem, *]) rfl ?_
   exact⟨by rw[hE.out],(B1.out.setCell (p:=⟨w.heap.size,0,none⟩) (by simp) _).setCell (p:=⟨w.heap.size,1,none⟩) (by simp) _⟩
  ·have hE:Hid (R=okR (a0R (b7f (a*1000000) b))):=by show _=_;rw[hR];exact if_neg hz
   have HC:=a0a (fun W:World=>b7A a b a0 (by omega) b0 (by omega) hz W)
   clear hR
   go_enter Tryz.func115,Tryz.ntmps115
   go_wp2_with fail
   refine ZE (HC.out _) ?_
   rintro e w1 ⟨rfl,b1⟩
   have B1:=kb HB0 b1
   replace X1:=kn X1 b1
   clear b1 HB0
   go_wp2_with fail
   refine ZE (a1M _ _) ?_
   rintro e w2 ⟨rfl,b2⟩
   have B2:=kb B1 b2
   replace X1:=kn X1 b2
   clear b2
   obtain⟨z0,z1⟩:=Box.c2 X1.out
   have f0:=X1.out.free 0 (by simp)
   have f1:=X1.out.free 1 (by simp)
   have zl:=X1.out.lt
   go_wp2_with fail
   refine bodyPost_ret (v:=reV (okR (a0R (b7f (a*1000000) b)))) (by simp[results,Tryz.results115,go_sem, *]) rfl ?_
   exact⟨by rw[hE.out],(B2.out.setCell (p:=⟨w.heap.size,0,none⟩) (by simp) _).setCell (p:=⟨w.heap.size,1,none⟩) (by simp) _⟩
 ·have hE:Hid (R=okR (b2i (decide (a<b)))):=by show _=_;rw[hR];rfl
  clear hR
  go_enter Tryz.func115,Tryz.ntmps115
  go_wp2_with fail
  have B1:=HB0
  clear HB0
  refine ZE (a3c _ _) ?_
  rintro e w2 ⟨rfl,b2⟩
  have B2:=kb B1 b2
  replace X1:=kn X1 b2
  clear b2
  obtain⟨z0,z1⟩:=Box.c2 X1.out
  have f0:=X1.out.free 0 (by simp)
  have f1:=X1.out.free 1 (by simp)
  have zl:=X1.out.lt
  go_wp2_with fail
  refine bodyPost_ret (v:=reV (okR (b2i (decide (a<b))))) (by simp[results,Tryz.results115,go_sem, *]) rfl ?_
  exact⟨by rw[hE.out],(B2.out.setCell (p:=⟨w.heap.size,0,none⟩) (by simp) _).setCell (p:=⟨w.heap.size,1,none⟩) (by simp) _⟩
 ·have hE:Hid (R=okR (b2i (decide (a<=b)))):=by show _=_;rw[hR];rfl
  clear hR
  go_enter Tryz.func115,Tryz.ntmps115
  go_wp2_with fail
  have B1:=HB0
  clear HB0
  refine ZE (a3c _ _) ?_
  rintro e w2 ⟨rfl,b2⟩
  have B2:=kb B1 b2
  replace X1:=kn X1 b2
  clear b2
  obtain⟨z0,z1⟩:=Box.c2 X1.out
  have f0:=X1.out.free 0 (by simp)
  have f1:=X1.out.free 1 (by simp)
  have zl:=X1.out.lt
  go_wp2_with fail
  refine bodyPost_ret (v:=reV (okR (b2i (decide (a<=b))))) (by simp[results,Tryz.results115,go_sem, *]) rfl ?_
  exact⟨by rw[hE.out],(B2.out.setCell (p:=⟨w.heap.size,0,none⟩) (by simp) _).setCell (p:=⟨w.heap.size,1,none⟩) (by simp) _⟩
 ·have hE:Hid (R=okR (b2i (a==b))):=by show _=_;rw[hR];show okR (b2i (decide (a=b)))=_;congr 2
  clear hR
  go_enter Tryz.func115,Tryz.ntmps115
  go_wp2_with fail
  have B1:=HB0
  clear HB0
  refine ZE (a3c _ _) ?_
  rintro e w2 ⟨rfl,b2⟩
  have B2:=kb B1 b2
  replace X1:=kn X1 b2
  clear b2
  obtain⟨z0,z1⟩:=Box.c2 X1.out
  have f0:=X1.out.free 0 (by simp)
  have f1:=X1.out.free 1 (by simp)
  have zl:=X1.out.lt
  go_wp2_with fail
  refine bodyPost_ret (v:=reV (okR (b2i (a==b)))) (by simp[results,Tryz.results115,go_sem, *]) rfl ?_
  exact⟨by rw[hE.out],(B2.out.setCell (p:=⟨w.heap.size,0,none⟩) (by simp) _).setCell (p:=⟨w.heap.size,1,none⟩) (by simp) _⟩
 ·have hE:Hid (R=okR (b2i (decide (a>b)))):=by show _=_;rw[hR];rfl
  clear hR
  go_enter Tryz.func115,Tryz.ntmps115
  go_wp2_with fail
  have B1:=HB0
  clear HB0
  refine ZE (a3c _ _) ?_
  rintro e w2 ⟨rfl,b2⟩
  have B2:=kb B1 b2
  replace X1:=kn X1 b2
  clear b2
  obtain⟨z0,z1⟩:=Box.c2 X1.out
  have f0:=X1.out.free 0 (by simp)
  have f1:=X1.out.free 1 (by simp)
  have zl:=X1.out.lt
  go_wp2_with fail
  refine bodyPost_ret (v:=reV (okR (b2i (decide (a>b))))) (by simp[results,Tryz.results115,go_sem, *]) rfl ?_
  exact⟨by rw[hE.out],(B2.out.setCell (p:=⟨w.heap.size,0,none⟩) (by simp) _).setCell (p:=⟨w.heap.size,1,none⟩) (by simp) _⟩
 ·have hE:Hid (R=okR (b2i (decide (a>=b)))):=by show _=_;rw[hR];rfl
  clear hR
  go_enter Tryz.func115,Tryz.ntmps115
  go_wp2_with fail
  have B1:=HB0
  clear HB0
  refine ZE (a3c _ _) ?_
  rintro e w2 ⟨rfl,b2⟩
  have B2:=kb B1 b2
  replace X1:=kn X1 b2
  clear b2
  obtain⟨z0,z1⟩:=Box.c2 X1.out
  have f0:=X1.out.free 0 (by simp)
  have f1:=X1.out.free 1 (by simp)
  have zl:=X1.out.lt
  go_wp2_with fail
  refine bodyPost_ret (v:=reV (okR (b2i (decide (a>=b))))) (by simp[results,Tryz.results115,go_sem, *]) rfl ?_
  exact⟨by rw[hE.out],(B2.out.setCell (p:=⟨w.heap.size,0,none⟩) (by simp) _).setCell (p:=⟨w.heap.size,1,none⟩) (by simp) _⟩
 ·rcases Int.lt_trichotomy a b with h | h | h
  ·have hE:Hid (R=okR a):=by show _=_;rw[hR];show okR (min a b)=_;congr 1;omega
   have h3:a<=b:=by omega
   have h4:¬ b<a:=by omega
   have h5:¬ b<=a:=by omega
   clear hR
   go_enter Tryz.func115,Tryz.ntmps115
   go_wp2_with fail
   have B1:=HB0
   clear HB0
   refine ZE (a1M _ _) ?_
   rintro e w2 ⟨rfl,b2⟩
   have B2:=kb B1 b2
   replace X1:=kn X1 b2
   clear b2
   obtain⟨z0,z1⟩:=Box.c2 X1.out
   have f0:=X1.out.free 0 (by simp)
   have f1:=X1.out.free 1 (by simp)
   have zl:=X1.out.lt
   go_wp2_with fail
   refine bodyPost_ret (v:=reV (okR a)) (by simp[results,Tryz.results115,go_sem, *]) rfl ?_
   exact⟨by rw[hE.out],(B2.out.setCell (p:=⟨w.heap.size,0,none⟩) (by simp) _).setCell (p:=⟨w.heap.size,1,none⟩) (by simp) _⟩
  ·have hE:Hid (R=okR a):=by show _=_;rw[hR];show okR (min a b)=_;congr 1;omega
   subst h
   clear hR
   go_enter Tryz.func115,Tryz.ntmps115
   go_wp2_with fail
   have B1:=HB0
   clear HB0
   refine ZE (a1M _ _) ?_
   rintro e w2 ⟨rfl,b2⟩
   have B2:=kb B1 b2
   replace X1:=kn X1 b2
   clear b2
   obtain⟨z0,z1⟩:=Box.c2 X1.out
   have f0:=X1.out.free 0 (by simp)
   have f1:=X1.out.free 1 (by simp)
   have zl:=X1.out.lt
   go_wp2_with fail
   refine bodyPost_ret (v:=reV (okR a)) (by simp[results,Tryz.results115,go_sem, *]) rfl ?_
   exact⟨by rw[hE.out],(B2.out.setCell (p:=⟨w.heap.size,0,none⟩) (by simp) _).setCell (p:=⟨w.heap.size,1,none⟩) (by simp) _⟩
  ·have hE:Hid (R=okR b):=by show _=_;rw[hR];show okR (min a b)=_;congr 1;omega
   have h3:b<=a:=by omega
   have h4:¬ a<b:=by omega
   have h5:¬ a<=b:=by omega
   clear hR
   go_enter Tryz.func115,Tryz.ntmps115
   go_wp2_with fail
   have B1:=HB0
   clear HB0
   refine ZE (a1M _ _) ?_
   rintro e w2 ⟨rfl,b2⟩
   have B2:=kb B1 b2
   replace X1:=kn X1 b2
   clear b2
   obtain⟨z0,z1⟩:=Box.c2 X1.out
   have f0:=X1.out.free 0 (by simp)
   have f1:=X1.out.free 1 (by simp)
   have zl:=X1.out.lt
   go_wp2_with fail
   refine bodyPost_ret (v:=reV (okR b)) (by simp[results,Tryz.results115,go_sem, *]) rfl ?_
   exact⟨by rw[hE.out],(B2.out.setCell (p:=⟨w.heap.size,0,none⟩) (by simp) _).setCell (p:=⟨w.heap.size,1,none⟩) (by simp) _⟩
 ·rcases Int.lt_trichotomy a b with h | h | h
  ·have hE:Hid (R=okR b):=by show _=_;rw[hR];show okR (max a b)=_;congr 1;omega
   have h3:a<=b:=by omega
   have h4:¬ b<a:=by omega
   have h5:¬ b<=a:=by omega
   clear hR
   go_enter Tryz.func115,Tryz.ntmps115
   go_wp2_with fail
   have B1:=HB0
   clear HB0
   refine ZE (a1M _ _) ?_
   rintro e w2 ⟨rfl,b2⟩
   have B2:=kb B1 b2
   replace X1:=kn X1 b2
   clear b2
   obtain⟨z0,z1⟩:=Box.c2 X1.out
   have f0:=X1.out.free 0 (by simp)
   have f1:=X1.out.free 1 (by simp)
   have zl:=X1.out.lt
   go_wp2_with fail
   refine bodyPost_ret (v:=reV (okR b)) (by simp[results,Tryz.results115,go_sem, *]) rfl ?_
   exact⟨by rw[hE.out],(B2.out.setCell (p:=⟨w.heap.size,0,none⟩) (by simp) _).setCell (p:=⟨w.heap.size,1,none⟩) (by simp) _⟩
  ·have hE:Hid (R=okR a):=by show _=_;rw[hR];show okR (max a b)=_;congr 1;omega
   subst h
   clear hR
   go_enter Tryz.func115,Tryz.ntmps115
   go_wp2_with fail
   have B1:=HB0
   clear HB0
   refine ZE (a1M _ _) ?_
   rintro e w2 ⟨rfl,b2⟩
   have B2:=kb B1 b2
   replace X1:=kn X1 b2
   clear b2
   obtain⟨z0,z1⟩:=Box.c2 X1.out
   have f0:=X1.out.free 0 (by simp)
   have f1:=X1.out.free 1 (by simp)
   have zl:=X1.out.lt
   go_wp2_with fail
   refine bodyPost_ret (v:=reV (okR a)) (by simp[results,Tryz.results115,go_sem, *]) rfl ?_
   exact⟨by rw[hE.out],(B2.out.setCell (p:=⟨w.heap.size,0,none⟩) (by simp) _).setCell (p:=⟨w.heap.size,1,none⟩) (by simp) _⟩
  ·have hE:Hid (R=okR a):=by show _=_;rw[hR];show okR (max a b)=_;congr 1;omega
   have h3:b<=a:=by omega
   have h4:¬ a<b:=by omega
   have h5:¬ a<=b:=by omega
   clear hR
   go_enter Tryz.func115,Tryz.ntmps115
   go_wp2_with fail
   have B1:=HB0
   clear HB0
   refine ZE (a1M _ _) ?_
   rintro e w2 ⟨rfl,b2⟩
   have B2:=kb B1 b2
   replace X1:=kn X1 b2
   clear b2
   obtain⟨z0,z1⟩:=Box.c2 X1.out
   have f0:=X1.out.free 0 (by simp)
   have f1:=X1.out.free 1 (by simp)
   have zl:=X1.out.lt
   go_wp2_with fail
   refine bodyPost_ret (v:=reV (okR a)) (by simp[results,Tryz.results115,go_sem, *]) rfl ?_
   exact⟨by rw[hE.out],(B2.out.setCell (p:=⟨w.heap.size,0,none⟩) (by simp) _).setCell (p:=⟨w.heap.size,1,none⟩) (by simp) _⟩
def a4L (r:Rs):Prop:=r.2≠0->r.1=0
theorem a4s (n:Int):a4L (okR n):=fun h=>absurd rfl h
theorem a4t (n:Int):a4L (noR n):=fun _=>rfl
theorem b4D (f:Int->Int)(a:Rs):a4L (a0t f a):=by unfold a0t;split;exact a4s _;exact a4t _
theorem b4G (a b:Int):a4L (b3e a b):=by unfold b3e;split;exact a4t _;exact a4s _
theorem a9k (f:Int->Int->Rs)(hf:∀ a b,a4L (f a b))(a b:Rs):a4L (a0E f a b):=by unfold a0E;split;(split;exact hf _ _;exact a4t _);exact a4t _
theorem b4F (rs:List Rs)(h:∀ r,r∈rs->a4L r)(i:Nat):a4L (rs.getD i (0,0)):=by
 rw[List.getD_eq_getElem?_getD]
 cases e:rs[i]? with
 | none=>exact a4s 0
 | some r=>exact h r (List.mem_of_getElem? e)
theorem b4E {c:Prop}[Decidable c]{a b:Rs}(ha:a4L a)(hb:a4L b):a4L (if c then a else b):=by split<;>assumption
theorem b2I (E:a0u)(k:Nat)(c:Co)(rs:List Rs)(h:∀ r,r∈rs->a4L r):a4L (b6E E k c rs):=by
 unfold b6E
 repeat' (refine b4E ?_ ?_)
 all_goals first | exact a4s _ | exact a4t _ | exact b4D _ _ | exact a9k _ b4G _ _ | exact a9k _ (fun a b=>a4s _) _ _ | exact b4F _ h _
theorem a1A (E:a0u)(t:Co):a4L (a0d E t):=by
 induction t using Co.ind with
 | h t ih=>
   rw[a0f]
   exact b2I E _ t _ (fun r hr=>by obtain⟨x,hx,rfl⟩:=List.mem_map.1 hr;exact ih x hx)
def REv (E:a0u)(t:Co):Prop:=∀ (v v1 v2:Value) (w:World),a0p w t v->a3j w E v1 v2->Calls Tryz.prog 64 #[coV t v,a7c E v1 v2] w fun e w'=>e=.returned (reV (a0d E t))/\Below w.heap.size w w'
theorem b6w {P:Program}{c:Code}{K:Act->World->Prop}{Q':Exit->Act->World->Prop}{a:Act}{w:World}{F:Nat->Act}(G:Nat->World->Prop)
 (hreg:c.wp P (Exit.then (fun a' w'=>∃ dd,a'=F dd/\G dd w') Q') a w) (hrest:∀ dd w',G dd w'->K (F dd) w'):c.wp P (Exit.then K Q') a w:=by
 refine Code.wp_mono (fun e a w h=>?_) hreg
 cases e with
 | normal=>obtain⟨dd,rfl,hg⟩:=h;exact hrest _ _ hg
 | _=>exact h
set_option maxHeartbeats 2000000 in
theorem b3V (c:Co)(a:Int)(hc:c.op=7)(ad:Option Addr)(n cap:Nat)(w:World):Calls Tryz.prog 114 #[coV c (.slice ad n cap),.int .i64 a] w fun e w'=>e=.returned (reV (okR a))/\Below w.heap.size w w':=by
 obtain⟨op,nn,mm,ps⟩:=c
 obtain rfl:op=7:=hc
 obtain⟨Y0,Y1,B0⟩:=a0n w 30 84 (coL ⟨7,nn,mm,ps⟩ (.slice ad n cap)) [.int .i64 0,.int .i64 0]
 have X1:=a0a Y1
 have HB0:=a0a B0
 have c0:=Y0.cell 0 _ rfl
 have l0:=Y0.lt
 dsimp only at c0
 clear Y0 Y1 B0
 go_enter Tryz.func114,Tryz.ntmps114
 go_wp2_with fail
 refine ZE (a1M _ _) ?_
 rintro e w2 ⟨rfl,b2⟩
 have B2:=kb HB0 b2
 replace X1:=kn X1 b2
 clear b2 c0 l0
 obtain⟨z0,z1⟩:=Box.c2 X1.out
 have f0:=X1.out.free 0 (by simp)
 have f1:=X1.out.free 1 (by simp)
 have zl:=X1.out.lt
 go_wp2_with fail
 refine bodyPost_ret (v:=reV (okR a)) (by simp[results,Tryz.results114,go_sem, *]) rfl ?_
 exact⟨rfl,(B2.out.setCell (p:=⟨w.heap.size+1,0,none⟩) (by simp) _).setCell (p:=⟨w.heap.size+1,1,none⟩) (by simp) _⟩
def UpK (k:Nat)(c:Int):Prop:=(k=7/\c=7)\/(k=8/\c=8)\/(k=9/\c=9)\/(k=10/\c=10)\/(k=11/\c=11)\/(k=12/\c=12)\/(k=13/\c=13)
set_option maxHeartbeats 40000000 in
set_option maxRecDepth 20000 in
theorem b7v (E:a0u)(k:Nat)(c:Int)(n m:Int)(x:Co)(hk:UpK k c)(hm:k=13->0<=n/\1<=m)(hb:k=9->(a0d E x).1=0\/(a0d E x).1=1)(ih:REv E x)(hg:C64 (a0d E x).1):REv E ⟨c,n,m,[x]⟩:=by
 intro v v1 v2 w hs he
 have HS:=a0a hs
 have HE:=a0a he
 have HFt:=a0a hs.fit
 have HNm:=a0a (a1A E x)
 obtain⟨r,hr⟩:∃ r,Hid (r=a0d E x):=⟨_,a0a rfl⟩
 have HT:Hid (a0d E ⟨c,n,m,[x]⟩=if k=7 then r else if k=13 then a0t (fun a=>held (a*n/m)) r else a0t (uF k) r):=by
  show _=_
  rw[hr.out,a0f]
  rcases hk with ⟨rfl,rfl⟩ | ⟨rfl,rfl⟩ | ⟨rfl,rfl⟩ | ⟨rfl,rfl⟩ | ⟨rfl,rfl⟩ | ⟨rfl,rfl⟩ | ⟨rfl,rfl⟩<;>rfl
 obtain⟨Q,hQ⟩:∃ Q,Hid (Q=a0d E ⟨c,n,m,[x]⟩):=⟨_,a0a rfl⟩
 rw[<-hQ.out]
 rw[<-hQ.out] at HT
 obtain⟨b,off,cap,rfl,-,-,hbl,hx⟩:=hs.parts.open (by show 0<1;decide)
 obtain⟨u0,f0,s0⟩:∃ u,a4h w b (off+0*4) x u/\a0p w x u:=hx 0 (by show 0<1;decide)
 obtain⟨a1,c1,a2,c2,rfl,rfl⟩:=he.shape
 have HC:Hid (∀ W,Below w.heap.size w W->Calls Tryz.prog 64 #[coV x u0,a7c E (.slice a1 E.wins.length c1) (.slice a2 E.crons.length c2)] W fun e w'=>e=.returned (reV r)/\Below W.heap.size W w'):=a0a (fun W hW=>by rw[hr.out];exact ih u0 _ _ W (s0.next hW) (HE.out.next hW))
 rw[<-hr.out] at hg hb HNm
 obtain⟨ad0,cap0,rfl,-,-⟩:=s0.parts.shape
 obtain⟨Y0,Y1,Y2,B0⟩:=a0r w 30 40 84 (coL ⟨c,n,m,[x]⟩ (.slice (some ⟨b,off,none⟩) 1 cap)) [.int .i64 E.rep,.slice a1 E.wins.length c1,.slice a2 E.crons.length c2] [.int .i64 0,.int .i64 0]
 have X0:=a0a Y0
 have X1:=a0a Y1
 have X2:=a0a Y2
 have HB0:=a0a B0
 have HF0:=a0a f0
 have HBl:=a0a hbl
 have HG:Hid (∃ gF:Int->Int,(r.2≠0->Q=r)/\(∀ r1,r=(r1,0)->Q=okR (gF r1))/\∀ r1,r=(r1,0)->∀ W:World,Calls Tryz.prog 114 #[coV ⟨c,n,m,[x]⟩ (.slice (some ⟨b,off,none⟩) 1 cap),.int .i64 r1] W fun e w'=>e=.returned (reV (okR (gF r1)))/\Below W.heap.size W w'):=a0a (by
  have hT:=HT.out
  by_cases h7:k=7
  ·have hc:c=7:=by unfold UpK at hk;omega
   subst hc
   rw[if_pos h7] at hT
   exact⟨id,fun _=>hT,fun r1 e=>by rw[hT,e];rfl,fun r1 e W=>b3V ⟨7,n,m,[x]⟩ r1 rfl (some ⟨b,off,none⟩) 1 cap W⟩
  ·have hc:c=(k:Int)/\8<=k/\k<=13:=by unfold UpK at hk;omega
   rw[if_neg h7] at hT
   by_cases h13:k=13
   ·rw[if_pos h13] at hT
    exact⟨fun a=>held (a*n/m),fun hz=>by rw[hT];exact(if_neg hz).trans (Prod.ext (HNm.out hz).symm rfl),fun r1 e=>by rw[hT,e];rfl,fun r1 e W=>b1f k hc.2.1 hc.2.2 ⟨c,n,m,[x]⟩ (.slice (some ⟨b,off,none⟩) 1 cap) hc.1 HFt.out r1 (by rw[e] at hg;exact hg) (fun h=>by omega) hm ⟨_,_,_,rfl⟩ W _ (if_pos h13).symm⟩
   ·rw[if_neg h13] at hT
    exact⟨uF k,fun hz=>by rw[hT];exact(if_neg hz).trans (Prod.ext (HNm.out hz).symm rfl),fun r1 e=>by rw[hT,e];rfl,fun r1 e W=>b1f k hc.2.1 hc.2.2 ⟨c,n,m,[x]⟩ (.slice (some ⟨b,off,none⟩) 1 cap) hc.1 HFt.out r1 (by rw[e] at hg;exact hg) (fun h=>by have:=hb h;rw[e] at this;exact this) hm ⟨_,_,_,rfl⟩ W _ (if_neg h13).symm⟩)
 clear hs he ih hx Y0 Y1 Y2 B0 f0 s0 hr hQ hbl HT hb hm hg HFt HNm
 obtain⟨w0,hw0⟩:∃ w0,Hid (w0=((w.alloc (.cells (coL ⟨c,n,m,[x]⟩ (.slice (some ⟨b,off,none⟩) 1 cap)).toArray 30)).alloc (.cells #[.int .i64 E.rep,.slice a1 E.wins.length c1,.slice a2 E.crons.length c2] 40)).alloc (.cells #[.int .i64 0,.int .i64 0] 84)):=⟨_,a0a rfl⟩
 replace X0:Hid (Box w0 (w.heap.size) (coL ⟨c,n,m,[x]⟩ (.slice (some ⟨b,off,none⟩) 1 cap))):=by rw[hw0.out];exact X0
 replace X1:Hid (Box w0 (w.heap.size+1) ([.int .i64 E.rep,.slice a1 E.wins.length c1,.slice a2 E.crons.length c2])):=by rw[hw0.out];exact X1
 replace X2:Hid (Box w0 (w.heap.size+1+1) ([.int .i64 0,.int .i64 0])):=by rw[hw0.out];exact X2
 replace HB0:Hid (Below w.heap.size w w0):=by rw[hw0.out];exact HB0
 rcases hk with ⟨rfl,rfl⟩ | ⟨rfl,rfl⟩ | ⟨rfl,rfl⟩ | ⟨rfl,rfl⟩ | ⟨rfl,rfl⟩ | ⟨rfl,rfl⟩ | ⟨rfl,rfl⟩
 all_goals as_aux_lemma=>
  go_enter Tryz.func64,Tryz.ntmps64
  go_wp2_with fail
  rw[<-hw0.out]
  clear hw0
  have c3:=X0.out.cell 3 _ rfl
  obtain⟨e0,e1,e2⟩:=Box.c3 X1.out
  obtain⟨p0,p1,p2,p3⟩:=HF0.out.keep (w':=w0) (fun q=>HB0.out.cell (p:=⟨b,q,none⟩) HBl.out)
  simp only[Nat.zero_mul,Nat.add_zero] at p0 p1 p2 p3
  change _=some (Value.int .i64 x.op) at p0
  change _=some (Value.int .i64 x.n) at p1
  change _=some (Value.int .i64 x.m) at p2
  change _=some (Value.slice ad0 x.parts.length cap0) at p3
  have lc:=X0.out.lt
  have le:=X1.out.lt
  have lb:=ZA HBl.out HB0.out.size
  obtain⟨G,hG⟩:∃ G:Nat->World->Prop,Hid (G=fun dd w'=>Box w' dd [.int .i64 r.2,.int .i64 r.1]/\Below w0.heap.size w0 w'):=⟨_,a0a rfl⟩
  have nlb:b≠w0.heap.size:=Nat.ne_of_lt lb
  have nlb':w0.heap.size≠b:=Nat.ne_of_gt lb
  have nlc:w.heap.size≠w0.heap.size:=Nat.ne_of_lt lc
  have nlc':w0.heap.size≠w.heap.size:=Nat.ne_of_gt lc
  have nle:w.heap.size+1≠w0.heap.size:=Nat.ne_of_lt le
  have nle':w0.heap.size≠w.heap.size+1:=Nat.ne_of_gt le
  apply b6w G
  case hreg=>
   go_region_held3 (fun w'=>w'.cell? ⟨w.heap.size,3,none⟩=some (.slice (some ⟨b,off,none⟩) 1 cap)/\w'.cell? ⟨w.heap.size+1,0,none⟩=some (.int .i64 E.rep)/\w'.cell? ⟨w.heap.size+1,1,none⟩=some (.slice a1 E.wins.length c1)/\w'.cell? ⟨w.heap.size+1,2,none⟩=some (.slice a2 E.crons.length c2)/\w'.cell? ⟨b,off,none⟩=some (.int .i64 x.op)/\w'.cell? ⟨b,off+1,none⟩=some (.int .i64 x.n)/\w'.cell? ⟨b,off+2,none⟩=some (.int .i64 x.m)/\w'.cell? ⟨b,off+3,none⟩=some (.slice ad0 x.parts.length cap0)) (simp[go_sem, *]) (first|(go_at_call 64;refine ZE (HC.out _ (by exact a0e HB0.out _)) ?_;rintro e u1 ⟨rfl,b⟩;have Hu1:Hid (Below w0.heap.size w0 u1):=⟨b.os,b.tape,b.output,b.size,b.block⟩;have g0:=fun p v hp hv=>(Hu1.out.cell (p:=p) hp).trans (hv:w0.cell? p=some v);replace c3:=g0 _ _ lc c3;replace e0:=g0 _ _ le e0;replace e1:=g0 _ _ le e1;replace e2:=g0 _ _ le e2;replace p0:=g0 _ _ lb p0;replace p1:=g0 _ _ lb p1;replace p2:=g0 _ _ lb p2;replace p3:=g0 _ _ lb p3;replace lb:=ZA lb Hu1.out.size;replace lc:=ZA lc Hu1.out.size;replace le:=ZA le Hu1.out.size;clear g0;clear b)|(go_at_call 64;refine ZE (HC.out _ (by exact a0b HB0.out ((a0e (ZD w0.heap.size w0) _).alloc (ZB _) _) HB0.out.size)) ?_;rintro e u2 ⟨rfl,b⟩;have Hu2:Hid (Below w0.heap.size w0 u2):=a0a (a0b ((a0e (ZD w0.heap.size w0) _).alloc (ZB _) _) b ((a0e (ZD w0.heap.size w0) _).alloc (ZB _) _).size);have Zz:Box u2 w0.heap.size [.int .i64 0,.int .i64 0]:=Box.next (Box.new (w0.drewN _) [.int .i64 0,.int .i64 0] 84) b;have z0:=Zz.cell 0 _ rfl;have z1:=Zz.cell 1 _ rfl;have z2:=Zz.free 0 (by simp);have z3:=Zz.free 1 (by simp);have zl:=Zz.lt;have HZ:=a0a Zz;clear Zz;have g0:=fun p v hp hv=>(Hu2.out.cell (p:=p) hp).trans (hv:w0.cell? p=some v);replace c3:=g0 _ _ lc c3;replace e0:=g0 _ _ le e0;replace e1:=g0 _ _ le e1;replace e2:=g0 _ _ le e2;replace p0:=g0 _ _ lb p0;replace p1:=g0 _ _ lb p1;replace p2:=g0 _ _ lb p2;replace p3:=g0 _ _ lb p3;replace lb:=ZA lb Hu2.out.size;replace lc:=ZA lc Hu2.out.size;replace le:=ZA le Hu2.out.size;clear g0;clear b))
   ·first|(obtain⟨dd,hdd⟩:∃ dd,dd=u1.heap.size:=⟨_,rfl⟩;rw[<-hdd];refine⟨dd,rfl,?_⟩;rw[hG.out,hdd];exact⟨Box.new u1 [.int .i64 r.2,.int .i64 r.1] 84,Hu1.out.alloc Hu1.out.size _⟩)|(obtain⟨dd,hdd⟩:∃ dd,dd=w0.heap.size:=⟨_,rfl⟩;rw[<-hdd];refine⟨dd,rfl,?_⟩;rw[hG.out,hdd];exact⟨(HZ.out.set 0 (by simp) (.int .i64 r.2)).set 1 (by simp) (.int .i64 r.1),(Hu2.out.setCell (p:=⟨_,0,none⟩) (ZB _) _).setCell (p:=⟨_,1,none⟩) (ZB _) _⟩)
   ·first|(obtain⟨dd,hdd⟩:∃ dd,dd=u1.heap.size:=⟨_,rfl⟩;rw[<-hdd];refine⟨dd,rfl,?_⟩;rw[hG.out,hdd];exact⟨Box.new u1 [.int .i64 r.2,.int .i64 r.1] 84,Hu1.out.alloc Hu1.out.size _⟩)|(obtain⟨dd,hdd⟩:∃ dd,dd=w0.heap.size:=⟨_,rfl⟩;rw[<-hdd];refine⟨dd,rfl,?_⟩;rw[hG.out,hdd];exact⟨(HZ.out.set 0 (by simp) (.int .i64 r.2)).set 1 (by simp) (.int .i64 r.1),(Hu2.out.setCell (p:=⟨_,0,none⟩) (ZB _) _).setCell (p:=⟨_,1,none⟩) (ZB _) _⟩)
  case hrest=>
  intro aD wa hGd
  rw[hG.out] at hGd
  obtain⟨Ya,ka⟩:=hGd
  clear c3 e0 e1 e2 p0 p1 p2 p3 lb lc le nlb nlb' nlc nlc' nle nle'
  clear hG G
  have HB1:=kb HB0 ka
  replace X0:=kn X0 ka
  replace X1:=kn X1 ka
  replace X2:=kn X2 ka
  have Xa:=a0a Ya
  clear ka Ya
  obtain⟨c0,c1,c2,c3⟩:=Box.c4 X0.out
  have lc:=X0.out.lt
  obtain⟨z0,z1⟩:=Box.c2 Xa.out
  have zl:=Xa.out.lt
  obtain⟨q0,q1⟩:=Box.c2 X2.out
  have q2:=X2.out.free 0 (by simp)
  have q3:=X2.out.free 1 (by simp)
  have ql:=X2.out.lt
  by_cases hz:r.2=0
  case neg=>
   have d0:(r.2 != 0)=true:=by simpa using hz
   have hQr:Hid (Q=r):=by
    obtain⟨gF,q1,-,-⟩:=HG.out
    exact q1 hz
   clear HG HC
   go_wp2_with fail
   refine bodyPost_ret (v:=reV r) (by simp[results,Tryz.results64,go_sem, *]) rfl ?_
   exact⟨by rw[hQr.out],(HB1.out.setCell (p:=⟨w.heap.size+1+1,0,none⟩) (by simp;omega) _).setCell (p:=⟨w.heap.size+1+1,1,none⟩) (by simp;omega) _⟩
  obtain⟨r1,r2⟩:=r
  obtain rfl:r2=0:=hz
  change _=some (Value.int .i64 0) at z0
  change _=some (Value.int .i64 r1) at z1
  obtain⟨gF,hQr,HU⟩:∃ gF:Int->Int,Hid (Q=okR (gF r1))/\Hid (∀ W:World,Calls Tryz.prog 114 #[coV ⟨_,n,m,[x]⟩ (.slice (some ⟨b,off,none⟩) 1 cap),.int .i64 r1] W fun e w'=>e=.returned (reV (okR (gF r1)))/\Below W.heap.size W w'):=by
   obtain⟨gF,-,q2,q3⟩:=HG.out
   exact⟨gF,a0a (q2 r1 rfl),a0a (q3 r1 rfl)⟩
  obtain⟨gv,hgv⟩:∃ gv,gv=gF r1:=⟨_,rfl⟩
  rw[<-hgv] at hQr HU
  clear HG HC hgv
  go_wp2_with fail
  refine ZE (HU.out _) ?_
  rintro e w2 ⟨rfl,b2⟩
  have HB2:=kb HB1 b2
  replace X2:=kn X2 b2
  clear b2 c0 c1 c2 c3 lc z0 z1 zl q0 q1 q2 q3 ql
  obtain⟨q0,q1⟩:=Box.c2 X2.out
  have q2:=X2.out.free 0 (by simp)
  have q3:=X2.out.free 1 (by simp)
  have ql:=X2.out.lt
  go_wp2_with fail
  refine bodyPost_ret (v:=reV (okR gv)) (by simp[results,Tryz.results64,go_sem, *]) rfl ?_
  exact⟨by rw[hQr.out],(HB2.out.setCell (p:=⟨w.heap.size+1+1,0,none⟩) (by simp;omega) _).setCell (p:=⟨w.heap.size+1+1,1,none⟩) (by simp;omega) _⟩
theorem a3V (E:a0u)(k:Nat)(n m:Int)(x:Co)(hk:k=7\/k=8\/k=9\/k=10\/k=11\/k=12\/k=13)(hm:k=13->0<=n/\1<=m)(hb:k=9->(a0d E x).1=0\/(a0d E x).1=1)(ih:REv E x)(hg:C64 (a0d E x).1):REv E ⟨(k:Int),n,m,[x]⟩:=by
 have hu:UpK k (k:Int):=by unfold UpK;rcases hk with rfl | rfl | rfl | rfl | rfl | rfl | rfl<;>simp
 exact b7v E k (k:Int) n m x hu hm hb ih hg
end Go.Proofs.YtbddbnjhmdbkbaaGreatDoor
