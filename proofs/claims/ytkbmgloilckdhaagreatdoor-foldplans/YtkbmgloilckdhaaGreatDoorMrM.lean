import Derived.Test.YtkbmgloilckdhaaGreatDoorMgH
import Derived.Test.YtkbmgloilckdhaaGreatDoorMgG
namespace Go.Proofs.YtkbmgloilckdhaaGreatDoor
open Go.RowKit
abbrev reV (r:Rs):Value:=.agg #[.int .i64 r.2,.int .i64 r.1]
set_option maxHeartbeats 1000000 in
theorem a1C (n:Int)(w:World):Calls Tryz.prog 155 #[.int .i64 n] w fun e w'=>e=.returned (reV (okR n))/\Below w.heap.size w w':=by
 go_enter Tryz.func155,Tryz.ntmps155
 go_wp2_with fail
 refine bodyPost_ret (v:=reV (okR n)) (by simp[results,Tryz.results155,go_sem, *]) rfl ?_
 exact⟨rfl,(Below.refl _ _).alloc (Nat.le_refl _) _⟩
set_option maxHeartbeats 1000000 in
theorem a2H (b:Bool)(w:World):Calls Tryz.prog 157 #[.bool b] w fun e w'=>e=.returned (reV (okR (b2i b)))/\Below w.heap.size w w':=by
 cases b
 ·go_enter Tryz.func157,Tryz.ntmps157
  go_wp2_with fail
  refine bodyPost_ret (v:=reV (okR 0)) (by simp[results,Tryz.results157,go_sem, *]) rfl ?_
  exact⟨rfl,(Below.refl _ _).alloc (Nat.le_refl _) _⟩
 ·go_enter Tryz.func157,Tryz.ntmps157
  go_wp2_with fail
  refine bodyPost_ret (v:=reV (okR 1)) (by simp[results,Tryz.results157,go_sem, *]) rfl ?_
  exact⟨rfl,(Below.refl _ _).alloc (Nat.le_refl _) _⟩
set_option maxHeartbeats 4000000 in
theorem a3f (k:Nat)(h1:8<=k)(h2:k<=13)(c:Co)(v:Value)(hc:c.op=(k:Int))(hf:a6R c)(a:Int)(ha:C64 a)(hb:k=9->a=0\/a=1)(hm:k=13->0<=c.n/\1<=c.m)(hv:∃ ad n cap,v=.slice ad n cap)(w:World)(R:Int)(hR:R=if k=13 then held (a*c.n/c.m) else uF k a):Calls Tryz.prog 158 #[coV c v,.int .i64 a] w fun e w'=>e=.returned (reV (okR R))/\Below w.heap.size w w':=by
 obtain⟨ad,n,cap,rfl⟩:=hv
 obtain⟨Y0,Y1,B0⟩:=a0e w 30 118 (coL c (.slice ad n cap)) [.int .i64 0,.int .i64 0]
 have X0:=a0a Y0
 have X1:=a0a Y1
 have HB0:=a0a B0
 clear Y0 Y1 B0
 obtain⟨a0,a1⟩:=ha
 have hks:k=8\/k=9\/k=10\/k=11\/k=12\/k=13:=by omega
 clear h1 h2
 obtain⟨c0,c1,c2⟩:=Box.c3 X0.out
 have l0:=X0.out.lt
 rcases hks with rfl | rfl | rfl | rfl | rfl | rfl
 ·obtain⟨op,nn,mm,ps⟩:=c
  obtain rfl:op=8:=hc
  obtain⟨⟨o1,o2⟩,⟨n1,n2⟩,m1,m2⟩:=hf
  dsimp only at c0 c1 c2 hR hm n1 n2 m1 m2
  have HC:=a0a (fun W:World=>b2M a a0 (by omega) W)
  have hR2:=a0a hR
  have hE:Hid (R=a1h (-a)):=by show _=_;rw[hR];rfl
  clear hR hm hb o1 o2 hR2
  go_enter Tryz.func158,Tryz.ntmps158
  go_wp2_with fail
  refine Calls.mono (HC.out _) ?_
  rintro e w1 ⟨rfl,b1⟩
  have B1:=kb HB0 b1
  replace X1:=kn X1 b1
  clear b1 c0 c1 c2 l0 X0 HB0
  go_wp2_with fail
  refine Calls.mono (a1C _ _) ?_
  rintro e w2 ⟨rfl,b2⟩
  have B2:=kb B1 b2
  replace X1:=kn X1 b2
  clear b2
  obtain⟨z0,z1⟩:=Box.c2 X1.out
  have f0:=X1.out.free 0 (by simp)
  have f1:=X1.out.free 1 (by simp)
  have zl:=X1.out.lt
  go_wp2_with fail
  refine bodyPost_ret (v:=reV (okR (a1h (-a)))) (by simp[results,Tryz.results158,go_sem, *]) rfl ?_
  exact⟨by rw[hE.out],(B2.out.setCell (p:=⟨w.heap.size+1,0,none⟩) (by simp) _).setCell (p:=⟨w.heap.size+1,1,none⟩) (by simp) _⟩
 ·obtain⟨op,nn,mm,ps⟩:=c
  obtain rfl:op=9:=hc
  obtain⟨⟨o1,o2⟩,⟨n1,n2⟩,m1,m2⟩:=hf
  dsimp only at c0 c1 c2 hR hm n1 n2 m1 m2
  have hR2:=a0a hR
  have hE:Hid (R=b2i (a==0)):=by
   show _=_
   rw[hR]
   rcases hb rfl with rfl | rfl<;>rfl
  clear hR hm hb o1 o2 hR2
  go_enter Tryz.func158,Tryz.ntmps158
  go_wp2_with fail
  have B1:=HB0
  clear c0 c1 c2 l0 X0 HB0
  refine Calls.mono (a2H _ _) ?_
  rintro e w2 ⟨rfl,b2⟩
  have B2:=kb B1 b2
  replace X1:=kn X1 b2
  clear b2
  obtain⟨z0,z1⟩:=Box.c2 X1.out
  have f0:=X1.out.free 0 (by simp)
  have f1:=X1.out.free 1 (by simp)
  have zl:=X1.out.lt
  go_wp2_with fail
  refine bodyPost_ret (v:=reV (okR (b2i (a==0)))) (by simp[results,Tryz.results158,go_sem, *]) rfl ?_
  exact⟨by rw[hE.out],(B2.out.setCell (p:=⟨w.heap.size+1,0,none⟩) (by simp) _).setCell (p:=⟨w.heap.size+1,1,none⟩) (by simp) _⟩
 ·obtain⟨op,nn,mm,ps⟩:=c
  obtain rfl:op=10:=hc
  obtain⟨⟨o1,o2⟩,⟨n1,n2⟩,m1,m2⟩:=hf
  dsimp only at c0 c1 c2 hR hm n1 n2 m1 m2
  have HC:=a0a (fun W:World=>b2W a a0 (by omega) W)
  have hR2:=a0a hR
  have hE:Hid (R=a1h a.natAbs):=by show _=_;rw[hR];rfl
  clear hR hm hb o1 o2 hR2
  go_enter Tryz.func158,Tryz.ntmps158
  go_wp2_with fail
  refine Calls.mono (HC.out _) ?_
  rintro e w1 ⟨rfl,b1⟩
  have B1:=kb HB0 b1
  replace X1:=kn X1 b1
  clear b1 c0 c1 c2 l0 X0 HB0
  go_wp2_with fail
  refine Calls.mono (a1C _ _) ?_
  rintro e w2 ⟨rfl,b2⟩
  have B2:=kb B1 b2
  replace X1:=kn X1 b2
  clear b2
  obtain⟨z0,z1⟩:=Box.c2 X1.out
  have f0:=X1.out.free 0 (by simp)
  have f1:=X1.out.free 1 (by simp)
  have zl:=X1.out.lt
  go_wp2_with fail
  refine bodyPost_ret (v:=reV (okR (a1h a.natAbs))) (by simp[results,Tryz.results158,go_sem, *]) rfl ?_
  exact⟨by rw[hE.out],(B2.out.setCell (p:=⟨w.heap.size+1,0,none⟩) (by simp) _).setCell (p:=⟨w.heap.size+1,1,none⟩) (by simp) _⟩
 ·obtain⟨op,nn,mm,ps⟩:=c
  obtain rfl:op=11:=hc
  obtain⟨⟨o1,o2⟩,⟨n1,n2⟩,m1,m2⟩:=hf
  dsimp only at c0 c1 c2 hR hm n1 n2 m1 m2
  have HC:=a0a (fun W:World=>b0y a a0 (by omega) W)
  have hR2:=a0a hR
  have hE:Hid (R=a1h (-((-a)/1000000)*1000000)):=by show _=_;rw[hR];rfl
  clear hR hm hb o1 o2 hR2
  go_enter Tryz.func158,Tryz.ntmps158
  go_wp2_with fail
  refine Calls.mono (HC.out _) ?_
  rintro e w1 ⟨rfl,b1⟩
  have B1:=kb HB0 b1
  replace X1:=kn X1 b1
  clear b1 c0 c1 c2 l0 X0 HB0
  go_wp2_with fail
  refine Calls.mono (a1C _ _) ?_
  rintro e w2 ⟨rfl,b2⟩
  have B2:=kb B1 b2
  replace X1:=kn X1 b2
  clear b2
  obtain⟨z0,z1⟩:=Box.c2 X1.out
  have f0:=X1.out.free 0 (by simp)
  have f1:=X1.out.free 1 (by simp)
  have zl:=X1.out.lt
  go_wp2_with fail
  refine bodyPost_ret (v:=reV (okR (a1h (-((-a)/1000000)*1000000)))) (by simp[results,Tryz.results158,go_sem, *]) rfl ?_
  exact⟨by rw[hE.out],(B2.out.setCell (p:=⟨w.heap.size+1,0,none⟩) (by simp) _).setCell (p:=⟨w.heap.size+1,1,none⟩) (by simp) _⟩
 ·obtain⟨op,nn,mm,ps⟩:=c
  obtain rfl:op=12:=hc
  obtain⟨⟨o1,o2⟩,⟨n1,n2⟩,m1,m2⟩:=hf
  dsimp only at c0 c1 c2 hR hm n1 n2 m1 m2
  have HC:=a0a (fun W:World=>a9l a a0 (by omega) W)
  have hR2:=a0a hR
  have hE:Hid (R=a1h (a/1000000*1000000)):=by show _=_;rw[hR];rfl
  clear hR hm hb o1 o2 hR2
  go_enter Tryz.func158,Tryz.ntmps158
  go_wp2_with fail
  refine Calls.mono (HC.out _) ?_
  rintro e w1 ⟨rfl,b1⟩
  have B1:=kb HB0 b1
  replace X1:=kn X1 b1
  clear b1 c0 c1 c2 l0 X0 HB0
  go_wp2_with fail
  refine Calls.mono (a1C _ _) ?_
  rintro e w2 ⟨rfl,b2⟩
  have B2:=kb B1 b2
  replace X1:=kn X1 b2
  clear b2
  obtain⟨z0,z1⟩:=Box.c2 X1.out
  have f0:=X1.out.free 0 (by simp)
  have f1:=X1.out.free 1 (by simp)
  have zl:=X1.out.lt
  go_wp2_with fail
  refine bodyPost_ret (v:=reV (okR (a1h (a/1000000*1000000)))) (by simp[results,Tryz.results158,go_sem, *]) rfl ?_
  exact⟨by rw[hE.out],(B2.out.setCell (p:=⟨w.heap.size+1,0,none⟩) (by simp) _).setCell (p:=⟨w.heap.size+1,1,none⟩) (by simp) _⟩
 ·obtain⟨op,nn,mm,ps⟩:=c
  obtain rfl:op=13:=hc
  obtain⟨⟨o1,o2⟩,⟨n1,n2⟩,m1,m2⟩:=hf
  dsimp only at c0 c1 c2 hR hm n1 n2 m1 m2
  have HC:=a0a (fun W:World=>a9k a nn mm a0 (by omega) (hm rfl).1 (by omega) (hm rfl).2 (by omega) W)
  have hR2:=a0a hR
  have hE:Hid (R=a1h (a*nn/mm)):=by show _=_;rw[hR];rfl
  clear hR hm hb o1 o2 hR2
  go_enter Tryz.func158,Tryz.ntmps158
  go_wp2_with fail
  refine Calls.mono (HC.out _) ?_
  rintro e w1 ⟨rfl,b1⟩
  have B1:=kb HB0 b1
  replace X1:=kn X1 b1
  clear b1 c0 c1 c2 l0 X0 HB0
  go_wp2_with fail
  refine Calls.mono (a1C _ _) ?_
  rintro e w2 ⟨rfl,b2⟩
  have B2:=kb B1 b2
  replace X1:=kn X1 b2
  clear b2
  obtain⟨z0,z1⟩:=Box.c2 X1.out
  have f0:=X1.out.free 0 (by simp)
  have f1:=X1.out.free 1 (by simp)
  have zl:=X1.out.lt
  go_wp2_with fail
  refine bodyPost_ret (v:=reV (okR (a1h (a*nn/mm)))) (by simp[results,Tryz.results158,go_sem, *]) rfl ?_
  exact⟨by rw[hE.out],(B2.out.setCell (p:=⟨w.heap.size+1,0,none⟩) (by simp) _).setCell (p:=⟨w.heap.size+1,1,none⟩) (by simp) _⟩
set_option maxHeartbeats 4000000 in
theorem b0t (k:Nat)(h1:14<=k)(h2:k<=24)(a b:Int)(ha:C64 a)(hb:C64 b)(w:World)(R:Rs)(hR:R=if k=17 then a8z a b else okR (bF k a b)):Calls Tryz.prog 159 #[.int .i64 (k:Int),.int .i64 a,.int .i64 b] w fun e w'=>e=.returned (reV R)/\Below w.heap.size w w':=by
 have X1:=a0a (Box.new w [.int .i64 0,.int .i64 0] 118)
 have HB0:=a0a ((Below.refl w.heap.size w).alloc (Nat.le_refl _) (.cells [.int .i64 0,.int .i64 0].toArray 118))
 obtain⟨a0,a1⟩:=ha
 obtain⟨b0,b1⟩:=hb
 have hks:k=14\/k=15\/k=16\/k=17\/k=18\/k=19\/k=20\/k=21\/k=22\/k=23\/k=24:=by omega
 clear h1 h2
 rcases hks with rfl | rfl | rfl | rfl | rfl | rfl | rfl | rfl | rfl | rfl | rfl
 ·have hE:Hid (R=okR (a1h (a+b))):=by show _=_;rw[hR];rfl
  have HC:=a0a (fun W:World=>b2V a b a0 (by omega) b0 (by omega) W)
  clear hR
  go_enter Tryz.func159,Tryz.ntmps159
  go_wp2_with fail
  refine Calls.mono (HC.out _) ?_
  rintro e w1 ⟨rfl,b1⟩
  have B1:=kb HB0 b1
  replace X1:=kn X1 b1
  clear b1 HB0
  go_wp2_with fail
  refine Calls.mono (a1C _ _) ?_
  rintro e w2 ⟨rfl,b2⟩
  have B2:=kb B1 b2
  replace X1:=kn X1 b2
  clear b2
  obtain⟨z0,z1⟩:=Box.c2 X1.out
  have f0:=X1.out.free 0 (by simp)
  have f1:=X1.out.free 1 (by simp)
  have zl:=X1.out.lt
  go_wp2_with fail
  refine bodyPost_ret (v:=reV (okR (a1h (a+b)))) (by simp[results,Tryz.results159,go_sem, *]) rfl ?_
  exact⟨by rw[hE.out],(B2.out.setCell (p:=⟨w.heap.size,0,none⟩) (by simp) _).setCell (p:=⟨w.heap.size,1,none⟩) (by simp) _⟩
 ·have hE:Hid (R=okR (a1h (a-b))):=by show _=_;rw[hR];rfl
  have HC:=a0a (fun W:World=>b2F a b a0 (by omega) b0 (by omega) W)
  clear hR
  go_enter Tryz.func159,Tryz.ntmps159
  go_wp2_with fail
  refine Calls.mono (HC.out _) ?_
  rintro e w1 ⟨rfl,b1⟩
  have B1:=kb HB0 b1
  replace X1:=kn X1 b1
  clear b1 HB0
  go_wp2_with fail
  refine Calls.mono (a1C _ _) ?_
  rintro e w2 ⟨rfl,b2⟩
  have B2:=kb B1 b2
  replace X1:=kn X1 b2
  clear b2
  obtain⟨z0,z1⟩:=Box.c2 X1.out
  have f0:=X1.out.free 0 (by simp)
  have f1:=X1.out.free 1 (by simp)
  have zl:=X1.out.lt
  go_wp2_with fail
  refine bodyPost_ret (v:=reV (okR (a1h (a-b)))) (by simp[results,Tryz.results159,go_sem, *]) rfl ?_
  exact⟨by rw[hE.out],(B2.out.setCell (p:=⟨w.heap.size,0,none⟩) (by simp) _).setCell (p:=⟨w.heap.size,1,none⟩) (by simp) _⟩
 ·have hE:Hid (R=okR (a1h (a*b/1000000))):=by show _=_;rw[hR];rfl
  have HC:=a0a (fun W:World=>b2N a b a0 (by omega) b0 (by omega) W)
  clear hR
  go_enter Tryz.func159,Tryz.ntmps159
  go_wp2_with fail
  refine Calls.mono (HC.out _) ?_
  rintro e w1 ⟨rfl,b1⟩
  have B1:=kb HB0 b1
  replace X1:=kn X1 b1
  clear b1 HB0
  go_wp2_with fail
  refine Calls.mono (a1C _ _) ?_
  rintro e w2 ⟨rfl,b2⟩
  have B2:=kb B1 b2
  replace X1:=kn X1 b2
  clear b2
  obtain⟨z0,z1⟩:=Box.c2 X1.out
  have f0:=X1.out.free 0 (by simp)
  have f1:=X1.out.free 1 (by simp)
  have zl:=X1.out.lt
  go_wp2_with fail
  refine bodyPost_ret (v:=reV (okR (a1h (a*b/1000000)))) (by simp[results,Tryz.results159,go_sem, *]) rfl ?_
  exact⟨by rw[hE.out],(B2.out.setCell (p:=⟨w.heap.size,0,none⟩) (by simp) _).setCell (p:=⟨w.heap.size,1,none⟩) (by simp) _⟩
 ·by_cases hz:b=0
  ·subst hz
   have hE:Hid (R=noR 2):=by show _=_;rw[hR];rfl
   have HC:=a0a (fun W:World=>b0x a W)
   clear hR
   go_enter Tryz.func159,Tryz.ntmps159
   go_wp2_with fail
   refine Calls.mono (HC.out _) ?_
   rintro e w1 ⟨rfl,b1⟩
   have B1:=kb HB0 b1
   replace X1:=kn X1 b1
   clear b1 HB0
   obtain⟨z0,z1⟩:=Box.c2 X1.out
   have f0:=X1.out.free 0 (by simp)
   have f1:=X1.out.free 1 (by simp)
   have zl:=X1.out.lt
   go_wp2_with fail
   refine bodyPost_ret (v:=reV (noR 2)) (by simp[results,Tryz.results159,go_sem, *]) rfl ?_
   exact⟨by rw[hE.out],(B1.out.setCell (p:=⟨w.heap.size,0,none⟩) (by simp) _).setCell (p:=⟨w.heap.size,1,none⟩) (by simp) _⟩
  ·have hE:Hid (R=okR (a1h (b2C (a*1000000) b))):=by show _=_;rw[hR];exact if_neg hz
   have HC:=a0a (fun W:World=>b2U a b a0 (by omega) b0 (by omega) hz W)
   clear hR
   go_enter Tryz.func159,Tryz.ntmps159
   go_wp2_with fail
   refine Calls.mono (HC.out _) ?_
   rintro e w1 ⟨rfl,b1⟩
   have B1:=kb HB0 b1
   replace X1:=kn X1 b1
   clear b1 HB0
   go_wp2_with fail
   refine Calls.mono (a1C _ _) ?_
   rintro e w2 ⟨rfl,b2⟩
   have B2:=kb B1 b2
   replace X1:=kn X1 b2
   clear b2
   obtain⟨z0,z1⟩:=Box.c2 X1.out
   have f0:=X1.out.free 0 (by simp)
   have f1:=X1.out.free 1 (by simp)
   have zl:=X1.out.lt
   go_wp2_with fail
   refine bodyPost_ret (v:=reV (okR (a1h (b2C (a*1000000) b)))) (by simp[results,Tryz.results159,go_sem, *]) rfl ?_
   exact⟨by rw[hE.out],(B2.out.setCell (p:=⟨w.heap.size,0,none⟩) (by simp) _).setCell (p:=⟨w.heap.size,1,none⟩) (by simp) _⟩
 ·have hE:Hid (R=okR (b2i (decide (a<b)))):=by show _=_;rw[hR];rfl
  clear hR
  go_enter Tryz.func159,Tryz.ntmps159
  go_wp2_with fail
  have B1:=HB0
  clear HB0
  refine Calls.mono (a2H _ _) ?_
  rintro e w2 ⟨rfl,b2⟩
  have B2:=kb B1 b2
  replace X1:=kn X1 b2
  clear b2
  obtain⟨z0,z1⟩:=Box.c2 X1.out
  have f0:=X1.out.free 0 (by simp)
  have f1:=X1.out.free 1 (by simp)
  have zl:=X1.out.lt
  go_wp2_with fail
  refine bodyPost_ret (v:=reV (okR (b2i (decide (a<b))))) (by simp[results,Tryz.results159,go_sem, *]) rfl ?_
  exact⟨by rw[hE.out],(B2.out.setCell (p:=⟨w.heap.size,0,none⟩) (by simp) _).setCell (p:=⟨w.heap.size,1,none⟩) (by simp) _⟩
 ·have hE:Hid (R=okR (b2i (decide (a<=b)))):=by show _=_;rw[hR];rfl
  clear hR
  go_enter Tryz.func159,Tryz.ntmps159
  go_wp2_with fail
  have B1:=HB0
  clear HB0
  refine Calls.mono (a2H _ _) ?_
  rintro e w2 ⟨rfl,b2⟩
  have B2:=kb B1 b2
  replace X1:=kn X1 b2
  clear b2
  obtain⟨z0,z1⟩:=Box.c2 X1.out
  have f0:=X1.out.free 0 (by simp)
  have f1:=X1.out.free 1 (by simp)
  have zl:=X1.out.lt
  go_wp2_with fail
  refine bodyPost_ret (v:=reV (okR (b2i (decide (a<=b))))) (by simp[results,Tryz.results159,go_sem, *]) rfl ?_
  exact⟨by rw[hE.out],(B2.out.setCell (p:=⟨w.heap.size,0,none⟩) (by simp) _).setCell (p:=⟨w.heap.size,1,none⟩) (by simp) _⟩
 ·have hE:Hid (R=okR (b2i (a==b))):=by show _=_;rw[hR];show okR (b2i (decide (a=b)))=_;congr 2
  clear hR
  go_enter Tryz.func159,Tryz.ntmps159
  go_wp2_with fail
  have B1:=HB0
  clear HB0
  refine Calls.mono (a2H _ _) ?_
  rintro e w2 ⟨rfl,b2⟩
  have B2:=kb B1 b2
  replace X1:=kn X1 b2
  clear b2
  obtain⟨z0,z1⟩:=Box.c2 X1.out
  have f0:=X1.out.free 0 (by simp)
  have f1:=X1.out.free 1 (by simp)
  have zl:=X1.out.lt
  go_wp2_with fail
  refine bodyPost_ret (v:=reV (okR (b2i (a==b)))) (by simp[results,Tryz.results159,go_sem, *]) rfl ?_
  exact⟨by rw[hE.out],(B2.out.setCell (p:=⟨w.heap.size,0,none⟩) (by simp) _).setCell (p:=⟨w.heap.size,1,none⟩) (by simp) _⟩
 ·have hE:Hid (R=okR (b2i (decide (a>b)))):=by show _=_;rw[hR];rfl
  clear hR
  go_enter Tryz.func159,Tryz.ntmps159
  go_wp2_with fail
  have B1:=HB0
  clear HB0
  refine Calls.mono (a2H _ _) ?_
  rintro e w2 ⟨rfl,b2⟩
  have B2:=kb B1 b2
  replace X1:=kn X1 b2
  clear b2
  obtain⟨z0,z1⟩:=Box.c2 X1.out
  have f0:=X1.out.free 0 (by simp)
  have f1:=X1.out.free 1 (by simp)
  have zl:=X1.out.lt
  go_wp2_with fail
  refine bodyPost_ret (v:=reV (okR (b2i (decide (a>b))))) (by simp[results,Tryz.results159,go_sem, *]) rfl ?_
  exact⟨by rw[hE.out],(B2.out.setCell (p:=⟨w.heap.size,0,none⟩) (by simp) _).setCell (p:=⟨w.heap.size,1,none⟩) (by simp) _⟩
 ·have hE:Hid (R=okR (b2i (decide (a>=b)))):=by show _=_;rw[hR];rfl
  clear hR
  go_enter Tryz.func159,Tryz.ntmps159
  go_wp2_with fail
  have B1:=HB0
  clear HB0
  refine Calls.mono (a2H _ _) ?_
  rintro e w2 ⟨rfl,b2⟩
  have B2:=kb B1 b2
  replace X1:=kn X1 b2
  clear b2
  obtain⟨z0,z1⟩:=Box.c2 X1.out
  have f0:=X1.out.free 0 (by simp)
  have f1:=X1.out.free 1 (by simp)
  have zl:=X1.out.lt
  go_wp2_with fail
  refine bodyPost_ret (v:=reV (okR (b2i (decide (a>=b))))) (by simp[results,Tryz.results159,go_sem, *]) rfl ?_
  exact⟨by rw[hE.out],(B2.out.setCell (p:=⟨w.heap.size,0,none⟩) (by simp) _).setCell (p:=⟨w.heap.size,1,none⟩) (by simp) _⟩
 ·rcases Int.lt_trichotomy a b with h | h | h
  ·have hE:Hid (R=okR a):=by show _=_;rw[hR];show okR (min a b)=_;congr 1;omega
   have h3:a<=b:=by omega
   have h4:¬ b<a:=by omega
   have h5:¬ b<=a:=by omega
   clear hR
   go_enter Tryz.func159,Tryz.ntmps159
   go_wp2_with fail
   have B1:=HB0
   clear HB0
   refine Calls.mono (a1C _ _) ?_
   rintro e w2 ⟨rfl,b2⟩
   have B2:=kb B1 b2
   replace X1:=kn X1 b2
   clear b2
   obtain⟨z0,z1⟩:=Box.c2 X1.out
   have f0:=X1.out.free 0 (by simp)
   have f1:=X1.out.free 1 (by simp)
   have zl:=X1.out.lt
   go_wp2_with fail
   refine bodyPost_ret (v:=reV (okR a)) (by simp[results,Tryz.results159,go_sem, *]) rfl ?_
   exact⟨by rw[hE.out],(B2.out.setCell (p:=⟨w.heap.size,0,none⟩) (by simp) _).setCell (p:=⟨w.heap.size,1,none⟩) (by simp) _⟩
  ·have hE:Hid (R=okR a):=by show _=_;rw[hR];show okR (min a b)=_;congr 1;omega
   subst h
   clear hR
   go_enter Tryz.func159,Tryz.ntmps159
   go_wp2_with fail
   have B1:=HB0
   clear HB0
   refine Calls.mono (a1C _ _) ?_
   rintro e w2 ⟨rfl,b2⟩
   have B2:=kb B1 b2
   replace X1:=kn X1 b2
   clear b2
   obtain⟨z0,z1⟩:=Box.c2 X1.out
   have f0:=X1.out.free 0 (by simp)
   have f1:=X1.out.free 1 (by simp)
   have zl:=X1.out.lt
   go_wp2_with fail
   refine bodyPost_ret (v:=reV (okR a)) (by simp[results,Tryz.results159,go_sem, *]) rfl ?_
   exact⟨by rw[hE.out],(B2.out.setCell (p:=⟨w.heap.size,0,none⟩) (by simp) _).setCell (p:=⟨w.heap.size,1,none⟩) (by simp) _⟩
  ·have hE:Hid (R=okR b):=by show _=_;rw[hR];show okR (min a b)=_;congr 1;omega
   have h3:b<=a:=by omega
   have h4:¬ a<b:=by omega
   have h5:¬ a<=b:=by omega
   clear hR
   go_enter Tryz.func159,Tryz.ntmps159
   go_wp2_with fail
   have B1:=HB0
   clear HB0
   refine Calls.mono (a1C _ _) ?_
   rintro e w2 ⟨rfl,b2⟩
   have B2:=kb B1 b2
   replace X1:=kn X1 b2
   clear b2
   obtain⟨z0,z1⟩:=Box.c2 X1.out
   have f0:=X1.out.free 0 (by simp)
   have f1:=X1.out.free 1 (by simp)
   have zl:=X1.out.lt
   go_wp2_with fail
   refine bodyPost_ret (v:=reV (okR b)) (by simp[results,Tryz.results159,go_sem, *]) rfl ?_
   exact⟨by rw[hE.out],(B2.out.setCell (p:=⟨w.heap.size,0,none⟩) (by simp) _).setCell (p:=⟨w.heap.size,1,none⟩) (by simp) _⟩
 ·rcases Int.lt_trichotomy a b with h | h | h
  ·have hE:Hid (R=okR b):=by show _=_;rw[hR];show okR (max a b)=_;congr 1;omega
   have h3:a<=b:=by omega
   have h4:¬ b<a:=by omega
   have h5:¬ b<=a:=by omega
   clear hR
   go_enter Tryz.func159,Tryz.ntmps159
   go_wp2_with fail
   have B1:=HB0
   clear HB0
   refine Calls.mono (a1C _ _) ?_
   rintro e w2 ⟨rfl,b2⟩
   have B2:=kb B1 b2
   replace X1:=kn X1 b2
   clear b2
   obtain⟨z0,z1⟩:=Box.c2 X1.out
   have f0:=X1.out.free 0 (by simp)
   have f1:=X1.out.free 1 (by simp)
   have zl:=X1.out.lt
   go_wp2_with fail
   refine bodyPost_ret (v:=reV (okR b)) (by simp[results,Tryz.results159,go_sem, *]) rfl ?_
   exact⟨by rw[hE.out],(B2.out.setCell (p:=⟨w.heap.size,0,none⟩) (by simp) _).setCell (p:=⟨w.heap.size,1,none⟩) (by simp) _⟩
  ·have hE:Hid (R=okR a):=by show _=_;rw[hR];show okR (max a b)=_;congr 1;omega
   subst h
   clear hR
   go_enter Tryz.func159,Tryz.ntmps159
   go_wp2_with fail
   have B1:=HB0
   clear HB0
   refine Calls.mono (a1C _ _) ?_
   rintro e w2 ⟨rfl,b2⟩
   have B2:=kb B1 b2
   replace X1:=kn X1 b2
   clear b2
   obtain⟨z0,z1⟩:=Box.c2 X1.out
   have f0:=X1.out.free 0 (by simp)
   have f1:=X1.out.free 1 (by simp)
   have zl:=X1.out.lt
   go_wp2_with fail
   refine bodyPost_ret (v:=reV (okR a)) (by simp[results,Tryz.results159,go_sem, *]) rfl ?_
   exact⟨by rw[hE.out],(B2.out.setCell (p:=⟨w.heap.size,0,none⟩) (by simp) _).setCell (p:=⟨w.heap.size,1,none⟩) (by simp) _⟩
  ·have hE:Hid (R=okR a):=by show _=_;rw[hR];show okR (max a b)=_;congr 1;omega
   have h3:b<=a:=by omega
   have h4:¬ a<b:=by omega
   have h5:¬ a<=b:=by omega
   clear hR
   go_enter Tryz.func159,Tryz.ntmps159
   go_wp2_with fail
   have B1:=HB0
   clear HB0
   refine Calls.mono (a1C _ _) ?_
   rintro e w2 ⟨rfl,b2⟩
   have B2:=kb B1 b2
   replace X1:=kn X1 b2
   clear b2
   obtain⟨z0,z1⟩:=Box.c2 X1.out
   have f0:=X1.out.free 0 (by simp)
   have f1:=X1.out.free 1 (by simp)
   have zl:=X1.out.lt
   go_wp2_with fail
   refine bodyPost_ret (v:=reV (okR a)) (by simp[results,Tryz.results159,go_sem, *]) rfl ?_
   exact⟨by rw[hE.out],(B2.out.setCell (p:=⟨w.heap.size,0,none⟩) (by simp) _).setCell (p:=⟨w.heap.size,1,none⟩) (by simp) _⟩
def a4b (r:Rs):Prop:=r.2≠0->r.1=0
theorem a3L (n:Int):a4b (okR n):=fun h=>absurd rfl h
theorem a3M (n:Int):a4b (noR n):=fun _=>rfl
theorem b0H (f:Int->Int)(a:Rs):a4b (a0z f a):=by unfold a0z;split;exact a3L _;exact a3M _
theorem b0K (a b:Int):a4b (a8z a b):=by unfold a8z;split;exact a3M _;exact a3L _
theorem a7k (f:Int->Int->Rs)(hf:∀ a b,a4b (f a b))(a b:Rs):a4b (a0F f a b):=by unfold a0F;split;(split;exact hf _ _;exact a3M _);exact a3M _
theorem b0J (rs:List Rs)(h:∀ r,r∈rs->a4b r)(i:Nat):a4b (rs.getD i (0,0)):=by
 rw[List.getD_eq_getElem?_getD]
 cases e:rs[i]? with
 | none=>exact a3L 0
 | some r=>exact h r (List.mem_of_getElem? e)
theorem b0I {c:Prop}[Decidable c]{a b:Rs}(ha:a4b a)(hb:a4b b):a4b (if c then a else b):=by split<;>assumption
theorem a9p (E:a0C)(k:Nat)(c:Co)(rs:List Rs)(h:∀ r,r∈rs->a4b r):a4b (b2o E k c rs):=by
 unfold b2o
 repeat' (refine b0I ?_ ?_)
 all_goals first | exact a3L _ | exact a3M _ | exact b0H _ _ | exact a7k _ b0K _ _ | exact a7k _ (fun a b=>a3L _) _ _ | exact b0J _ h _
theorem a1j (E:a0C)(t:Co):a4b (a0f E t):=by
 induction t using Co.ind with
 | h t ih=>
   rw[a0i]
   exact a9p E _ t _ (fun r hr=>by obtain⟨x,hx,rfl⟩:=List.mem_map.1 hr;exact ih x hx)
def REv (E:a0C)(t:Co):Prop:=∀ (v v1 v2:Value) (w:World),a0m w t v->a6N w E v1 v2->Calls Tryz.prog 131 #[coV t v,a6O E v1 v2] w fun e w'=>e=.returned (reV (a0f E t))/\Below w.heap.size w w'
theorem a8S {P:Program}{c:Code}{K:Act->World->Prop}{Q':Exit->Act->World->Prop}{a:Act}{w:World}{F:Nat->Act}(G:Nat->World->Prop)
 (hreg:c.wp P (Exit.then (fun a' w'=>∃ dd,a'=F dd/\G dd w') Q') a w) (hrest:∀ dd w',G dd w'->K (F dd) w'):c.wp P (Exit.then K Q') a w:=by
 refine Code.wp_mono (fun e a w h=>?_) hreg
 cases e with
 | normal=>obtain⟨dd,rfl,hg⟩:=h;exact hrest _ _ hg
 | _=>exact h
set_option maxHeartbeats 2000000 in
theorem b0f (c:Co)(a:Int)(hc:c.op=7)(ad:Option Addr)(n cap:Nat)(w:World):Calls Tryz.prog 158 #[coV c (.slice ad n cap),.int .i64 a] w fun e w'=>e=.returned (reV (okR a))/\Below w.heap.size w w':=by
 obtain⟨op,nn,mm,ps⟩:=c
 obtain rfl:op=7:=hc
 obtain⟨Y0,Y1,B0⟩:=a0e w 30 118 (coL ⟨7,nn,mm,ps⟩ (.slice ad n cap)) [.int .i64 0,.int .i64 0]
 have X1:=a0a Y1
 have HB0:=a0a B0
 have c0:=Y0.cell 0 _ rfl
 have l0:=Y0.lt
 dsimp only at c0
 clear Y0 Y1 B0
 go_enter Tryz.func158,Tryz.ntmps158
 go_wp2_with fail
 refine Calls.mono (a1C _ _) ?_
 rintro e w2 ⟨rfl,b2⟩
 have B2:=kb HB0 b2
 replace X1:=kn X1 b2
 clear b2 c0 l0
 obtain⟨z0,z1⟩:=Box.c2 X1.out
 have f0:=X1.out.free 0 (by simp)
 have f1:=X1.out.free 1 (by simp)
 have zl:=X1.out.lt
 go_wp2_with fail
 refine bodyPost_ret (v:=reV (okR a)) (by simp[results,Tryz.results158,go_sem, *]) rfl ?_
 exact⟨rfl,(B2.out.setCell (p:=⟨w.heap.size+1,0,none⟩) (by simp) _).setCell (p:=⟨w.heap.size+1,1,none⟩) (by simp) _⟩
set_option maxHeartbeats 8000000 in
set_option maxRecDepth 20000 in
theorem a3x (E:a0C)(k:Nat)(n m:Int)(x:Co)(hk:k=7\/k=8\/k=9\/k=10\/k=11\/k=12\/k=13)(hm:k=13->0<=n/\1<=m)(hb:k=9->(a0f E x).1=0\/(a0f E x).1=1)(ih:REv E x)(hg:C64 (a0f E x).1):REv E ⟨(k:Int),n,m,[x]⟩:=by
 intro v v1 v2 w hs he
 have HS:=a0a hs
 have HE:=a0a he
 have HFt:=a0a hs.fit
 have HNm:=a0a (a1j E x)
 obtain⟨r,hr⟩:∃ r,Hid (r=a0f E x):=⟨_,a0a rfl⟩
 have HT:Hid (a0f E ⟨(k:Int),n,m,[x]⟩=if k=7 then r else if k=13 then a0z (fun a=>held (a*n/m)) r else a0z (uF k) r):=by
  show _=_
  rw[hr.out,a0i]
  rcases hk with rfl | rfl | rfl | rfl | rfl | rfl | rfl<;>rfl
 obtain⟨Q,hQ⟩:∃ Q,Hid (Q=a0f E ⟨(k:Int),n,m,[x]⟩):=⟨_,a0a rfl⟩
 rw[<-hQ.out]
 rw[<-hQ.out] at HT
 obtain⟨b,off,cap,rfl,-,-,hbl,hx⟩:=hs.parts.open (by show 0<1;decide)
 obtain⟨u0,f0,s0⟩:∃ u,a2G w b (off+0*4) x u/\a0m w x u:=hx 0 (by show 0<1;decide)
 obtain⟨a1,c1,a2,c2,rfl,rfl⟩:=he.shape
 have HC:Hid (∀ W,Below w.heap.size w W->Calls Tryz.prog 131 #[coV x u0,a6O E (.slice a1 E.wins.length c1) (.slice a2 E.crons.length c2)] W fun e w'=>e=.returned (reV r)/\Below W.heap.size W w'):=a0a (fun W hW=>by rw[hr.out];exact ih u0 _ _ W (s0.next hW) (HE.out.next hW))
 rw[<-hr.out] at hg hb HNm
 obtain⟨ad0,cap0,rfl,-,-⟩:=s0.parts.shape
 obtain⟨Y0,Y1,Y2,B0⟩:=a0I w 30 123 118 (coL ⟨(k:Int),n,m,[x]⟩ (.slice (some ⟨b,off,none⟩) 1 cap)) [.int .i64 E.rep,.slice a1 E.wins.length c1,.slice a2 E.crons.length c2] [.int .i64 0,.int .i64 0]
 have X0:=a0a Y0
 have X1:=a0a Y1
 have X2:=a0a Y2
 have HB0:=a0a B0
 have HF0:=a0a f0
 have HBl:=a0a hbl
 clear hs he ih hx Y0 Y1 Y2 B0 f0 s0 hr hQ hbl
 rcases hk with rfl | rfl | rfl | rfl | rfl | rfl | rfl
 ·obtain⟨w0,hw0⟩:∃ w0,Hid (w0=((w.alloc (.cells (coL ⟨7,n,m,[x]⟩ (.slice (some ⟨b,off,none⟩) 1 cap)).toArray 30)).alloc (.cells #[.int .i64 E.rep,.slice a1 E.wins.length c1,.slice a2 E.crons.length c2] 123)).alloc (.cells #[.int .i64 0,.int .i64 0] 118)):=⟨_,a0a rfl⟩
  replace X0:Hid (Box w0 (w.heap.size) (coL ⟨7,n,m,[x]⟩ (.slice (some ⟨b,off,none⟩) 1 cap))):=by rw[hw0.out];exact X0
  replace X1:Hid (Box w0 (w.heap.size+1) ([.int .i64 E.rep,.slice a1 E.wins.length c1,.slice a2 E.crons.length c2])):=by rw[hw0.out];exact X1
  replace X2:Hid (Box w0 (w.heap.size+1+1) ([.int .i64 0,.int .i64 0])):=by rw[hw0.out];exact X2
  replace HB0:Hid (Below w.heap.size w w0):=by rw[hw0.out];exact HB0
  go_enter Tryz.func131,Tryz.ntmps131
  go_wp2_with fail
  rw[<-hw0.out]
  clear hw0
  have c3:=X0.out.cell 3 _ rfl
  obtain⟨e0,e1,e2⟩:=Box.c3 X1.out
  obtain⟨p0,p1,p2,p3⟩:=HF0.out.keep (w':=w0) (fun q=>HB0.out.cell (p:=⟨b,q,none⟩) HBl.out)
  simp only[Nat.zero_mul,Nat.add_zero] at p0 p1 p2 p3
  change _=some (Value.int .i64 x.op) at p0
  change _=some (Value.int .i64 x.n) at p1
  change _=some (Value.int .i64 x.m) at p2
  change _=some (Value.slice ad0 x.parts.length cap0) at p3
  have lc:=X0.out.lt
  have le:=X1.out.lt
  have lb:=Nat.lt_of_lt_of_le HBl.out HB0.out.size
  obtain⟨G,hG⟩:∃ G:Nat->World->Prop,Hid (G=fun dd w'=>Box w' dd [.int .i64 r.2,.int .i64 r.1]/\Below w0.heap.size w0 w'):=⟨_,a0a rfl⟩
  have nlb:b≠w0.heap.size:=Nat.ne_of_lt lb
  have nlb':w0.heap.size≠b:=Nat.ne_of_gt lb
  have nlc:w.heap.size≠w0.heap.size:=Nat.ne_of_lt lc
  have nlc':w0.heap.size≠w.heap.size:=Nat.ne_of_gt lc
  have nle:w.heap.size+1≠w0.heap.size:=Nat.ne_of_lt le
  have nle':w0.heap.size≠w.heap.size+1:=Nat.ne_of_gt le
  apply a8S G
  case hreg=>
   go_region_held3 (fun w'=>w'.cell? ⟨w.heap.size,3,none⟩=some (.slice (some ⟨b,off,none⟩) 1 cap)/\w'.cell? ⟨w.heap.size+1,0,none⟩=some (.int .i64 E.rep)/\w'.cell? ⟨w.heap.size+1,1,none⟩=some (.slice a1 E.wins.length c1)/\w'.cell? ⟨w.heap.size+1,2,none⟩=some (.slice a2 E.crons.length c2)/\w'.cell? ⟨b,off,none⟩=some (.int .i64 x.op)/\w'.cell? ⟨b,off+1,none⟩=some (.int .i64 x.n)/\w'.cell? ⟨b,off+2,none⟩=some (.int .i64 x.m)/\w'.cell? ⟨b,off+3,none⟩=some (.slice ad0 x.parts.length cap0)) (simp[go_sem, *]) (first|(go_at_call 131;refine Calls.mono (HC.out _ (by exact a0j HB0.out _)) ?_;rintro e u1 ⟨rfl,b⟩;have Hu1:Hid (Below w0.heap.size w0 u1):=⟨b.os,b.tape,b.output,b.size,b.block⟩;have g0:=fun p v hp hv=>(Hu1.out.cell (p:=p) hp).trans (hv:w0.cell? p=some v);replace c3:=g0 _ _ lc c3;replace e0:=g0 _ _ le e0;replace e1:=g0 _ _ le e1;replace e2:=g0 _ _ le e2;replace p0:=g0 _ _ lb p0;replace p1:=g0 _ _ lb p1;replace p2:=g0 _ _ lb p2;replace p3:=g0 _ _ lb p3;replace lb:=Nat.lt_of_lt_of_le lb Hu1.out.size;replace lc:=Nat.lt_of_lt_of_le lc Hu1.out.size;replace le:=Nat.lt_of_lt_of_le le Hu1.out.size;clear g0;clear b)|(go_at_call 131;refine Calls.mono (HC.out _ (by exact a0b HB0.out ((a0j (Below.refl w0.heap.size w0) _).alloc (Nat.le_refl _) _) HB0.out.size)) ?_;rintro e u2 ⟨rfl,b⟩;have Hu2:Hid (Below w0.heap.size w0 u2):=a0a (a0b ((a0j (Below.refl w0.heap.size w0) _).alloc (Nat.le_refl _) _) b ((a0j (Below.refl w0.heap.size w0) _).alloc (Nat.le_refl _) _).size);have Zz:Box u2 w0.heap.size [.int .i64 0,.int .i64 0]:=Box.next (Box.new (w0.drewN _) [.int .i64 0,.int .i64 0] 118) b;have z0:=Zz.cell 0 _ rfl;have z1:=Zz.cell 1 _ rfl;have z2:=Zz.free 0 (by simp);have z3:=Zz.free 1 (by simp);have zl:=Zz.lt;have HZ:=a0a Zz;clear Zz;have g0:=fun p v hp hv=>(Hu2.out.cell (p:=p) hp).trans (hv:w0.cell? p=some v);replace c3:=g0 _ _ lc c3;replace e0:=g0 _ _ le e0;replace e1:=g0 _ _ le e1;replace e2:=g0 _ _ le e2;replace p0:=g0 _ _ lb p0;replace p1:=g0 _ _ lb p1;replace p2:=g0 _ _ lb p2;replace p3:=g0 _ _ lb p3;replace lb:=Nat.lt_of_lt_of_le lb Hu2.out.size;replace lc:=Nat.lt_of_lt_of_le lc Hu2.out.size;replace le:=Nat.lt_of_lt_of_le le Hu2.out.size;clear g0;clear b))
   ·first|(obtain⟨dd,hdd⟩:∃ dd,dd=u1.heap.size:=⟨_,rfl⟩;rw[<-hdd];refine⟨dd,rfl,?_⟩;rw[hG.out,hdd];exact⟨Box.new u1 [.int .i64 r.2,.int .i64 r.1] 118,Hu1.out.alloc Hu1.out.size _⟩)|(obtain⟨dd,hdd⟩:∃ dd,dd=w0.heap.size:=⟨_,rfl⟩;rw[<-hdd];refine⟨dd,rfl,?_⟩;rw[hG.out,hdd];exact⟨(HZ.out.set 0 (by simp) (.int .i64 r.2)).set 1 (by simp) (.int .i64 r.1),(Hu2.out.setCell (p:=⟨_,0,none⟩) (Nat.le_refl _) _).setCell (p:=⟨_,1,none⟩) (Nat.le_refl _) _⟩)
   ·first|(obtain⟨dd,hdd⟩:∃ dd,dd=u1.heap.size:=⟨_,rfl⟩;rw[<-hdd];refine⟨dd,rfl,?_⟩;rw[hG.out,hdd];exact⟨Box.new u1 [.int .i64 r.2,.int .i64 r.1] 118,Hu1.out.alloc Hu1.out.size _⟩)|(obtain⟨dd,hdd⟩:∃ dd,dd=w0.heap.size:=⟨_,rfl⟩;rw[<-hdd];refine⟨dd,rfl,?_⟩;rw[hG.out,hdd];exact⟨(HZ.out.set 0 (by simp) (.int .i64 r.2)).set 1 (by simp) (.int .i64 r.1),(Hu2.out.setCell (p:=⟨_,0,none⟩) (Nat.le_refl _) _).setCell (p:=⟨_,1,none⟩) (Nat.le_refl _) _⟩)
  case hrest=>
  intro aD wa hGd
  rw[hG.out] at hGd
  obtain⟨Ya,ka⟩:=hGd
  clear c3 e0 e1 e2 p0 p1 p2 p3 lb lc le nlb nlb' nlc nlc' nle nle'
  clear hG G
  have HB1:=kb HB0 ka
  replace X0:=kn X0 ka
  replace X1:=kn X1 ka
  replace X2:=kn X2 ka
  have Xa:=a0a Ya
  clear ka Ya
  obtain⟨c0,c1,c2,c3⟩:=Box.c4 X0.out
  have lc:=X0.out.lt
  obtain⟨z0,z1⟩:=Box.c2 Xa.out
  have zl:=Xa.out.lt
  obtain⟨q0,q1⟩:=Box.c2 X2.out
  have q2:=X2.out.free 0 (by simp)
  have q3:=X2.out.free 1 (by simp)
  have ql:=X2.out.lt
  by_cases hz:r.2=0
  case neg=>
   have d0:(r.2 != 0)=true:=by simpa using hz
   have hQr:Hid (Q=r):=by
    show _=_
    rw[HT.out]
    rfl
   clear HT hb hm hg HC
   go_wp2_with fail
   refine bodyPost_ret (v:=reV r) (by simp[results,Tryz.results131,go_sem, *]) rfl ?_
   exact⟨by rw[hQr.out],(HB1.out.setCell (p:=⟨w.heap.size+1+1,0,none⟩) (by simp;omega) _).setCell (p:=⟨w.heap.size+1+1,1,none⟩) (by simp;omega) _⟩
  obtain⟨r1,r2⟩:=r
  obtain rfl:r2=0:=hz
  change _=some (Value.int .i64 0) at z0
  change _=some (Value.int .i64 r1) at z1
  have hQr:Hid (Q=okR (r1)):=by show _=_;rw[HT.out];rfl
  have HU:=a0a (fun W:World=>b0f ⟨7,n,m,[x]⟩ r1 rfl (some ⟨b,off,none⟩) 1 cap W)
  clear HT hb hm hg HC HNm
  go_wp2_with fail
  refine Calls.mono (HU.out _) ?_
  rintro e w2 ⟨rfl,b2⟩
  have HB2:=kb HB1 b2
  replace X2:=kn X2 b2
  clear b2 c0 c1 c2 c3 lc z0 z1 zl q0 q1 q2 q3 ql
  obtain⟨q0,q1⟩:=Box.c2 X2.out
  have q2:=X2.out.free 0 (by simp)
  have q3:=X2.out.free 1 (by simp)
  have ql:=X2.out.lt
  go_wp2_with fail
  refine bodyPost_ret (v:=reV (okR (r1))) (by simp[results,Tryz.results131,go_sem, *]) rfl ?_
  exact⟨by rw[hQr.out],(HB2.out.setCell (p:=⟨w.heap.size+1+1,0,none⟩) (by simp;omega) _).setCell (p:=⟨w.heap.size+1+1,1,none⟩) (by simp;omega) _⟩
 ·obtain⟨w0,hw0⟩:∃ w0,Hid (w0=((w.alloc (.cells (coL ⟨8,n,m,[x]⟩ (.slice (some ⟨b,off,none⟩) 1 cap)).toArray 30)).alloc (.cells #[.int .i64 E.rep,.slice a1 E.wins.length c1,.slice a2 E.crons.length c2] 123)).alloc (.cells #[.int .i64 0,.int .i64 0] 118)):=⟨_,a0a rfl⟩
  replace X0:Hid (Box w0 (w.heap.size) (coL ⟨8,n,m,[x]⟩ (.slice (some ⟨b,off,none⟩) 1 cap))):=by rw[hw0.out];exact X0
  replace X1:Hid (Box w0 (w.heap.size+1) ([.int .i64 E.rep,.slice a1 E.wins.length c1,.slice a2 E.crons.length c2])):=by rw[hw0.out];exact X1
  replace X2:Hid (Box w0 (w.heap.size+1+1) ([.int .i64 0,.int .i64 0])):=by rw[hw0.out];exact X2
  replace HB0:Hid (Below w.heap.size w w0):=by rw[hw0.out];exact HB0
  go_enter Tryz.func131,Tryz.ntmps131
  go_wp2_with fail
  rw[<-hw0.out]
  clear hw0
  have c3:=X0.out.cell 3 _ rfl
  obtain⟨e0,e1,e2⟩:=Box.c3 X1.out
  obtain⟨p0,p1,p2,p3⟩:=HF0.out.keep (w':=w0) (fun q=>HB0.out.cell (p:=⟨b,q,none⟩) HBl.out)
  simp only[Nat.zero_mul,Nat.add_zero] at p0 p1 p2 p3
  change _=some (Value.int .i64 x.op) at p0
  change _=some (Value.int .i64 x.n) at p1
  change _=some (Value.int .i64 x.m) at p2
  change _=some (Value.slice ad0 x.parts.length cap0) at p3
  have lc:=X0.out.lt
  have le:=X1.out.lt
  have lb:=Nat.lt_of_lt_of_le HBl.out HB0.out.size
  obtain⟨G,hG⟩:∃ G:Nat->World->Prop,Hid (G=fun dd w'=>Box w' dd [.int .i64 r.2,.int .i64 r.1]/\Below w0.heap.size w0 w'):=⟨_,a0a rfl⟩
  have nlb:b≠w0.heap.size:=Nat.ne_of_lt lb
  have nlb':w0.heap.size≠b:=Nat.ne_of_gt lb
  have nlc:w.heap.size≠w0.heap.size:=Nat.ne_of_lt lc
  have nlc':w0.heap.size≠w.heap.size:=Nat.ne_of_gt lc
  have nle:w.heap.size+1≠w0.heap.size:=Nat.ne_of_lt le
  have nle':w0.heap.size≠w.heap.size+1:=Nat.ne_of_gt le
  apply a8S G
  case hreg=>
   go_region_held3 (fun w'=>w'.cell? ⟨w.heap.size,3,none⟩=some (.slice (some ⟨b,off,none⟩) 1 cap)/\w'.cell? ⟨w.heap.size+1,0,none⟩=some (.int .i64 E.rep)/\w'.cell? ⟨w.heap.size+1,1,none⟩=some (.slice a1 E.wins.length c1)/\w'.cell? ⟨w.heap.size+1,2,none⟩=some (.slice a2 E.crons.length c2)/\w'.cell? ⟨b,off,none⟩=some (.int .i64 x.op)/\w'.cell? ⟨b,off+1,none⟩=some (.int .i64 x.n)/\w'.cell? ⟨b,off+2,none⟩=some (.int .i64 x.m)/\w'.cell? ⟨b,off+3,none⟩=some (.slice ad0 x.parts.length cap0)) (simp[go_sem, *]) (first|(go_at_call 131;refine Calls.mono (HC.out _ (by exact a0j HB0.out _)) ?_;rintro e u1 ⟨rfl,b⟩;have Hu1:Hid (Below w0.heap.size w0 u1):=⟨b.os,b.tape,b.output,b.size,b.block⟩;have g0:=fun p v hp hv=>(Hu1.out.cell (p:=p) hp).trans (hv:w0.cell? p=some v);replace c3:=g0 _ _ lc c3;replace e0:=g0 _ _ le e0;replace e1:=g0 _ _ le e1;replace e2:=g0 _ _ le e2;replace p0:=g0 _ _ lb p0;replace p1:=g0 _ _ lb p1;replace p2:=g0 _ _ lb p2;replace p3:=g0 _ _ lb p3;replace lb:=Nat.lt_of_lt_of_le lb Hu1.out.size;replace lc:=Nat.lt_of_lt_of_le lc Hu1.out.size;replace le:=Nat.lt_of_lt_of_le le Hu1.out.size;clear g0;clear b)|(go_at_call 131;refine Calls.mono (HC.out _ (by exact a0b HB0.out ((a0j (Below.refl w0.heap.size w0) _).alloc (Nat.le_refl _) _) HB0.out.size)) ?_;rintro e u2 ⟨rfl,b⟩;have Hu2:Hid (Below w0.heap.size w0 u2):=a0a (a0b ((a0j (Below.refl w0.heap.size w0) _).alloc (Nat.le_refl _) _) b ((a0j (Below.refl w0.heap.size w0) _).alloc (Nat.le_refl _) _).size);have Zz:Box u2 w0.heap.size [.int .i64 0,.int .i64 0]:=Box.next (Box.new (w0.drewN _) [.int .i64 0,.int .i64 0] 118) b;have z0:=Zz.cell 0 _ rfl;have z1:=Zz.cell 1 _ rfl;have z2:=Zz.free 0 (by simp);have z3:=Zz.free 1 (by simp);have zl:=Zz.lt;have HZ:=a0a Zz;clear Zz;have g0:=fun p v hp hv=>(Hu2.out.cell (p:=p) hp).trans (hv:w0.cell? p=some v);replace c3:=g0 _ _ lc c3;replace e0:=g0 _ _ le e0;replace e1:=g0 _ _ le e1;replace e2:=g0 _ _ le e2;replace p0:=g0 _ _ lb p0;replace p1:=g0 _ _ lb p1;replace p2:=g0 _ _ lb p2;replace p3:=g0 _ _ lb p3;replace lb:=Nat.lt_of_lt_of_le lb Hu2.out.size;replace lc:=Nat.lt_of_lt_of_le lc Hu2.out.size;replace le:=Nat.lt_of_lt_of_le le Hu2.out.size;clear g0;clear b))
   ·first|(obtain⟨dd,hdd⟩:∃ dd,dd=u1.heap.size:=⟨_,rfl⟩;rw[<-hdd];refine⟨dd,rfl,?_⟩;rw[hG.out,hdd];exact⟨Box.new u1 [.int .i64 r.2,.int .i64 r.1] 118,Hu1.out.alloc Hu1.out.size _⟩)|(obtain⟨dd,hdd⟩:∃ dd,dd=w0.heap.size:=⟨_,rfl⟩;rw[<-hdd];refine⟨dd,rfl,?_⟩;rw[hG.out,hdd];exact⟨(HZ.out.set 0 (by simp) (.int .i64 r.2)).set 1 (by simp) (.int .i64 r.1),(Hu2.out.setCell (p:=⟨_,0,none⟩) (Nat.le_refl _) _).setCell (p:=⟨_,1,none⟩) (Nat.le_refl _) _⟩)
   ·first|(obtain⟨dd,hdd⟩:∃ dd,dd=u1.heap.size:=⟨_,rfl⟩;rw[<-hdd];refine⟨dd,rfl,?_⟩;rw[hG.out,hdd];exact⟨Box.new u1 [.int .i64 r.2,.int .i64 r.1] 118,Hu1.out.alloc Hu1.out.size _⟩)|(obtain⟨dd,hdd⟩:∃ dd,dd=w0.heap.size:=⟨_,rfl⟩;rw[<-hdd];refine⟨dd,rfl,?_⟩;rw[hG.out,hdd];exact⟨(HZ.out.set 0 (by simp) (.int .i64 r.2)).set 1 (by simp) (.int .i64 r.1),(Hu2.out.setCell (p:=⟨_,0,none⟩) (Nat.le_refl _) _).setCell (p:=⟨_,1,none⟩) (Nat.le_refl _) _⟩)
  case hrest=>
  intro aD wa hGd
  rw[hG.out] at hGd
  obtain⟨Ya,ka⟩:=hGd
  clear c3 e0 e1 e2 p0 p1 p2 p3 lb lc le nlb nlb' nlc nlc' nle nle'
  clear hG G
  have HB1:=kb HB0 ka
  replace X0:=kn X0 ka
  replace X1:=kn X1 ka
  replace X2:=kn X2 ka
  have Xa:=a0a Ya
  clear ka Ya
  obtain⟨c0,c1,c2,c3⟩:=Box.c4 X0.out
  have lc:=X0.out.lt
  obtain⟨z0,z1⟩:=Box.c2 Xa.out
  have zl:=Xa.out.lt
  obtain⟨q0,q1⟩:=Box.c2 X2.out
  have q2:=X2.out.free 0 (by simp)
  have q3:=X2.out.free 1 (by simp)
  have ql:=X2.out.lt
  by_cases hz:r.2=0
  case neg=>
   have d0:(r.2 != 0)=true:=by simpa using hz
   have hQr:Hid (Q=r):=by
    show _=_
    rw[HT.out]
    have e:a0z (uF 8) r=noR r.2:=if_neg hz
    exact e.trans (Prod.ext (HNm.out hz).symm rfl)
   clear HT hb hm hg HC
   go_wp2_with fail
   refine bodyPost_ret (v:=reV r) (by simp[results,Tryz.results131,go_sem, *]) rfl ?_
   exact⟨by rw[hQr.out],(HB1.out.setCell (p:=⟨w.heap.size+1+1,0,none⟩) (by simp;omega) _).setCell (p:=⟨w.heap.size+1+1,1,none⟩) (by simp;omega) _⟩
  obtain⟨r1,r2⟩:=r
  obtain rfl:r2=0:=hz
  change _=some (Value.int .i64 0) at z0
  change _=some (Value.int .i64 r1) at z1
  have hQr:Hid (Q=okR (uF 8 r1)):=by show _=_;rw[HT.out];rfl
  have HU:=a0a (fun W:World=>a3f 8 (by decide) (by decide) ⟨8,n,m,[x]⟩ (.slice (some ⟨b,off,none⟩) 1 cap) rfl HFt.out r1 hg (fun h=>absurd h (by decide)) (fun h=>absurd h (by decide)) ⟨_,_,_,rfl⟩ W (uF 8 r1) rfl)
  clear HT hb hm hg HC HNm
  go_wp2_with fail
  refine Calls.mono (HU.out _) ?_
  rintro e w2 ⟨rfl,b2⟩
  have HB2:=kb HB1 b2
  replace X2:=kn X2 b2
  clear b2 c0 c1 c2 c3 lc z0 z1 zl q0 q1 q2 q3 ql
  obtain⟨q0,q1⟩:=Box.c2 X2.out
  have q2:=X2.out.free 0 (by simp)
  have q3:=X2.out.free 1 (by simp)
  have ql:=X2.out.lt
  go_wp2_with fail
  refine bodyPost_ret (v:=reV (okR (uF 8 r1))) (by simp[results,Tryz.results131,go_sem, *]) rfl ?_
  exact⟨by rw[hQr.out],(HB2.out.setCell (p:=⟨w.heap.size+1+1,0,none⟩) (by simp;omega) _).setCell (p:=⟨w.heap.size+1+1,1,none⟩) (by simp;omega) _⟩
 ·obtain⟨w0,hw0⟩:∃ w0,Hid (w0=((w.alloc (.cells (coL ⟨9,n,m,[x]⟩ (.slice (some ⟨b,off,none⟩) 1 cap)).toArray 30)).alloc (.cells #[.int .i64 E.rep,.slice a1 E.wins.length c1,.slice a2 E.crons.length c2] 123)).alloc (.cells #[.int .i64 0,.int .i64 0] 118)):=⟨_,a0a rfl⟩
  replace X0:Hid (Box w0 (w.heap.size) (coL ⟨9,n,m,[x]⟩ (.slice (some ⟨b,off,none⟩) 1 cap))):=by rw[hw0.out];exact X0
  replace X1:Hid (Box w0 (w.heap.size+1) ([.int .i64 E.rep,.slice a1 E.wins.length c1,.slice a2 E.crons.length c2])):=by rw[hw0.out];exact X1
  replace X2:Hid (Box w0 (w.heap.size+1+1) ([.int .i64 0,.int .i64 0])):=by rw[hw0.out];exact X2
  replace HB0:Hid (Below w.heap.size w w0):=by rw[hw0.out];exact HB0
  go_enter Tryz.func131,Tryz.ntmps131
  go_wp2_with fail
  rw[<-hw0.out]
  clear hw0
  have c3:=X0.out.cell 3 _ rfl
  obtain⟨e0,e1,e2⟩:=Box.c3 X1.out
  obtain⟨p0,p1,p2,p3⟩:=HF0.out.keep (w':=w0) (fun q=>HB0.out.cell (p:=⟨b,q,none⟩) HBl.out)
  simp only[Nat.zero_mul,Nat.add_zero] at p0 p1 p2 p3
  change _=some (Value.int .i64 x.op) at p0
  change _=some (Value.int .i64 x.n) at p1
  change _=some (Value.int .i64 x.m) at p2
  change _=some (Value.slice ad0 x.parts.length cap0) at p3
  have lc:=X0.out.lt
  have le:=X1.out.lt
  have lb:=Nat.lt_of_lt_of_le HBl.out HB0.out.size
  obtain⟨G,hG⟩:∃ G:Nat->World->Prop,Hid (G=fun dd w'=>Box w' dd [.int .i64 r.2,.int .i64 r.1]/\Below w0.heap.size w0 w'):=⟨_,a0a rfl⟩
  have nlb:b≠w0.heap.size:=Nat.ne_of_lt lb
  have nlb':w0.heap.size≠b:=Nat.ne_of_gt lb
  have nlc:w.heap.size≠w0.heap.size:=Nat.ne_of_lt lc
  have nlc':w0.heap.size≠w.heap.size:=Nat.ne_of_gt lc
  have nle:w.heap.size+1≠w0.heap.size:=Nat.ne_of_lt le
  have nle':w0.heap.size≠w.heap.size+1:=Nat.ne_of_gt le
  apply a8S G
  case hreg=>
   go_region_held3 (fun w'=>w'.cell? ⟨w.heap.size,3,none⟩=some (.slice (some ⟨b,off,none⟩) 1 cap)/\w'.cell? ⟨w.heap.size+1,0,none⟩=some (.int .i64 E.rep)/\w'.cell? ⟨w.heap.size+1,1,none⟩=some (.slice a1 E.wins.length c1)/\w'.cell? ⟨w.heap.size+1,2,none⟩=some (.slice a2 E.crons.length c2)/\w'.cell? ⟨b,off,none⟩=some (.int .i64 x.op)/\w'.cell? ⟨b,off+1,none⟩=some (.int .i64 x.n)/\w'.cell? ⟨b,off+2,none⟩=some (.int .i64 x.m)/\w'.cell? ⟨b,off+3,none⟩=some (.slice ad0 x.parts.length cap0)) (simp[go_sem, *]) (first|(go_at_call 131;refine Calls.mono (HC.out _ (by exact a0j HB0.out _)) ?_;rintro e u1 ⟨rfl,b⟩;have Hu1:Hid (Below w0.heap.size w0 u1):=⟨b.os,b.tape,b.output,b.size,b.block⟩;have g0:=fun p v hp hv=>(Hu1.out.cell (p:=p) hp).trans (hv:w0.cell? p=some v);replace c3:=g0 _ _ lc c3;replace e0:=g0 _ _ le e0;replace e1:=g0 _ _ le e1;replace e2:=g0 _ _ le e2;replace p0:=g0 _ _ lb p0;replace p1:=g0 _ _ lb p1;replace p2:=g0 _ _ lb p2;replace p3:=g0 _ _ lb p3;replace lb:=Nat.lt_of_lt_of_le lb Hu1.out.size;replace lc:=Nat.lt_of_lt_of_le lc Hu1.out.size;replace le:=Nat.lt_of_lt_of_le le Hu1.out.size;clear g0;clear b)|(go_at_call 131;refine Calls.mono (HC.out _ (by exact a0b HB0.out ((a0j (Below.refl w0.heap.size w0) _).alloc (Nat.le_refl _) _) HB0.out.size)) ?_;rintro e u2 ⟨rfl,b⟩;have Hu2:Hid (Below w0.heap.size w0 u2):=a0a (a0b ((a0j (Below.refl w0.heap.size w0) _).alloc (Nat.le_refl _) _) b ((a0j (Below.refl w0.heap.size w0) _).alloc (Nat.le_refl _) _).size);have Zz:Box u2 w0.heap.size [.int .i64 0,.int .i64 0]:=Box.next (Box.new (w0.drewN _) [.int .i64 0,.int .i64 0] 118) b;have z0:=Zz.cell 0 _ rfl;have z1:=Zz.cell 1 _ rfl;have z2:=Zz.free 0 (by simp);have z3:=Zz.free 1 (by simp);have zl:=Zz.lt;have HZ:=a0a Zz;clear Zz;have g0:=fun p v hp hv=>(Hu2.out.cell (p:=p) hp).trans (hv:w0.cell? p=some v);replace c3:=g0 _ _ lc c3;replace e0:=g0 _ _ le e0;replace e1:=g0 _ _ le e1;replace e2:=g0 _ _ le e2;replace p0:=g0 _ _ lb p0;replace p1:=g0 _ _ lb p1;replace p2:=g0 _ _ lb p2;replace p3:=g0 _ _ lb p3;replace lb:=Nat.lt_of_lt_of_le lb Hu2.out.size;replace lc:=Nat.lt_of_lt_of_le lc Hu2.out.size;replace le:=Nat.lt_of_lt_of_le le Hu2.out.size;clear g0;clear b))
   ·first|(obtain⟨dd,hdd⟩:∃ dd,dd=u1.heap.size:=⟨_,rfl⟩;rw[<-hdd];refine⟨dd,rfl,?_⟩;rw[hG.out,hdd];exact⟨Box.new u1 [.int .i64 r.2,.int .i64 r.1] 118,Hu1.out.alloc Hu1.out.size _⟩)|(obtain⟨dd,hdd⟩:∃ dd,dd=w0.heap.size:=⟨_,rfl⟩;rw[<-hdd];refine⟨dd,rfl,?_⟩;rw[hG.out,hdd];exact⟨(HZ.out.set 0 (by simp) (.int .i64 r.2)).set 1 (by simp) (.int .i64 r.1),(Hu2.out.setCell (p:=⟨_,0,none⟩) (Nat.le_refl _) _).setCell (p:=⟨_,1,none⟩) (Nat.le_refl _) _⟩)
   ·first|(obtain⟨dd,hdd⟩:∃ dd,dd=u1.heap.size:=⟨_,rfl⟩;rw[<-hdd];refine⟨dd,rfl,?_⟩;rw[hG.out,hdd];exact⟨Box.new u1 [.int .i64 r.2,.int .i64 r.1] 118,Hu1.out.alloc Hu1.out.size _⟩)|(obtain⟨dd,hdd⟩:∃ dd,dd=w0.heap.size:=⟨_,rfl⟩;rw[<-hdd];refine⟨dd,rfl,?_⟩;rw[hG.out,hdd];exact⟨(HZ.out.set 0 (by simp) (.int .i64 r.2)).set 1 (by simp) (.int .i64 r.1),(Hu2.out.setCell (p:=⟨_,0,none⟩) (Nat.le_refl _) _).setCell (p:=⟨_,1,none⟩) (Nat.le_refl _) _⟩)
  case hrest=>
  intro aD wa hGd
  rw[hG.out] at hGd
  obtain⟨Ya,ka⟩:=hGd
  clear c3 e0 e1 e2 p0 p1 p2 p3 lb lc le nlb nlb' nlc nlc' nle nle'
  clear hG G
  have HB1:=kb HB0 ka
  replace X0:=kn X0 ka
  replace X1:=kn X1 ka
  replace X2:=kn X2 ka
  have Xa:=a0a Ya
  clear ka Ya
  obtain⟨c0,c1,c2,c3⟩:=Box.c4 X0.out
  have lc:=X0.out.lt
  obtain⟨z0,z1⟩:=Box.c2 Xa.out
  have zl:=Xa.out.lt
  obtain⟨q0,q1⟩:=Box.c2 X2.out
  have q2:=X2.out.free 0 (by simp)
  have q3:=X2.out.free 1 (by simp)
  have ql:=X2.out.lt
  by_cases hz:r.2=0
  case neg=>
   have d0:(r.2 != 0)=true:=by simpa using hz
   have hQr:Hid (Q=r):=by
    show _=_
    rw[HT.out]
    have e:a0z (uF 9) r=noR r.2:=if_neg hz
    exact e.trans (Prod.ext (HNm.out hz).symm rfl)
   clear HT hb hm hg HC
   go_wp2_with fail
   refine bodyPost_ret (v:=reV r) (by simp[results,Tryz.results131,go_sem, *]) rfl ?_
   exact⟨by rw[hQr.out],(HB1.out.setCell (p:=⟨w.heap.size+1+1,0,none⟩) (by simp;omega) _).setCell (p:=⟨w.heap.size+1+1,1,none⟩) (by simp;omega) _⟩
  obtain⟨r1,r2⟩:=r
  obtain rfl:r2=0:=hz
  change _=some (Value.int .i64 0) at z0
  change _=some (Value.int .i64 r1) at z1
  have hQr:Hid (Q=okR (uF 9 r1)):=by show _=_;rw[HT.out];rfl
  have HU:=a0a (fun W:World=>a3f 9 (by decide) (by decide) ⟨9,n,m,[x]⟩ (.slice (some ⟨b,off,none⟩) 1 cap) rfl HFt.out r1 hg (fun _=>hb trivial) (fun h=>absurd h (by decide)) ⟨_,_,_,rfl⟩ W (uF 9 r1) rfl)
  clear HT hb hm hg HC HNm
  go_wp2_with fail
  refine Calls.mono (HU.out _) ?_
  rintro e w2 ⟨rfl,b2⟩
  have HB2:=kb HB1 b2
  replace X2:=kn X2 b2
  clear b2 c0 c1 c2 c3 lc z0 z1 zl q0 q1 q2 q3 ql
  obtain⟨q0,q1⟩:=Box.c2 X2.out
  have q2:=X2.out.free 0 (by simp)
  have q3:=X2.out.free 1 (by simp)
  have ql:=X2.out.lt
  go_wp2_with fail
  refine bodyPost_ret (v:=reV (okR (uF 9 r1))) (by simp[results,Tryz.results131,go_sem, *]) rfl ?_
  exact⟨by rw[hQr.out],(HB2.out.setCell (p:=⟨w.heap.size+1+1,0,none⟩) (by simp;omega) _).setCell (p:=⟨w.heap.size+1+1,1,none⟩) (by simp;omega) _⟩
 ·obtain⟨w0,hw0⟩:∃ w0,Hid (w0=((w.alloc (.cells (coL ⟨10,n,m,[x]⟩ (.slice (some ⟨b,off,none⟩) 1 cap)).toArray 30)).alloc (.cells #[.int .i64 E.rep,.slice a1 E.wins.length c1,.slice a2 E.crons.length c2] 123)).alloc (.cells #[.int .i64 0,.int .i64 0] 118)):=⟨_,a0a rfl⟩
  replace X0:Hid (Box w0 (w.heap.size) (coL ⟨10,n,m,[x]⟩ (.slice (some ⟨b,off,none⟩) 1 cap))):=by rw[hw0.out];exact X0
  replace X1:Hid (Box w0 (w.heap.size+1) ([.int .i64 E.rep,.slice a1 E.wins.length c1,.slice a2 E.crons.length c2])):=by rw[hw0.out];exact X1
  replace X2:Hid (Box w0 (w.heap.size+1+1) ([.int .i64 0,.int .i64 0])):=by rw[hw0.out];exact X2
  replace HB0:Hid (Below w.heap.size w w0):=by rw[hw0.out];exact HB0
  go_enter Tryz.func131,Tryz.ntmps131
  go_wp2_with fail
  rw[<-hw0.out]
  clear hw0
  have c3:=X0.out.cell 3 _ rfl
  obtain⟨e0,e1,e2⟩:=Box.c3 X1.out
  obtain⟨p0,p1,p2,p3⟩:=HF0.out.keep (w':=w0) (fun q=>HB0.out.cell (p:=⟨b,q,none⟩) HBl.out)
  simp only[Nat.zero_mul,Nat.add_zero] at p0 p1 p2 p3
  change _=some (Value.int .i64 x.op) at p0
  change _=some (Value.int .i64 x.n) at p1
  change _=some (Value.int .i64 x.m) at p2
  change _=some (Value.slice ad0 x.parts.length cap0) at p3
  have lc:=X0.out.lt
  have le:=X1.out.lt
  have lb:=Nat.lt_of_lt_of_le HBl.out HB0.out.size
  obtain⟨G,hG⟩:∃ G:Nat->World->Prop,Hid (G=fun dd w'=>Box w' dd [.int .i64 r.2,.int .i64 r.1]/\Below w0.heap.size w0 w'):=⟨_,a0a rfl⟩
  have nlb:b≠w0.heap.size:=Nat.ne_of_lt lb
  have nlb':w0.heap.size≠b:=Nat.ne_of_gt lb
  have nlc:w.heap.size≠w0.heap.size:=Nat.ne_of_lt lc
  have nlc':w0.heap.size≠w.heap.size:=Nat.ne_of_gt lc
  have nle:w.heap.size+1≠w0.heap.size:=Nat.ne_of_lt le
  have nle':w0.heap.size≠w.heap.size+1:=Nat.ne_of_gt le
  apply a8S G
  case hreg=>
   go_region_held3 (fun w'=>w'.cell? ⟨w.heap.size,3,none⟩=some (.slice (some ⟨b,off,none⟩) 1 cap)/\w'.cell? ⟨w.heap.size+1,0,none⟩=some (.int .i64 E.rep)/\w'.cell? ⟨w.heap.size+1,1,none⟩=some (.slice a1 E.wins.length c1)/\w'.cell? ⟨w.heap.size+1,2,none⟩=some (.slice a2 E.crons.length c2)/\w'.cell? ⟨b,off,none⟩=some (.int .i64 x.op)/\w'.cell? ⟨b,off+1,none⟩=some (.int .i64 x.n)/\w'.cell? ⟨b,off+2,none⟩=some (.int .i64 x.m)/\w'.cell? ⟨b,off+3,none⟩=some (.slice ad0 x.parts.length cap0)) (simp[go_sem, *]) (first|(go_at_call 131;refine Calls.mono (HC.out _ (by exact a0j HB0.out _)) ?_;rintro e u1 ⟨rfl,b⟩;have Hu1:Hid (Below w0.heap.size w0 u1):=⟨b.os,b.tape,b.output,b.size,b.block⟩;have g0:=fun p v hp hv=>(Hu1.out.cell (p:=p) hp).trans (hv:w0.cell? p=some v);replace c3:=g0 _ _ lc c3;replace e0:=g0 _ _ le e0;replace e1:=g0 _ _ le e1;replace e2:=g0 _ _ le e2;replace p0:=g0 _ _ lb p0;replace p1:=g0 _ _ lb p1;replace p2:=g0 _ _ lb p2;replace p3:=g0 _ _ lb p3;replace lb:=Nat.lt_of_lt_of_le lb Hu1.out.size;replace lc:=Nat.lt_of_lt_of_le lc Hu1.out.size;replace le:=Nat.lt_of_lt_of_le le Hu1.out.size;clear g0;clear b)|(go_at_call 131;refine Calls.mono (HC.out _ (by exact a0b HB0.out ((a0j (Below.refl w0.heap.size w0) _).alloc (Nat.le_refl _) _) HB0.out.size)) ?_;rintro e u2 ⟨rfl,b⟩;have Hu2:Hid (Below w0.heap.size w0 u2):=a0a (a0b ((a0j (Below.refl w0.heap.size w0) _).alloc (Nat.le_refl _) _) b ((a0j (Below.refl w0.heap.size w0) _).alloc (Nat.le_refl _) _).size);have Zz:Box u2 w0.heap.size [.int .i64 0,.int .i64 0]:=Box.next (Box.new (w0.drewN _) [.int .i64 0,.int .i64 0] 118) b;have z0:=Zz.cell 0 _ rfl;have z1:=Zz.cell 1 _ rfl;have z2:=Zz.free 0 (by simp);have z3:=Zz.free 1 (by simp);have zl:=Zz.lt;have HZ:=a0a Zz;clear Zz;have g0:=fun p v hp hv=>(Hu2.out.cell (p:=p) hp).trans (hv:w0.cell? p=some v);replace c3:=g0 _ _ lc c3;replace e0:=g0 _ _ le e0;replace e1:=g0 _ _ le e1;replace e2:=g0 _ _ le e2;replace p0:=g0 _ _ lb p0;replace p1:=g0 _ _ lb p1;replace p2:=g0 _ _ lb p2;replace p3:=g0 _ _ lb p3;replace lb:=Nat.lt_of_lt_of_le lb Hu2.out.size;replace lc:=Nat.lt_of_lt_of_le lc Hu2.out.size;replace le:=Nat.lt_of_lt_of_le le Hu2.out.size;clear g0;clear b))
   ·first|(obtain⟨dd,hdd⟩:∃ dd,dd=u1.heap.size:=⟨_,rfl⟩;rw[<-hdd];refine⟨dd,rfl,?_⟩;rw[hG.out,hdd];exact⟨Box.new u1 [.int .i64 r.2,.int .i64 r.1] 118,Hu1.out.alloc Hu1.out.size _⟩)|(obtain⟨dd,hdd⟩:∃ dd,dd=w0.heap.size:=⟨_,rfl⟩;rw[<-hdd];refine⟨dd,rfl,?_⟩;rw[hG.out,hdd];exact⟨(HZ.out.set 0 (by simp) (.int .i64 r.2)).set 1 (by simp) (.int .i64 r.1),(Hu2.out.setCell (p:=⟨_,0,none⟩) (Nat.le_refl _) _).setCell (p:=⟨_,1,none⟩) (Nat.le_refl _) _⟩)
   ·first|(obtain⟨dd,hdd⟩:∃ dd,dd=u1.heap.size:=⟨_,rfl⟩;rw[<-hdd];refine⟨dd,rfl,?_⟩;rw[hG.out,hdd];exact⟨Box.new u1 [.int .i64 r.2,.int .i64 r.1] 118,Hu1.out.alloc Hu1.out.size _⟩)|(obtain⟨dd,hdd⟩:∃ dd,dd=w0.heap.size:=⟨_,rfl⟩;rw[<-hdd];refine⟨dd,rfl,?_⟩;rw[hG.out,hdd];exact⟨(HZ.out.set 0 (by simp) (.int .i64 r.2)).set 1 (by simp) (.int .i64 r.1),(Hu2.out.setCell (p:=⟨_,0,none⟩) (Nat.le_refl _) _).setCell (p:=⟨_,1,none⟩) (Nat.le_refl _) _⟩)
  case hrest=>
  intro aD wa hGd
  rw[hG.out] at hGd
  obtain⟨Ya,ka⟩:=hGd
  clear c3 e0 e1 e2 p0 p1 p2 p3 lb lc le nlb nlb' nlc nlc' nle nle'
  clear hG G
  have HB1:=kb HB0 ka
  replace X0:=kn X0 ka
  replace X1:=kn X1 ka
  replace X2:=kn X2 ka
  have Xa:=a0a Ya
  clear ka Ya
  obtain⟨c0,c1,c2,c3⟩:=Box.c4 X0.out
  have lc:=X0.out.lt
  obtain⟨z0,z1⟩:=Box.c2 Xa.out
  have zl:=Xa.out.lt
  obtain⟨q0,q1⟩:=Box.c2 X2.out
  have q2:=X2.out.free 0 (by simp)
  have q3:=X2.out.free 1 (by simp)
  have ql:=X2.out.lt
  by_cases hz:r.2=0
  case neg=>
   have d0:(r.2 != 0)=true:=by simpa using hz
   have hQr:Hid (Q=r):=by
    show _=_
    rw[HT.out]
    have e:a0z (uF 10) r=noR r.2:=if_neg hz
    exact e.trans (Prod.ext (HNm.out hz).symm rfl)
   clear HT hb hm hg HC
   go_wp2_with fail
   refine bodyPost_ret (v:=reV r) (by simp[results,Tryz.results131,go_sem, *]) rfl ?_
   exact⟨by rw[hQr.out],(HB1.out.setCell (p:=⟨w.heap.size+1+1,0,none⟩) (by simp;omega) _).setCell (p:=⟨w.heap.size+1+1,1,none⟩) (by simp;omega) _⟩
  obtain⟨r1,r2⟩:=r
  obtain rfl:r2=0:=hz
  change _=some (Value.int .i64 0) at z0
  change _=some (Value.int .i64 r1) at z1
  have hQr:Hid (Q=okR (uF 10 r1)):=by show _=_;rw[HT.out];rfl
  have HU:=a0a (fun W:World=>a3f 10 (by decide) (by decide) ⟨10,n,m,[x]⟩ (.slice (some ⟨b,off,none⟩) 1 cap) rfl HFt.out r1 hg (fun h=>absurd h (by decide)) (fun h=>absurd h (by decide)) ⟨_,_,_,rfl⟩ W (uF 10 r1) rfl)
  clear HT hb hm hg HC HNm
  go_wp2_with fail
  refine Calls.mono (HU.out _) ?_
  rintro e w2 ⟨rfl,b2⟩
  have HB2:=kb HB1 b2
  replace X2:=kn X2 b2
  clear b2 c0 c1 c2 c3 lc z0 z1 zl q0 q1 q2 q3 ql
  obtain⟨q0,q1⟩:=Box.c2 X2.out
  have q2:=X2.out.free 0 (by simp)
  have q3:=X2.out.free 1 (by simp)
  have ql:=X2.out.lt
  go_wp2_with fail
  refine bodyPost_ret (v:=reV (okR (uF 10 r1))) (by simp[results,Tryz.results131,go_sem, *]) rfl ?_
  exact⟨by rw[hQr.out],(HB2.out.setCell (p:=⟨w.heap.size+1+1,0,none⟩) (by simp;omega) _).setCell (p:=⟨w.heap.size+1+1,1,none⟩) (by simp;omega) _⟩
 ·obtain⟨w0,hw0⟩:∃ w0,Hid (w0=((w.alloc (.cells (coL ⟨11,n,m,[x]⟩ (.slice (some ⟨b,off,none⟩) 1 cap)).toArray 30)).alloc (.cells #[.int .i64 E.rep,.slice a1 E.wins.length c1,.slice a2 E.crons.length c2] 123)).alloc (.cells #[.int .i64 0,.int .i64 0] 118)):=⟨_,a0a rfl⟩
  replace X0:Hid (Box w0 (w.heap.size) (coL ⟨11,n,m,[x]⟩ (.slice (some ⟨b,off,none⟩) 1 cap))):=by rw[hw0.out];exact X0
  replace X1:Hid (Box w0 (w.heap.size+1) ([.int .i64 E.rep,.slice a1 E.wins.length c1,.slice a2 E.crons.length c2])):=by rw[hw0.out];exact X1
  replace X2:Hid (Box w0 (w.heap.size+1+1) ([.int .i64 0,.int .i64 0])):=by rw[hw0.out];exact X2
  replace HB0:Hid (Below w.heap.size w w0):=by rw[hw0.out];exact HB0
  go_enter Tryz.func131,Tryz.ntmps131
  go_wp2_with fail
  rw[<-hw0.out]
  clear hw0
  have c3:=X0.out.cell 3 _ rfl
  obtain⟨e0,e1,e2⟩:=Box.c3 X1.out
  obtain⟨p0,p1,p2,p3⟩:=HF0.out.keep (w':=w0) (fun q=>HB0.out.cell (p:=⟨b,q,none⟩) HBl.out)
  simp only[Nat.zero_mul,Nat.add_zero] at p0 p1 p2 p3
  change _=some (Value.int .i64 x.op) at p0
  change _=some (Value.int .i64 x.n) at p1
  change _=some (Value.int .i64 x.m) at p2
  change _=some (Value.slice ad0 x.parts.length cap0) at p3
  have lc:=X0.out.lt
  have le:=X1.out.lt
  have lb:=Nat.lt_of_lt_of_le HBl.out HB0.out.size
  obtain⟨G,hG⟩:∃ G:Nat->World->Prop,Hid (G=fun dd w'=>Box w' dd [.int .i64 r.2,.int .i64 r.1]/\Below w0.heap.size w0 w'):=⟨_,a0a rfl⟩
  have nlb:b≠w0.heap.size:=Nat.ne_of_lt lb
  have nlb':w0.heap.size≠b:=Nat.ne_of_gt lb
  have nlc:w.heap.size≠w0.heap.size:=Nat.ne_of_lt lc
  have nlc':w0.heap.size≠w.heap.size:=Nat.ne_of_gt lc
  have nle:w.heap.size+1≠w0.heap.size:=Nat.ne_of_lt le
  have nle':w0.heap.size≠w.heap.size+1:=Nat.ne_of_gt le
  apply a8S G
  case hreg=>
   go_region_held3 (fun w'=>w'.cell? ⟨w.heap.size,3,none⟩=some (.slice (some ⟨b,off,none⟩) 1 cap)/\w'.cell? ⟨w.heap.size+1,0,none⟩=some (.int .i64 E.rep)/\w'.cell? ⟨w.heap.size+1,1,none⟩=some (.slice a1 E.wins.length c1)/\w'.cell? ⟨w.heap.size+1,2,none⟩=some (.slice a2 E.crons.length c2)/\w'.cell? ⟨b,off,none⟩=some (.int .i64 x.op)/\w'.cell? ⟨b,off+1,none⟩=some (.int .i64 x.n)/\w'.cell? ⟨b,off+2,none⟩=some (.int .i64 x.m)/\w'.cell? ⟨b,off+3,none⟩=some (.slice ad0 x.parts.length cap0)) (simp[go_sem, *]) (first|(go_at_call 131;refine Calls.mono (HC.out _ (by exact a0j HB0.out _)) ?_;rintro e u1 ⟨rfl,b⟩;have Hu1:Hid (Below w0.heap.size w0 u1):=⟨b.os,b.tape,b.output,b.size,b.block⟩;have g0:=fun p v hp hv=>(Hu1.out.cell (p:=p) hp).trans (hv:w0.cell? p=some v);replace c3:=g0 _ _ lc c3;replace e0:=g0 _ _ le e0;replace e1:=g0 _ _ le e1;replace e2:=g0 _ _ le e2;replace p0:=g0 _ _ lb p0;replace p1:=g0 _ _ lb p1;replace p2:=g0 _ _ lb p2;replace p3:=g0 _ _ lb p3;replace lb:=Nat.lt_of_lt_of_le lb Hu1.out.size;replace lc:=Nat.lt_of_lt_of_le lc Hu1.out.size;replace le:=Nat.lt_of_lt_of_le le Hu1.out.size;clear g0;clear b)|(go_at_call 131;refine Calls.mono (HC.out _ (by exact a0b HB0.out ((a0j (Below.refl w0.heap.size w0) _).alloc (Nat.le_refl _) _) HB0.out.size)) ?_;rintro e u2 ⟨rfl,b⟩;have Hu2:Hid (Below w0.heap.size w0 u2):=a0a (a0b ((a0j (Below.refl w0.heap.size w0) _).alloc (Nat.le_refl _) _) b ((a0j (Below.refl w0.heap.size w0) _).alloc (Nat.le_refl _) _).size);have Zz:Box u2 w0.heap.size [.int .i64 0,.int .i64 0]:=Box.next (Box.new (w0.drewN _) [.int .i64 0,.int .i64 0] 118) b;have z0:=Zz.cell 0 _ rfl;have z1:=Zz.cell 1 _ rfl;have z2:=Zz.free 0 (by simp);have z3:=Zz.free 1 (by simp);have zl:=Zz.lt;have HZ:=a0a Zz;clear Zz;have g0:=fun p v hp hv=>(Hu2.out.cell (p:=p) hp).trans (hv:w0.cell? p=some v);replace c3:=g0 _ _ lc c3;replace e0:=g0 _ _ le e0;replace e1:=g0 _ _ le e1;replace e2:=g0 _ _ le e2;replace p0:=g0 _ _ lb p0;replace p1:=g0 _ _ lb p1;replace p2:=g0 _ _ lb p2;replace p3:=g0 _ _ lb p3;replace lb:=Nat.lt_of_lt_of_le lb Hu2.out.size;replace lc:=Nat.lt_of_lt_of_le lc Hu2.out.size;replace le:=Nat.lt_of_lt_of_le le Hu2.out.size;clear g0;clear b))
   ·first|(obtain⟨dd,hdd⟩:∃ dd,dd=u1.heap.size:=⟨_,rfl⟩;rw[<-hdd];refine⟨dd,rfl,?_⟩;rw[hG.out,hdd];exact⟨Box.new u1 [.int .i64 r.2,.int .i64 r.1] 118,Hu1.out.alloc Hu1.out.size _⟩)|(obtain⟨dd,hdd⟩:∃ dd,dd=w0.heap.size:=⟨_,rfl⟩;rw[<-hdd];refine⟨dd,rfl,?_⟩;rw[hG.out,hdd];exact⟨(HZ.out.set 0 (by simp) (.int .i64 r.2)).set 1 (by simp) (.int .i64 r.1),(Hu2.out.setCell (p:=⟨_,0,none⟩) (Nat.le_refl _) _).setCell (p:=⟨_,1,none⟩) (Nat.le_refl _) _⟩)
   ·first|(obtain⟨dd,hdd⟩:∃ dd,dd=u1.heap.size:=⟨_,rfl⟩;rw[<-hdd];refine⟨dd,rfl,?_⟩;rw[hG.out,hdd];exact⟨Box.new u1 [.int .i64 r.2,.int .i64 r.1] 118,Hu1.out.alloc Hu1.out.size _⟩)|(obtain⟨dd,hdd⟩:∃ dd,dd=w0.heap.size:=⟨_,rfl⟩;rw[<-hdd];refine⟨dd,rfl,?_⟩;rw[hG.out,hdd];exact⟨(HZ.out.set 0 (by simp) (.int .i64 r.2)).set 1 (by simp) (.int .i64 r.1),(Hu2.out.setCell (p:=⟨_,0,none⟩) (Nat.le_refl _) _).setCell (p:=⟨_,1,none⟩) (Nat.le_refl _) _⟩)
  case hrest=>
  intro aD wa hGd
  rw[hG.out] at hGd
  obtain⟨Ya,ka⟩:=hGd
  clear c3 e0 e1 e2 p0 p1 p2 p3 lb lc le nlb nlb' nlc nlc' nle nle'
  clear hG G
  have HB1:=kb HB0 ka
  replace X0:=kn X0 ka
  replace X1:=kn X1 ka
  replace X2:=kn X2 ka
  have Xa:=a0a Ya
  clear ka Ya
  obtain⟨c0,c1,c2,c3⟩:=Box.c4 X0.out
  have lc:=X0.out.lt
  obtain⟨z0,z1⟩:=Box.c2 Xa.out
  have zl:=Xa.out.lt
  obtain⟨q0,q1⟩:=Box.c2 X2.out
  have q2:=X2.out.free 0 (by simp)
  have q3:=X2.out.free 1 (by simp)
  have ql:=X2.out.lt
  by_cases hz:r.2=0
  case neg=>
   have d0:(r.2 != 0)=true:=by simpa using hz
   have hQr:Hid (Q=r):=by
    show _=_
    rw[HT.out]
    have e:a0z (uF 11) r=noR r.2:=if_neg hz
    exact e.trans (Prod.ext (HNm.out hz).symm rfl)
   clear HT hb hm hg HC
   go_wp2_with fail
   refine bodyPost_ret (v:=reV r) (by simp[results,Tryz.results131,go_sem, *]) rfl ?_
   exact⟨by rw[hQr.out],(HB1.out.setCell (p:=⟨w.heap.size+1+1,0,none⟩) (by simp;omega) _).setCell (p:=⟨w.heap.size+1+1,1,none⟩) (by simp;omega) _⟩
  obtain⟨r1,r2⟩:=r
  obtain rfl:r2=0:=hz
  change _=some (Value.int .i64 0) at z0
  change _=some (Value.int .i64 r1) at z1
  have hQr:Hid (Q=okR (uF 11 r1)):=by show _=_;rw[HT.out];rfl
  have HU:=a0a (fun W:World=>a3f 11 (by decide) (by decide) ⟨11,n,m,[x]⟩ (.slice (some ⟨b,off,none⟩) 1 cap) rfl HFt.out r1 hg (fun h=>absurd h (by decide)) (fun h=>absurd h (by decide)) ⟨_,_,_,rfl⟩ W (uF 11 r1) rfl)
  clear HT hb hm hg HC HNm
  go_wp2_with fail
  refine Calls.mono (HU.out _) ?_
  rintro e w2 ⟨rfl,b2⟩
  have HB2:=kb HB1 b2
  replace X2:=kn X2 b2
  clear b2 c0 c1 c2 c3 lc z0 z1 zl q0 q1 q2 q3 ql
  obtain⟨q0,q1⟩:=Box.c2 X2.out
  have q2:=X2.out.free 0 (by simp)
  have q3:=X2.out.free 1 (by simp)
  have ql:=X2.out.lt
  go_wp2_with fail
  refine bodyPost_ret (v:=reV (okR (uF 11 r1))) (by simp[results,Tryz.results131,go_sem, *]) rfl ?_
  exact⟨by rw[hQr.out],(HB2.out.setCell (p:=⟨w.heap.size+1+1,0,none⟩) (by simp;omega) _).setCell (p:=⟨w.heap.size+1+1,1,none⟩) (by simp;omega) _⟩
 ·obtain⟨w0,hw0⟩:∃ w0,Hid (w0=((w.alloc (.cells (coL ⟨12,n,m,[x]⟩ (.slice (some ⟨b,off,none⟩) 1 cap)).toArray 30)).alloc (.cells #[.int .i64 E.rep,.slice a1 E.wins.length c1,.slice a2 E.crons.length c2] 123)).alloc (.cells #[.int .i64 0,.int .i64 0] 118)):=⟨_,a0a rfl⟩
  replace X0:Hid (Box w0 (w.heap.size) (coL ⟨12,n,m,[x]⟩ (.slice (some ⟨b,off,none⟩) 1 cap))):=by rw[hw0.out];exact X0
  replace X1:Hid (Box w0 (w.heap.size+1) ([.int .i64 E.rep,.slice a1 E.wins.length c1,.slice a2 E.crons.length c2])):=by rw[hw0.out];exact X1
  replace X2:Hid (Box w0 (w.heap.size+1+1) ([.int .i64 0,.int .i64 0])):=by rw[hw0.out];exact X2
  replace HB0:Hid (Below w.heap.size w w0):=by rw[hw0.out];exact HB0
  go_enter Tryz.func131,Tryz.ntmps131
  go_wp2_with fail
  rw[<-hw0.out]
  clear hw0
  have c3:=X0.out.cell 3 _ rfl
  obtain⟨e0,e1,e2⟩:=Box.c3 X1.out
  obtain⟨p0,p1,p2,p3⟩:=HF0.out.keep (w':=w0) (fun q=>HB0.out.cell (p:=⟨b,q,none⟩) HBl.out)
  simp only[Nat.zero_mul,Nat.add_zero] at p0 p1 p2 p3
  change _=some (Value.int .i64 x.op) at p0
  change _=some (Value.int .i64 x.n) at p1
  change _=some (Value.int .i64 x.m) at p2
  change _=some (Value.slice ad0 x.parts.length cap0) at p3
  have lc:=X0.out.lt
  have le:=X1.out.lt
  have lb:=Nat.lt_of_lt_of_le HBl.out HB0.out.size
  obtain⟨G,hG⟩:∃ G:Nat->World->Prop,Hid (G=fun dd w'=>Box w' dd [.int .i64 r.2,.int .i64 r.1]/\Below w0.heap.size w0 w'):=⟨_,a0a rfl⟩
  have nlb:b≠w0.heap.size:=Nat.ne_of_lt lb
  have nlb':w0.heap.size≠b:=Nat.ne_of_gt lb
  have nlc:w.heap.size≠w0.heap.size:=Nat.ne_of_lt lc
  have nlc':w0.heap.size≠w.heap.size:=Nat.ne_of_gt lc
  have nle:w.heap.size+1≠w0.heap.size:=Nat.ne_of_lt le
  have nle':w0.heap.size≠w.heap.size+1:=Nat.ne_of_gt le
  apply a8S G
  case hreg=>
   go_region_held3 (fun w'=>w'.cell? ⟨w.heap.size,3,none⟩=some (.slice (some ⟨b,off,none⟩) 1 cap)/\w'.cell? ⟨w.heap.size+1,0,none⟩=some (.int .i64 E.rep)/\w'.cell? ⟨w.heap.size+1,1,none⟩=some (.slice a1 E.wins.length c1)/\w'.cell? ⟨w.heap.size+1,2,none⟩=some (.slice a2 E.crons.length c2)/\w'.cell? ⟨b,off,none⟩=some (.int .i64 x.op)/\w'.cell? ⟨b,off+1,none⟩=some (.int .i64 x.n)/\w'.cell? ⟨b,off+2,none⟩=some (.int .i64 x.m)/\w'.cell? ⟨b,off+3,none⟩=some (.slice ad0 x.parts.length cap0)) (simp[go_sem, *]) (first|(go_at_call 131;refine Calls.mono (HC.out _ (by exact a0j HB0.out _)) ?_;rintro e u1 ⟨rfl,b⟩;have Hu1:Hid (Below w0.heap.size w0 u1):=⟨b.os,b.tape,b.output,b.size,b.block⟩;have g0:=fun p v hp hv=>(Hu1.out.cell (p:=p) hp).trans (hv:w0.cell? p=some v);replace c3:=g0 _ _ lc c3;replace e0:=g0 _ _ le e0;replace e1:=g0 _ _ le e1;replace e2:=g0 _ _ le e2;replace p0:=g0 _ _ lb p0;replace p1:=g0 _ _ lb p1;replace p2:=g0 _ _ lb p2;replace p3:=g0 _ _ lb p3;replace lb:=Nat.lt_of_lt_of_le lb Hu1.out.size;replace lc:=Nat.lt_of_lt_of_le lc Hu1.out.size;replace le:=Nat.lt_of_lt_of_le le Hu1.out.size;clear g0;clear b)|(go_at_call 131;refine Calls.mono (HC.out _ (by exact a0b HB0.out ((a0j (Below.refl w0.heap.size w0) _).alloc (Nat.le_refl _) _) HB0.out.size)) ?_;rintro e u2 ⟨rfl,b⟩;have Hu2:Hid (Below w0.heap.size w0 u2):=a0a (a0b ((a0j (Below.refl w0.heap.size w0) _).alloc (Nat.le_refl _) _) b ((a0j (Below.refl w0.heap.size w0) _).alloc (Nat.le_refl _) _).size);have Zz:Box u2 w0.heap.size [.int .i64 0,.int .i64 0]:=Box.next (Box.new (w0.drewN _) [.int .i64 0,.int .i64 0] 118) b;have z0:=Zz.cell 0 _ rfl;have z1:=Zz.cell 1 _ rfl;have z2:=Zz.free 0 (by simp);have z3:=Zz.free 1 (by simp);have zl:=Zz.lt;have HZ:=a0a Zz;clear Zz;have g0:=fun p v hp hv=>(Hu2.out.cell (p:=p) hp).trans (hv:w0.cell? p=some v);replace c3:=g0 _ _ lc c3;replace e0:=g0 _ _ le e0;replace e1:=g0 _ _ le e1;replace e2:=g0 _ _ le e2;replace p0:=g0 _ _ lb p0;replace p1:=g0 _ _ lb p1;replace p2:=g0 _ _ lb p2;replace p3:=g0 _ _ lb p3;replace lb:=Nat.lt_of_lt_of_le lb Hu2.out.size;replace lc:=Nat.lt_of_lt_of_le lc Hu2.out.size;replace le:=Nat.lt_of_lt_of_le le Hu2.out.size;clear g0;clear b))
   ·first|(obtain⟨dd,hdd⟩:∃ dd,dd=u1.heap.size:=⟨_,rfl⟩;rw[<-hdd];refine⟨dd,rfl,?_⟩;rw[hG.out,hdd];exact⟨Box.new u1 [.int .i64 r.2,.int .i64 r.1] 118,Hu1.out.alloc Hu1.out.size _⟩)|(obtain⟨dd,hdd⟩:∃ dd,dd=w0.heap.size:=⟨_,rfl⟩;rw[<-hdd];refine⟨dd,rfl,?_⟩;rw[hG.out,hdd];exact⟨(HZ.out.set 0 (by simp) (.int .i64 r.2)).set 1 (by simp) (.int .i64 r.1),(Hu2.out.setCell (p:=⟨_,0,none⟩) (Nat.le_refl _) _).setCell (p:=⟨_,1,none⟩) (Nat.le_refl _) _⟩)
   ·first|(obtain⟨dd,hdd⟩:∃ dd,dd=u1.heap.size:=⟨_,rfl⟩;rw[<-hdd];refine⟨dd,rfl,?_⟩;rw[hG.out,hdd];exact⟨Box.new u1 [.int .i64 r.2,.int .i64 r.1] 118,Hu1.out.alloc Hu1.out.size _⟩)|(obtain⟨dd,hdd⟩:∃ dd,dd=w0.heap.size:=⟨_,rfl⟩;rw[<-hdd];refine⟨dd,rfl,?_⟩;rw[hG.out,hdd];exact⟨(HZ.out.set 0 (by simp) (.int .i64 r.2)).set 1 (by simp) (.int .i64 r.1),(Hu2.out.setCell (p:=⟨_,0,none⟩) (Nat.le_refl _) _).setCell (p:=⟨_,1,none⟩) (Nat.le_refl _) _⟩)
  case hrest=>
  intro aD wa hGd
  rw[hG.out] at hGd
  obtain⟨Ya,ka⟩:=hGd
  clear c3 e0 e1 e2 p0 p1 p2 p3 lb lc le nlb nlb' nlc nlc' nle nle'
  clear hG G
  have HB1:=kb HB0 ka
  replace X0:=kn X0 ka
  replace X1:=kn X1 ka
  replace X2:=kn X2 ka
  have Xa:=a0a Ya
  clear ka Ya
  obtain⟨c0,c1,c2,c3⟩:=Box.c4 X0.out
  have lc:=X0.out.lt
  obtain⟨z0,z1⟩:=Box.c2 Xa.out
  have zl:=Xa.out.lt
  obtain⟨q0,q1⟩:=Box.c2 X2.out
  have q2:=X2.out.free 0 (by simp)
  have q3:=X2.out.free 1 (by simp)
  have ql:=X2.out.lt
  by_cases hz:r.2=0
  case neg=>
   have d0:(r.2 != 0)=true:=by simpa using hz
   have hQr:Hid (Q=r):=by
    show _=_
    rw[HT.out]
    have e:a0z (uF 12) r=noR r.2:=if_neg hz
    exact e.trans (Prod.ext (HNm.out hz).symm rfl)
   clear HT hb hm hg HC
   go_wp2_with fail
   refine bodyPost_ret (v:=reV r) (by simp[results,Tryz.results131,go_sem, *]) rfl ?_
   exact⟨by rw[hQr.out],(HB1.out.setCell (p:=⟨w.heap.size+1+1,0,none⟩) (by simp;omega) _).setCell (p:=⟨w.heap.size+1+1,1,none⟩) (by simp;omega) _⟩
  obtain⟨r1,r2⟩:=r
  obtain rfl:r2=0:=hz
  change _=some (Value.int .i64 0) at z0
  change _=some (Value.int .i64 r1) at z1
  have hQr:Hid (Q=okR (uF 12 r1)):=by show _=_;rw[HT.out];rfl
  have HU:=a0a (fun W:World=>a3f 12 (by decide) (by decide) ⟨12,n,m,[x]⟩ (.slice (some ⟨b,off,none⟩) 1 cap) rfl HFt.out r1 hg (fun h=>absurd h (by decide)) (fun h=>absurd h (by decide)) ⟨_,_,_,rfl⟩ W (uF 12 r1) rfl)
  clear HT hb hm hg HC HNm
  go_wp2_with fail
  refine Calls.mono (HU.out _) ?_
  rintro e w2 ⟨rfl,b2⟩
  have HB2:=kb HB1 b2
  replace X2:=kn X2 b2
  clear b2 c0 c1 c2 c3 lc z0 z1 zl q0 q1 q2 q3 ql
  obtain⟨q0,q1⟩:=Box.c2 X2.out
  have q2:=X2.out.free 0 (by simp)
  have q3:=X2.out.free 1 (by simp)
  have ql:=X2.out.lt
  go_wp2_with fail
  refine bodyPost_ret (v:=reV (okR (uF 12 r1))) (by simp[results,Tryz.results131,go_sem, *]) rfl ?_
  exact⟨by rw[hQr.out],(HB2.out.setCell (p:=⟨w.heap.size+1+1,0,none⟩) (by simp;omega) _).setCell (p:=⟨w.heap.size+1+1,1,none⟩) (by simp;omega) _⟩
 ·obtain⟨w0,hw0⟩:∃ w0,Hid (w0=((w.alloc (.cells (coL ⟨13,n,m,[x]⟩ (.slice (some ⟨b,off,none⟩) 1 cap)).toArray 30)).alloc (.cells #[.int .i64 E.rep,.slice a1 E.wins.length c1,.slice a2 E.crons.length c2] 123)).alloc (.cells #[.int .i64 0,.int .i64 0] 118)):=⟨_,a0a rfl⟩
  replace X0:Hid (Box w0 (w.heap.size) (coL ⟨13,n,m,[x]⟩ (.slice (some ⟨b,off,none⟩) 1 cap))):=by rw[hw0.out];exact X0
  replace X1:Hid (Box w0 (w.heap.size+1) ([.int .i64 E.rep,.slice a1 E.wins.length c1,.slice a2 E.crons.length c2])):=by rw[hw0.out];exact X1
  replace X2:Hid (Box w0 (w.heap.size+1+1) ([.int .i64 0,.int .i64 0])):=by rw[hw0.out];exact X2
  replace HB0:Hid (Below w.heap.size w w0):=by rw[hw0.out];exact HB0
  go_enter Tryz.func131,Tryz.ntmps131
  go_wp2_with fail
  rw[<-hw0.out]
  clear hw0
  have c3:=X0.out.cell 3 _ rfl
  obtain⟨e0,e1,e2⟩:=Box.c3 X1.out
  obtain⟨p0,p1,p2,p3⟩:=HF0.out.keep (w':=w0) (fun q=>HB0.out.cell (p:=⟨b,q,none⟩) HBl.out)
  simp only[Nat.zero_mul,Nat.add_zero] at p0 p1 p2 p3
  change _=some (Value.int .i64 x.op) at p0
  change _=some (Value.int .i64 x.n) at p1
  change _=some (Value.int .i64 x.m) at p2
  change _=some (Value.slice ad0 x.parts.length cap0) at p3
  have lc:=X0.out.lt
  have le:=X1.out.lt
  have lb:=Nat.lt_of_lt_of_le HBl.out HB0.out.size
  obtain⟨G,hG⟩:∃ G:Nat->World->Prop,Hid (G=fun dd w'=>Box w' dd [.int .i64 r.2,.int .i64 r.1]/\Below w0.heap.size w0 w'):=⟨_,a0a rfl⟩
  have nlb:b≠w0.heap.size:=Nat.ne_of_lt lb
  have nlb':w0.heap.size≠b:=Nat.ne_of_gt lb
  have nlc:w.heap.size≠w0.heap.size:=Nat.ne_of_lt lc
  have nlc':w0.heap.size≠w.heap.size:=Nat.ne_of_gt lc
  have nle:w.heap.size+1≠w0.heap.size:=Nat.ne_of_lt le
  have nle':w0.heap.size≠w.heap.size+1:=Nat.ne_of_gt le
  apply a8S G
  case hreg=>
   go_region_held3 (fun w'=>w'.cell? ⟨w.heap.size,3,none⟩=some (.slice (some ⟨b,off,none⟩) 1 cap)/\w'.cell? ⟨w.heap.size+1,0,none⟩=some (.int .i64 E.rep)/\w'.cell? ⟨w.heap.size+1,1,none⟩=some (.slice a1 E.wins.length c1)/\w'.cell? ⟨w.heap.size+1,2,none⟩=some (.slice a2 E.crons.length c2)/\w'.cell? ⟨b,off,none⟩=some (.int .i64 x.op)/\w'.cell? ⟨b,off+1,none⟩=some (.int .i64 x.n)/\w'.cell? ⟨b,off+2,none⟩=some (.int .i64 x.m)/\w'.cell? ⟨b,off+3,none⟩=some (.slice ad0 x.parts.length cap0)) (simp[go_sem, *]) (first|(go_at_call 131;refine Calls.mono (HC.out _ (by exact a0j HB0.out _)) ?_;rintro e u1 ⟨rfl,b⟩;have Hu1:Hid (Below w0.heap.size w0 u1):=⟨b.os,b.tape,b.output,b.size,b.block⟩;have g0:=fun p v hp hv=>(Hu1.out.cell (p:=p) hp).trans (hv:w0.cell? p=some v);replace c3:=g0 _ _ lc c3;replace e0:=g0 _ _ le e0;replace e1:=g0 _ _ le e1;replace e2:=g0 _ _ le e2;replace p0:=g0 _ _ lb p0;replace p1:=g0 _ _ lb p1;replace p2:=g0 _ _ lb p2;replace p3:=g0 _ _ lb p3;replace lb:=Nat.lt_of_lt_of_le lb Hu1.out.size;replace lc:=Nat.lt_of_lt_of_le lc Hu1.out.size;replace le:=Nat.lt_of_lt_of_le le Hu1.out.size;clear g0;clear b)|(go_at_call 131;refine Calls.mono (HC.out _ (by exact a0b HB0.out ((a0j (Below.refl w0.heap.size w0) _).alloc (Nat.le_refl _) _) HB0.out.size)) ?_;rintro e u2 ⟨rfl,b⟩;have Hu2:Hid (Below w0.heap.size w0 u2):=a0a (a0b ((a0j (Below.refl w0.heap.size w0) _).alloc (Nat.le_refl _) _) b ((a0j (Below.refl w0.heap.size w0) _).alloc (Nat.le_refl _) _).size);have Zz:Box u2 w0.heap.size [.int .i64 0,.int .i64 0]:=Box.next (Box.new (w0.drewN _) [.int .i64 0,.int .i64 0] 118) b;have z0:=Zz.cell 0 _ rfl;have z1:=Zz.cell 1 _ rfl;have z2:=Zz.free 0 (by simp);have z3:=Zz.free 1 (by simp);have zl:=Zz.lt;have HZ:=a0a Zz;clear Zz;have g0:=fun p v hp hv=>(Hu2.out.cell (p:=p) hp).trans (hv:w0.cell? p=some v);replace c3:=g0 _ _ lc c3;replace e0:=g0 _ _ le e0;replace e1:=g0 _ _ le e1;replace e2:=g0 _ _ le e2;replace p0:=g0 _ _ lb p0;replace p1:=g0 _ _ lb p1;replace p2:=g0 _ _ lb p2;replace p3:=g0 _ _ lb p3;replace lb:=Nat.lt_of_lt_of_le lb Hu2.out.size;replace lc:=Nat.lt_of_lt_of_le lc Hu2.out.size;replace le:=Nat.lt_of_lt_of_le le Hu2.out.size;clear g0;clear b))
   ·first|(obtain⟨dd,hdd⟩:∃ dd,dd=u1.heap.size:=⟨_,rfl⟩;rw[<-hdd];refine⟨dd,rfl,?_⟩;rw[hG.out,hdd];exact⟨Box.new u1 [.int .i64 r.2,.int .i64 r.1] 118,Hu1.out.alloc Hu1.out.size _⟩)|(obtain⟨dd,hdd⟩:∃ dd,dd=w0.heap.size:=⟨_,rfl⟩;rw[<-hdd];refine⟨dd,rfl,?_⟩;rw[hG.out,hdd];exact⟨(HZ.out.set 0 (by simp) (.int .i64 r.2)).set 1 (by simp) (.int .i64 r.1),(Hu2.out.setCell (p:=⟨_,0,none⟩) (Nat.le_refl _) _).setCell (p:=⟨_,1,none⟩) (Nat.le_refl _) _⟩)
   ·first|(obtain⟨dd,hdd⟩:∃ dd,dd=u1.heap.size:=⟨_,rfl⟩;rw[<-hdd];refine⟨dd,rfl,?_⟩;rw[hG.out,hdd];exact⟨Box.new u1 [.int .i64 r.2,.int .i64 r.1] 118,Hu1.out.alloc Hu1.out.size _⟩)|(obtain⟨dd,hdd⟩:∃ dd,dd=w0.heap.size:=⟨_,rfl⟩;rw[<-hdd];refine⟨dd,rfl,?_⟩;rw[hG.out,hdd];exact⟨(HZ.out.set 0 (by simp) (.int .i64 r.2)).set 1 (by simp) (.int .i64 r.1),(Hu2.out.setCell (p:=⟨_,0,none⟩) (Nat.le_refl _) _).setCell (p:=⟨_,1,none⟩) (Nat.le_refl _) _⟩)
  case hrest=>
  intro aD wa hGd
  rw[hG.out] at hGd
  obtain⟨Ya,ka⟩:=hGd
  clear c3 e0 e1 e2 p0 p1 p2 p3 lb lc le nlb nlb' nlc nlc' nle nle'
  clear hG G
  have HB1:=kb HB0 ka
  replace X0:=kn X0 ka
  replace X1:=kn X1 ka
  replace X2:=kn X2 ka
  have Xa:=a0a Ya
  clear ka Ya
  obtain⟨c0,c1,c2,c3⟩:=Box.c4 X0.out
  have lc:=X0.out.lt
  obtain⟨z0,z1⟩:=Box.c2 Xa.out
  have zl:=Xa.out.lt
  obtain⟨q0,q1⟩:=Box.c2 X2.out
  have q2:=X2.out.free 0 (by simp)
  have q3:=X2.out.free 1 (by simp)
  have ql:=X2.out.lt
  by_cases hz:r.2=0
  case neg=>
   have d0:(r.2 != 0)=true:=by simpa using hz
   have hQr:Hid (Q=r):=by
    show _=_
    rw[HT.out]
    have e:a0z (fun a=>held (a*n/m)) r=noR r.2:=if_neg hz
    exact e.trans (Prod.ext (HNm.out hz).symm rfl)
   clear HT hb hm hg HC
   go_wp2_with fail
   refine bodyPost_ret (v:=reV r) (by simp[results,Tryz.results131,go_sem, *]) rfl ?_
   exact⟨by rw[hQr.out],(HB1.out.setCell (p:=⟨w.heap.size+1+1,0,none⟩) (by simp;omega) _).setCell (p:=⟨w.heap.size+1+1,1,none⟩) (by simp;omega) _⟩
  obtain⟨r1,r2⟩:=r
  obtain rfl:r2=0:=hz
  change _=some (Value.int .i64 0) at z0
  change _=some (Value.int .i64 r1) at z1
  have hQr:Hid (Q=okR (held (r1*n/m))):=by show _=_;rw[HT.out];rfl
  have HU:=a0a (fun W:World=>a3f 13 (by decide) (by decide) ⟨13,n,m,[x]⟩ (.slice (some ⟨b,off,none⟩) 1 cap) rfl HFt.out r1 hg (fun h=>absurd h (by decide)) (fun _=>hm trivial) ⟨_,_,_,rfl⟩ W (held (r1*n/m)) rfl)
  clear HT hb hm hg HC HNm
  go_wp2_with fail
  refine Calls.mono (HU.out _) ?_
  rintro e w2 ⟨rfl,b2⟩
  have HB2:=kb HB1 b2
  replace X2:=kn X2 b2
  clear b2 c0 c1 c2 c3 lc z0 z1 zl q0 q1 q2 q3 ql
  obtain⟨q0,q1⟩:=Box.c2 X2.out
  have q2:=X2.out.free 0 (by simp)
  have q3:=X2.out.free 1 (by simp)
  have ql:=X2.out.lt
  go_wp2_with fail
  refine bodyPost_ret (v:=reV (okR (held (r1*n/m)))) (by simp[results,Tryz.results131,go_sem, *]) rfl ?_
  exact⟨by rw[hQr.out],(HB2.out.setCell (p:=⟨w.heap.size+1+1,0,none⟩) (by simp;omega) _).setCell (p:=⟨w.heap.size+1+1,1,none⟩) (by simp;omega) _⟩
end Go.Proofs.YtkbmgloilckdhaaGreatDoor
