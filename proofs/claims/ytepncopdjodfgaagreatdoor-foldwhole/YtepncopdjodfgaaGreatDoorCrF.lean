import Derived.Test.YtepncopdjodfgaaGreatDoorMgH
import Derived.Test.YtepncopdjodfgaaGreatDoorCpG
namespace Go.Proofs.YtepncopdjodfgaaGreatDoor
open Go.RowKit
abbrev reV (r:Rs):Value:=.agg #[.int .i64 r.2,.int .i64 r.1]
theorem rheld_held (n:Int):rheld n=held n:=rfl
set_option maxHeartbeats 1000000 in
theorem rnum_c (n:Int)(w:World):Calls Tryz.prog 63 #[.int .i64 n] w fun e w'=>e=.returned (reV (okR n))/\Below w.heap.size w w':=by
 go_enter Tryz.func63,Tryz.ntmps63
 go_wp2_with fail
 refine bodyPost_ret (v:=reV (okR n)) (by simp[results,Tryz.results63,go_sem, *]) rfl ?_
 exact⟨rfl,(Below.refl _ _).alloc (Nat.le_refl _) _⟩
set_option maxHeartbeats 1000000 in
theorem rtruth_c (b:Bool)(w:World):Calls Tryz.prog 65 #[.bool b] w fun e w'=>e=.returned (reV (okR (b2i b)))/\Below w.heap.size w w':=by
 cases b
 ·go_enter Tryz.func65,Tryz.ntmps65
  go_wp2_with fail
  refine bodyPost_ret (v:=reV (okR 0)) (by simp[results,Tryz.results65,go_sem, *]) rfl ?_
  exact⟨rfl,(Below.refl _ _).alloc (Nat.le_refl _) _⟩
 ·go_enter Tryz.func65,Tryz.ntmps65
  go_wp2_with fail
  refine bodyPost_ret (v:=reV (okR 1)) (by simp[results,Tryz.results65,go_sem, *]) rfl ?_
  exact⟨rfl,(Below.refl _ _).alloc (Nat.le_refl _) _⟩
set_option maxHeartbeats 4000000 in
theorem runary_c (k:Nat)(h1:8<=k)(h2:k<=13)(c:Co)(v:Value)(hc:c.op=(k:Int))(hf:CFit c)(a:Int)(ha:C64 a)(hb:k=9->a=0\/a=1)(hm:k=13->0<=c.n/\1<=c.m)(hv:∃ ad n cap,v=.slice ad n cap)(w:World)(R:Int)(hR:R=if k=13 then held (a*c.n/c.m) else uF k a):Calls Tryz.prog 66 #[coV c v,.int .i64 a] w fun e w'=>e=.returned (reV (okR R))/\Below w.heap.size w w':=by
 obtain⟨ad,n,cap,rfl⟩:=hv
 obtain⟨Y0,Y1,B0⟩:=two_boxes w 30 72 (coL c (.slice ad n cap)) [.int .i64 0,.int .i64 0]
 have X0:=chid Y0
 have X1:=chid Y1
 have HB0:=chid B0
 clear Y0 Y1 B0
 obtain⟨a0,a1⟩:=ha
 have hks:k=8\/k=9\/k=10\/k=11\/k=12\/k=13:=by omega
 clear h1 h2
 have c0:=X0.out.cell 0 _ rfl
 have c1:=X0.out.cell 1 _ rfl
 have c2:=X0.out.cell 2 _ rfl
 have l0:=X0.out.lt
 rcases hks with rfl | rfl | rfl | rfl | rfl | rfl
 ·obtain⟨op,nn,mm,ps⟩:=c
  obtain rfl:op=8:=hc
  obtain⟨⟨o1,o2⟩,⟨n1,n2⟩,m1,m2⟩:=hf
  dsimp only at c0 c1 c2 hR hm n1 n2 m1 m2
  have HC:=chid (fun W:World=>rNeg_any a a0 (by omega) W)
  have hR2:=chid hR
  have hE:Hid (R=rheld (-a)):=by show _=_;rw[hR];rfl
  clear hR hm hb o1 o2 hR2
  go_enter Tryz.func66,Tryz.ntmps66
  go_wp2_with fail
  refine Calls.mono (HC.out _) ?_
  rintro e w1 ⟨rfl,b1⟩
  have B1:=chid (cbelow_on HB0.out b1 HB0.out.size)
  replace X1:=chid (X1.out.next b1)
  clear b1 c0 c1 c2 l0 X0 HB0
  go_wp2_with fail
  refine Calls.mono (rnum_c _ _) ?_
  rintro e w2 ⟨rfl,b2⟩
  have B2:=chid (cbelow_on B1.out b2 B1.out.size)
  replace X1:=chid (X1.out.next b2)
  clear b2
  have z0:=X1.out.cell 0 _ rfl
  have z1:=X1.out.cell 1 _ rfl
  have f0:=X1.out.free 0 (by simp)
  have f1:=X1.out.free 1 (by simp)
  have zl:=X1.out.lt
  go_wp2_with fail
  refine bodyPost_ret (v:=reV (okR (rheld (-a)))) (by simp[results,Tryz.results66,go_sem, *]) rfl ?_
  exact⟨by rw[hE.out],(B2.out.setCell (p:=⟨w.heap.size+1,0,none⟩) (by simp) _).setCell (p:=⟨w.heap.size+1,1,none⟩) (by simp) _⟩
 ·obtain⟨op,nn,mm,ps⟩:=c
  obtain rfl:op=9:=hc
  obtain⟨⟨o1,o2⟩,⟨n1,n2⟩,m1,m2⟩:=hf
  dsimp only at c0 c1 c2 hR hm n1 n2 m1 m2
  have hR2:=chid hR
  have hE:Hid (R=b2i (a==0)):=by
   show _=_
   rw[hR]
   rcases hb rfl with rfl | rfl<;>rfl
  clear hR hm hb o1 o2 hR2
  go_enter Tryz.func66,Tryz.ntmps66
  go_wp2_with fail
  have B1:=HB0
  clear c0 c1 c2 l0 X0 HB0
  refine Calls.mono (rtruth_c _ _) ?_
  rintro e w2 ⟨rfl,b2⟩
  have B2:=chid (cbelow_on B1.out b2 B1.out.size)
  replace X1:=chid (X1.out.next b2)
  clear b2
  have z0:=X1.out.cell 0 _ rfl
  have z1:=X1.out.cell 1 _ rfl
  have f0:=X1.out.free 0 (by simp)
  have f1:=X1.out.free 1 (by simp)
  have zl:=X1.out.lt
  go_wp2_with fail
  refine bodyPost_ret (v:=reV (okR (b2i (a==0)))) (by simp[results,Tryz.results66,go_sem, *]) rfl ?_
  exact⟨by rw[hE.out],(B2.out.setCell (p:=⟨w.heap.size+1,0,none⟩) (by simp) _).setCell (p:=⟨w.heap.size+1,1,none⟩) (by simp) _⟩
 ·obtain⟨op,nn,mm,ps⟩:=c
  obtain rfl:op=10:=hc
  obtain⟨⟨o1,o2⟩,⟨n1,n2⟩,m1,m2⟩:=hf
  dsimp only at c0 c1 c2 hR hm n1 n2 m1 m2
  have HC:=chid (fun W:World=>rAbs_any a a0 (by omega) W)
  have hR2:=chid hR
  have hE:Hid (R=rheld a.natAbs):=by show _=_;rw[hR];rfl
  clear hR hm hb o1 o2 hR2
  go_enter Tryz.func66,Tryz.ntmps66
  go_wp2_with fail
  refine Calls.mono (HC.out _) ?_
  rintro e w1 ⟨rfl,b1⟩
  have B1:=chid (cbelow_on HB0.out b1 HB0.out.size)
  replace X1:=chid (X1.out.next b1)
  clear b1 c0 c1 c2 l0 X0 HB0
  go_wp2_with fail
  refine Calls.mono (rnum_c _ _) ?_
  rintro e w2 ⟨rfl,b2⟩
  have B2:=chid (cbelow_on B1.out b2 B1.out.size)
  replace X1:=chid (X1.out.next b2)
  clear b2
  have z0:=X1.out.cell 0 _ rfl
  have z1:=X1.out.cell 1 _ rfl
  have f0:=X1.out.free 0 (by simp)
  have f1:=X1.out.free 1 (by simp)
  have zl:=X1.out.lt
  go_wp2_with fail
  refine bodyPost_ret (v:=reV (okR (rheld a.natAbs))) (by simp[results,Tryz.results66,go_sem, *]) rfl ?_
  exact⟨by rw[hE.out],(B2.out.setCell (p:=⟨w.heap.size+1,0,none⟩) (by simp) _).setCell (p:=⟨w.heap.size+1,1,none⟩) (by simp) _⟩
 ·obtain⟨op,nn,mm,ps⟩:=c
  obtain rfl:op=11:=hc
  obtain⟨⟨o1,o2⟩,⟨n1,n2⟩,m1,m2⟩:=hf
  dsimp only at c0 c1 c2 hR hm n1 n2 m1 m2
  have HC:=chid (fun W:World=>rCeil_any a a0 (by omega) W)
  have hR2:=chid hR
  have hE:Hid (R=rheld (-((-a)/1000000)*1000000)):=by show _=_;rw[hR];rfl
  clear hR hm hb o1 o2 hR2
  go_enter Tryz.func66,Tryz.ntmps66
  go_wp2_with fail
  refine Calls.mono (HC.out _) ?_
  rintro e w1 ⟨rfl,b1⟩
  have B1:=chid (cbelow_on HB0.out b1 HB0.out.size)
  replace X1:=chid (X1.out.next b1)
  clear b1 c0 c1 c2 l0 X0 HB0
  go_wp2_with fail
  refine Calls.mono (rnum_c _ _) ?_
  rintro e w2 ⟨rfl,b2⟩
  have B2:=chid (cbelow_on B1.out b2 B1.out.size)
  replace X1:=chid (X1.out.next b2)
  clear b2
  have z0:=X1.out.cell 0 _ rfl
  have z1:=X1.out.cell 1 _ rfl
  have f0:=X1.out.free 0 (by simp)
  have f1:=X1.out.free 1 (by simp)
  have zl:=X1.out.lt
  go_wp2_with fail
  refine bodyPost_ret (v:=reV (okR (rheld (-((-a)/1000000)*1000000)))) (by simp[results,Tryz.results66,go_sem, *]) rfl ?_
  exact⟨by rw[hE.out],(B2.out.setCell (p:=⟨w.heap.size+1,0,none⟩) (by simp) _).setCell (p:=⟨w.heap.size+1,1,none⟩) (by simp) _⟩
 ·obtain⟨op,nn,mm,ps⟩:=c
  obtain rfl:op=12:=hc
  obtain⟨⟨o1,o2⟩,⟨n1,n2⟩,m1,m2⟩:=hf
  dsimp only at c0 c1 c2 hR hm n1 n2 m1 m2
  have HC:=chid (fun W:World=>rFloor_any a a0 (by omega) W)
  have hR2:=chid hR
  have hE:Hid (R=rheld (a/1000000*1000000)):=by show _=_;rw[hR];rfl
  clear hR hm hb o1 o2 hR2
  go_enter Tryz.func66,Tryz.ntmps66
  go_wp2_with fail
  refine Calls.mono (HC.out _) ?_
  rintro e w1 ⟨rfl,b1⟩
  have B1:=chid (cbelow_on HB0.out b1 HB0.out.size)
  replace X1:=chid (X1.out.next b1)
  clear b1 c0 c1 c2 l0 X0 HB0
  go_wp2_with fail
  refine Calls.mono (rnum_c _ _) ?_
  rintro e w2 ⟨rfl,b2⟩
  have B2:=chid (cbelow_on B1.out b2 B1.out.size)
  replace X1:=chid (X1.out.next b2)
  clear b2
  have z0:=X1.out.cell 0 _ rfl
  have z1:=X1.out.cell 1 _ rfl
  have f0:=X1.out.free 0 (by simp)
  have f1:=X1.out.free 1 (by simp)
  have zl:=X1.out.lt
  go_wp2_with fail
  refine bodyPost_ret (v:=reV (okR (rheld (a/1000000*1000000)))) (by simp[results,Tryz.results66,go_sem, *]) rfl ?_
  exact⟨by rw[hE.out],(B2.out.setCell (p:=⟨w.heap.size+1,0,none⟩) (by simp) _).setCell (p:=⟨w.heap.size+1,1,none⟩) (by simp) _⟩
 ·obtain⟨op,nn,mm,ps⟩:=c
  obtain rfl:op=13:=hc
  obtain⟨⟨o1,o2⟩,⟨n1,n2⟩,m1,m2⟩:=hf
  dsimp only at c0 c1 c2 hR hm n1 n2 m1 m2
  have HC:=chid (fun W:World=>rScale_any a nn mm a0 (by omega) (hm rfl).1 (by omega) (hm rfl).2 (by omega) W)
  have hR2:=chid hR
  have hE:Hid (R=rheld (a*nn/mm)):=by show _=_;rw[hR];rfl
  clear hR hm hb o1 o2 hR2
  go_enter Tryz.func66,Tryz.ntmps66
  go_wp2_with fail
  refine Calls.mono (HC.out _) ?_
  rintro e w1 ⟨rfl,b1⟩
  have B1:=chid (cbelow_on HB0.out b1 HB0.out.size)
  replace X1:=chid (X1.out.next b1)
  clear b1 c0 c1 c2 l0 X0 HB0
  go_wp2_with fail
  refine Calls.mono (rnum_c _ _) ?_
  rintro e w2 ⟨rfl,b2⟩
  have B2:=chid (cbelow_on B1.out b2 B1.out.size)
  replace X1:=chid (X1.out.next b2)
  clear b2
  have z0:=X1.out.cell 0 _ rfl
  have z1:=X1.out.cell 1 _ rfl
  have f0:=X1.out.free 0 (by simp)
  have f1:=X1.out.free 1 (by simp)
  have zl:=X1.out.lt
  go_wp2_with fail
  refine bodyPost_ret (v:=reV (okR (rheld (a*nn/mm)))) (by simp[results,Tryz.results66,go_sem, *]) rfl ?_
  exact⟨by rw[hE.out],(B2.out.setCell (p:=⟨w.heap.size+1,0,none⟩) (by simp) _).setCell (p:=⟨w.heap.size+1,1,none⟩) (by simp) _⟩
set_option maxHeartbeats 4000000 in
theorem rbinary_c (k:Nat)(h1:14<=k)(h2:k<=24)(a b:Int)(ha:C64 a)(hb:C64 b)(w:World)(R:Rs)(hR:R=if k=17 then divR a b else okR (bF k a b)):Calls Tryz.prog 67 #[.int .i64 (k:Int),.int .i64 a,.int .i64 b] w fun e w'=>e=.returned (reV R)/\Below w.heap.size w w':=by
 have X1:=chid (Box.new w [.int .i64 0,.int .i64 0] 72)
 have HB0:=chid ((Below.refl w.heap.size w).alloc (Nat.le_refl _) (.cells [.int .i64 0,.int .i64 0].toArray 72))
 obtain⟨a0,a1⟩:=ha
 obtain⟨b0,b1⟩:=hb
 have hks:k=14\/k=15\/k=16\/k=17\/k=18\/k=19\/k=20\/k=21\/k=22\/k=23\/k=24:=by omega
 clear h1 h2
 rcases hks with rfl | rfl | rfl | rfl | rfl | rfl | rfl | rfl | rfl | rfl | rfl
 ·have hE:Hid (R=okR (rheld (a+b))):=by show _=_;rw[hR];rfl
  have HC:=chid (fun W:World=>rAdd_any a b a0 (by omega) b0 (by omega) W)
  clear hR
  go_enter Tryz.func67,Tryz.ntmps67
  go_wp2_with fail
  refine Calls.mono (HC.out _) ?_
  rintro e w1 ⟨rfl,b1⟩
  have B1:=chid (cbelow_on HB0.out b1 HB0.out.size)
  replace X1:=chid (X1.out.next b1)
  clear b1 HB0
  go_wp2_with fail
  refine Calls.mono (rnum_c _ _) ?_
  rintro e w2 ⟨rfl,b2⟩
  have B2:=chid (cbelow_on B1.out b2 B1.out.size)
  replace X1:=chid (X1.out.next b2)
  clear b2
  have z0:=X1.out.cell 0 _ rfl
  have z1:=X1.out.cell 1 _ rfl
  have f0:=X1.out.free 0 (by simp)
  have f1:=X1.out.free 1 (by simp)
  have zl:=X1.out.lt
  go_wp2_with fail
  refine bodyPost_ret (v:=reV (okR (rheld (a+b)))) (by simp[results,Tryz.results67,go_sem, *]) rfl ?_
  exact⟨by rw[hE.out],(B2.out.setCell (p:=⟨w.heap.size,0,none⟩) (by simp) _).setCell (p:=⟨w.heap.size,1,none⟩) (by simp) _⟩
 ·have hE:Hid (R=okR (rheld (a-b))):=by show _=_;rw[hR];rfl
  have HC:=chid (fun W:World=>rSub_any a b a0 (by omega) b0 (by omega) W)
  clear hR
  go_enter Tryz.func67,Tryz.ntmps67
  go_wp2_with fail
  refine Calls.mono (HC.out _) ?_
  rintro e w1 ⟨rfl,b1⟩
  have B1:=chid (cbelow_on HB0.out b1 HB0.out.size)
  replace X1:=chid (X1.out.next b1)
  clear b1 HB0
  go_wp2_with fail
  refine Calls.mono (rnum_c _ _) ?_
  rintro e w2 ⟨rfl,b2⟩
  have B2:=chid (cbelow_on B1.out b2 B1.out.size)
  replace X1:=chid (X1.out.next b2)
  clear b2
  have z0:=X1.out.cell 0 _ rfl
  have z1:=X1.out.cell 1 _ rfl
  have f0:=X1.out.free 0 (by simp)
  have f1:=X1.out.free 1 (by simp)
  have zl:=X1.out.lt
  go_wp2_with fail
  refine bodyPost_ret (v:=reV (okR (rheld (a-b)))) (by simp[results,Tryz.results67,go_sem, *]) rfl ?_
  exact⟨by rw[hE.out],(B2.out.setCell (p:=⟨w.heap.size,0,none⟩) (by simp) _).setCell (p:=⟨w.heap.size,1,none⟩) (by simp) _⟩
 ·have hE:Hid (R=okR (rheld (a*b/1000000))):=by show _=_;rw[hR];rfl
  have HC:=chid (fun W:World=>rMul_any a b a0 (by omega) b0 (by omega) W)
  clear hR
  go_enter Tryz.func67,Tryz.ntmps67
  go_wp2_with fail
  refine Calls.mono (HC.out _) ?_
  rintro e w1 ⟨rfl,b1⟩
  have B1:=chid (cbelow_on HB0.out b1 HB0.out.size)
  replace X1:=chid (X1.out.next b1)
  clear b1 HB0
  go_wp2_with fail
  refine Calls.mono (rnum_c _ _) ?_
  rintro e w2 ⟨rfl,b2⟩
  have B2:=chid (cbelow_on B1.out b2 B1.out.size)
  replace X1:=chid (X1.out.next b2)
  clear b2
  have z0:=X1.out.cell 0 _ rfl
  have z1:=X1.out.cell 1 _ rfl
  have f0:=X1.out.free 0 (by simp)
  have f1:=X1.out.free 1 (by simp)
  have zl:=X1.out.lt
  go_wp2_with fail
  refine bodyPost_ret (v:=reV (okR (rheld (a*b/1000000)))) (by simp[results,Tryz.results67,go_sem, *]) rfl ?_
  exact⟨by rw[hE.out],(B2.out.setCell (p:=⟨w.heap.size,0,none⟩) (by simp) _).setCell (p:=⟨w.heap.size,1,none⟩) (by simp) _⟩
 ·by_cases hz:b=0
  ·subst hz
   have hE:Hid (R=noR 2):=by show _=_;rw[hR];rfl
   have HC:=chid (fun W:World=>rDiv_zero a W)
   clear hR
   go_enter Tryz.func67,Tryz.ntmps67
   go_wp2_with fail
   refine Calls.mono (HC.out _) ?_
   rintro e w1 ⟨rfl,b1⟩
   have B1:=chid (cbelow_on HB0.out b1 HB0.out.size)
   replace X1:=chid (X1.out.next b1)
   clear b1 HB0
   have z0:=X1.out.cell 0 _ rfl
   have z1:=X1.out.cell 1 _ rfl
   have f0:=X1.out.free 0 (by simp)
   have f1:=X1.out.free 1 (by simp)
   have zl:=X1.out.lt
   go_wp2_with fail
   refine bodyPost_ret (v:=reV (noR 2)) (by simp[results,Tryz.results67,go_sem, *]) rfl ?_
   exact⟨by rw[hE.out],(B1.out.setCell (p:=⟨w.heap.size,0,none⟩) (by simp) _).setCell (p:=⟨w.heap.size,1,none⟩) (by simp) _⟩
  ·have hE:Hid (R=okR (rheld (rfl' (a*1000000) b))):=by show _=_;rw[hR];exact if_neg hz
   have HC:=chid (fun W:World=>rDiv_any a b a0 (by omega) b0 (by omega) hz W)
   clear hR
   go_enter Tryz.func67,Tryz.ntmps67
   go_wp2_with fail
   refine Calls.mono (HC.out _) ?_
   rintro e w1 ⟨rfl,b1⟩
   have B1:=chid (cbelow_on HB0.out b1 HB0.out.size)
   replace X1:=chid (X1.out.next b1)
   clear b1 HB0
   go_wp2_with fail
   refine Calls.mono (rnum_c _ _) ?_
   rintro e w2 ⟨rfl,b2⟩
   have B2:=chid (cbelow_on B1.out b2 B1.out.size)
   replace X1:=chid (X1.out.next b2)
   clear b2
   have z0:=X1.out.cell 0 _ rfl
   have z1:=X1.out.cell 1 _ rfl
   have f0:=X1.out.free 0 (by simp)
   have f1:=X1.out.free 1 (by simp)
   have zl:=X1.out.lt
   go_wp2_with fail
   refine bodyPost_ret (v:=reV (okR (rheld (rfl' (a*1000000) b)))) (by simp[results,Tryz.results67,go_sem, *]) rfl ?_
   exact⟨by rw[hE.out],(B2.out.setCell (p:=⟨w.heap.size,0,none⟩) (by simp) _).setCell (p:=⟨w.heap.size,1,none⟩) (by simp) _⟩
 ·have hE:Hid (R=okR (b2i (decide (a<b)))):=by show _=_;rw[hR];rfl
  clear hR
  go_enter Tryz.func67,Tryz.ntmps67
  go_wp2_with fail
  have B1:=HB0
  clear HB0
  refine Calls.mono (rtruth_c _ _) ?_
  rintro e w2 ⟨rfl,b2⟩
  have B2:=chid (cbelow_on B1.out b2 B1.out.size)
  replace X1:=chid (X1.out.next b2)
  clear b2
  have z0:=X1.out.cell 0 _ rfl
  have z1:=X1.out.cell 1 _ rfl
  have f0:=X1.out.free 0 (by simp)
  have f1:=X1.out.free 1 (by simp)
  have zl:=X1.out.lt
  go_wp2_with fail
  refine bodyPost_ret (v:=reV (okR (b2i (decide (a<b))))) (by simp[results,Tryz.results67,go_sem, *]) rfl ?_
  exact⟨by rw[hE.out],(B2.out.setCell (p:=⟨w.heap.size,0,none⟩) (by simp) _).setCell (p:=⟨w.heap.size,1,none⟩) (by simp) _⟩
 ·have hE:Hid (R=okR (b2i (decide (a<=b)))):=by show _=_;rw[hR];rfl
  clear hR
  go_enter Tryz.func67,Tryz.ntmps67
  go_wp2_with fail
  have B1:=HB0
  clear HB0
  refine Calls.mono (rtruth_c _ _) ?_
  rintro e w2 ⟨rfl,b2⟩
  have B2:=chid (cbelow_on B1.out b2 B1.out.size)
  replace X1:=chid (X1.out.next b2)
  clear b2
  have z0:=X1.out.cell 0 _ rfl
  have z1:=X1.out.cell 1 _ rfl
  have f0:=X1.out.free 0 (by simp)
  have f1:=X1.out.free 1 (by simp)
  have zl:=X1.out.lt
  go_wp2_with fail
  refine bodyPost_ret (v:=reV (okR (b2i (decide (a<=b))))) (by simp[results,Tryz.results67,go_sem, *]) rfl ?_
  exact⟨by rw[hE.out],(B2.out.setCell (p:=⟨w.heap.size,0,none⟩) (by simp) _).setCell (p:=⟨w.heap.size,1,none⟩) (by simp) _⟩
 ·have hE:Hid (R=okR (b2i (a==b))):=by show _=_;rw[hR];show okR (b2i (decide (a=b)))=_;congr 2
  clear hR
  go_enter Tryz.func67,Tryz.ntmps67
  go_wp2_with fail
  have B1:=HB0
  clear HB0
  refine Calls.mono (rtruth_c _ _) ?_
  rintro e w2 ⟨rfl,b2⟩
  have B2:=chid (cbelow_on B1.out b2 B1.out.size)
  replace X1:=chid (X1.out.next b2)
  clear b2
  have z0:=X1.out.cell 0 _ rfl
  have z1:=X1.out.cell 1 _ rfl
  have f0:=X1.out.free 0 (by simp)
  have f1:=X1.out.free 1 (by simp)
  have zl:=X1.out.lt
  go_wp2_with fail
  refine bodyPost_ret (v:=reV (okR (b2i (a==b)))) (by simp[results,Tryz.results67,go_sem, *]) rfl ?_
  exact⟨by rw[hE.out],(B2.out.setCell (p:=⟨w.heap.size,0,none⟩) (by simp) _).setCell (p:=⟨w.heap.size,1,none⟩) (by simp) _⟩
 ·have hE:Hid (R=okR (b2i (decide (a>b)))):=by show _=_;rw[hR];rfl
  clear hR
  go_enter Tryz.func67,Tryz.ntmps67
  go_wp2_with fail
  have B1:=HB0
  clear HB0
  refine Calls.mono (rtruth_c _ _) ?_
  rintro e w2 ⟨rfl,b2⟩
  have B2:=chid (cbelow_on B1.out b2 B1.out.size)
  replace X1:=chid (X1.out.next b2)
  clear b2
  have z0:=X1.out.cell 0 _ rfl
  have z1:=X1.out.cell 1 _ rfl
  have f0:=X1.out.free 0 (by simp)
  have f1:=X1.out.free 1 (by simp)
  have zl:=X1.out.lt
  go_wp2_with fail
  refine bodyPost_ret (v:=reV (okR (b2i (decide (a>b))))) (by simp[results,Tryz.results67,go_sem, *]) rfl ?_
  exact⟨by rw[hE.out],(B2.out.setCell (p:=⟨w.heap.size,0,none⟩) (by simp) _).setCell (p:=⟨w.heap.size,1,none⟩) (by simp) _⟩
 ·have hE:Hid (R=okR (b2i (decide (a>=b)))):=by show _=_;rw[hR];rfl
  clear hR
  go_enter Tryz.func67,Tryz.ntmps67
  go_wp2_with fail
  have B1:=HB0
  clear HB0
  refine Calls.mono (rtruth_c _ _) ?_
  rintro e w2 ⟨rfl,b2⟩
  have B2:=chid (cbelow_on B1.out b2 B1.out.size)
  replace X1:=chid (X1.out.next b2)
  clear b2
  have z0:=X1.out.cell 0 _ rfl
  have z1:=X1.out.cell 1 _ rfl
  have f0:=X1.out.free 0 (by simp)
  have f1:=X1.out.free 1 (by simp)
  have zl:=X1.out.lt
  go_wp2_with fail
  refine bodyPost_ret (v:=reV (okR (b2i (decide (a>=b))))) (by simp[results,Tryz.results67,go_sem, *]) rfl ?_
  exact⟨by rw[hE.out],(B2.out.setCell (p:=⟨w.heap.size,0,none⟩) (by simp) _).setCell (p:=⟨w.heap.size,1,none⟩) (by simp) _⟩
 ·rcases Int.lt_trichotomy a b with h | h | h
  ·have hE:Hid (R=okR a):=by show _=_;rw[hR];show okR (min a b)=_;congr 1;omega
   have h3:a<=b:=by omega
   have h4:¬ b<a:=by omega
   have h5:¬ b<=a:=by omega
   clear hR
   go_enter Tryz.func67,Tryz.ntmps67
   go_wp2_with fail
   have B1:=HB0
   clear HB0
   refine Calls.mono (rnum_c _ _) ?_
   rintro e w2 ⟨rfl,b2⟩
   have B2:=chid (cbelow_on B1.out b2 B1.out.size)
   replace X1:=chid (X1.out.next b2)
   clear b2
   have z0:=X1.out.cell 0 _ rfl
   have z1:=X1.out.cell 1 _ rfl
   have f0:=X1.out.free 0 (by simp)
   have f1:=X1.out.free 1 (by simp)
   have zl:=X1.out.lt
   go_wp2_with fail
   refine bodyPost_ret (v:=reV (okR a)) (by simp[results,Tryz.results67,go_sem, *]) rfl ?_
   exact⟨by rw[hE.out],(B2.out.setCell (p:=⟨w.heap.size,0,none⟩) (by simp) _).setCell (p:=⟨w.heap.size,1,none⟩) (by simp) _⟩
  ·have hE:Hid (R=okR a):=by show _=_;rw[hR];show okR (min a b)=_;congr 1;omega
   subst h
   clear hR
   go_enter Tryz.func67,Tryz.ntmps67
   go_wp2_with fail
   have B1:=HB0
   clear HB0
   refine Calls.mono (rnum_c _ _) ?_
   rintro e w2 ⟨rfl,b2⟩
   have B2:=chid (cbelow_on B1.out b2 B1.out.size)
   replace X1:=chid (X1.out.next b2)
   clear b2
   have z0:=X1.out.cell 0 _ rfl
   have z1:=X1.out.cell 1 _ rfl
   have f0:=X1.out.free 0 (by simp)
   have f1:=X1.out.free 1 (by simp)
   have zl:=X1.out.lt
   go_wp2_with fail
   refine bodyPost_ret (v:=reV (okR a)) (by simp[results,Tryz.results67,go_sem, *]) rfl ?_
   exact⟨by rw[hE.out],(B2.out.setCell (p:=⟨w.heap.size,0,none⟩) (by simp) _).setCell (p:=⟨w.heap.size,1,none⟩) (by simp) _⟩
  ·have hE:Hid (R=okR b):=by show _=_;rw[hR];show okR (min a b)=_;congr 1;omega
   have h3:b<=a:=by omega
   have h4:¬ a<b:=by omega
   have h5:¬ a<=b:=by omega
   clear hR
   go_enter Tryz.func67,Tryz.ntmps67
   go_wp2_with fail
   have B1:=HB0
   clear HB0
   refine Calls.mono (rnum_c _ _) ?_
   rintro e w2 ⟨rfl,b2⟩
   have B2:=chid (cbelow_on B1.out b2 B1.out.size)
   replace X1:=chid (X1.out.next b2)
   clear b2
   have z0:=X1.out.cell 0 _ rfl
   have z1:=X1.out.cell 1 _ rfl
   have f0:=X1.out.free 0 (by simp)
   have f1:=X1.out.free 1 (by simp)
   have zl:=X1.out.lt
   go_wp2_with fail
   refine bodyPost_ret (v:=reV (okR b)) (by simp[results,Tryz.results67,go_sem, *]) rfl ?_
   exact⟨by rw[hE.out],(B2.out.setCell (p:=⟨w.heap.size,0,none⟩) (by simp) _).setCell (p:=⟨w.heap.size,1,none⟩) (by simp) _⟩
 ·rcases Int.lt_trichotomy a b with h | h | h
  ·have hE:Hid (R=okR b):=by show _=_;rw[hR];show okR (max a b)=_;congr 1;omega
   have h3:a<=b:=by omega
   have h4:¬ b<a:=by omega
   have h5:¬ b<=a:=by omega
   clear hR
   go_enter Tryz.func67,Tryz.ntmps67
   go_wp2_with fail
   have B1:=HB0
   clear HB0
   refine Calls.mono (rnum_c _ _) ?_
   rintro e w2 ⟨rfl,b2⟩
   have B2:=chid (cbelow_on B1.out b2 B1.out.size)
   replace X1:=chid (X1.out.next b2)
   clear b2
   have z0:=X1.out.cell 0 _ rfl
   have z1:=X1.out.cell 1 _ rfl
   have f0:=X1.out.free 0 (by simp)
   have f1:=X1.out.free 1 (by simp)
   have zl:=X1.out.lt
   go_wp2_with fail
   refine bodyPost_ret (v:=reV (okR b)) (by simp[results,Tryz.results67,go_sem, *]) rfl ?_
   exact⟨by rw[hE.out],(B2.out.setCell (p:=⟨w.heap.size,0,none⟩) (by simp) _).setCell (p:=⟨w.heap.size,1,none⟩) (by simp) _⟩
  ·have hE:Hid (R=okR a):=by show _=_;rw[hR];show okR (max a b)=_;congr 1;omega
   subst h
   clear hR
   go_enter Tryz.func67,Tryz.ntmps67
   go_wp2_with fail
   have B1:=HB0
   clear HB0
   refine Calls.mono (rnum_c _ _) ?_
   rintro e w2 ⟨rfl,b2⟩
   have B2:=chid (cbelow_on B1.out b2 B1.out.size)
   replace X1:=chid (X1.out.next b2)
   clear b2
   have z0:=X1.out.cell 0 _ rfl
   have z1:=X1.out.cell 1 _ rfl
   have f0:=X1.out.free 0 (by simp)
   have f1:=X1.out.free 1 (by simp)
   have zl:=X1.out.lt
   go_wp2_with fail
   refine bodyPost_ret (v:=reV (okR a)) (by simp[results,Tryz.results67,go_sem, *]) rfl ?_
   exact⟨by rw[hE.out],(B2.out.setCell (p:=⟨w.heap.size,0,none⟩) (by simp) _).setCell (p:=⟨w.heap.size,1,none⟩) (by simp) _⟩
  ·have hE:Hid (R=okR a):=by show _=_;rw[hR];show okR (max a b)=_;congr 1;omega
   have h3:b<=a:=by omega
   have h4:¬ a<b:=by omega
   have h5:¬ a<=b:=by omega
   clear hR
   go_enter Tryz.func67,Tryz.ntmps67
   go_wp2_with fail
   have B1:=HB0
   clear HB0
   refine Calls.mono (rnum_c _ _) ?_
   rintro e w2 ⟨rfl,b2⟩
   have B2:=chid (cbelow_on B1.out b2 B1.out.size)
   replace X1:=chid (X1.out.next b2)
   clear b2
   have z0:=X1.out.cell 0 _ rfl
   have z1:=X1.out.cell 1 _ rfl
   have f0:=X1.out.free 0 (by simp)
   have f1:=X1.out.free 1 (by simp)
   have zl:=X1.out.lt
   go_wp2_with fail
   refine bodyPost_ret (v:=reV (okR a)) (by simp[results,Tryz.results67,go_sem, *]) rfl ?_
   exact⟨by rw[hE.out],(B2.out.setCell (p:=⟨w.heap.size,0,none⟩) (by simp) _).setCell (p:=⟨w.heap.size,1,none⟩) (by simp) _⟩
end Go.Proofs.YtepncopdjodfgaaGreatDoor
