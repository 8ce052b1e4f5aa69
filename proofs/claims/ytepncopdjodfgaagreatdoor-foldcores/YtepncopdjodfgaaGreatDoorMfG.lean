import Derived.Test.YtepncopdjodfgaaGreatDoorMfF
namespace Go.Proofs.YtepncopdjodfgaaGreatDoor
open Go.RowKit
set_option maxHeartbeats 1000000 in
set_option maxRecDepth 20000 in
theorem rr27_k (ok:Nat->Prop)(n m:Int)(a y:Co)(v:Value)(w:World)(hk:cst a=true)(h6:¬ a.op=6)  (hs:CSP ok w ⟨27,n,m,[a,y]⟩ v):
 Calls Tryz.prog 90 #[coV ⟨27,n,m,[a,y]⟩ v] w (FoOut ok w a):=by
 have HCs:=chid hs
 obtain⟨pb,off,cap,rfl,k1,k2,lp,hx⟩:=hs.at (by simp)
 dsimp only at hx k1 HCs
 show Calls _ _ #[coV ⟨27,n,m,[a,y]⟩ (.slice (some ⟨pb,off,none⟩) 2 cap)] _ _
 have H6:=chid h6
 clear h6
 obtain⟨qa,qn,qf,qc⟩:=hx 0 (by simp)
 simp only[List.getElem_cons_zero,Nat.zero_mul,Nat.add_zero] at qf qc
 have HQ:=chid qc
 obtain⟨Y0,Y1,Y2⟩:=two_boxes w 30 30 (coL ⟨27,n,m,[a,y]⟩ (.slice (some ⟨pb,off,none⟩) 2 cap)) [.int .i64 0,.int .i64 0,.int .i64 0,.slice none 0 0]
 have x0:=Y0.cell 0 _ rfl
 have x1:=Y0.cell 1 _ rfl
 have x2:=Y0.cell 2 _ rfl
 have x3:=Y0.cell 3 _ rfl
 have xl:=Y0.lt
 have y0:=Y1.cell 0 _ rfl
 have y1:=Y1.cell 1 _ rfl
 have y2:=Y1.cell 2 _ rfl
 have y3:=Y1.cell 3 _ rfl
 have g0:=Y1.free 0 (by simp)
 have g1:=Y1.free 1 (by simp)
 have g2:=Y1.free 2 (by simp)
 have g3:=Y1.free 3 (by simp)
 have yl:=Y1.lt
 have HY0:=chid Y0
 have HY1:=chid Y1
 have B0:=chid Y2
 have HA2:Hid (∀ o o',Below w.heap.size w ((w.alloc o).alloc o')):=fun o o'=>((Below.refl _ _).alloc (Nat.le_refl _) _).alloc (by simp) _
 obtain⟨q0,q1,q2,q3⟩:=qf.keep (w':=((w.alloc (.cells (coL ⟨27,n,m,[a,y]⟩ (.slice (some ⟨pb,off,none⟩) 2 cap)).toArray 30)).alloc (.cells [.int .i64 0,.int .i64 0,.int .i64 0,.slice none 0 0].toArray 30))) (fun j=>Y2.cell (p:=⟨pb,j,none⟩) lp)
 have lpw:=Nat.lt_of_lt_of_le lp Y2.size
 have HK:=chid (fun W=>rConst_c a qa a.parts.length qn W)
 rw[hk] at HK
 have HZ0:=chid (Box.new ((w.alloc (.cells (coL ⟨27,n,m,[a,y]⟩ (.slice (some ⟨pb,off,none⟩) 2 cap)).toArray 30)).alloc (.cells [.int .i64 0,.int .i64 0,.int .i64 0,.slice none 0 0].toArray 30)) (coL a (.slice qa a.parts.length qn)) 30)
 have HZ:Hid (Box (((w.alloc (.cells (coL ⟨27,n,m,[a,y]⟩ (.slice (some ⟨pb,off,none⟩) 2 cap)).toArray 30)).alloc (.cells [.int .i64 0,.int .i64 0,.int .i64 0,.slice none 0 0].toArray 30)).alloc (.cells (coL a (.slice qa a.parts.length qn)).toArray 30)) (w.heap.size+1+1) (coL a (.slice qa a.parts.length qn))):=chid (by simpa using HZ0.out)
 have BL:=chid ((Below.refl ((w.alloc (.cells (coL ⟨27,n,m,[a,y]⟩ (.slice (some ⟨pb,off,none⟩) 2 cap)).toArray 30)).alloc (.cells [.int .i64 0,.int .i64 0,.int .i64 0,.slice none 0 0].toArray 30)).heap.size _).alloc (Nat.le_refl _) (.cells (coL a (.slice qa a.parts.length qn)).toArray 30))
 have B3:=chid (cbelow_on Y2 BL.out Y2.size)
 have X3:=chid (Y0.next BL.out)
 have Y3:=chid (Y1.next BL.out)
 clear hs hx qf qc Y0 Y1 Y2 HZ0 hk
 go_enter Tryz.func90,Tryz.ntmps90
 go_wp2_with fail
 refine Calls.mono (HK.out _) ?_
 rintro e w2 ⟨rfl,b2⟩
 have B4:=chid (cbelow_on B3.out b2 B3.out.size)
 have X4:=chid (X3.out.next b2)
 have Y4:=chid (Y3.out.next b2)
 have Z4:=chid (HZ.out.next b2)
 clear x0 x1 x2 x3 xl
 clear y0 y1 y2 y3 g0 g1 g2 g3 yl
 clear q0 q1 q2 q3 b2 HK HZ BL B3 X3 Y3 HY0 HY1 B0 lpw
 have n6:(a.op==6)=false:=by simpa using H6.out
 have x0:=X4.out.cell 0 _ rfl
 have x1:=X4.out.cell 1 _ rfl
 have x2:=X4.out.cell 2 _ rfl
 have x3:=X4.out.cell 3 _ rfl
 have xl:=X4.out.lt
 have y0:=Y4.out.cell 0 _ rfl
 have y1:=Y4.out.cell 1 _ rfl
 have y2:=Y4.out.cell 2 _ rfl
 have y3:=Y4.out.cell 3 _ rfl
 have g0:=Y4.out.free 0 (by simp)
 have g1:=Y4.out.free 1 (by simp)
 have g2:=Y4.out.free 2 (by simp)
 have g3:=Y4.out.free 3 (by simp)
 have yl:=Y4.out.lt
 have z0:=Z4.out.cell 0 _ rfl
 have z1:=Z4.out.cell 1 _ rfl
 have z2:=Z4.out.cell 2 _ rfl
 have z3:=Z4.out.cell 3 _ rfl
 have zl:=Z4.out.lt
 go_wp2_with fail
 refine bodyPost_ret (v:=coV a (.slice qa a.parts.length qn)) (by simp[results,Tryz.results90,go_sem, *]) rfl ?_
 exact⟨_,rfl,HQ.out,((((B4.out.setCell (p:=⟨w.heap.size+1,0,none⟩) (by simp) _).setCell (p:=⟨w.heap.size+1,1,none⟩) (by simp) _).setCell (p:=⟨w.heap.size+1,2,none⟩) (by simp) _).setCell (p:=⟨w.heap.size+1,3,none⟩) (by simp) _)⟩
set_option maxHeartbeats 1000000 in
set_option maxRecDepth 20000 in
theorem rr27_f (ok:Nat->Prop)(n m:Int)(a y:Co)(v:Value)(w:World)(hk:cst a=false)(h6:a.op=6)  (hs:CSP ok w ⟨27,n,m,[a,y]⟩ v):
 Calls Tryz.prog 90 #[coV ⟨27,n,m,[a,y]⟩ v] w (FoOut ok w y):=by
 have HCs:=chid hs
 obtain⟨pb,off,cap,rfl,k1,k2,lp,hx⟩:=hs.at (by simp)
 dsimp only at hx k1 HCs
 show Calls _ _ #[coV ⟨27,n,m,[a,y]⟩ (.slice (some ⟨pb,off,none⟩) 2 cap)] _ _
 have H6:=chid h6
 clear h6
 obtain⟨qa,qn,qf,qc⟩:=hx 0 (by simp)
 simp only[List.getElem_cons_zero,Nat.zero_mul,Nat.add_zero] at qf qc
 obtain⟨ya,yn,yf,yc⟩:=hx 1 (by simp)
 simp only[List.getElem_cons_succ,List.getElem_cons_zero,Nat.one_mul] at yf yc
 have HY:=chid yc
 have HQ:=chid qc
 obtain⟨Y0,Y1,Y2⟩:=two_boxes w 30 30 (coL ⟨27,n,m,[a,y]⟩ (.slice (some ⟨pb,off,none⟩) 2 cap)) [.int .i64 0,.int .i64 0,.int .i64 0,.slice none 0 0]
 have x0:=Y0.cell 0 _ rfl
 have x1:=Y0.cell 1 _ rfl
 have x2:=Y0.cell 2 _ rfl
 have x3:=Y0.cell 3 _ rfl
 have xl:=Y0.lt
 have y0:=Y1.cell 0 _ rfl
 have y1:=Y1.cell 1 _ rfl
 have y2:=Y1.cell 2 _ rfl
 have y3:=Y1.cell 3 _ rfl
 have g0:=Y1.free 0 (by simp)
 have g1:=Y1.free 1 (by simp)
 have g2:=Y1.free 2 (by simp)
 have g3:=Y1.free 3 (by simp)
 have yl:=Y1.lt
 have HY0:=chid Y0
 have HY1:=chid Y1
 have B0:=chid Y2
 have HA2:Hid (∀ o o',Below w.heap.size w ((w.alloc o).alloc o')):=fun o o'=>((Below.refl _ _).alloc (Nat.le_refl _) _).alloc (by simp) _
 obtain⟨q0,q1,q2,q3⟩:=qf.keep (w':=((w.alloc (.cells (coL ⟨27,n,m,[a,y]⟩ (.slice (some ⟨pb,off,none⟩) 2 cap)).toArray 30)).alloc (.cells [.int .i64 0,.int .i64 0,.int .i64 0,.slice none 0 0].toArray 30))) (fun j=>Y2.cell (p:=⟨pb,j,none⟩) lp)
 have lpw:=Nat.lt_of_lt_of_le lp Y2.size
 have HK:=chid (fun W=>rConst_c a qa a.parts.length qn W)
 rw[hk] at HK
 have HZ0:=chid (Box.new ((w.alloc (.cells (coL ⟨27,n,m,[a,y]⟩ (.slice (some ⟨pb,off,none⟩) 2 cap)).toArray 30)).alloc (.cells [.int .i64 0,.int .i64 0,.int .i64 0,.slice none 0 0].toArray 30)) (coL a (.slice qa a.parts.length qn)) 30)
 have HZ:Hid (Box (((w.alloc (.cells (coL ⟨27,n,m,[a,y]⟩ (.slice (some ⟨pb,off,none⟩) 2 cap)).toArray 30)).alloc (.cells [.int .i64 0,.int .i64 0,.int .i64 0,.slice none 0 0].toArray 30)).alloc (.cells (coL a (.slice qa a.parts.length qn)).toArray 30)) (w.heap.size+1+1) (coL a (.slice qa a.parts.length qn))):=chid (by simpa using HZ0.out)
 have BL:=chid ((Below.refl ((w.alloc (.cells (coL ⟨27,n,m,[a,y]⟩ (.slice (some ⟨pb,off,none⟩) 2 cap)).toArray 30)).alloc (.cells [.int .i64 0,.int .i64 0,.int .i64 0,.slice none 0 0].toArray 30)).heap.size _).alloc (Nat.le_refl _) (.cells (coL a (.slice qa a.parts.length qn)).toArray 30))
 have B3:=chid (cbelow_on Y2 BL.out Y2.size)
 have X3:=chid (Y0.next BL.out)
 have Y3:=chid (Y1.next BL.out)
 clear hs hx qf qc Y0 Y1 Y2 HZ0 hk yc
 go_enter Tryz.func90,Tryz.ntmps90
 go_wp2_with fail
 refine Calls.mono (HK.out _) ?_
 rintro e w2 ⟨rfl,b2⟩
 have B4:=chid (cbelow_on B3.out b2 B3.out.size)
 have X4:=chid (X3.out.next b2)
 have Y4:=chid (Y3.out.next b2)
 have Z4:=chid (HZ.out.next b2)
 clear x0 x1 x2 x3 xl
 clear y0 y1 y2 y3 g0 g1 g2 g3 yl
 clear q0 q1 q2 q3 b2 HK HZ BL B3 X3 Y3 HY0 HY1 B0 lpw
 have n6:(a.op==6)=true:=by simpa using H6.out
 have x0:=X4.out.cell 0 _ rfl
 have x1:=X4.out.cell 1 _ rfl
 have x2:=X4.out.cell 2 _ rfl
 have x3:=X4.out.cell 3 _ rfl
 have xl:=X4.out.lt
 have y0:=Y4.out.cell 0 _ rfl
 have y1:=Y4.out.cell 1 _ rfl
 have y2:=Y4.out.cell 2 _ rfl
 have y3:=Y4.out.cell 3 _ rfl
 have g0:=Y4.out.free 0 (by simp)
 have g1:=Y4.out.free 1 (by simp)
 have g2:=Y4.out.free 2 (by simp)
 have g3:=Y4.out.free 3 (by simp)
 have yl:=Y4.out.lt
 have z0:=Z4.out.cell 0 _ rfl
 have z1:=Z4.out.cell 1 _ rfl
 have z2:=Z4.out.cell 2 _ rfl
 have z3:=Z4.out.cell 3 _ rfl
 have zl:=Z4.out.lt
 obtain⟨t0,t1,t2,t3⟩:=yf.keep (w':=w2) (fun j=>B4.out.cell (p:=⟨pb,j,none⟩) lp)
 have lp4:=Nat.lt_of_lt_of_le lp B4.out.size
 go_wp2_with fail
 refine bodyPost_ret (v:=coV y (.slice ya y.parts.length yn)) (by simp[results,Tryz.results90,go_sem, *]) rfl ?_
 exact⟨_,rfl,HY.out,((((B4.out.setCell (p:=⟨w.heap.size+1,0,none⟩) (by simp) _).setCell (p:=⟨w.heap.size+1,1,none⟩) (by simp) _).setCell (p:=⟨w.heap.size+1,2,none⟩) (by simp) _).setCell (p:=⟨w.heap.size+1,3,none⟩) (by simp) _)⟩
set_option maxHeartbeats 1000000 in
set_option maxRecDepth 20000 in
theorem rr27_s (ok:Nat->Prop)(n m:Int)(a y:Co)(v:Value)(w:World)(hk:cst a=false)(h6:¬ a.op=6)  (hs:CSP ok w ⟨27,n,m,[a,y]⟩ v):
 Calls Tryz.prog 90 #[coV ⟨27,n,m,[a,y]⟩ v] w (FoOut ok w ⟨27,n,m,[a,y]⟩):=by
 have HCs:=chid hs
 obtain⟨pb,off,cap,rfl,k1,k2,lp,hx⟩:=hs.at (by simp)
 dsimp only at hx k1 HCs
 show Calls _ _ #[coV ⟨27,n,m,[a,y]⟩ (.slice (some ⟨pb,off,none⟩) 2 cap)] _ _
 have H6:=chid h6
 clear h6
 obtain⟨qa,qn,qf,qc⟩:=hx 0 (by simp)
 simp only[List.getElem_cons_zero,Nat.zero_mul,Nat.add_zero] at qf qc
 have HQ:=chid qc
 obtain⟨Y0,Y1,Y2⟩:=two_boxes w 30 30 (coL ⟨27,n,m,[a,y]⟩ (.slice (some ⟨pb,off,none⟩) 2 cap)) [.int .i64 0,.int .i64 0,.int .i64 0,.slice none 0 0]
 have x0:=Y0.cell 0 _ rfl
 have x1:=Y0.cell 1 _ rfl
 have x2:=Y0.cell 2 _ rfl
 have x3:=Y0.cell 3 _ rfl
 have xl:=Y0.lt
 have y0:=Y1.cell 0 _ rfl
 have y1:=Y1.cell 1 _ rfl
 have y2:=Y1.cell 2 _ rfl
 have y3:=Y1.cell 3 _ rfl
 have g0:=Y1.free 0 (by simp)
 have g1:=Y1.free 1 (by simp)
 have g2:=Y1.free 2 (by simp)
 have g3:=Y1.free 3 (by simp)
 have yl:=Y1.lt
 have HY0:=chid Y0
 have HY1:=chid Y1
 have B0:=chid Y2
 have HA2:Hid (∀ o o',Below w.heap.size w ((w.alloc o).alloc o')):=fun o o'=>((Below.refl _ _).alloc (Nat.le_refl _) _).alloc (by simp) _
 obtain⟨q0,q1,q2,q3⟩:=qf.keep (w':=((w.alloc (.cells (coL ⟨27,n,m,[a,y]⟩ (.slice (some ⟨pb,off,none⟩) 2 cap)).toArray 30)).alloc (.cells [.int .i64 0,.int .i64 0,.int .i64 0,.slice none 0 0].toArray 30))) (fun j=>Y2.cell (p:=⟨pb,j,none⟩) lp)
 have lpw:=Nat.lt_of_lt_of_le lp Y2.size
 have HK:=chid (fun W=>rConst_c a qa a.parts.length qn W)
 rw[hk] at HK
 have HZ0:=chid (Box.new ((w.alloc (.cells (coL ⟨27,n,m,[a,y]⟩ (.slice (some ⟨pb,off,none⟩) 2 cap)).toArray 30)).alloc (.cells [.int .i64 0,.int .i64 0,.int .i64 0,.slice none 0 0].toArray 30)) (coL a (.slice qa a.parts.length qn)) 30)
 have HZ:Hid (Box (((w.alloc (.cells (coL ⟨27,n,m,[a,y]⟩ (.slice (some ⟨pb,off,none⟩) 2 cap)).toArray 30)).alloc (.cells [.int .i64 0,.int .i64 0,.int .i64 0,.slice none 0 0].toArray 30)).alloc (.cells (coL a (.slice qa a.parts.length qn)).toArray 30)) (w.heap.size+1+1) (coL a (.slice qa a.parts.length qn))):=chid (by simpa using HZ0.out)
 have BL:=chid ((Below.refl ((w.alloc (.cells (coL ⟨27,n,m,[a,y]⟩ (.slice (some ⟨pb,off,none⟩) 2 cap)).toArray 30)).alloc (.cells [.int .i64 0,.int .i64 0,.int .i64 0,.slice none 0 0].toArray 30)).heap.size _).alloc (Nat.le_refl _) (.cells (coL a (.slice qa a.parts.length qn)).toArray 30))
 have B3:=chid (cbelow_on Y2 BL.out Y2.size)
 have X3:=chid (Y0.next BL.out)
 have Y3:=chid (Y1.next BL.out)
 clear hs hx qf qc Y0 Y1 Y2 HZ0 hk
 go_enter Tryz.func90,Tryz.ntmps90
 go_wp2_with fail
 refine Calls.mono (HK.out _) ?_
 rintro e w2 ⟨rfl,b2⟩
 have B4:=chid (cbelow_on B3.out b2 B3.out.size)
 have X4:=chid (X3.out.next b2)
 have Y4:=chid (Y3.out.next b2)
 have Z4:=chid (HZ.out.next b2)
 clear x0 x1 x2 x3 xl
 clear y0 y1 y2 y3 g0 g1 g2 g3 yl
 clear q0 q1 q2 q3 b2 HK HZ BL B3 X3 Y3 HY0 HY1 B0 lpw
 have n6:(a.op==6)=false:=by simpa using H6.out
 have x0:=X4.out.cell 0 _ rfl
 have x1:=X4.out.cell 1 _ rfl
 have x2:=X4.out.cell 2 _ rfl
 have x3:=X4.out.cell 3 _ rfl
 have xl:=X4.out.lt
 have y0:=Y4.out.cell 0 _ rfl
 have y1:=Y4.out.cell 1 _ rfl
 have y2:=Y4.out.cell 2 _ rfl
 have y3:=Y4.out.cell 3 _ rfl
 have g0:=Y4.out.free 0 (by simp)
 have g1:=Y4.out.free 1 (by simp)
 have g2:=Y4.out.free 2 (by simp)
 have g3:=Y4.out.free 3 (by simp)
 have yl:=Y4.out.lt
 have z0:=Z4.out.cell 0 _ rfl
 have z1:=Z4.out.cell 1 _ rfl
 have z2:=Z4.out.cell 2 _ rfl
 have z3:=Z4.out.cell 3 _ rfl
 have zl:=Z4.out.lt
 go_wp2_with fail
 refine bodyPost_ret (v:=coV ⟨27,n,m,[a,y]⟩ (.slice (some ⟨pb,off,none⟩) 2 cap)) (by simp[results,Tryz.results90,go_sem, *]) rfl ?_
 exact⟨_,rfl,HCs.out,((((B4.out.setCell (p:=⟨w.heap.size+1,0,none⟩) (by simp) _).setCell (p:=⟨w.heap.size+1,1,none⟩) (by simp) _).setCell (p:=⟨w.heap.size+1,2,none⟩) (by simp) _).setCell (p:=⟨w.heap.size+1,3,none⟩) (by simp) _)⟩
set_option maxHeartbeats 1000000 in
set_option maxRecDepth 20000 in
theorem rr7_k (ok:Nat->Prop)(n m:Int)(a:Co)(v:Value)(w:World)(hk:cst a=true)(h6:¬ a.op=6)  (hs:CSP ok w ⟨7,n,m,[a]⟩ v):
 Calls Tryz.prog 90 #[coV ⟨7,n,m,[a]⟩ v] w (FoOut ok w a):=by
 have HCs:=chid hs
 obtain⟨pb,off,cap,rfl,k1,k2,lp,hx⟩:=hs.at (by simp)
 dsimp only at hx k1 HCs
 show Calls _ _ #[coV ⟨7,n,m,[a]⟩ (.slice (some ⟨pb,off,none⟩) 1 cap)] _ _
 have H6:=chid h6
 clear h6
 obtain⟨qa,qn,qf,qc⟩:=hx 0 (by simp)
 simp only[List.getElem_cons_zero,Nat.zero_mul,Nat.add_zero] at qf qc
 have HQ:=chid qc
 obtain⟨Y0,Y1,Y2⟩:=two_boxes w 30 30 (coL ⟨7,n,m,[a]⟩ (.slice (some ⟨pb,off,none⟩) 1 cap)) [.int .i64 0,.int .i64 0,.int .i64 0,.slice none 0 0]
 have x0:=Y0.cell 0 _ rfl
 have x1:=Y0.cell 1 _ rfl
 have x2:=Y0.cell 2 _ rfl
 have x3:=Y0.cell 3 _ rfl
 have xl:=Y0.lt
 have y0:=Y1.cell 0 _ rfl
 have y1:=Y1.cell 1 _ rfl
 have y2:=Y1.cell 2 _ rfl
 have y3:=Y1.cell 3 _ rfl
 have g0:=Y1.free 0 (by simp)
 have g1:=Y1.free 1 (by simp)
 have g2:=Y1.free 2 (by simp)
 have g3:=Y1.free 3 (by simp)
 have yl:=Y1.lt
 have HY0:=chid Y0
 have HY1:=chid Y1
 have B0:=chid Y2
 have HA2:Hid (∀ o o',Below w.heap.size w ((w.alloc o).alloc o')):=fun o o'=>((Below.refl _ _).alloc (Nat.le_refl _) _).alloc (by simp) _
 obtain⟨q0,q1,q2,q3⟩:=qf.keep (w':=((w.alloc (.cells (coL ⟨7,n,m,[a]⟩ (.slice (some ⟨pb,off,none⟩) 1 cap)).toArray 30)).alloc (.cells [.int .i64 0,.int .i64 0,.int .i64 0,.slice none 0 0].toArray 30))) (fun j=>Y2.cell (p:=⟨pb,j,none⟩) lp)
 have lpw:=Nat.lt_of_lt_of_le lp Y2.size
 have HK:=chid (fun W=>rConst_c a qa a.parts.length qn W)
 rw[hk] at HK
 have HZ0:=chid (Box.new ((w.alloc (.cells (coL ⟨7,n,m,[a]⟩ (.slice (some ⟨pb,off,none⟩) 1 cap)).toArray 30)).alloc (.cells [.int .i64 0,.int .i64 0,.int .i64 0,.slice none 0 0].toArray 30)) (coL a (.slice qa a.parts.length qn)) 30)
 have HZ:Hid (Box (((w.alloc (.cells (coL ⟨7,n,m,[a]⟩ (.slice (some ⟨pb,off,none⟩) 1 cap)).toArray 30)).alloc (.cells [.int .i64 0,.int .i64 0,.int .i64 0,.slice none 0 0].toArray 30)).alloc (.cells (coL a (.slice qa a.parts.length qn)).toArray 30)) (w.heap.size+1+1) (coL a (.slice qa a.parts.length qn))):=chid (by simpa using HZ0.out)
 have BL:=chid ((Below.refl ((w.alloc (.cells (coL ⟨7,n,m,[a]⟩ (.slice (some ⟨pb,off,none⟩) 1 cap)).toArray 30)).alloc (.cells [.int .i64 0,.int .i64 0,.int .i64 0,.slice none 0 0].toArray 30)).heap.size _).alloc (Nat.le_refl _) (.cells (coL a (.slice qa a.parts.length qn)).toArray 30))
 have B3:=chid (cbelow_on Y2 BL.out Y2.size)
 have X3:=chid (Y0.next BL.out)
 have Y3:=chid (Y1.next BL.out)
 clear hs hx qf qc Y0 Y1 Y2 HZ0 hk
 go_enter Tryz.func90,Tryz.ntmps90
 go_wp2_with fail
 refine Calls.mono (HK.out _) ?_
 rintro e w2 ⟨rfl,b2⟩
 have B4:=chid (cbelow_on B3.out b2 B3.out.size)
 have X4:=chid (X3.out.next b2)
 have Y4:=chid (Y3.out.next b2)
 have Z4:=chid (HZ.out.next b2)
 clear x0 x1 x2 x3 xl
 clear y0 y1 y2 y3 g0 g1 g2 g3 yl
 clear q0 q1 q2 q3 b2 HK HZ BL B3 X3 Y3 HY0 HY1 B0 lpw
 have n6:(a.op==6)=false:=by simpa using H6.out
 have x0:=X4.out.cell 0 _ rfl
 have x1:=X4.out.cell 1 _ rfl
 have x2:=X4.out.cell 2 _ rfl
 have x3:=X4.out.cell 3 _ rfl
 have xl:=X4.out.lt
 have y0:=Y4.out.cell 0 _ rfl
 have y1:=Y4.out.cell 1 _ rfl
 have y2:=Y4.out.cell 2 _ rfl
 have y3:=Y4.out.cell 3 _ rfl
 have g0:=Y4.out.free 0 (by simp)
 have g1:=Y4.out.free 1 (by simp)
 have g2:=Y4.out.free 2 (by simp)
 have g3:=Y4.out.free 3 (by simp)
 have yl:=Y4.out.lt
 have z0:=Z4.out.cell 0 _ rfl
 have z1:=Z4.out.cell 1 _ rfl
 have z2:=Z4.out.cell 2 _ rfl
 have z3:=Z4.out.cell 3 _ rfl
 have zl:=Z4.out.lt
 go_wp2_with fail
 refine bodyPost_ret (v:=coV a (.slice qa a.parts.length qn)) (by simp[results,Tryz.results90,go_sem, *]) rfl ?_
 exact⟨_,rfl,HQ.out,((((B4.out.setCell (p:=⟨w.heap.size+1,0,none⟩) (by simp) _).setCell (p:=⟨w.heap.size+1,1,none⟩) (by simp) _).setCell (p:=⟨w.heap.size+1,2,none⟩) (by simp) _).setCell (p:=⟨w.heap.size+1,3,none⟩) (by simp) _)⟩
set_option maxHeartbeats 1000000 in
set_option maxRecDepth 20000 in
theorem rr7_f (ok:Nat->Prop)(n m:Int)(a:Co)(v:Value)(w:World)(hk:cst a=false)(h6:a.op=6)  (hs:CSP ok w ⟨7,n,m,[a]⟩ v):
 Calls Tryz.prog 90 #[coV ⟨7,n,m,[a]⟩ v] w (FoOut ok w a):=by
 have HCs:=chid hs
 obtain⟨pb,off,cap,rfl,k1,k2,lp,hx⟩:=hs.at (by simp)
 dsimp only at hx k1 HCs
 show Calls _ _ #[coV ⟨7,n,m,[a]⟩ (.slice (some ⟨pb,off,none⟩) 1 cap)] _ _
 have H6:=chid h6
 clear h6
 obtain⟨qa,qn,qf,qc⟩:=hx 0 (by simp)
 simp only[List.getElem_cons_zero,Nat.zero_mul,Nat.add_zero] at qf qc
 have HQ:=chid qc
 obtain⟨Y0,Y1,Y2⟩:=two_boxes w 30 30 (coL ⟨7,n,m,[a]⟩ (.slice (some ⟨pb,off,none⟩) 1 cap)) [.int .i64 0,.int .i64 0,.int .i64 0,.slice none 0 0]
 have x0:=Y0.cell 0 _ rfl
 have x1:=Y0.cell 1 _ rfl
 have x2:=Y0.cell 2 _ rfl
 have x3:=Y0.cell 3 _ rfl
 have xl:=Y0.lt
 have y0:=Y1.cell 0 _ rfl
 have y1:=Y1.cell 1 _ rfl
 have y2:=Y1.cell 2 _ rfl
 have y3:=Y1.cell 3 _ rfl
 have g0:=Y1.free 0 (by simp)
 have g1:=Y1.free 1 (by simp)
 have g2:=Y1.free 2 (by simp)
 have g3:=Y1.free 3 (by simp)
 have yl:=Y1.lt
 have HY0:=chid Y0
 have HY1:=chid Y1
 have B0:=chid Y2
 have HA2:Hid (∀ o o',Below w.heap.size w ((w.alloc o).alloc o')):=fun o o'=>((Below.refl _ _).alloc (Nat.le_refl _) _).alloc (by simp) _
 obtain⟨q0,q1,q2,q3⟩:=qf.keep (w':=((w.alloc (.cells (coL ⟨7,n,m,[a]⟩ (.slice (some ⟨pb,off,none⟩) 1 cap)).toArray 30)).alloc (.cells [.int .i64 0,.int .i64 0,.int .i64 0,.slice none 0 0].toArray 30))) (fun j=>Y2.cell (p:=⟨pb,j,none⟩) lp)
 have lpw:=Nat.lt_of_lt_of_le lp Y2.size
 have HK:=chid (fun W=>rConst_c a qa a.parts.length qn W)
 rw[hk] at HK
 have HZ0:=chid (Box.new ((w.alloc (.cells (coL ⟨7,n,m,[a]⟩ (.slice (some ⟨pb,off,none⟩) 1 cap)).toArray 30)).alloc (.cells [.int .i64 0,.int .i64 0,.int .i64 0,.slice none 0 0].toArray 30)) (coL a (.slice qa a.parts.length qn)) 30)
 have HZ:Hid (Box (((w.alloc (.cells (coL ⟨7,n,m,[a]⟩ (.slice (some ⟨pb,off,none⟩) 1 cap)).toArray 30)).alloc (.cells [.int .i64 0,.int .i64 0,.int .i64 0,.slice none 0 0].toArray 30)).alloc (.cells (coL a (.slice qa a.parts.length qn)).toArray 30)) (w.heap.size+1+1) (coL a (.slice qa a.parts.length qn))):=chid (by simpa using HZ0.out)
 have BL:=chid ((Below.refl ((w.alloc (.cells (coL ⟨7,n,m,[a]⟩ (.slice (some ⟨pb,off,none⟩) 1 cap)).toArray 30)).alloc (.cells [.int .i64 0,.int .i64 0,.int .i64 0,.slice none 0 0].toArray 30)).heap.size _).alloc (Nat.le_refl _) (.cells (coL a (.slice qa a.parts.length qn)).toArray 30))
 have B3:=chid (cbelow_on Y2 BL.out Y2.size)
 have X3:=chid (Y0.next BL.out)
 have Y3:=chid (Y1.next BL.out)
 clear hs hx qf qc Y0 Y1 Y2 HZ0 hk
 go_enter Tryz.func90,Tryz.ntmps90
 go_wp2_with fail
 refine Calls.mono (HK.out _) ?_
 rintro e w2 ⟨rfl,b2⟩
 have B4:=chid (cbelow_on B3.out b2 B3.out.size)
 have X4:=chid (X3.out.next b2)
 have Y4:=chid (Y3.out.next b2)
 have Z4:=chid (HZ.out.next b2)
 clear x0 x1 x2 x3 xl
 clear y0 y1 y2 y3 g0 g1 g2 g3 yl
 clear q0 q1 q2 q3 b2 HK HZ BL B3 X3 Y3 HY0 HY1 B0 lpw
 have n6:(a.op==6)=true:=by simpa using H6.out
 have x0:=X4.out.cell 0 _ rfl
 have x1:=X4.out.cell 1 _ rfl
 have x2:=X4.out.cell 2 _ rfl
 have x3:=X4.out.cell 3 _ rfl
 have xl:=X4.out.lt
 have y0:=Y4.out.cell 0 _ rfl
 have y1:=Y4.out.cell 1 _ rfl
 have y2:=Y4.out.cell 2 _ rfl
 have y3:=Y4.out.cell 3 _ rfl
 have g0:=Y4.out.free 0 (by simp)
 have g1:=Y4.out.free 1 (by simp)
 have g2:=Y4.out.free 2 (by simp)
 have g3:=Y4.out.free 3 (by simp)
 have yl:=Y4.out.lt
 have z0:=Z4.out.cell 0 _ rfl
 have z1:=Z4.out.cell 1 _ rfl
 have z2:=Z4.out.cell 2 _ rfl
 have z3:=Z4.out.cell 3 _ rfl
 have zl:=Z4.out.lt
 go_wp2_with fail
 refine bodyPost_ret (v:=coV a (.slice qa a.parts.length qn)) (by simp[results,Tryz.results90,go_sem, *]) rfl ?_
 exact⟨_,rfl,HQ.out,((((B4.out.setCell (p:=⟨w.heap.size+1,0,none⟩) (by simp) _).setCell (p:=⟨w.heap.size+1,1,none⟩) (by simp) _).setCell (p:=⟨w.heap.size+1,2,none⟩) (by simp) _).setCell (p:=⟨w.heap.size+1,3,none⟩) (by simp) _)⟩
set_option maxHeartbeats 1000000 in
set_option maxRecDepth 20000 in
theorem rr7_s (ok:Nat->Prop)(n m:Int)(a:Co)(v:Value)(w:World)(hk:cst a=false)(h6:¬ a.op=6)  (hs:CSP ok w ⟨7,n,m,[a]⟩ v):
 Calls Tryz.prog 90 #[coV ⟨7,n,m,[a]⟩ v] w (FoOut ok w ⟨7,n,m,[a]⟩):=by
 have HCs:=chid hs
 obtain⟨pb,off,cap,rfl,k1,k2,lp,hx⟩:=hs.at (by simp)
 dsimp only at hx k1 HCs
 show Calls _ _ #[coV ⟨7,n,m,[a]⟩ (.slice (some ⟨pb,off,none⟩) 1 cap)] _ _
 have H6:=chid h6
 clear h6
 obtain⟨qa,qn,qf,qc⟩:=hx 0 (by simp)
 simp only[List.getElem_cons_zero,Nat.zero_mul,Nat.add_zero] at qf qc
 have HQ:=chid qc
 obtain⟨Y0,Y1,Y2⟩:=two_boxes w 30 30 (coL ⟨7,n,m,[a]⟩ (.slice (some ⟨pb,off,none⟩) 1 cap)) [.int .i64 0,.int .i64 0,.int .i64 0,.slice none 0 0]
 have x0:=Y0.cell 0 _ rfl
 have x1:=Y0.cell 1 _ rfl
 have x2:=Y0.cell 2 _ rfl
 have x3:=Y0.cell 3 _ rfl
 have xl:=Y0.lt
 have y0:=Y1.cell 0 _ rfl
 have y1:=Y1.cell 1 _ rfl
 have y2:=Y1.cell 2 _ rfl
 have y3:=Y1.cell 3 _ rfl
 have g0:=Y1.free 0 (by simp)
 have g1:=Y1.free 1 (by simp)
 have g2:=Y1.free 2 (by simp)
 have g3:=Y1.free 3 (by simp)
 have yl:=Y1.lt
 have HY0:=chid Y0
 have HY1:=chid Y1
 have B0:=chid Y2
 have HA2:Hid (∀ o o',Below w.heap.size w ((w.alloc o).alloc o')):=fun o o'=>((Below.refl _ _).alloc (Nat.le_refl _) _).alloc (by simp) _
 obtain⟨q0,q1,q2,q3⟩:=qf.keep (w':=((w.alloc (.cells (coL ⟨7,n,m,[a]⟩ (.slice (some ⟨pb,off,none⟩) 1 cap)).toArray 30)).alloc (.cells [.int .i64 0,.int .i64 0,.int .i64 0,.slice none 0 0].toArray 30))) (fun j=>Y2.cell (p:=⟨pb,j,none⟩) lp)
 have lpw:=Nat.lt_of_lt_of_le lp Y2.size
 have HK:=chid (fun W=>rConst_c a qa a.parts.length qn W)
 rw[hk] at HK
 have HZ0:=chid (Box.new ((w.alloc (.cells (coL ⟨7,n,m,[a]⟩ (.slice (some ⟨pb,off,none⟩) 1 cap)).toArray 30)).alloc (.cells [.int .i64 0,.int .i64 0,.int .i64 0,.slice none 0 0].toArray 30)) (coL a (.slice qa a.parts.length qn)) 30)
 have HZ:Hid (Box (((w.alloc (.cells (coL ⟨7,n,m,[a]⟩ (.slice (some ⟨pb,off,none⟩) 1 cap)).toArray 30)).alloc (.cells [.int .i64 0,.int .i64 0,.int .i64 0,.slice none 0 0].toArray 30)).alloc (.cells (coL a (.slice qa a.parts.length qn)).toArray 30)) (w.heap.size+1+1) (coL a (.slice qa a.parts.length qn))):=chid (by simpa using HZ0.out)
 have BL:=chid ((Below.refl ((w.alloc (.cells (coL ⟨7,n,m,[a]⟩ (.slice (some ⟨pb,off,none⟩) 1 cap)).toArray 30)).alloc (.cells [.int .i64 0,.int .i64 0,.int .i64 0,.slice none 0 0].toArray 30)).heap.size _).alloc (Nat.le_refl _) (.cells (coL a (.slice qa a.parts.length qn)).toArray 30))
 have B3:=chid (cbelow_on Y2 BL.out Y2.size)
 have X3:=chid (Y0.next BL.out)
 have Y3:=chid (Y1.next BL.out)
 clear hs hx qf qc Y0 Y1 Y2 HZ0 hk
 go_enter Tryz.func90,Tryz.ntmps90
 go_wp2_with fail
 refine Calls.mono (HK.out _) ?_
 rintro e w2 ⟨rfl,b2⟩
 have B4:=chid (cbelow_on B3.out b2 B3.out.size)
 have X4:=chid (X3.out.next b2)
 have Y4:=chid (Y3.out.next b2)
 have Z4:=chid (HZ.out.next b2)
 clear x0 x1 x2 x3 xl
 clear y0 y1 y2 y3 g0 g1 g2 g3 yl
 clear q0 q1 q2 q3 b2 HK HZ BL B3 X3 Y3 HY0 HY1 B0 lpw
 have n6:(a.op==6)=false:=by simpa using H6.out
 have x0:=X4.out.cell 0 _ rfl
 have x1:=X4.out.cell 1 _ rfl
 have x2:=X4.out.cell 2 _ rfl
 have x3:=X4.out.cell 3 _ rfl
 have xl:=X4.out.lt
 have y0:=Y4.out.cell 0 _ rfl
 have y1:=Y4.out.cell 1 _ rfl
 have y2:=Y4.out.cell 2 _ rfl
 have y3:=Y4.out.cell 3 _ rfl
 have g0:=Y4.out.free 0 (by simp)
 have g1:=Y4.out.free 1 (by simp)
 have g2:=Y4.out.free 2 (by simp)
 have g3:=Y4.out.free 3 (by simp)
 have yl:=Y4.out.lt
 have z0:=Z4.out.cell 0 _ rfl
 have z1:=Z4.out.cell 1 _ rfl
 have z2:=Z4.out.cell 2 _ rfl
 have z3:=Z4.out.cell 3 _ rfl
 have zl:=Z4.out.lt
 go_wp2_with fail
 refine bodyPost_ret (v:=coV ⟨7,n,m,[a]⟩ (.slice (some ⟨pb,off,none⟩) 1 cap)) (by simp[results,Tryz.results90,go_sem, *]) rfl ?_
 exact⟨_,rfl,HCs.out,((((B4.out.setCell (p:=⟨w.heap.size+1,0,none⟩) (by simp) _).setCell (p:=⟨w.heap.size+1,1,none⟩) (by simp) _).setCell (p:=⟨w.heap.size+1,2,none⟩) (by simp) _).setCell (p:=⟨w.heap.size+1,3,none⟩) (by simp) _)⟩
set_option maxHeartbeats 1000000 in
set_option maxRecDepth 20000 in
theorem rr30_10 (ok:Nat->Prop)(n m:Int)(a:Co)(v:Value)(w:World)(hk:cst a=true)(h6:¬ a.op=6)  (hs:CSP ok w ⟨30,n,m,[a]⟩ v):
 Calls Tryz.prog 90 #[coV ⟨30,n,m,[a]⟩ v] w (FoOut ok w ⟨30,n,m,[a]⟩):=by
 have HCs:=chid hs
 obtain⟨pb,off,cap,rfl,k1,k2,lp,hx⟩:=hs.at (by simp)
 dsimp only at hx k1 HCs
 show Calls _ _ #[coV ⟨30,n,m,[a]⟩ (.slice (some ⟨pb,off,none⟩) 1 cap)] _ _
 have H6:=chid h6
 clear h6
 obtain⟨qa,qn,qf,qc⟩:=hx 0 (by simp)
 simp only[List.getElem_cons_zero,Nat.zero_mul,Nat.add_zero] at qf qc
 have HQ:=chid qc
 obtain⟨Y0,Y1,Y2⟩:=two_boxes w 30 30 (coL ⟨30,n,m,[a]⟩ (.slice (some ⟨pb,off,none⟩) 1 cap)) [.int .i64 0,.int .i64 0,.int .i64 0,.slice none 0 0]
 have x0:=Y0.cell 0 _ rfl
 have x1:=Y0.cell 1 _ rfl
 have x2:=Y0.cell 2 _ rfl
 have x3:=Y0.cell 3 _ rfl
 have xl:=Y0.lt
 have y0:=Y1.cell 0 _ rfl
 have y1:=Y1.cell 1 _ rfl
 have y2:=Y1.cell 2 _ rfl
 have y3:=Y1.cell 3 _ rfl
 have g0:=Y1.free 0 (by simp)
 have g1:=Y1.free 1 (by simp)
 have g2:=Y1.free 2 (by simp)
 have g3:=Y1.free 3 (by simp)
 have yl:=Y1.lt
 have HY0:=chid Y0
 have HY1:=chid Y1
 have B0:=chid Y2
 have HA2:Hid (∀ o o',Below w.heap.size w ((w.alloc o).alloc o')):=fun o o'=>((Below.refl _ _).alloc (Nat.le_refl _) _).alloc (by simp) _
 obtain⟨q0,q1,q2,q3⟩:=qf.keep (w':=((w.alloc (.cells (coL ⟨30,n,m,[a]⟩ (.slice (some ⟨pb,off,none⟩) 1 cap)).toArray 30)).alloc (.cells [.int .i64 0,.int .i64 0,.int .i64 0,.slice none 0 0].toArray 30))) (fun j=>Y2.cell (p:=⟨pb,j,none⟩) lp)
 have lpw:=Nat.lt_of_lt_of_le lp Y2.size
 have HK:=chid (fun W=>rConst_c a qa a.parts.length qn W)
 rw[hk] at HK
 have HZ0:=chid (Box.new ((w.alloc (.cells (coL ⟨30,n,m,[a]⟩ (.slice (some ⟨pb,off,none⟩) 1 cap)).toArray 30)).alloc (.cells [.int .i64 0,.int .i64 0,.int .i64 0,.slice none 0 0].toArray 30)) (coL a (.slice qa a.parts.length qn)) 30)
 have HZ:Hid (Box (((w.alloc (.cells (coL ⟨30,n,m,[a]⟩ (.slice (some ⟨pb,off,none⟩) 1 cap)).toArray 30)).alloc (.cells [.int .i64 0,.int .i64 0,.int .i64 0,.slice none 0 0].toArray 30)).alloc (.cells (coL a (.slice qa a.parts.length qn)).toArray 30)) (w.heap.size+1+1) (coL a (.slice qa a.parts.length qn))):=chid (by simpa using HZ0.out)
 have BL:=chid ((Below.refl ((w.alloc (.cells (coL ⟨30,n,m,[a]⟩ (.slice (some ⟨pb,off,none⟩) 1 cap)).toArray 30)).alloc (.cells [.int .i64 0,.int .i64 0,.int .i64 0,.slice none 0 0].toArray 30)).heap.size _).alloc (Nat.le_refl _) (.cells (coL a (.slice qa a.parts.length qn)).toArray 30))
 have B3:=chid (cbelow_on Y2 BL.out Y2.size)
 have X3:=chid (Y0.next BL.out)
 have Y3:=chid (Y1.next BL.out)
 clear hs hx qf qc Y0 Y1 Y2 HZ0 hk
 go_enter Tryz.func90,Tryz.ntmps90
 go_wp2_with fail
 refine Calls.mono (HK.out _) ?_
 rintro e w2 ⟨rfl,b2⟩
 have B4:=chid (cbelow_on B3.out b2 B3.out.size)
 have X4:=chid (X3.out.next b2)
 have Y4:=chid (Y3.out.next b2)
 have Z4:=chid (HZ.out.next b2)
 clear x0 x1 x2 x3 xl
 clear y0 y1 y2 y3 g0 g1 g2 g3 yl
 clear q0 q1 q2 q3 b2 HK HZ BL B3 X3 Y3 HY0 HY1 B0 lpw
 have n6:(a.op==6)=false:=by simpa using H6.out
 have x0:=X4.out.cell 0 _ rfl
 have x1:=X4.out.cell 1 _ rfl
 have x2:=X4.out.cell 2 _ rfl
 have x3:=X4.out.cell 3 _ rfl
 have xl:=X4.out.lt
 have y0:=Y4.out.cell 0 _ rfl
 have y1:=Y4.out.cell 1 _ rfl
 have y2:=Y4.out.cell 2 _ rfl
 have y3:=Y4.out.cell 3 _ rfl
 have g0:=Y4.out.free 0 (by simp)
 have g1:=Y4.out.free 1 (by simp)
 have g2:=Y4.out.free 2 (by simp)
 have g3:=Y4.out.free 3 (by simp)
 have yl:=Y4.out.lt
 have z0:=Z4.out.cell 0 _ rfl
 have z1:=Z4.out.cell 1 _ rfl
 have z2:=Z4.out.cell 2 _ rfl
 have z3:=Z4.out.cell 3 _ rfl
 have zl:=Z4.out.lt
 go_wp2_with fail
 refine bodyPost_ret (v:=coV ⟨30,n,m,[a]⟩ (.slice (some ⟨pb,off,none⟩) 1 cap)) (by simp[results,Tryz.results90,go_sem, *]) rfl ?_
 exact⟨_,rfl,HCs.out,((((B4.out.setCell (p:=⟨w.heap.size+1,0,none⟩) (by simp) _).setCell (p:=⟨w.heap.size+1,1,none⟩) (by simp) _).setCell (p:=⟨w.heap.size+1,2,none⟩) (by simp) _).setCell (p:=⟨w.heap.size+1,3,none⟩) (by simp) _)⟩
set_option maxHeartbeats 1000000 in
set_option maxRecDepth 20000 in
theorem rr30_01 (ok:Nat->Prop)(n m:Int)(a:Co)(v:Value)(w:World)(hk:cst a=false)(h6:a.op=6)  (hs:CSP ok w ⟨30,n,m,[a]⟩ v):
 Calls Tryz.prog 90 #[coV ⟨30,n,m,[a]⟩ v] w (FoOut ok w ⟨30,n,m,[a]⟩):=by
 have HCs:=chid hs
 obtain⟨pb,off,cap,rfl,k1,k2,lp,hx⟩:=hs.at (by simp)
 dsimp only at hx k1 HCs
 show Calls _ _ #[coV ⟨30,n,m,[a]⟩ (.slice (some ⟨pb,off,none⟩) 1 cap)] _ _
 have H6:=chid h6
 clear h6
 obtain⟨qa,qn,qf,qc⟩:=hx 0 (by simp)
 simp only[List.getElem_cons_zero,Nat.zero_mul,Nat.add_zero] at qf qc
 have HQ:=chid qc
 obtain⟨Y0,Y1,Y2⟩:=two_boxes w 30 30 (coL ⟨30,n,m,[a]⟩ (.slice (some ⟨pb,off,none⟩) 1 cap)) [.int .i64 0,.int .i64 0,.int .i64 0,.slice none 0 0]
 have x0:=Y0.cell 0 _ rfl
 have x1:=Y0.cell 1 _ rfl
 have x2:=Y0.cell 2 _ rfl
 have x3:=Y0.cell 3 _ rfl
 have xl:=Y0.lt
 have y0:=Y1.cell 0 _ rfl
 have y1:=Y1.cell 1 _ rfl
 have y2:=Y1.cell 2 _ rfl
 have y3:=Y1.cell 3 _ rfl
 have g0:=Y1.free 0 (by simp)
 have g1:=Y1.free 1 (by simp)
 have g2:=Y1.free 2 (by simp)
 have g3:=Y1.free 3 (by simp)
 have yl:=Y1.lt
 have HY0:=chid Y0
 have HY1:=chid Y1
 have B0:=chid Y2
 have HA2:Hid (∀ o o',Below w.heap.size w ((w.alloc o).alloc o')):=fun o o'=>((Below.refl _ _).alloc (Nat.le_refl _) _).alloc (by simp) _
 obtain⟨q0,q1,q2,q3⟩:=qf.keep (w':=((w.alloc (.cells (coL ⟨30,n,m,[a]⟩ (.slice (some ⟨pb,off,none⟩) 1 cap)).toArray 30)).alloc (.cells [.int .i64 0,.int .i64 0,.int .i64 0,.slice none 0 0].toArray 30))) (fun j=>Y2.cell (p:=⟨pb,j,none⟩) lp)
 have lpw:=Nat.lt_of_lt_of_le lp Y2.size
 have HK:=chid (fun W=>rConst_c a qa a.parts.length qn W)
 rw[hk] at HK
 have HZ0:=chid (Box.new ((w.alloc (.cells (coL ⟨30,n,m,[a]⟩ (.slice (some ⟨pb,off,none⟩) 1 cap)).toArray 30)).alloc (.cells [.int .i64 0,.int .i64 0,.int .i64 0,.slice none 0 0].toArray 30)) (coL a (.slice qa a.parts.length qn)) 30)
 have HZ:Hid (Box (((w.alloc (.cells (coL ⟨30,n,m,[a]⟩ (.slice (some ⟨pb,off,none⟩) 1 cap)).toArray 30)).alloc (.cells [.int .i64 0,.int .i64 0,.int .i64 0,.slice none 0 0].toArray 30)).alloc (.cells (coL a (.slice qa a.parts.length qn)).toArray 30)) (w.heap.size+1+1) (coL a (.slice qa a.parts.length qn))):=chid (by simpa using HZ0.out)
 have BL:=chid ((Below.refl ((w.alloc (.cells (coL ⟨30,n,m,[a]⟩ (.slice (some ⟨pb,off,none⟩) 1 cap)).toArray 30)).alloc (.cells [.int .i64 0,.int .i64 0,.int .i64 0,.slice none 0 0].toArray 30)).heap.size _).alloc (Nat.le_refl _) (.cells (coL a (.slice qa a.parts.length qn)).toArray 30))
 have B3:=chid (cbelow_on Y2 BL.out Y2.size)
 have X3:=chid (Y0.next BL.out)
 have Y3:=chid (Y1.next BL.out)
 clear hs hx qf qc Y0 Y1 Y2 HZ0 hk
 go_enter Tryz.func90,Tryz.ntmps90
 go_wp2_with fail
 refine Calls.mono (HK.out _) ?_
 rintro e w2 ⟨rfl,b2⟩
 have B4:=chid (cbelow_on B3.out b2 B3.out.size)
 have X4:=chid (X3.out.next b2)
 have Y4:=chid (Y3.out.next b2)
 have Z4:=chid (HZ.out.next b2)
 clear x0 x1 x2 x3 xl
 clear y0 y1 y2 y3 g0 g1 g2 g3 yl
 clear q0 q1 q2 q3 b2 HK HZ BL B3 X3 Y3 HY0 HY1 B0 lpw
 have n6:(a.op==6)=true:=by simpa using H6.out
 have x0:=X4.out.cell 0 _ rfl
 have x1:=X4.out.cell 1 _ rfl
 have x2:=X4.out.cell 2 _ rfl
 have x3:=X4.out.cell 3 _ rfl
 have xl:=X4.out.lt
 have y0:=Y4.out.cell 0 _ rfl
 have y1:=Y4.out.cell 1 _ rfl
 have y2:=Y4.out.cell 2 _ rfl
 have y3:=Y4.out.cell 3 _ rfl
 have g0:=Y4.out.free 0 (by simp)
 have g1:=Y4.out.free 1 (by simp)
 have g2:=Y4.out.free 2 (by simp)
 have g3:=Y4.out.free 3 (by simp)
 have yl:=Y4.out.lt
 have z0:=Z4.out.cell 0 _ rfl
 have z1:=Z4.out.cell 1 _ rfl
 have z2:=Z4.out.cell 2 _ rfl
 have z3:=Z4.out.cell 3 _ rfl
 have zl:=Z4.out.lt
 go_wp2_with fail
 refine bodyPost_ret (v:=coV ⟨30,n,m,[a]⟩ (.slice (some ⟨pb,off,none⟩) 1 cap)) (by simp[results,Tryz.results90,go_sem, *]) rfl ?_
 exact⟨_,rfl,HCs.out,((((B4.out.setCell (p:=⟨w.heap.size+1,0,none⟩) (by simp) _).setCell (p:=⟨w.heap.size+1,1,none⟩) (by simp) _).setCell (p:=⟨w.heap.size+1,2,none⟩) (by simp) _).setCell (p:=⟨w.heap.size+1,3,none⟩) (by simp) _)⟩
set_option maxHeartbeats 1000000 in
set_option maxRecDepth 20000 in
theorem rr30_00 (ok:Nat->Prop)(n m:Int)(a:Co)(v:Value)(w:World)(hk:cst a=false)(h6:¬ a.op=6)  (hs:CSP ok w ⟨30,n,m,[a]⟩ v):
 Calls Tryz.prog 90 #[coV ⟨30,n,m,[a]⟩ v] w (FoOut ok w ⟨30,n,m,[a]⟩):=by
 have HCs:=chid hs
 obtain⟨pb,off,cap,rfl,k1,k2,lp,hx⟩:=hs.at (by simp)
 dsimp only at hx k1 HCs
 show Calls _ _ #[coV ⟨30,n,m,[a]⟩ (.slice (some ⟨pb,off,none⟩) 1 cap)] _ _
 have H6:=chid h6
 clear h6
 obtain⟨qa,qn,qf,qc⟩:=hx 0 (by simp)
 simp only[List.getElem_cons_zero,Nat.zero_mul,Nat.add_zero] at qf qc
 have HQ:=chid qc
 obtain⟨Y0,Y1,Y2⟩:=two_boxes w 30 30 (coL ⟨30,n,m,[a]⟩ (.slice (some ⟨pb,off,none⟩) 1 cap)) [.int .i64 0,.int .i64 0,.int .i64 0,.slice none 0 0]
 have x0:=Y0.cell 0 _ rfl
 have x1:=Y0.cell 1 _ rfl
 have x2:=Y0.cell 2 _ rfl
 have x3:=Y0.cell 3 _ rfl
 have xl:=Y0.lt
 have y0:=Y1.cell 0 _ rfl
 have y1:=Y1.cell 1 _ rfl
 have y2:=Y1.cell 2 _ rfl
 have y3:=Y1.cell 3 _ rfl
 have g0:=Y1.free 0 (by simp)
 have g1:=Y1.free 1 (by simp)
 have g2:=Y1.free 2 (by simp)
 have g3:=Y1.free 3 (by simp)
 have yl:=Y1.lt
 have HY0:=chid Y0
 have HY1:=chid Y1
 have B0:=chid Y2
 have HA2:Hid (∀ o o',Below w.heap.size w ((w.alloc o).alloc o')):=fun o o'=>((Below.refl _ _).alloc (Nat.le_refl _) _).alloc (by simp) _
 obtain⟨q0,q1,q2,q3⟩:=qf.keep (w':=((w.alloc (.cells (coL ⟨30,n,m,[a]⟩ (.slice (some ⟨pb,off,none⟩) 1 cap)).toArray 30)).alloc (.cells [.int .i64 0,.int .i64 0,.int .i64 0,.slice none 0 0].toArray 30))) (fun j=>Y2.cell (p:=⟨pb,j,none⟩) lp)
 have lpw:=Nat.lt_of_lt_of_le lp Y2.size
 have HK:=chid (fun W=>rConst_c a qa a.parts.length qn W)
 rw[hk] at HK
 have HZ0:=chid (Box.new ((w.alloc (.cells (coL ⟨30,n,m,[a]⟩ (.slice (some ⟨pb,off,none⟩) 1 cap)).toArray 30)).alloc (.cells [.int .i64 0,.int .i64 0,.int .i64 0,.slice none 0 0].toArray 30)) (coL a (.slice qa a.parts.length qn)) 30)
 have HZ:Hid (Box (((w.alloc (.cells (coL ⟨30,n,m,[a]⟩ (.slice (some ⟨pb,off,none⟩) 1 cap)).toArray 30)).alloc (.cells [.int .i64 0,.int .i64 0,.int .i64 0,.slice none 0 0].toArray 30)).alloc (.cells (coL a (.slice qa a.parts.length qn)).toArray 30)) (w.heap.size+1+1) (coL a (.slice qa a.parts.length qn))):=chid (by simpa using HZ0.out)
 have BL:=chid ((Below.refl ((w.alloc (.cells (coL ⟨30,n,m,[a]⟩ (.slice (some ⟨pb,off,none⟩) 1 cap)).toArray 30)).alloc (.cells [.int .i64 0,.int .i64 0,.int .i64 0,.slice none 0 0].toArray 30)).heap.size _).alloc (Nat.le_refl _) (.cells (coL a (.slice qa a.parts.length qn)).toArray 30))
 have B3:=chid (cbelow_on Y2 BL.out Y2.size)
 have X3:=chid (Y0.next BL.out)
 have Y3:=chid (Y1.next BL.out)
 clear hs hx qf qc Y0 Y1 Y2 HZ0 hk
 go_enter Tryz.func90,Tryz.ntmps90
 go_wp2_with fail
 refine Calls.mono (HK.out _) ?_
 rintro e w2 ⟨rfl,b2⟩
 have B4:=chid (cbelow_on B3.out b2 B3.out.size)
 have X4:=chid (X3.out.next b2)
 have Y4:=chid (Y3.out.next b2)
 have Z4:=chid (HZ.out.next b2)
 clear x0 x1 x2 x3 xl
 clear y0 y1 y2 y3 g0 g1 g2 g3 yl
 clear q0 q1 q2 q3 b2 HK HZ BL B3 X3 Y3 HY0 HY1 B0 lpw
 have n6:(a.op==6)=false:=by simpa using H6.out
 have x0:=X4.out.cell 0 _ rfl
 have x1:=X4.out.cell 1 _ rfl
 have x2:=X4.out.cell 2 _ rfl
 have x3:=X4.out.cell 3 _ rfl
 have xl:=X4.out.lt
 have y0:=Y4.out.cell 0 _ rfl
 have y1:=Y4.out.cell 1 _ rfl
 have y2:=Y4.out.cell 2 _ rfl
 have y3:=Y4.out.cell 3 _ rfl
 have g0:=Y4.out.free 0 (by simp)
 have g1:=Y4.out.free 1 (by simp)
 have g2:=Y4.out.free 2 (by simp)
 have g3:=Y4.out.free 3 (by simp)
 have yl:=Y4.out.lt
 have z0:=Z4.out.cell 0 _ rfl
 have z1:=Z4.out.cell 1 _ rfl
 have z2:=Z4.out.cell 2 _ rfl
 have z3:=Z4.out.cell 3 _ rfl
 have zl:=Z4.out.lt
 go_wp2_with fail
 refine bodyPost_ret (v:=coV ⟨30,n,m,[a]⟩ (.slice (some ⟨pb,off,none⟩) 1 cap)) (by simp[results,Tryz.results90,go_sem, *]) rfl ?_
 exact⟨_,rfl,HCs.out,((((B4.out.setCell (p:=⟨w.heap.size+1,0,none⟩) (by simp) _).setCell (p:=⟨w.heap.size+1,1,none⟩) (by simp) _).setCell (p:=⟨w.heap.size+1,2,none⟩) (by simp) _).setCell (p:=⟨w.heap.size+1,3,none⟩) (by simp) _)⟩
set_option maxHeartbeats 1000000 in
set_option maxRecDepth 20000 in
theorem rr31_10 (ok:Nat->Prop)(n m:Int)(a:Co)(v:Value)(w:World)(hk:cst a=true)(h6:¬ a.op=6)  (hs:CSP ok w ⟨31,n,m,[a]⟩ v):
 Calls Tryz.prog 90 #[coV ⟨31,n,m,[a]⟩ v] w (FoOut ok w ⟨31,n,m,[a]⟩):=by
 have HCs:=chid hs
 obtain⟨pb,off,cap,rfl,k1,k2,lp,hx⟩:=hs.at (by simp)
 dsimp only at hx k1 HCs
 show Calls _ _ #[coV ⟨31,n,m,[a]⟩ (.slice (some ⟨pb,off,none⟩) 1 cap)] _ _
 have H6:=chid h6
 clear h6
 obtain⟨qa,qn,qf,qc⟩:=hx 0 (by simp)
 simp only[List.getElem_cons_zero,Nat.zero_mul,Nat.add_zero] at qf qc
 have HQ:=chid qc
 obtain⟨Y0,Y1,Y2⟩:=two_boxes w 30 30 (coL ⟨31,n,m,[a]⟩ (.slice (some ⟨pb,off,none⟩) 1 cap)) [.int .i64 0,.int .i64 0,.int .i64 0,.slice none 0 0]
 have x0:=Y0.cell 0 _ rfl
 have x1:=Y0.cell 1 _ rfl
 have x2:=Y0.cell 2 _ rfl
 have x3:=Y0.cell 3 _ rfl
 have xl:=Y0.lt
 have y0:=Y1.cell 0 _ rfl
 have y1:=Y1.cell 1 _ rfl
 have y2:=Y1.cell 2 _ rfl
 have y3:=Y1.cell 3 _ rfl
 have g0:=Y1.free 0 (by simp)
 have g1:=Y1.free 1 (by simp)
 have g2:=Y1.free 2 (by simp)
 have g3:=Y1.free 3 (by simp)
 have yl:=Y1.lt
 have HY0:=chid Y0
 have HY1:=chid Y1
 have B0:=chid Y2
 have HA2:Hid (∀ o o',Below w.heap.size w ((w.alloc o).alloc o')):=fun o o'=>((Below.refl _ _).alloc (Nat.le_refl _) _).alloc (by simp) _
 obtain⟨q0,q1,q2,q3⟩:=qf.keep (w':=((w.alloc (.cells (coL ⟨31,n,m,[a]⟩ (.slice (some ⟨pb,off,none⟩) 1 cap)).toArray 30)).alloc (.cells [.int .i64 0,.int .i64 0,.int .i64 0,.slice none 0 0].toArray 30))) (fun j=>Y2.cell (p:=⟨pb,j,none⟩) lp)
 have lpw:=Nat.lt_of_lt_of_le lp Y2.size
 have HK:=chid (fun W=>rConst_c a qa a.parts.length qn W)
 rw[hk] at HK
 have HZ0:=chid (Box.new ((w.alloc (.cells (coL ⟨31,n,m,[a]⟩ (.slice (some ⟨pb,off,none⟩) 1 cap)).toArray 30)).alloc (.cells [.int .i64 0,.int .i64 0,.int .i64 0,.slice none 0 0].toArray 30)) (coL a (.slice qa a.parts.length qn)) 30)
 have HZ:Hid (Box (((w.alloc (.cells (coL ⟨31,n,m,[a]⟩ (.slice (some ⟨pb,off,none⟩) 1 cap)).toArray 30)).alloc (.cells [.int .i64 0,.int .i64 0,.int .i64 0,.slice none 0 0].toArray 30)).alloc (.cells (coL a (.slice qa a.parts.length qn)).toArray 30)) (w.heap.size+1+1) (coL a (.slice qa a.parts.length qn))):=chid (by simpa using HZ0.out)
 have BL:=chid ((Below.refl ((w.alloc (.cells (coL ⟨31,n,m,[a]⟩ (.slice (some ⟨pb,off,none⟩) 1 cap)).toArray 30)).alloc (.cells [.int .i64 0,.int .i64 0,.int .i64 0,.slice none 0 0].toArray 30)).heap.size _).alloc (Nat.le_refl _) (.cells (coL a (.slice qa a.parts.length qn)).toArray 30))
 have B3:=chid (cbelow_on Y2 BL.out Y2.size)
 have X3:=chid (Y0.next BL.out)
 have Y3:=chid (Y1.next BL.out)
 clear hs hx qf qc Y0 Y1 Y2 HZ0 hk
 go_enter Tryz.func90,Tryz.ntmps90
 go_wp2_with fail
 refine Calls.mono (HK.out _) ?_
 rintro e w2 ⟨rfl,b2⟩
 have B4:=chid (cbelow_on B3.out b2 B3.out.size)
 have X4:=chid (X3.out.next b2)
 have Y4:=chid (Y3.out.next b2)
 have Z4:=chid (HZ.out.next b2)
 clear x0 x1 x2 x3 xl
 clear y0 y1 y2 y3 g0 g1 g2 g3 yl
 clear q0 q1 q2 q3 b2 HK HZ BL B3 X3 Y3 HY0 HY1 B0 lpw
 have n6:(a.op==6)=false:=by simpa using H6.out
 have x0:=X4.out.cell 0 _ rfl
 have x1:=X4.out.cell 1 _ rfl
 have x2:=X4.out.cell 2 _ rfl
 have x3:=X4.out.cell 3 _ rfl
 have xl:=X4.out.lt
 have y0:=Y4.out.cell 0 _ rfl
 have y1:=Y4.out.cell 1 _ rfl
 have y2:=Y4.out.cell 2 _ rfl
 have y3:=Y4.out.cell 3 _ rfl
 have g0:=Y4.out.free 0 (by simp)
 have g1:=Y4.out.free 1 (by simp)
 have g2:=Y4.out.free 2 (by simp)
 have g3:=Y4.out.free 3 (by simp)
 have yl:=Y4.out.lt
 have z0:=Z4.out.cell 0 _ rfl
 have z1:=Z4.out.cell 1 _ rfl
 have z2:=Z4.out.cell 2 _ rfl
 have z3:=Z4.out.cell 3 _ rfl
 have zl:=Z4.out.lt
 go_wp2_with fail
 refine bodyPost_ret (v:=coV ⟨31,n,m,[a]⟩ (.slice (some ⟨pb,off,none⟩) 1 cap)) (by simp[results,Tryz.results90,go_sem, *]) rfl ?_
 exact⟨_,rfl,HCs.out,((((B4.out.setCell (p:=⟨w.heap.size+1,0,none⟩) (by simp) _).setCell (p:=⟨w.heap.size+1,1,none⟩) (by simp) _).setCell (p:=⟨w.heap.size+1,2,none⟩) (by simp) _).setCell (p:=⟨w.heap.size+1,3,none⟩) (by simp) _)⟩
set_option maxHeartbeats 1000000 in
set_option maxRecDepth 20000 in
theorem rr31_01 (ok:Nat->Prop)(n m:Int)(a:Co)(v:Value)(w:World)(hk:cst a=false)(h6:a.op=6)  (hs:CSP ok w ⟨31,n,m,[a]⟩ v):
 Calls Tryz.prog 90 #[coV ⟨31,n,m,[a]⟩ v] w (FoOut ok w ⟨31,n,m,[a]⟩):=by
 have HCs:=chid hs
 obtain⟨pb,off,cap,rfl,k1,k2,lp,hx⟩:=hs.at (by simp)
 dsimp only at hx k1 HCs
 show Calls _ _ #[coV ⟨31,n,m,[a]⟩ (.slice (some ⟨pb,off,none⟩) 1 cap)] _ _
 have H6:=chid h6
 clear h6
 obtain⟨qa,qn,qf,qc⟩:=hx 0 (by simp)
 simp only[List.getElem_cons_zero,Nat.zero_mul,Nat.add_zero] at qf qc
 have HQ:=chid qc
 obtain⟨Y0,Y1,Y2⟩:=two_boxes w 30 30 (coL ⟨31,n,m,[a]⟩ (.slice (some ⟨pb,off,none⟩) 1 cap)) [.int .i64 0,.int .i64 0,.int .i64 0,.slice none 0 0]
 have x0:=Y0.cell 0 _ rfl
 have x1:=Y0.cell 1 _ rfl
 have x2:=Y0.cell 2 _ rfl
 have x3:=Y0.cell 3 _ rfl
 have xl:=Y0.lt
 have y0:=Y1.cell 0 _ rfl
 have y1:=Y1.cell 1 _ rfl
 have y2:=Y1.cell 2 _ rfl
 have y3:=Y1.cell 3 _ rfl
 have g0:=Y1.free 0 (by simp)
 have g1:=Y1.free 1 (by simp)
 have g2:=Y1.free 2 (by simp)
 have g3:=Y1.free 3 (by simp)
 have yl:=Y1.lt
 have HY0:=chid Y0
 have HY1:=chid Y1
 have B0:=chid Y2
 have HA2:Hid (∀ o o',Below w.heap.size w ((w.alloc o).alloc o')):=fun o o'=>((Below.refl _ _).alloc (Nat.le_refl _) _).alloc (by simp) _
 obtain⟨q0,q1,q2,q3⟩:=qf.keep (w':=((w.alloc (.cells (coL ⟨31,n,m,[a]⟩ (.slice (some ⟨pb,off,none⟩) 1 cap)).toArray 30)).alloc (.cells [.int .i64 0,.int .i64 0,.int .i64 0,.slice none 0 0].toArray 30))) (fun j=>Y2.cell (p:=⟨pb,j,none⟩) lp)
 have lpw:=Nat.lt_of_lt_of_le lp Y2.size
 have HK:=chid (fun W=>rConst_c a qa a.parts.length qn W)
 rw[hk] at HK
 have HZ0:=chid (Box.new ((w.alloc (.cells (coL ⟨31,n,m,[a]⟩ (.slice (some ⟨pb,off,none⟩) 1 cap)).toArray 30)).alloc (.cells [.int .i64 0,.int .i64 0,.int .i64 0,.slice none 0 0].toArray 30)) (coL a (.slice qa a.parts.length qn)) 30)
 have HZ:Hid (Box (((w.alloc (.cells (coL ⟨31,n,m,[a]⟩ (.slice (some ⟨pb,off,none⟩) 1 cap)).toArray 30)).alloc (.cells [.int .i64 0,.int .i64 0,.int .i64 0,.slice none 0 0].toArray 30)).alloc (.cells (coL a (.slice qa a.parts.length qn)).toArray 30)) (w.heap.size+1+1) (coL a (.slice qa a.parts.length qn))):=chid (by simpa using HZ0.out)
 have BL:=chid ((Below.refl ((w.alloc (.cells (coL ⟨31,n,m,[a]⟩ (.slice (some ⟨pb,off,none⟩) 1 cap)).toArray 30)).alloc (.cells [.int .i64 0,.int .i64 0,.int .i64 0,.slice none 0 0].toArray 30)).heap.size _).alloc (Nat.le_refl _) (.cells (coL a (.slice qa a.parts.length qn)).toArray 30))
 have B3:=chid (cbelow_on Y2 BL.out Y2.size)
 have X3:=chid (Y0.next BL.out)
 have Y3:=chid (Y1.next BL.out)
 clear hs hx qf qc Y0 Y1 Y2 HZ0 hk
 go_enter Tryz.func90,Tryz.ntmps90
 go_wp2_with fail
 refine Calls.mono (HK.out _) ?_
 rintro e w2 ⟨rfl,b2⟩
 have B4:=chid (cbelow_on B3.out b2 B3.out.size)
 have X4:=chid (X3.out.next b2)
 have Y4:=chid (Y3.out.next b2)
 have Z4:=chid (HZ.out.next b2)
 clear x0 x1 x2 x3 xl
 clear y0 y1 y2 y3 g0 g1 g2 g3 yl
 clear q0 q1 q2 q3 b2 HK HZ BL B3 X3 Y3 HY0 HY1 B0 lpw
 have n6:(a.op==6)=true:=by simpa using H6.out
 have x0:=X4.out.cell 0 _ rfl
 have x1:=X4.out.cell 1 _ rfl
 have x2:=X4.out.cell 2 _ rfl
 have x3:=X4.out.cell 3 _ rfl
 have xl:=X4.out.lt
 have y0:=Y4.out.cell 0 _ rfl
 have y1:=Y4.out.cell 1 _ rfl
 have y2:=Y4.out.cell 2 _ rfl
 have y3:=Y4.out.cell 3 _ rfl
 have g0:=Y4.out.free 0 (by simp)
 have g1:=Y4.out.free 1 (by simp)
 have g2:=Y4.out.free 2 (by simp)
 have g3:=Y4.out.free 3 (by simp)
 have yl:=Y4.out.lt
 have z0:=Z4.out.cell 0 _ rfl
 have z1:=Z4.out.cell 1 _ rfl
 have z2:=Z4.out.cell 2 _ rfl
 have z3:=Z4.out.cell 3 _ rfl
 have zl:=Z4.out.lt
 go_wp2_with fail
 refine bodyPost_ret (v:=coV ⟨31,n,m,[a]⟩ (.slice (some ⟨pb,off,none⟩) 1 cap)) (by simp[results,Tryz.results90,go_sem, *]) rfl ?_
 exact⟨_,rfl,HCs.out,((((B4.out.setCell (p:=⟨w.heap.size+1,0,none⟩) (by simp) _).setCell (p:=⟨w.heap.size+1,1,none⟩) (by simp) _).setCell (p:=⟨w.heap.size+1,2,none⟩) (by simp) _).setCell (p:=⟨w.heap.size+1,3,none⟩) (by simp) _)⟩
set_option maxHeartbeats 1000000 in
set_option maxRecDepth 20000 in
theorem rr31_00 (ok:Nat->Prop)(n m:Int)(a:Co)(v:Value)(w:World)(hk:cst a=false)(h6:¬ a.op=6)  (hs:CSP ok w ⟨31,n,m,[a]⟩ v):
 Calls Tryz.prog 90 #[coV ⟨31,n,m,[a]⟩ v] w (FoOut ok w ⟨31,n,m,[a]⟩):=by
 have HCs:=chid hs
 obtain⟨pb,off,cap,rfl,k1,k2,lp,hx⟩:=hs.at (by simp)
 dsimp only at hx k1 HCs
 show Calls _ _ #[coV ⟨31,n,m,[a]⟩ (.slice (some ⟨pb,off,none⟩) 1 cap)] _ _
 have H6:=chid h6
 clear h6
 obtain⟨qa,qn,qf,qc⟩:=hx 0 (by simp)
 simp only[List.getElem_cons_zero,Nat.zero_mul,Nat.add_zero] at qf qc
 have HQ:=chid qc
 obtain⟨Y0,Y1,Y2⟩:=two_boxes w 30 30 (coL ⟨31,n,m,[a]⟩ (.slice (some ⟨pb,off,none⟩) 1 cap)) [.int .i64 0,.int .i64 0,.int .i64 0,.slice none 0 0]
 have x0:=Y0.cell 0 _ rfl
 have x1:=Y0.cell 1 _ rfl
 have x2:=Y0.cell 2 _ rfl
 have x3:=Y0.cell 3 _ rfl
 have xl:=Y0.lt
 have y0:=Y1.cell 0 _ rfl
 have y1:=Y1.cell 1 _ rfl
 have y2:=Y1.cell 2 _ rfl
 have y3:=Y1.cell 3 _ rfl
 have g0:=Y1.free 0 (by simp)
 have g1:=Y1.free 1 (by simp)
 have g2:=Y1.free 2 (by simp)
 have g3:=Y1.free 3 (by simp)
 have yl:=Y1.lt
 have HY0:=chid Y0
 have HY1:=chid Y1
 have B0:=chid Y2
 have HA2:Hid (∀ o o',Below w.heap.size w ((w.alloc o).alloc o')):=fun o o'=>((Below.refl _ _).alloc (Nat.le_refl _) _).alloc (by simp) _
 obtain⟨q0,q1,q2,q3⟩:=qf.keep (w':=((w.alloc (.cells (coL ⟨31,n,m,[a]⟩ (.slice (some ⟨pb,off,none⟩) 1 cap)).toArray 30)).alloc (.cells [.int .i64 0,.int .i64 0,.int .i64 0,.slice none 0 0].toArray 30))) (fun j=>Y2.cell (p:=⟨pb,j,none⟩) lp)
 have lpw:=Nat.lt_of_lt_of_le lp Y2.size
 have HK:=chid (fun W=>rConst_c a qa a.parts.length qn W)
 rw[hk] at HK
 have HZ0:=chid (Box.new ((w.alloc (.cells (coL ⟨31,n,m,[a]⟩ (.slice (some ⟨pb,off,none⟩) 1 cap)).toArray 30)).alloc (.cells [.int .i64 0,.int .i64 0,.int .i64 0,.slice none 0 0].toArray 30)) (coL a (.slice qa a.parts.length qn)) 30)
 have HZ:Hid (Box (((w.alloc (.cells (coL ⟨31,n,m,[a]⟩ (.slice (some ⟨pb,off,none⟩) 1 cap)).toArray 30)).alloc (.cells [.int .i64 0,.int .i64 0,.int .i64 0,.slice none 0 0].toArray 30)).alloc (.cells (coL a (.slice qa a.parts.length qn)).toArray 30)) (w.heap.size+1+1) (coL a (.slice qa a.parts.length qn))):=chid (by simpa using HZ0.out)
 have BL:=chid ((Below.refl ((w.alloc (.cells (coL ⟨31,n,m,[a]⟩ (.slice (some ⟨pb,off,none⟩) 1 cap)).toArray 30)).alloc (.cells [.int .i64 0,.int .i64 0,.int .i64 0,.slice none 0 0].toArray 30)).heap.size _).alloc (Nat.le_refl _) (.cells (coL a (.slice qa a.parts.length qn)).toArray 30))
 have B3:=chid (cbelow_on Y2 BL.out Y2.size)
 have X3:=chid (Y0.next BL.out)
 have Y3:=chid (Y1.next BL.out)
 clear hs hx qf qc Y0 Y1 Y2 HZ0 hk
 go_enter Tryz.func90,Tryz.ntmps90
 go_wp2_with fail
 refine Calls.mono (HK.out _) ?_
 rintro e w2 ⟨rfl,b2⟩
 have B4:=chid (cbelow_on B3.out b2 B3.out.size)
 have X4:=chid (X3.out.next b2)
 have Y4:=chid (Y3.out.next b2)
 have Z4:=chid (HZ.out.next b2)
 clear x0 x1 x2 x3 xl
 clear y0 y1 y2 y3 g0 g1 g2 g3 yl
 clear q0 q1 q2 q3 b2 HK HZ BL B3 X3 Y3 HY0 HY1 B0 lpw
 have n6:(a.op==6)=false:=by simpa using H6.out
 have x0:=X4.out.cell 0 _ rfl
 have x1:=X4.out.cell 1 _ rfl
 have x2:=X4.out.cell 2 _ rfl
 have x3:=X4.out.cell 3 _ rfl
 have xl:=X4.out.lt
 have y0:=Y4.out.cell 0 _ rfl
 have y1:=Y4.out.cell 1 _ rfl
 have y2:=Y4.out.cell 2 _ rfl
 have y3:=Y4.out.cell 3 _ rfl
 have g0:=Y4.out.free 0 (by simp)
 have g1:=Y4.out.free 1 (by simp)
 have g2:=Y4.out.free 2 (by simp)
 have g3:=Y4.out.free 3 (by simp)
 have yl:=Y4.out.lt
 have z0:=Z4.out.cell 0 _ rfl
 have z1:=Z4.out.cell 1 _ rfl
 have z2:=Z4.out.cell 2 _ rfl
 have z3:=Z4.out.cell 3 _ rfl
 have zl:=Z4.out.lt
 go_wp2_with fail
 refine bodyPost_ret (v:=coV ⟨31,n,m,[a]⟩ (.slice (some ⟨pb,off,none⟩) 1 cap)) (by simp[results,Tryz.results90,go_sem, *]) rfl ?_
 exact⟨_,rfl,HCs.out,((((B4.out.setCell (p:=⟨w.heap.size+1,0,none⟩) (by simp) _).setCell (p:=⟨w.heap.size+1,1,none⟩) (by simp) _).setCell (p:=⟨w.heap.size+1,2,none⟩) (by simp) _).setCell (p:=⟨w.heap.size+1,3,none⟩) (by simp) _)⟩
set_option maxHeartbeats 1000000 in
set_option maxRecDepth 20000 in
theorem rr13_f (ok:Nat->Prop)(n m:Int)(a:Co)(v:Value)(w:World)(hk:cst a=false)(h6:a.op=6)  (hs:CSP ok w ⟨13,n,m,[a]⟩ v):
 Calls Tryz.prog 90 #[coV ⟨13,n,m,[a]⟩ v] w (FoOut ok w a):=by
 have HCs:=chid hs
 obtain⟨pb,off,cap,rfl,k1,k2,lp,hx⟩:=hs.at (by simp)
 dsimp only at hx k1 HCs
 show Calls _ _ #[coV ⟨13,n,m,[a]⟩ (.slice (some ⟨pb,off,none⟩) 1 cap)] _ _
 have H6:=chid h6
 clear h6
 obtain⟨qa,qn,qf,qc⟩:=hx 0 (by simp)
 simp only[List.getElem_cons_zero,Nat.zero_mul,Nat.add_zero] at qf qc
 have HQ:=chid qc
 obtain⟨Y0,Y1,Y2⟩:=two_boxes w 30 30 (coL ⟨13,n,m,[a]⟩ (.slice (some ⟨pb,off,none⟩) 1 cap)) [.int .i64 0,.int .i64 0,.int .i64 0,.slice none 0 0]
 have x0:=Y0.cell 0 _ rfl
 have x1:=Y0.cell 1 _ rfl
 have x2:=Y0.cell 2 _ rfl
 have x3:=Y0.cell 3 _ rfl
 have xl:=Y0.lt
 have y0:=Y1.cell 0 _ rfl
 have y1:=Y1.cell 1 _ rfl
 have y2:=Y1.cell 2 _ rfl
 have y3:=Y1.cell 3 _ rfl
 have g0:=Y1.free 0 (by simp)
 have g1:=Y1.free 1 (by simp)
 have g2:=Y1.free 2 (by simp)
 have g3:=Y1.free 3 (by simp)
 have yl:=Y1.lt
 have HY0:=chid Y0
 have HY1:=chid Y1
 have B0:=chid Y2
 have HA2:Hid (∀ o o',Below w.heap.size w ((w.alloc o).alloc o')):=fun o o'=>((Below.refl _ _).alloc (Nat.le_refl _) _).alloc (by simp) _
 obtain⟨q0,q1,q2,q3⟩:=qf.keep (w':=((w.alloc (.cells (coL ⟨13,n,m,[a]⟩ (.slice (some ⟨pb,off,none⟩) 1 cap)).toArray 30)).alloc (.cells [.int .i64 0,.int .i64 0,.int .i64 0,.slice none 0 0].toArray 30))) (fun j=>Y2.cell (p:=⟨pb,j,none⟩) lp)
 have lpw:=Nat.lt_of_lt_of_le lp Y2.size
 have HK:=chid (fun W=>rConst_c a qa a.parts.length qn W)
 rw[hk] at HK
 have HZ0:=chid (Box.new ((w.alloc (.cells (coL ⟨13,n,m,[a]⟩ (.slice (some ⟨pb,off,none⟩) 1 cap)).toArray 30)).alloc (.cells [.int .i64 0,.int .i64 0,.int .i64 0,.slice none 0 0].toArray 30)) (coL a (.slice qa a.parts.length qn)) 30)
 have HZ:Hid (Box (((w.alloc (.cells (coL ⟨13,n,m,[a]⟩ (.slice (some ⟨pb,off,none⟩) 1 cap)).toArray 30)).alloc (.cells [.int .i64 0,.int .i64 0,.int .i64 0,.slice none 0 0].toArray 30)).alloc (.cells (coL a (.slice qa a.parts.length qn)).toArray 30)) (w.heap.size+1+1) (coL a (.slice qa a.parts.length qn))):=chid (by simpa using HZ0.out)
 have BL:=chid ((Below.refl ((w.alloc (.cells (coL ⟨13,n,m,[a]⟩ (.slice (some ⟨pb,off,none⟩) 1 cap)).toArray 30)).alloc (.cells [.int .i64 0,.int .i64 0,.int .i64 0,.slice none 0 0].toArray 30)).heap.size _).alloc (Nat.le_refl _) (.cells (coL a (.slice qa a.parts.length qn)).toArray 30))
 have B3:=chid (cbelow_on Y2 BL.out Y2.size)
 have X3:=chid (Y0.next BL.out)
 have Y3:=chid (Y1.next BL.out)
 clear hs hx qf qc Y0 Y1 Y2 HZ0 hk
 go_enter Tryz.func90,Tryz.ntmps90
 go_wp2_with fail
 refine Calls.mono (HK.out _) ?_
 rintro e w2 ⟨rfl,b2⟩
 have B4:=chid (cbelow_on B3.out b2 B3.out.size)
 have X4:=chid (X3.out.next b2)
 have Y4:=chid (Y3.out.next b2)
 have Z4:=chid (HZ.out.next b2)
 clear x0 x1 x2 x3 xl
 clear y0 y1 y2 y3 g0 g1 g2 g3 yl
 clear q0 q1 q2 q3 b2 HK HZ BL B3 X3 Y3 HY0 HY1 B0 lpw
 have n6:(a.op==6)=true:=by simpa using H6.out
 have x0:=X4.out.cell 0 _ rfl
 have x1:=X4.out.cell 1 _ rfl
 have x2:=X4.out.cell 2 _ rfl
 have x3:=X4.out.cell 3 _ rfl
 have xl:=X4.out.lt
 have y0:=Y4.out.cell 0 _ rfl
 have y1:=Y4.out.cell 1 _ rfl
 have y2:=Y4.out.cell 2 _ rfl
 have y3:=Y4.out.cell 3 _ rfl
 have g0:=Y4.out.free 0 (by simp)
 have g1:=Y4.out.free 1 (by simp)
 have g2:=Y4.out.free 2 (by simp)
 have g3:=Y4.out.free 3 (by simp)
 have yl:=Y4.out.lt
 have z0:=Z4.out.cell 0 _ rfl
 have z1:=Z4.out.cell 1 _ rfl
 have z2:=Z4.out.cell 2 _ rfl
 have z3:=Z4.out.cell 3 _ rfl
 have zl:=Z4.out.lt
 go_wp2_with fail
 refine bodyPost_ret (v:=coV a (.slice qa a.parts.length qn)) (by simp[results,Tryz.results90,go_sem, *]) rfl ?_
 exact⟨_,rfl,HQ.out,((((B4.out.setCell (p:=⟨w.heap.size+1,0,none⟩) (by simp) _).setCell (p:=⟨w.heap.size+1,1,none⟩) (by simp) _).setCell (p:=⟨w.heap.size+1,2,none⟩) (by simp) _).setCell (p:=⟨w.heap.size+1,3,none⟩) (by simp) _)⟩
set_option maxHeartbeats 1000000 in
set_option maxRecDepth 20000 in
theorem rr13_s (ok:Nat->Prop)(n m:Int)(a:Co)(v:Value)(w:World)(hk:cst a=false)(h6:¬ a.op=6)  (hs:CSP ok w ⟨13,n,m,[a]⟩ v):
 Calls Tryz.prog 90 #[coV ⟨13,n,m,[a]⟩ v] w (FoOut ok w ⟨13,n,m,[a]⟩):=by
 have HCs:=chid hs
 obtain⟨pb,off,cap,rfl,k1,k2,lp,hx⟩:=hs.at (by simp)
 dsimp only at hx k1 HCs
 show Calls _ _ #[coV ⟨13,n,m,[a]⟩ (.slice (some ⟨pb,off,none⟩) 1 cap)] _ _
 have H6:=chid h6
 clear h6
 obtain⟨qa,qn,qf,qc⟩:=hx 0 (by simp)
 simp only[List.getElem_cons_zero,Nat.zero_mul,Nat.add_zero] at qf qc
 have HQ:=chid qc
 obtain⟨Y0,Y1,Y2⟩:=two_boxes w 30 30 (coL ⟨13,n,m,[a]⟩ (.slice (some ⟨pb,off,none⟩) 1 cap)) [.int .i64 0,.int .i64 0,.int .i64 0,.slice none 0 0]
 have x0:=Y0.cell 0 _ rfl
 have x1:=Y0.cell 1 _ rfl
 have x2:=Y0.cell 2 _ rfl
 have x3:=Y0.cell 3 _ rfl
 have xl:=Y0.lt
 have y0:=Y1.cell 0 _ rfl
 have y1:=Y1.cell 1 _ rfl
 have y2:=Y1.cell 2 _ rfl
 have y3:=Y1.cell 3 _ rfl
 have g0:=Y1.free 0 (by simp)
 have g1:=Y1.free 1 (by simp)
 have g2:=Y1.free 2 (by simp)
 have g3:=Y1.free 3 (by simp)
 have yl:=Y1.lt
 have HY0:=chid Y0
 have HY1:=chid Y1
 have B0:=chid Y2
 have HA2:Hid (∀ o o',Below w.heap.size w ((w.alloc o).alloc o')):=fun o o'=>((Below.refl _ _).alloc (Nat.le_refl _) _).alloc (by simp) _
 obtain⟨q0,q1,q2,q3⟩:=qf.keep (w':=((w.alloc (.cells (coL ⟨13,n,m,[a]⟩ (.slice (some ⟨pb,off,none⟩) 1 cap)).toArray 30)).alloc (.cells [.int .i64 0,.int .i64 0,.int .i64 0,.slice none 0 0].toArray 30))) (fun j=>Y2.cell (p:=⟨pb,j,none⟩) lp)
 have lpw:=Nat.lt_of_lt_of_le lp Y2.size
 have HK:=chid (fun W=>rConst_c a qa a.parts.length qn W)
 rw[hk] at HK
 have HZ0:=chid (Box.new ((w.alloc (.cells (coL ⟨13,n,m,[a]⟩ (.slice (some ⟨pb,off,none⟩) 1 cap)).toArray 30)).alloc (.cells [.int .i64 0,.int .i64 0,.int .i64 0,.slice none 0 0].toArray 30)) (coL a (.slice qa a.parts.length qn)) 30)
 have HZ:Hid (Box (((w.alloc (.cells (coL ⟨13,n,m,[a]⟩ (.slice (some ⟨pb,off,none⟩) 1 cap)).toArray 30)).alloc (.cells [.int .i64 0,.int .i64 0,.int .i64 0,.slice none 0 0].toArray 30)).alloc (.cells (coL a (.slice qa a.parts.length qn)).toArray 30)) (w.heap.size+1+1) (coL a (.slice qa a.parts.length qn))):=chid (by simpa using HZ0.out)
 have BL:=chid ((Below.refl ((w.alloc (.cells (coL ⟨13,n,m,[a]⟩ (.slice (some ⟨pb,off,none⟩) 1 cap)).toArray 30)).alloc (.cells [.int .i64 0,.int .i64 0,.int .i64 0,.slice none 0 0].toArray 30)).heap.size _).alloc (Nat.le_refl _) (.cells (coL a (.slice qa a.parts.length qn)).toArray 30))
 have B3:=chid (cbelow_on Y2 BL.out Y2.size)
 have X3:=chid (Y0.next BL.out)
 have Y3:=chid (Y1.next BL.out)
 clear hs hx qf qc Y0 Y1 Y2 HZ0 hk
 go_enter Tryz.func90,Tryz.ntmps90
 go_wp2_with fail
 refine Calls.mono (HK.out _) ?_
 rintro e w2 ⟨rfl,b2⟩
 have B4:=chid (cbelow_on B3.out b2 B3.out.size)
 have X4:=chid (X3.out.next b2)
 have Y4:=chid (Y3.out.next b2)
 have Z4:=chid (HZ.out.next b2)
 clear x0 x1 x2 x3 xl
 clear y0 y1 y2 y3 g0 g1 g2 g3 yl
 clear q0 q1 q2 q3 b2 HK HZ BL B3 X3 Y3 HY0 HY1 B0 lpw
 have n6:(a.op==6)=false:=by simpa using H6.out
 have x0:=X4.out.cell 0 _ rfl
 have x1:=X4.out.cell 1 _ rfl
 have x2:=X4.out.cell 2 _ rfl
 have x3:=X4.out.cell 3 _ rfl
 have xl:=X4.out.lt
 have y0:=Y4.out.cell 0 _ rfl
 have y1:=Y4.out.cell 1 _ rfl
 have y2:=Y4.out.cell 2 _ rfl
 have y3:=Y4.out.cell 3 _ rfl
 have g0:=Y4.out.free 0 (by simp)
 have g1:=Y4.out.free 1 (by simp)
 have g2:=Y4.out.free 2 (by simp)
 have g3:=Y4.out.free 3 (by simp)
 have yl:=Y4.out.lt
 have z0:=Z4.out.cell 0 _ rfl
 have z1:=Z4.out.cell 1 _ rfl
 have z2:=Z4.out.cell 2 _ rfl
 have z3:=Z4.out.cell 3 _ rfl
 have zl:=Z4.out.lt
 go_wp2_with fail
 refine bodyPost_ret (v:=coV ⟨13,n,m,[a]⟩ (.slice (some ⟨pb,off,none⟩) 1 cap)) (by simp[results,Tryz.results90,go_sem, *]) rfl ?_
 exact⟨_,rfl,HCs.out,((((B4.out.setCell (p:=⟨w.heap.size+1,0,none⟩) (by simp) _).setCell (p:=⟨w.heap.size+1,1,none⟩) (by simp) _).setCell (p:=⟨w.heap.size+1,2,none⟩) (by simp) _).setCell (p:=⟨w.heap.size+1,3,none⟩) (by simp) _)⟩
set_option maxHeartbeats 1000000 in
set_option maxRecDepth 20000 in
theorem rr13_k (ok:Nat->Prop)(n m:Int)(a:Co)(v:Value)(w:World)(hk:cst a=true)(h6:¬ a.op=6)(D:Co)(hw:∀ W,Below w.heap.size w W->Calls Tryz.prog 154 #[coV ⟨13,n,m,[a]⟩ v] W fun e w'=>∃ u,e=.returned (coV D u)/\CSP ok w D u/\Below W.heap.size W w')(hs:CSP ok w ⟨13,n,m,[a]⟩ v):
 Calls Tryz.prog 90 #[coV ⟨13,n,m,[a]⟩ v] w (FoOut ok w D):=by
 have HCs:=chid hs
 obtain⟨pb,off,cap,rfl,k1,k2,lp,hx⟩:=hs.at (by simp)
 dsimp only at hx k1 HCs
 show Calls _ _ #[coV ⟨13,n,m,[a]⟩ (.slice (some ⟨pb,off,none⟩) 1 cap)] _ _
 have H6:=chid h6
 clear h6
 have HW:=chid hw
 clear hw
 obtain⟨qa,qn,qf,qc⟩:=hx 0 (by simp)
 simp only[List.getElem_cons_zero,Nat.zero_mul,Nat.add_zero] at qf qc
 have HQ:=chid qc
 obtain⟨Y0,Y1,Y2⟩:=two_boxes w 30 30 (coL ⟨13,n,m,[a]⟩ (.slice (some ⟨pb,off,none⟩) 1 cap)) [.int .i64 0,.int .i64 0,.int .i64 0,.slice none 0 0]
 have x0:=Y0.cell 0 _ rfl
 have x1:=Y0.cell 1 _ rfl
 have x2:=Y0.cell 2 _ rfl
 have x3:=Y0.cell 3 _ rfl
 have xl:=Y0.lt
 have y0:=Y1.cell 0 _ rfl
 have y1:=Y1.cell 1 _ rfl
 have y2:=Y1.cell 2 _ rfl
 have y3:=Y1.cell 3 _ rfl
 have g0:=Y1.free 0 (by simp)
 have g1:=Y1.free 1 (by simp)
 have g2:=Y1.free 2 (by simp)
 have g3:=Y1.free 3 (by simp)
 have yl:=Y1.lt
 have HY0:=chid Y0
 have HY1:=chid Y1
 have B0:=chid Y2
 have HA2:Hid (∀ o o',Below w.heap.size w ((w.alloc o).alloc o')):=fun o o'=>((Below.refl _ _).alloc (Nat.le_refl _) _).alloc (by simp) _
 obtain⟨q0,q1,q2,q3⟩:=qf.keep (w':=((w.alloc (.cells (coL ⟨13,n,m,[a]⟩ (.slice (some ⟨pb,off,none⟩) 1 cap)).toArray 30)).alloc (.cells [.int .i64 0,.int .i64 0,.int .i64 0,.slice none 0 0].toArray 30))) (fun j=>Y2.cell (p:=⟨pb,j,none⟩) lp)
 have lpw:=Nat.lt_of_lt_of_le lp Y2.size
 have HK:=chid (fun W=>rConst_c a qa a.parts.length qn W)
 rw[hk] at HK
 have HZ0:=chid (Box.new ((w.alloc (.cells (coL ⟨13,n,m,[a]⟩ (.slice (some ⟨pb,off,none⟩) 1 cap)).toArray 30)).alloc (.cells [.int .i64 0,.int .i64 0,.int .i64 0,.slice none 0 0].toArray 30)) (coL a (.slice qa a.parts.length qn)) 30)
 have HZ:Hid (Box (((w.alloc (.cells (coL ⟨13,n,m,[a]⟩ (.slice (some ⟨pb,off,none⟩) 1 cap)).toArray 30)).alloc (.cells [.int .i64 0,.int .i64 0,.int .i64 0,.slice none 0 0].toArray 30)).alloc (.cells (coL a (.slice qa a.parts.length qn)).toArray 30)) (w.heap.size+1+1) (coL a (.slice qa a.parts.length qn))):=chid (by simpa using HZ0.out)
 have BL:=chid ((Below.refl ((w.alloc (.cells (coL ⟨13,n,m,[a]⟩ (.slice (some ⟨pb,off,none⟩) 1 cap)).toArray 30)).alloc (.cells [.int .i64 0,.int .i64 0,.int .i64 0,.slice none 0 0].toArray 30)).heap.size _).alloc (Nat.le_refl _) (.cells (coL a (.slice qa a.parts.length qn)).toArray 30))
 have B3:=chid (cbelow_on Y2 BL.out Y2.size)
 have X3:=chid (Y0.next BL.out)
 have Y3:=chid (Y1.next BL.out)
 clear hs hx qf qc Y0 Y1 Y2 HZ0 hk
 go_enter Tryz.func90,Tryz.ntmps90
 go_wp2_with fail
 refine Calls.mono (HK.out _) ?_
 rintro e w2 ⟨rfl,b2⟩
 have B4:=chid (cbelow_on B3.out b2 B3.out.size)
 have X4:=chid (X3.out.next b2)
 have Y4:=chid (Y3.out.next b2)
 have Z4:=chid (HZ.out.next b2)
 clear x0 x1 x2 x3 xl
 clear y0 y1 y2 y3 g0 g1 g2 g3 yl
 clear q0 q1 q2 q3 b2 HK HZ BL B3 X3 Y3 HY0 HY1 B0 lpw
 have n6:(a.op==6)=false:=by simpa using H6.out
 have x0:=X4.out.cell 0 _ rfl
 have x1:=X4.out.cell 1 _ rfl
 have x2:=X4.out.cell 2 _ rfl
 have x3:=X4.out.cell 3 _ rfl
 have xl:=X4.out.lt
 have y0:=Y4.out.cell 0 _ rfl
 have y1:=Y4.out.cell 1 _ rfl
 have y2:=Y4.out.cell 2 _ rfl
 have y3:=Y4.out.cell 3 _ rfl
 have g0:=Y4.out.free 0 (by simp)
 have g1:=Y4.out.free 1 (by simp)
 have g2:=Y4.out.free 2 (by simp)
 have g3:=Y4.out.free 3 (by simp)
 have yl:=Y4.out.lt
 have z0:=Z4.out.cell 0 _ rfl
 have z1:=Z4.out.cell 1 _ rfl
 have z2:=Z4.out.cell 2 _ rfl
 have z3:=Z4.out.cell 3 _ rfl
 have zl:=Z4.out.lt
 go_wp2_with fail
 refine Calls.mono (HW.out _ B4.out) ?_
 rintro e w3 ⟨u,rfl,hu,b3⟩
 obtain⟨ua,uc,rfl,-,-⟩:=hu.parts.shape
 have HU:=chid hu
 clear hu
 have Y5:=Y4.out.next b3
 have B5:=chid (cbelow_on B4.out b3 B4.out.size)
 clear x0 x1 x2 x3 xl
 clear y0 y1 y2 y3 g0 g1 g2 g3 yl
 clear z0 z1 z2 z3 zl b3
 have y0:=Y5.cell 0 _ rfl
 have y1:=Y5.cell 1 _ rfl
 have y2:=Y5.cell 2 _ rfl
 have y3:=Y5.cell 3 _ rfl
 have g0:=Y5.free 0 (by simp)
 have g1:=Y5.free 1 (by simp)
 have g2:=Y5.free 2 (by simp)
 have g3:=Y5.free 3 (by simp)
 have yl:=Y5.lt
 clear Y5
 go_wp2_with fail
 refine bodyPost_ret (v:=coV D (.slice ua D.parts.length uc)) (by simp[results,Tryz.results90,go_sem, *]) rfl ?_
 exact⟨_,rfl,HU.out,((((B5.out.setCell (p:=⟨w.heap.size+1,0,none⟩) (by simp) _).setCell (p:=⟨w.heap.size+1,1,none⟩) (by simp) _).setCell (p:=⟨w.heap.size+1,2,none⟩) (by simp) _).setCell (p:=⟨w.heap.size+1,3,none⟩) (by simp) _)⟩
set_option maxHeartbeats 1000000 in
set_option maxRecDepth 20000 in
theorem rru_f (ok:Nat->Prop)(op:Int)(n m:Int)(a:Co)(v:Value)(w:World)(hk:cst a=false)(h6:a.op=6)(hfit:CFit ⟨6,a.n,failM op,[]⟩)(hop:8<=op/\op<=24/\op≠13)(hs:CSP ok w ⟨op,n,m,[a]⟩ v):
 Calls Tryz.prog 90 #[coV ⟨op,n,m,[a]⟩ v] w (FoOut ok w ⟨6,a.n,failM op,[]⟩):=by
 have HCs:=chid hs
 obtain⟨pb,off,cap,rfl,k1,k2,lp,hx⟩:=hs.at (by simp)
 dsimp only at hx k1 HCs
 show Calls _ _ #[coV ⟨op,n,m,[a]⟩ (.slice (some ⟨pb,off,none⟩) 1 cap)] _ _
 have H6:=chid h6
 clear h6
 have HFa:=chid (fun W=>rfail_c a.n op W)
 generalize failM op=fm at *
 have n28:(op==28)=false:=by simp;omega
 have n25:(op==25)=false:=by simp;omega
 have n26:(op==26)=false:=by simp;omega
 have n27:(op==27)=false:=by simp;omega
 have n13:(op==13)=false:=by simp;omega
 have n7:(op==7)=false:=by simp;omega
 have n32:(op==32)=false:=by simp;omega
 have n30:(op==30)=false:=by simp;omega
 have n31:(op==31)=false:=by simp;omega
 have n29:(op==29)=false:=by simp;omega
 have HOp:=chid hop
 clear hop
 obtain⟨qa,qn,qf,qc⟩:=hx 0 (by simp)
 simp only[List.getElem_cons_zero,Nat.zero_mul,Nat.add_zero] at qf qc
 have HQ:=chid qc
 obtain⟨Y0,Y1,Y2⟩:=two_boxes w 30 30 (coL ⟨op,n,m,[a]⟩ (.slice (some ⟨pb,off,none⟩) 1 cap)) [.int .i64 0,.int .i64 0,.int .i64 0,.slice none 0 0]
 have x0:=Y0.cell 0 _ rfl
 have x1:=Y0.cell 1 _ rfl
 have x2:=Y0.cell 2 _ rfl
 have x3:=Y0.cell 3 _ rfl
 have xl:=Y0.lt
 have y0:=Y1.cell 0 _ rfl
 have y1:=Y1.cell 1 _ rfl
 have y2:=Y1.cell 2 _ rfl
 have y3:=Y1.cell 3 _ rfl
 have g0:=Y1.free 0 (by simp)
 have g1:=Y1.free 1 (by simp)
 have g2:=Y1.free 2 (by simp)
 have g3:=Y1.free 3 (by simp)
 have yl:=Y1.lt
 have HY0:=chid Y0
 have HY1:=chid Y1
 have B0:=chid Y2
 have HA2:Hid (∀ o o',Below w.heap.size w ((w.alloc o).alloc o')):=fun o o'=>((Below.refl _ _).alloc (Nat.le_refl _) _).alloc (by simp) _
 obtain⟨q0,q1,q2,q3⟩:=qf.keep (w':=((w.alloc (.cells (coL ⟨op,n,m,[a]⟩ (.slice (some ⟨pb,off,none⟩) 1 cap)).toArray 30)).alloc (.cells [.int .i64 0,.int .i64 0,.int .i64 0,.slice none 0 0].toArray 30))) (fun j=>Y2.cell (p:=⟨pb,j,none⟩) lp)
 have lpw:=Nat.lt_of_lt_of_le lp Y2.size
 have HK:=chid (fun W=>rConst_c a qa a.parts.length qn W)
 rw[hk] at HK
 have HZ0:=chid (Box.new ((w.alloc (.cells (coL ⟨op,n,m,[a]⟩ (.slice (some ⟨pb,off,none⟩) 1 cap)).toArray 30)).alloc (.cells [.int .i64 0,.int .i64 0,.int .i64 0,.slice none 0 0].toArray 30)) (coL a (.slice qa a.parts.length qn)) 30)
 have HZ:Hid (Box (((w.alloc (.cells (coL ⟨op,n,m,[a]⟩ (.slice (some ⟨pb,off,none⟩) 1 cap)).toArray 30)).alloc (.cells [.int .i64 0,.int .i64 0,.int .i64 0,.slice none 0 0].toArray 30)).alloc (.cells (coL a (.slice qa a.parts.length qn)).toArray 30)) (w.heap.size+1+1) (coL a (.slice qa a.parts.length qn))):=chid (by simpa using HZ0.out)
 have BL:=chid ((Below.refl ((w.alloc (.cells (coL ⟨op,n,m,[a]⟩ (.slice (some ⟨pb,off,none⟩) 1 cap)).toArray 30)).alloc (.cells [.int .i64 0,.int .i64 0,.int .i64 0,.slice none 0 0].toArray 30)).heap.size _).alloc (Nat.le_refl _) (.cells (coL a (.slice qa a.parts.length qn)).toArray 30))
 have B3:=chid (cbelow_on Y2 BL.out Y2.size)
 have X3:=chid (Y0.next BL.out)
 have Y3:=chid (Y1.next BL.out)
 clear hs hx qf qc Y0 Y1 Y2 HZ0 hk
 go_enter Tryz.func90,Tryz.ntmps90
 go_wp2_with fail
 refine Calls.mono (HK.out _) ?_
 rintro e w2 ⟨rfl,b2⟩
 have B4:=chid (cbelow_on B3.out b2 B3.out.size)
 have X4:=chid (X3.out.next b2)
 have Y4:=chid (Y3.out.next b2)
 have Z4:=chid (HZ.out.next b2)
 clear x0 x1 x2 x3 xl
 clear y0 y1 y2 y3 g0 g1 g2 g3 yl
 clear q0 q1 q2 q3 b2 HK HZ BL B3 X3 Y3 HY0 HY1 B0 lpw
 have n6:(a.op==6)=true:=by simpa using H6.out
 have x0:=X4.out.cell 0 _ rfl
 have x1:=X4.out.cell 1 _ rfl
 have x2:=X4.out.cell 2 _ rfl
 have x3:=X4.out.cell 3 _ rfl
 have xl:=X4.out.lt
 have y0:=Y4.out.cell 0 _ rfl
 have y1:=Y4.out.cell 1 _ rfl
 have y2:=Y4.out.cell 2 _ rfl
 have y3:=Y4.out.cell 3 _ rfl
 have g0:=Y4.out.free 0 (by simp)
 have g1:=Y4.out.free 1 (by simp)
 have g2:=Y4.out.free 2 (by simp)
 have g3:=Y4.out.free 3 (by simp)
 have yl:=Y4.out.lt
 have z0:=Z4.out.cell 0 _ rfl
 have z1:=Z4.out.cell 1 _ rfl
 have z2:=Z4.out.cell 2 _ rfl
 have z3:=Z4.out.cell 3 _ rfl
 have zl:=Z4.out.lt
 go_wp2_with fail
 refine Calls.mono (HFa.out _) ?_
 rintro e w3 ⟨rfl,b3⟩
 have Y5:=Y4.out.next b3
 have B5:=chid (cbelow_on B4.out b3 B4.out.size)
 clear x0 x1 x2 x3 xl
 clear y0 y1 y2 y3 g0 g1 g2 g3 yl
 clear z0 z1 z2 z3 zl b3
 have y0:=Y5.cell 0 _ rfl
 have y1:=Y5.cell 1 _ rfl
 have y2:=Y5.cell 2 _ rfl
 have y3:=Y5.cell 3 _ rfl
 have g0:=Y5.free 0 (by simp)
 have g1:=Y5.free 1 (by simp)
 have g2:=Y5.free 2 (by simp)
 have g3:=Y5.free 3 (by simp)
 have yl:=Y5.lt
 clear Y5
 go_wp2_with fail
 refine bodyPost_ret (v:=coV ⟨6,a.n,fm,[]⟩ (.slice none 0 0)) (by simp[results,Tryz.results90,go_sem, *]) rfl ?_
 exact⟨_,rfl,CSP.leaf w hfit,((((B5.out.setCell (p:=⟨w.heap.size+1,0,none⟩) (by simp) _).setCell (p:=⟨w.heap.size+1,1,none⟩) (by simp) _).setCell (p:=⟨w.heap.size+1,2,none⟩) (by simp) _).setCell (p:=⟨w.heap.size+1,3,none⟩) (by simp) _)⟩
set_option maxHeartbeats 1000000 in
set_option maxRecDepth 20000 in
theorem rru_s (ok:Nat->Prop)(op:Int)(n m:Int)(a:Co)(v:Value)(w:World)(hk:cst a=false)(h6:¬ a.op=6)  (hop:8<=op/\op<=24/\op≠13)(hs:CSP ok w ⟨op,n,m,[a]⟩ v):
 Calls Tryz.prog 90 #[coV ⟨op,n,m,[a]⟩ v] w (FoOut ok w ⟨op,n,m,[a]⟩):=by
 have HCs:=chid hs
 obtain⟨pb,off,cap,rfl,k1,k2,lp,hx⟩:=hs.at (by simp)
 dsimp only at hx k1 HCs
 show Calls _ _ #[coV ⟨op,n,m,[a]⟩ (.slice (some ⟨pb,off,none⟩) 1 cap)] _ _
 have H6:=chid h6
 clear h6
 have n28:(op==28)=false:=by simp;omega
 have n25:(op==25)=false:=by simp;omega
 have n26:(op==26)=false:=by simp;omega
 have n27:(op==27)=false:=by simp;omega
 have n13:(op==13)=false:=by simp;omega
 have n7:(op==7)=false:=by simp;omega
 have n32:(op==32)=false:=by simp;omega
 have n30:(op==30)=false:=by simp;omega
 have n31:(op==31)=false:=by simp;omega
 have n29:(op==29)=false:=by simp;omega
 have HOp:=chid hop
 clear hop
 obtain⟨qa,qn,qf,qc⟩:=hx 0 (by simp)
 simp only[List.getElem_cons_zero,Nat.zero_mul,Nat.add_zero] at qf qc
 have HQ:=chid qc
 obtain⟨Y0,Y1,Y2⟩:=two_boxes w 30 30 (coL ⟨op,n,m,[a]⟩ (.slice (some ⟨pb,off,none⟩) 1 cap)) [.int .i64 0,.int .i64 0,.int .i64 0,.slice none 0 0]
 have x0:=Y0.cell 0 _ rfl
 have x1:=Y0.cell 1 _ rfl
 have x2:=Y0.cell 2 _ rfl
 have x3:=Y0.cell 3 _ rfl
 have xl:=Y0.lt
 have y0:=Y1.cell 0 _ rfl
 have y1:=Y1.cell 1 _ rfl
 have y2:=Y1.cell 2 _ rfl
 have y3:=Y1.cell 3 _ rfl
 have g0:=Y1.free 0 (by simp)
 have g1:=Y1.free 1 (by simp)
 have g2:=Y1.free 2 (by simp)
 have g3:=Y1.free 3 (by simp)
 have yl:=Y1.lt
 have HY0:=chid Y0
 have HY1:=chid Y1
 have B0:=chid Y2
 have HA2:Hid (∀ o o',Below w.heap.size w ((w.alloc o).alloc o')):=fun o o'=>((Below.refl _ _).alloc (Nat.le_refl _) _).alloc (by simp) _
 obtain⟨q0,q1,q2,q3⟩:=qf.keep (w':=((w.alloc (.cells (coL ⟨op,n,m,[a]⟩ (.slice (some ⟨pb,off,none⟩) 1 cap)).toArray 30)).alloc (.cells [.int .i64 0,.int .i64 0,.int .i64 0,.slice none 0 0].toArray 30))) (fun j=>Y2.cell (p:=⟨pb,j,none⟩) lp)
 have lpw:=Nat.lt_of_lt_of_le lp Y2.size
 have HK:=chid (fun W=>rConst_c a qa a.parts.length qn W)
 rw[hk] at HK
 have HZ0:=chid (Box.new ((w.alloc (.cells (coL ⟨op,n,m,[a]⟩ (.slice (some ⟨pb,off,none⟩) 1 cap)).toArray 30)).alloc (.cells [.int .i64 0,.int .i64 0,.int .i64 0,.slice none 0 0].toArray 30)) (coL a (.slice qa a.parts.length qn)) 30)
 have HZ:Hid (Box (((w.alloc (.cells (coL ⟨op,n,m,[a]⟩ (.slice (some ⟨pb,off,none⟩) 1 cap)).toArray 30)).alloc (.cells [.int .i64 0,.int .i64 0,.int .i64 0,.slice none 0 0].toArray 30)).alloc (.cells (coL a (.slice qa a.parts.length qn)).toArray 30)) (w.heap.size+1+1) (coL a (.slice qa a.parts.length qn))):=chid (by simpa using HZ0.out)
 have BL:=chid ((Below.refl ((w.alloc (.cells (coL ⟨op,n,m,[a]⟩ (.slice (some ⟨pb,off,none⟩) 1 cap)).toArray 30)).alloc (.cells [.int .i64 0,.int .i64 0,.int .i64 0,.slice none 0 0].toArray 30)).heap.size _).alloc (Nat.le_refl _) (.cells (coL a (.slice qa a.parts.length qn)).toArray 30))
 have B3:=chid (cbelow_on Y2 BL.out Y2.size)
 have X3:=chid (Y0.next BL.out)
 have Y3:=chid (Y1.next BL.out)
 clear hs hx qf qc Y0 Y1 Y2 HZ0 hk
 go_enter Tryz.func90,Tryz.ntmps90
 go_wp2_with fail
 refine Calls.mono (HK.out _) ?_
 rintro e w2 ⟨rfl,b2⟩
 have B4:=chid (cbelow_on B3.out b2 B3.out.size)
 have X4:=chid (X3.out.next b2)
 have Y4:=chid (Y3.out.next b2)
 have Z4:=chid (HZ.out.next b2)
 clear x0 x1 x2 x3 xl
 clear y0 y1 y2 y3 g0 g1 g2 g3 yl
 clear q0 q1 q2 q3 b2 HK HZ BL B3 X3 Y3 HY0 HY1 B0 lpw
 have n6:(a.op==6)=false:=by simpa using H6.out
 have x0:=X4.out.cell 0 _ rfl
 have x1:=X4.out.cell 1 _ rfl
 have x2:=X4.out.cell 2 _ rfl
 have x3:=X4.out.cell 3 _ rfl
 have xl:=X4.out.lt
 have y0:=Y4.out.cell 0 _ rfl
 have y1:=Y4.out.cell 1 _ rfl
 have y2:=Y4.out.cell 2 _ rfl
 have y3:=Y4.out.cell 3 _ rfl
 have g0:=Y4.out.free 0 (by simp)
 have g1:=Y4.out.free 1 (by simp)
 have g2:=Y4.out.free 2 (by simp)
 have g3:=Y4.out.free 3 (by simp)
 have yl:=Y4.out.lt
 have z0:=Z4.out.cell 0 _ rfl
 have z1:=Z4.out.cell 1 _ rfl
 have z2:=Z4.out.cell 2 _ rfl
 have z3:=Z4.out.cell 3 _ rfl
 have zl:=Z4.out.lt
 go_wp2_with fail
 refine bodyPost_ret (v:=coV ⟨op,n,m,[a]⟩ (.slice (some ⟨pb,off,none⟩) 1 cap)) (by simp[results,Tryz.results90,go_sem, *]) rfl ?_
 exact⟨_,rfl,HCs.out,((((B4.out.setCell (p:=⟨w.heap.size+1,0,none⟩) (by simp) _).setCell (p:=⟨w.heap.size+1,1,none⟩) (by simp) _).setCell (p:=⟨w.heap.size+1,2,none⟩) (by simp) _).setCell (p:=⟨w.heap.size+1,3,none⟩) (by simp) _)⟩
set_option maxHeartbeats 1000000 in
set_option maxRecDepth 20000 in
theorem rru_k (ok:Nat->Prop)(op:Int)(n m:Int)(a:Co)(v:Value)(w:World)(hk:cst a=true)(h6:¬ a.op=6)(D:Co)(hw:∀ W,Below w.heap.size w W->Calls Tryz.prog 154 #[coV ⟨op,n,m,[a]⟩ v] W fun e w'=>∃ u,e=.returned (coV D u)/\CSP ok w D u/\Below W.heap.size W w')(hop:8<=op/\op<=24/\op≠13)(hs:CSP ok w ⟨op,n,m,[a]⟩ v):
 Calls Tryz.prog 90 #[coV ⟨op,n,m,[a]⟩ v] w (FoOut ok w D):=by
 have HCs:=chid hs
 obtain⟨pb,off,cap,rfl,k1,k2,lp,hx⟩:=hs.at (by simp)
 dsimp only at hx k1 HCs
 show Calls _ _ #[coV ⟨op,n,m,[a]⟩ (.slice (some ⟨pb,off,none⟩) 1 cap)] _ _
 have H6:=chid h6
 clear h6
 have HW:=chid hw
 clear hw
 have n28:(op==28)=false:=by simp;omega
 have n25:(op==25)=false:=by simp;omega
 have n26:(op==26)=false:=by simp;omega
 have n27:(op==27)=false:=by simp;omega
 have n13:(op==13)=false:=by simp;omega
 have n7:(op==7)=false:=by simp;omega
 have n32:(op==32)=false:=by simp;omega
 have n30:(op==30)=false:=by simp;omega
 have n31:(op==31)=false:=by simp;omega
 have n29:(op==29)=false:=by simp;omega
 have HOp:=chid hop
 clear hop
 obtain⟨qa,qn,qf,qc⟩:=hx 0 (by simp)
 simp only[List.getElem_cons_zero,Nat.zero_mul,Nat.add_zero] at qf qc
 have HQ:=chid qc
 obtain⟨Y0,Y1,Y2⟩:=two_boxes w 30 30 (coL ⟨op,n,m,[a]⟩ (.slice (some ⟨pb,off,none⟩) 1 cap)) [.int .i64 0,.int .i64 0,.int .i64 0,.slice none 0 0]
 have x0:=Y0.cell 0 _ rfl
 have x1:=Y0.cell 1 _ rfl
 have x2:=Y0.cell 2 _ rfl
 have x3:=Y0.cell 3 _ rfl
 have xl:=Y0.lt
 have y0:=Y1.cell 0 _ rfl
 have y1:=Y1.cell 1 _ rfl
 have y2:=Y1.cell 2 _ rfl
 have y3:=Y1.cell 3 _ rfl
 have g0:=Y1.free 0 (by simp)
 have g1:=Y1.free 1 (by simp)
 have g2:=Y1.free 2 (by simp)
 have g3:=Y1.free 3 (by simp)
 have yl:=Y1.lt
 have HY0:=chid Y0
 have HY1:=chid Y1
 have B0:=chid Y2
 have HA2:Hid (∀ o o',Below w.heap.size w ((w.alloc o).alloc o')):=fun o o'=>((Below.refl _ _).alloc (Nat.le_refl _) _).alloc (by simp) _
 obtain⟨q0,q1,q2,q3⟩:=qf.keep (w':=((w.alloc (.cells (coL ⟨op,n,m,[a]⟩ (.slice (some ⟨pb,off,none⟩) 1 cap)).toArray 30)).alloc (.cells [.int .i64 0,.int .i64 0,.int .i64 0,.slice none 0 0].toArray 30))) (fun j=>Y2.cell (p:=⟨pb,j,none⟩) lp)
 have lpw:=Nat.lt_of_lt_of_le lp Y2.size
 have HK:=chid (fun W=>rConst_c a qa a.parts.length qn W)
 rw[hk] at HK
 have HZ0:=chid (Box.new ((w.alloc (.cells (coL ⟨op,n,m,[a]⟩ (.slice (some ⟨pb,off,none⟩) 1 cap)).toArray 30)).alloc (.cells [.int .i64 0,.int .i64 0,.int .i64 0,.slice none 0 0].toArray 30)) (coL a (.slice qa a.parts.length qn)) 30)
 have HZ:Hid (Box (((w.alloc (.cells (coL ⟨op,n,m,[a]⟩ (.slice (some ⟨pb,off,none⟩) 1 cap)).toArray 30)).alloc (.cells [.int .i64 0,.int .i64 0,.int .i64 0,.slice none 0 0].toArray 30)).alloc (.cells (coL a (.slice qa a.parts.length qn)).toArray 30)) (w.heap.size+1+1) (coL a (.slice qa a.parts.length qn))):=chid (by simpa using HZ0.out)
 have BL:=chid ((Below.refl ((w.alloc (.cells (coL ⟨op,n,m,[a]⟩ (.slice (some ⟨pb,off,none⟩) 1 cap)).toArray 30)).alloc (.cells [.int .i64 0,.int .i64 0,.int .i64 0,.slice none 0 0].toArray 30)).heap.size _).alloc (Nat.le_refl _) (.cells (coL a (.slice qa a.parts.length qn)).toArray 30))
 have B3:=chid (cbelow_on Y2 BL.out Y2.size)
 have X3:=chid (Y0.next BL.out)
 have Y3:=chid (Y1.next BL.out)
 clear hs hx qf qc Y0 Y1 Y2 HZ0 hk
 go_enter Tryz.func90,Tryz.ntmps90
 go_wp2_with fail
 refine Calls.mono (HK.out _) ?_
 rintro e w2 ⟨rfl,b2⟩
 have B4:=chid (cbelow_on B3.out b2 B3.out.size)
 have X4:=chid (X3.out.next b2)
 have Y4:=chid (Y3.out.next b2)
 have Z4:=chid (HZ.out.next b2)
 clear x0 x1 x2 x3 xl
 clear y0 y1 y2 y3 g0 g1 g2 g3 yl
 clear q0 q1 q2 q3 b2 HK HZ BL B3 X3 Y3 HY0 HY1 B0 lpw
 have n6:(a.op==6)=false:=by simpa using H6.out
 have x0:=X4.out.cell 0 _ rfl
 have x1:=X4.out.cell 1 _ rfl
 have x2:=X4.out.cell 2 _ rfl
 have x3:=X4.out.cell 3 _ rfl
 have xl:=X4.out.lt
 have y0:=Y4.out.cell 0 _ rfl
 have y1:=Y4.out.cell 1 _ rfl
 have y2:=Y4.out.cell 2 _ rfl
 have y3:=Y4.out.cell 3 _ rfl
 have g0:=Y4.out.free 0 (by simp)
 have g1:=Y4.out.free 1 (by simp)
 have g2:=Y4.out.free 2 (by simp)
 have g3:=Y4.out.free 3 (by simp)
 have yl:=Y4.out.lt
 have z0:=Z4.out.cell 0 _ rfl
 have z1:=Z4.out.cell 1 _ rfl
 have z2:=Z4.out.cell 2 _ rfl
 have z3:=Z4.out.cell 3 _ rfl
 have zl:=Z4.out.lt
 go_wp2_with fail
 refine Calls.mono (HW.out _ B4.out) ?_
 rintro e w3 ⟨u,rfl,hu,b3⟩
 obtain⟨ua,uc,rfl,-,-⟩:=hu.parts.shape
 have HU:=chid hu
 clear hu
 have Y5:=Y4.out.next b3
 have B5:=chid (cbelow_on B4.out b3 B4.out.size)
 clear x0 x1 x2 x3 xl
 clear y0 y1 y2 y3 g0 g1 g2 g3 yl
 clear z0 z1 z2 z3 zl b3
 have y0:=Y5.cell 0 _ rfl
 have y1:=Y5.cell 1 _ rfl
 have y2:=Y5.cell 2 _ rfl
 have y3:=Y5.cell 3 _ rfl
 have g0:=Y5.free 0 (by simp)
 have g1:=Y5.free 1 (by simp)
 have g2:=Y5.free 2 (by simp)
 have g3:=Y5.free 3 (by simp)
 have yl:=Y5.lt
 clear Y5
 go_wp2_with fail
 refine bodyPost_ret (v:=coV D (.slice ua D.parts.length uc)) (by simp[results,Tryz.results90,go_sem, *]) rfl ?_
 exact⟨_,rfl,HU.out,((((B5.out.setCell (p:=⟨w.heap.size+1,0,none⟩) (by simp) _).setCell (p:=⟨w.heap.size+1,1,none⟩) (by simp) _).setCell (p:=⟨w.heap.size+1,2,none⟩) (by simp) _).setCell (p:=⟨w.heap.size+1,3,none⟩) (by simp) _)⟩
end Go.Proofs.YtepncopdjodfgaaGreatDoor
