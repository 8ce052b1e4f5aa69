import Derived.Test.YtkbmgloilckdhaaGreatDoorMpA
namespace Go.Proofs.YtkbmgloilckdhaaGreatDoor
open Go.RowKit
set_option maxHeartbeats 1000000 in
set_option maxRecDepth 20000 in
theorem b7q (ok:Nat->Prop)(n m:Int)(a y:Co)(v:Value)(w:World)(hk:cst a=true)(h6:¬ a.op=6)  (hs:CSP ok w ⟨27,n,m,[a,y]⟩ v):
 Calls Tryz.prog 40 #[coV ⟨27,n,m,[a,y]⟩ v] w (a0H ok w a):=by
 have HCs:=a0a hs
 obtain⟨pb,off,cap,rfl,k1,k2,lp,hx⟩:=hs.at (by simp)
 dsimp only at hx k1 HCs
 show Calls _ _ #[coV ⟨27,n,m,[a,y]⟩ (.slice (some ⟨pb,off,none⟩) 2 cap)] _ _
 have H6:=a0a h6
 clear h6
 obtain⟨qa,qn,qf,qc⟩:=hx 0 (by simp)
 simp only[List.getElem_cons_zero,Nat.zero_mul,Nat.add_zero] at qf qc
 have HQ:=a0a qc
 obtain⟨Y0,Y1,Y2⟩:=a0e w 30 30 (coL ⟨27,n,m,[a,y]⟩ (.slice (some ⟨pb,off,none⟩) 2 cap)) [.int .i64 0,.int .i64 0,.int .i64 0,.slice none 0 0]
 obtain⟨x0,x1,x2,x3⟩:=Box.c4 Y0
 have xl:=Y0.lt
 obtain⟨y0,y1,y2,y3⟩:=Box.c4 Y1
 have g0:=Y1.free 0 (by simp)
 have g1:=Y1.free 1 (by simp)
 have g2:=Y1.free 2 (by simp)
 have g3:=Y1.free 3 (by simp)
 have yl:=Y1.lt
 have HY0:=a0a Y0
 have HY1:=a0a Y1
 have B0:=a0a Y2
 have HA2:Hid (∀ o o',Below w.heap.size w ((w.alloc o).alloc o')):=fun o o'=>((Below.refl _ _).alloc (Nat.le_refl _) _).alloc (by simp) _
 obtain⟨q0,q1,q2,q3⟩:=qf.keep (w':=((w.alloc (.cells (coL ⟨27,n,m,[a,y]⟩ (.slice (some ⟨pb,off,none⟩) 2 cap)).toArray 30)).alloc (.cells [.int .i64 0,.int .i64 0,.int .i64 0,.slice none 0 0].toArray 30))) (fun j=>Y2.cell (p:=⟨pb,j,none⟩) lp)
 have lpw:=Nat.lt_of_lt_of_le lp Y2.size
 have HK:=a0a (fun W=>a0N a qa a.parts.length qn W)
 rw[hk] at HK
 have HZ0:=a0a (Box.new ((w.alloc (.cells (coL ⟨27,n,m,[a,y]⟩ (.slice (some ⟨pb,off,none⟩) 2 cap)).toArray 30)).alloc (.cells [.int .i64 0,.int .i64 0,.int .i64 0,.slice none 0 0].toArray 30)) (coL a (.slice qa a.parts.length qn)) 30)
 have HZ:Hid (Box (((w.alloc (.cells (coL ⟨27,n,m,[a,y]⟩ (.slice (some ⟨pb,off,none⟩) 2 cap)).toArray 30)).alloc (.cells [.int .i64 0,.int .i64 0,.int .i64 0,.slice none 0 0].toArray 30)).alloc (.cells (coL a (.slice qa a.parts.length qn)).toArray 30)) (w.heap.size+1+1) (coL a (.slice qa a.parts.length qn))):=a0a (by simpa using HZ0.out)
 have BL:=a0a ((Below.refl ((w.alloc (.cells (coL ⟨27,n,m,[a,y]⟩ (.slice (some ⟨pb,off,none⟩) 2 cap)).toArray 30)).alloc (.cells [.int .i64 0,.int .i64 0,.int .i64 0,.slice none 0 0].toArray 30)).heap.size _).alloc (Nat.le_refl _) (.cells (coL a (.slice qa a.parts.length qn)).toArray 30))
 have B3:=a0a (a0b Y2 BL.out Y2.size)
 have X3:=a0a (Y0.next BL.out)
 have Y3:=a0a (Y1.next BL.out)
 clear hs hx qf qc Y0 Y1 Y2 HZ0 hk
 go_enter Tryz.func40,Tryz.ntmps40
 go_wp2_with fail
 refine Calls.mono (HK.out _) ?_
 rintro e w2 ⟨rfl,b2⟩
 have B4:=kb B3 b2
 have X4:=a0a (X3.out.next b2)
 have Y4:=a0a (Y3.out.next b2)
 have Z4:=a0a (HZ.out.next b2)
 clear x0 x1 x2 x3 xl
 clear y0 y1 y2 y3 g0 g1 g2 g3 yl
 clear q0 q1 q2 q3 b2 HK HZ BL B3 X3 Y3 HY0 HY1 B0 lpw
 have n6:(a.op==6)=false:=by simpa using H6.out
 obtain⟨x0,x1,x2,x3⟩:=Box.c4 X4.out
 have xl:=X4.out.lt
 obtain⟨y0,y1,y2,y3⟩:=Box.c4 Y4.out
 have g0:=Y4.out.free 0 (by simp)
 have g1:=Y4.out.free 1 (by simp)
 have g2:=Y4.out.free 2 (by simp)
 have g3:=Y4.out.free 3 (by simp)
 have yl:=Y4.out.lt
 obtain⟨z0,z1,z2,z3⟩:=Box.c4 Z4.out
 have zl:=Z4.out.lt
 go_wp2_with fail
 refine bodyPost_ret (v:=coV a (.slice qa a.parts.length qn)) (by simp[results,Tryz.results40,go_sem, *]) rfl ?_
 exact⟨_,rfl,HQ.out,((((B4.out.setCell (p:=⟨w.heap.size+1,0,none⟩) (by simp) _).setCell (p:=⟨w.heap.size+1,1,none⟩) (by simp) _).setCell (p:=⟨w.heap.size+1,2,none⟩) (by simp) _).setCell (p:=⟨w.heap.size+1,3,none⟩) (by simp) _)⟩
set_option maxHeartbeats 1000000 in
set_option maxRecDepth 20000 in
theorem b7r (ok:Nat->Prop)(n m:Int)(a y:Co)(v:Value)(w:World)(hk:cst a=false)(h6:a.op=6)  (hs:CSP ok w ⟨27,n,m,[a,y]⟩ v):
 Calls Tryz.prog 40 #[coV ⟨27,n,m,[a,y]⟩ v] w (a0H ok w y):=by
 have HCs:=a0a hs
 obtain⟨pb,off,cap,rfl,k1,k2,lp,hx⟩:=hs.at (by simp)
 dsimp only at hx k1 HCs
 show Calls _ _ #[coV ⟨27,n,m,[a,y]⟩ (.slice (some ⟨pb,off,none⟩) 2 cap)] _ _
 have H6:=a0a h6
 clear h6
 obtain⟨qa,qn,qf,qc⟩:=hx 0 (by simp)
 simp only[List.getElem_cons_zero,Nat.zero_mul,Nat.add_zero] at qf qc
 obtain⟨ya,yn,yf,yc⟩:=hx 1 (by simp)
 simp only[List.getElem_cons_succ,List.getElem_cons_zero,Nat.one_mul] at yf yc
 have HY:=a0a yc
 have HQ:=a0a qc
 obtain⟨Y0,Y1,Y2⟩:=a0e w 30 30 (coL ⟨27,n,m,[a,y]⟩ (.slice (some ⟨pb,off,none⟩) 2 cap)) [.int .i64 0,.int .i64 0,.int .i64 0,.slice none 0 0]
 obtain⟨x0,x1,x2,x3⟩:=Box.c4 Y0
 have xl:=Y0.lt
 obtain⟨y0,y1,y2,y3⟩:=Box.c4 Y1
 have g0:=Y1.free 0 (by simp)
 have g1:=Y1.free 1 (by simp)
 have g2:=Y1.free 2 (by simp)
 have g3:=Y1.free 3 (by simp)
 have yl:=Y1.lt
 have HY0:=a0a Y0
 have HY1:=a0a Y1
 have B0:=a0a Y2
 have HA2:Hid (∀ o o',Below w.heap.size w ((w.alloc o).alloc o')):=fun o o'=>((Below.refl _ _).alloc (Nat.le_refl _) _).alloc (by simp) _
 obtain⟨q0,q1,q2,q3⟩:=qf.keep (w':=((w.alloc (.cells (coL ⟨27,n,m,[a,y]⟩ (.slice (some ⟨pb,off,none⟩) 2 cap)).toArray 30)).alloc (.cells [.int .i64 0,.int .i64 0,.int .i64 0,.slice none 0 0].toArray 30))) (fun j=>Y2.cell (p:=⟨pb,j,none⟩) lp)
 have lpw:=Nat.lt_of_lt_of_le lp Y2.size
 have HK:=a0a (fun W=>a0N a qa a.parts.length qn W)
 rw[hk] at HK
 have HZ0:=a0a (Box.new ((w.alloc (.cells (coL ⟨27,n,m,[a,y]⟩ (.slice (some ⟨pb,off,none⟩) 2 cap)).toArray 30)).alloc (.cells [.int .i64 0,.int .i64 0,.int .i64 0,.slice none 0 0].toArray 30)) (coL a (.slice qa a.parts.length qn)) 30)
 have HZ:Hid (Box (((w.alloc (.cells (coL ⟨27,n,m,[a,y]⟩ (.slice (some ⟨pb,off,none⟩) 2 cap)).toArray 30)).alloc (.cells [.int .i64 0,.int .i64 0,.int .i64 0,.slice none 0 0].toArray 30)).alloc (.cells (coL a (.slice qa a.parts.length qn)).toArray 30)) (w.heap.size+1+1) (coL a (.slice qa a.parts.length qn))):=a0a (by simpa using HZ0.out)
 have BL:=a0a ((Below.refl ((w.alloc (.cells (coL ⟨27,n,m,[a,y]⟩ (.slice (some ⟨pb,off,none⟩) 2 cap)).toArray 30)).alloc (.cells [.int .i64 0,.int .i64 0,.int .i64 0,.slice none 0 0].toArray 30)).heap.size _).alloc (Nat.le_refl _) (.cells (coL a (.slice qa a.parts.length qn)).toArray 30))
 have B3:=a0a (a0b Y2 BL.out Y2.size)
 have X3:=a0a (Y0.next BL.out)
 have Y3:=a0a (Y1.next BL.out)
 clear hs hx qf qc Y0 Y1 Y2 HZ0 hk yc
 go_enter Tryz.func40,Tryz.ntmps40
 go_wp2_with fail
 refine Calls.mono (HK.out _) ?_
 rintro e w2 ⟨rfl,b2⟩
 have B4:=kb B3 b2
 have X4:=a0a (X3.out.next b2)
 have Y4:=a0a (Y3.out.next b2)
 have Z4:=a0a (HZ.out.next b2)
 clear x0 x1 x2 x3 xl
 clear y0 y1 y2 y3 g0 g1 g2 g3 yl
 clear q0 q1 q2 q3 b2 HK HZ BL B3 X3 Y3 HY0 HY1 B0 lpw
 have n6:(a.op==6)=true:=by simpa using H6.out
 obtain⟨x0,x1,x2,x3⟩:=Box.c4 X4.out
 have xl:=X4.out.lt
 obtain⟨y0,y1,y2,y3⟩:=Box.c4 Y4.out
 have g0:=Y4.out.free 0 (by simp)
 have g1:=Y4.out.free 1 (by simp)
 have g2:=Y4.out.free 2 (by simp)
 have g3:=Y4.out.free 3 (by simp)
 have yl:=Y4.out.lt
 obtain⟨z0,z1,z2,z3⟩:=Box.c4 Z4.out
 have zl:=Z4.out.lt
 obtain⟨t0,t1,t2,t3⟩:=yf.keep (w':=w2) (fun j=>B4.out.cell (p:=⟨pb,j,none⟩) lp)
 have lp4:=Nat.lt_of_lt_of_le lp B4.out.size
 go_wp2_with fail
 refine bodyPost_ret (v:=coV y (.slice ya y.parts.length yn)) (by simp[results,Tryz.results40,go_sem, *]) rfl ?_
 exact⟨_,rfl,HY.out,((((B4.out.setCell (p:=⟨w.heap.size+1,0,none⟩) (by simp) _).setCell (p:=⟨w.heap.size+1,1,none⟩) (by simp) _).setCell (p:=⟨w.heap.size+1,2,none⟩) (by simp) _).setCell (p:=⟨w.heap.size+1,3,none⟩) (by simp) _)⟩
set_option maxHeartbeats 1000000 in
set_option maxRecDepth 20000 in
theorem b7p (ok:Nat->Prop)(n m:Int)(a y:Co)(v:Value)(w:World)(hk:cst a=false)(h6:¬ a.op=6)  (hs:CSP ok w ⟨27,n,m,[a,y]⟩ v):
 Calls Tryz.prog 40 #[coV ⟨27,n,m,[a,y]⟩ v] w (a0H ok w ⟨27,n,m,[a,y]⟩):=by
 have HCs:=a0a hs
 obtain⟨pb,off,cap,rfl,k1,k2,lp,hx⟩:=hs.at (by simp)
 dsimp only at hx k1 HCs
 show Calls _ _ #[coV ⟨27,n,m,[a,y]⟩ (.slice (some ⟨pb,off,none⟩) 2 cap)] _ _
 have H6:=a0a h6
 clear h6
 obtain⟨qa,qn,qf,qc⟩:=hx 0 (by simp)
 simp only[List.getElem_cons_zero,Nat.zero_mul,Nat.add_zero] at qf qc
 have HQ:=a0a qc
 obtain⟨Y0,Y1,Y2⟩:=a0e w 30 30 (coL ⟨27,n,m,[a,y]⟩ (.slice (some ⟨pb,off,none⟩) 2 cap)) [.int .i64 0,.int .i64 0,.int .i64 0,.slice none 0 0]
 obtain⟨x0,x1,x2,x3⟩:=Box.c4 Y0
 have xl:=Y0.lt
 obtain⟨y0,y1,y2,y3⟩:=Box.c4 Y1
 have g0:=Y1.free 0 (by simp)
 have g1:=Y1.free 1 (by simp)
 have g2:=Y1.free 2 (by simp)
 have g3:=Y1.free 3 (by simp)
 have yl:=Y1.lt
 have HY0:=a0a Y0
 have HY1:=a0a Y1
 have B0:=a0a Y2
 have HA2:Hid (∀ o o',Below w.heap.size w ((w.alloc o).alloc o')):=fun o o'=>((Below.refl _ _).alloc (Nat.le_refl _) _).alloc (by simp) _
 obtain⟨q0,q1,q2,q3⟩:=qf.keep (w':=((w.alloc (.cells (coL ⟨27,n,m,[a,y]⟩ (.slice (some ⟨pb,off,none⟩) 2 cap)).toArray 30)).alloc (.cells [.int .i64 0,.int .i64 0,.int .i64 0,.slice none 0 0].toArray 30))) (fun j=>Y2.cell (p:=⟨pb,j,none⟩) lp)
 have lpw:=Nat.lt_of_lt_of_le lp Y2.size
 have HK:=a0a (fun W=>a0N a qa a.parts.length qn W)
 rw[hk] at HK
 have HZ0:=a0a (Box.new ((w.alloc (.cells (coL ⟨27,n,m,[a,y]⟩ (.slice (some ⟨pb,off,none⟩) 2 cap)).toArray 30)).alloc (.cells [.int .i64 0,.int .i64 0,.int .i64 0,.slice none 0 0].toArray 30)) (coL a (.slice qa a.parts.length qn)) 30)
 have HZ:Hid (Box (((w.alloc (.cells (coL ⟨27,n,m,[a,y]⟩ (.slice (some ⟨pb,off,none⟩) 2 cap)).toArray 30)).alloc (.cells [.int .i64 0,.int .i64 0,.int .i64 0,.slice none 0 0].toArray 30)).alloc (.cells (coL a (.slice qa a.parts.length qn)).toArray 30)) (w.heap.size+1+1) (coL a (.slice qa a.parts.length qn))):=a0a (by simpa using HZ0.out)
 have BL:=a0a ((Below.refl ((w.alloc (.cells (coL ⟨27,n,m,[a,y]⟩ (.slice (some ⟨pb,off,none⟩) 2 cap)).toArray 30)).alloc (.cells [.int .i64 0,.int .i64 0,.int .i64 0,.slice none 0 0].toArray 30)).heap.size _).alloc (Nat.le_refl _) (.cells (coL a (.slice qa a.parts.length qn)).toArray 30))
 have B3:=a0a (a0b Y2 BL.out Y2.size)
 have X3:=a0a (Y0.next BL.out)
 have Y3:=a0a (Y1.next BL.out)
 clear hs hx qf qc Y0 Y1 Y2 HZ0 hk
 go_enter Tryz.func40,Tryz.ntmps40
 go_wp2_with fail
 refine Calls.mono (HK.out _) ?_
 rintro e w2 ⟨rfl,b2⟩
 have B4:=kb B3 b2
 have X4:=a0a (X3.out.next b2)
 have Y4:=a0a (Y3.out.next b2)
 have Z4:=a0a (HZ.out.next b2)
 clear x0 x1 x2 x3 xl
 clear y0 y1 y2 y3 g0 g1 g2 g3 yl
 clear q0 q1 q2 q3 b2 HK HZ BL B3 X3 Y3 HY0 HY1 B0 lpw
 have n6:(a.op==6)=false:=by simpa using H6.out
 obtain⟨x0,x1,x2,x3⟩:=Box.c4 X4.out
 have xl:=X4.out.lt
 obtain⟨y0,y1,y2,y3⟩:=Box.c4 Y4.out
 have g0:=Y4.out.free 0 (by simp)
 have g1:=Y4.out.free 1 (by simp)
 have g2:=Y4.out.free 2 (by simp)
 have g3:=Y4.out.free 3 (by simp)
 have yl:=Y4.out.lt
 obtain⟨z0,z1,z2,z3⟩:=Box.c4 Z4.out
 have zl:=Z4.out.lt
 go_wp2_with fail
 refine bodyPost_ret (v:=coV ⟨27,n,m,[a,y]⟩ (.slice (some ⟨pb,off,none⟩) 2 cap)) (by simp[results,Tryz.results40,go_sem, *]) rfl ?_
 exact⟨_,rfl,HCs.out,((((B4.out.setCell (p:=⟨w.heap.size+1,0,none⟩) (by simp) _).setCell (p:=⟨w.heap.size+1,1,none⟩) (by simp) _).setCell (p:=⟨w.heap.size+1,2,none⟩) (by simp) _).setCell (p:=⟨w.heap.size+1,3,none⟩) (by simp) _)⟩
set_option maxHeartbeats 16000000 in
set_option maxRecDepth 20000 in
theorem a7c (ok:Nat->Prop)(op:Int)(kc fc:Bool)(n m:Int)(a:Co)(v:Value)(w:World)(hc:(op=7/\kc=false/\fc=false)\/(op=13/\kc=false/\fc=false)\/(op=30/\kc=true/\fc=false)\/(op=30/\kc=false/\fc=true)\/(op=30/\kc=false/\fc=false)\/(op=31/\kc=true/\fc=false)\/(op=31/\kc=false/\fc=true)\/(op=31/\kc=false/\fc=false))(hk:cst a=kc)(h6:(a.op==6)=fc)  (hs:CSP ok w ⟨op,n,m,[a]⟩ v):
 Calls Tryz.prog 40 #[coV ⟨op,n,m,[a]⟩ v] w (a0H ok w ⟨op,n,m,[a]⟩):=by
 have HCs:=a0a hs
 obtain⟨pb,off,cap,rfl,k1,k2,lp,hx⟩:=hs.at (by simp)
 dsimp only at hx k1 HCs
 show Calls _ _ #[coV ⟨op,n,m,[a]⟩ (.slice (some ⟨pb,off,none⟩) 1 cap)] _ _
 have H6:=a0a h6
 clear h6
 obtain⟨qa,qn,qf,qc⟩:=hx 0 (by simp)
 simp only[List.getElem_cons_zero,Nat.zero_mul,Nat.add_zero] at qf qc
 have HQ:=a0a qc
 obtain⟨Y0,Y1,Y2⟩:=a0e w 30 30 (coL ⟨op,n,m,[a]⟩ (.slice (some ⟨pb,off,none⟩) 1 cap)) [.int .i64 0,.int .i64 0,.int .i64 0,.slice none 0 0]
 obtain⟨x0,x1,x2,x3⟩:=Box.c4 Y0
 have xl:=Y0.lt
 obtain⟨y0,y1,y2,y3⟩:=Box.c4 Y1
 have g0:=Y1.free 0 (by simp)
 have g1:=Y1.free 1 (by simp)
 have g2:=Y1.free 2 (by simp)
 have g3:=Y1.free 3 (by simp)
 have yl:=Y1.lt
 have HY0:=a0a Y0
 have HY1:=a0a Y1
 have B0:=a0a Y2
 have HA2:Hid (∀ o o',Below w.heap.size w ((w.alloc o).alloc o')):=fun o o'=>((Below.refl _ _).alloc (Nat.le_refl _) _).alloc (by simp) _
 obtain⟨q0,q1,q2,q3⟩:=qf.keep (w':=((w.alloc (.cells (coL ⟨op,n,m,[a]⟩ (.slice (some ⟨pb,off,none⟩) 1 cap)).toArray 30)).alloc (.cells [.int .i64 0,.int .i64 0,.int .i64 0,.slice none 0 0].toArray 30))) (fun j=>Y2.cell (p:=⟨pb,j,none⟩) lp)
 have lpw:=Nat.lt_of_lt_of_le lp Y2.size
 have HK:=a0a (fun W=>a0N a qa a.parts.length qn W)
 rw[hk] at HK
 have HZ0:=a0a (Box.new ((w.alloc (.cells (coL ⟨op,n,m,[a]⟩ (.slice (some ⟨pb,off,none⟩) 1 cap)).toArray 30)).alloc (.cells [.int .i64 0,.int .i64 0,.int .i64 0,.slice none 0 0].toArray 30)) (coL a (.slice qa a.parts.length qn)) 30)
 have HZ:Hid (Box (((w.alloc (.cells (coL ⟨op,n,m,[a]⟩ (.slice (some ⟨pb,off,none⟩) 1 cap)).toArray 30)).alloc (.cells [.int .i64 0,.int .i64 0,.int .i64 0,.slice none 0 0].toArray 30)).alloc (.cells (coL a (.slice qa a.parts.length qn)).toArray 30)) (w.heap.size+1+1) (coL a (.slice qa a.parts.length qn))):=a0a (by simpa using HZ0.out)
 have BL:=a0a ((Below.refl ((w.alloc (.cells (coL ⟨op,n,m,[a]⟩ (.slice (some ⟨pb,off,none⟩) 1 cap)).toArray 30)).alloc (.cells [.int .i64 0,.int .i64 0,.int .i64 0,.slice none 0 0].toArray 30)).heap.size _).alloc (Nat.le_refl _) (.cells (coL a (.slice qa a.parts.length qn)).toArray 30))
 have B3:=a0a (a0b Y2 BL.out Y2.size)
 have X3:=a0a (Y0.next BL.out)
 have Y3:=a0a (Y1.next BL.out)
 clear hs hx qf qc Y0 Y1 Y2 HZ0 hk
 obtain⟨V,hV⟩:∃ V,Hid (V=coV ⟨op,n,m,[a]⟩ (.slice (some ⟨pb,off,none⟩) 1 cap)):=⟨_,a0a rfl⟩
 rcases hc with ⟨rfl,rfl,rfl⟩ | ⟨rfl,rfl,rfl⟩ | ⟨rfl,rfl,rfl⟩ | ⟨rfl,rfl,rfl⟩ | ⟨rfl,rfl,rfl⟩ | ⟨rfl,rfl,rfl⟩ | ⟨rfl,rfl,rfl⟩ | ⟨rfl,rfl,rfl⟩
 all_goals as_aux_lemma=>
  go_enter Tryz.func40,Tryz.ntmps40
  go_wp2_with fail
  refine Calls.mono (HK.out _) ?_
  rintro e w2 ⟨rfl,b2⟩
  have B4:=kb B3 b2
  have X4:=a0a (X3.out.next b2)
  have Y4:=a0a (Y3.out.next b2)
  have Z4:=a0a (HZ.out.next b2)
  clear x0 x1 x2 x3 xl
  clear y0 y1 y2 y3 g0 g1 g2 g3 yl
  clear q0 q1 q2 q3 b2 HK HZ BL B3 X3 Y3 HY0 HY1 B0 lpw
  have n6:=H6.out
  obtain⟨x0,x1,x2,x3⟩:=Box.c4 X4.out
  have xl:=X4.out.lt
  obtain⟨y0,y1,y2,y3⟩:=Box.c4 Y4.out
  have g0:=Y4.out.free 0 (by simp)
  have g1:=Y4.out.free 1 (by simp)
  have g2:=Y4.out.free 2 (by simp)
  have g3:=Y4.out.free 3 (by simp)
  have yl:=Y4.out.lt
  obtain⟨z0,z1,z2,z3⟩:=Box.c4 Z4.out
  have zl:=Z4.out.lt
  go_wp2_with fail
  refine bodyPost_ret (v:=V) (by rw[hV.out];simp[results,Tryz.results40,go_sem, *]) rfl ?_
  exact⟨_,congrArg Ending.returned hV.out,HCs.out,((((B4.out.setCell (p:=⟨w.heap.size+1,0,none⟩) (by simp) _).setCell (p:=⟨w.heap.size+1,1,none⟩) (by simp) _).setCell (p:=⟨w.heap.size+1,2,none⟩) (by simp) _).setCell (p:=⟨w.heap.size+1,3,none⟩) (by simp) _)⟩
theorem b8G (ok:Nat->Prop)(n m:Int)(a:Co)(v:Value)(w:World)(hk:cst a=false)(h6:¬ a.op=6)(hs:CSP ok w ⟨7,n,m,[a]⟩ v):Calls Tryz.prog 40 #[coV ⟨7,n,m,[a]⟩ v] w (a0H ok w ⟨7,n,m,[a]⟩):=a7c ok 7 false false n m a v w (by simp) hk (by simpa using h6) hs
theorem b7s (ok:Nat->Prop)(n m:Int)(a:Co)(v:Value)(w:World)(hk:cst a=false)(h6:¬ a.op=6)(hs:CSP ok w ⟨13,n,m,[a]⟩ v):Calls Tryz.prog 40 #[coV ⟨13,n,m,[a]⟩ v] w (a0H ok w ⟨13,n,m,[a]⟩):=a7c ok 13 false false n m a v w (by simp) hk (by simpa using h6) hs
theorem b5j (ok:Nat->Prop)(n m:Int)(a:Co)(v:Value)(w:World)(hk:cst a=true)(h6:¬ a.op=6)(hs:CSP ok w ⟨30,n,m,[a]⟩ v):Calls Tryz.prog 40 #[coV ⟨30,n,m,[a]⟩ v] w (a0H ok w ⟨30,n,m,[a]⟩):=a7c ok 30 true false n m a v w (by simp) hk (by simpa using h6) hs
theorem b5k (ok:Nat->Prop)(n m:Int)(a:Co)(v:Value)(w:World)(hk:cst a=false)(h6:a.op=6)(hs:CSP ok w ⟨30,n,m,[a]⟩ v):Calls Tryz.prog 40 #[coV ⟨30,n,m,[a]⟩ v] w (a0H ok w ⟨30,n,m,[a]⟩):=a7c ok 30 false true n m a v w (by simp) hk (by simpa using h6) hs
theorem b5l (ok:Nat->Prop)(n m:Int)(a:Co)(v:Value)(w:World)(hk:cst a=false)(h6:¬ a.op=6)(hs:CSP ok w ⟨30,n,m,[a]⟩ v):Calls Tryz.prog 40 #[coV ⟨30,n,m,[a]⟩ v] w (a0H ok w ⟨30,n,m,[a]⟩):=a7c ok 30 false false n m a v w (by simp) hk (by simpa using h6) hs
theorem b5g (ok:Nat->Prop)(n m:Int)(a:Co)(v:Value)(w:World)(hk:cst a=true)(h6:¬ a.op=6)(hs:CSP ok w ⟨31,n,m,[a]⟩ v):Calls Tryz.prog 40 #[coV ⟨31,n,m,[a]⟩ v] w (a0H ok w ⟨31,n,m,[a]⟩):=a7c ok 31 true false n m a v w (by simp) hk (by simpa using h6) hs
theorem b5h (ok:Nat->Prop)(n m:Int)(a:Co)(v:Value)(w:World)(hk:cst a=false)(h6:a.op=6)(hs:CSP ok w ⟨31,n,m,[a]⟩ v):Calls Tryz.prog 40 #[coV ⟨31,n,m,[a]⟩ v] w (a0H ok w ⟨31,n,m,[a]⟩):=a7c ok 31 false true n m a v w (by simp) hk (by simpa using h6) hs
theorem b5i (ok:Nat->Prop)(n m:Int)(a:Co)(v:Value)(w:World)(hk:cst a=false)(h6:¬ a.op=6)(hs:CSP ok w ⟨31,n,m,[a]⟩ v):Calls Tryz.prog 40 #[coV ⟨31,n,m,[a]⟩ v] w (a0H ok w ⟨31,n,m,[a]⟩):=a7c ok 31 false false n m a v w (by simp) hk (by simpa using h6) hs
set_option maxHeartbeats 16000000 in
set_option maxRecDepth 20000 in
theorem b5f (ok:Nat->Prop)(op:Int)(kc fc:Bool)(n m:Int)(a:Co)(v:Value)(w:World)(hc:(op=7/\kc=true/\fc=false)\/(op=7/\kc=false/\fc=true)\/(op=13/\kc=false/\fc=true))(hk:cst a=kc)(h6:(a.op==6)=fc)  (hs:CSP ok w ⟨op,n,m,[a]⟩ v):
 Calls Tryz.prog 40 #[coV ⟨op,n,m,[a]⟩ v] w (a0H ok w a):=by
 have HCs:=a0a hs
 obtain⟨pb,off,cap,rfl,k1,k2,lp,hx⟩:=hs.at (by simp)
 dsimp only at hx k1 HCs
 show Calls _ _ #[coV ⟨op,n,m,[a]⟩ (.slice (some ⟨pb,off,none⟩) 1 cap)] _ _
 have H6:=a0a h6
 clear h6
 obtain⟨qa,qn,qf,qc⟩:=hx 0 (by simp)
 simp only[List.getElem_cons_zero,Nat.zero_mul,Nat.add_zero] at qf qc
 have HQ:=a0a qc
 obtain⟨Y0,Y1,Y2⟩:=a0e w 30 30 (coL ⟨op,n,m,[a]⟩ (.slice (some ⟨pb,off,none⟩) 1 cap)) [.int .i64 0,.int .i64 0,.int .i64 0,.slice none 0 0]
 obtain⟨x0,x1,x2,x3⟩:=Box.c4 Y0
 have xl:=Y0.lt
 obtain⟨y0,y1,y2,y3⟩:=Box.c4 Y1
 have g0:=Y1.free 0 (by simp)
 have g1:=Y1.free 1 (by simp)
 have g2:=Y1.free 2 (by simp)
 have g3:=Y1.free 3 (by simp)
 have yl:=Y1.lt
 have HY0:=a0a Y0
 have HY1:=a0a Y1
 have B0:=a0a Y2
 have HA2:Hid (∀ o o',Below w.heap.size w ((w.alloc o).alloc o')):=fun o o'=>((Below.refl _ _).alloc (Nat.le_refl _) _).alloc (by simp) _
 obtain⟨q0,q1,q2,q3⟩:=qf.keep (w':=((w.alloc (.cells (coL ⟨op,n,m,[a]⟩ (.slice (some ⟨pb,off,none⟩) 1 cap)).toArray 30)).alloc (.cells [.int .i64 0,.int .i64 0,.int .i64 0,.slice none 0 0].toArray 30))) (fun j=>Y2.cell (p:=⟨pb,j,none⟩) lp)
 have lpw:=Nat.lt_of_lt_of_le lp Y2.size
 have HK:=a0a (fun W=>a0N a qa a.parts.length qn W)
 rw[hk] at HK
 have HZ0:=a0a (Box.new ((w.alloc (.cells (coL ⟨op,n,m,[a]⟩ (.slice (some ⟨pb,off,none⟩) 1 cap)).toArray 30)).alloc (.cells [.int .i64 0,.int .i64 0,.int .i64 0,.slice none 0 0].toArray 30)) (coL a (.slice qa a.parts.length qn)) 30)
 have HZ:Hid (Box (((w.alloc (.cells (coL ⟨op,n,m,[a]⟩ (.slice (some ⟨pb,off,none⟩) 1 cap)).toArray 30)).alloc (.cells [.int .i64 0,.int .i64 0,.int .i64 0,.slice none 0 0].toArray 30)).alloc (.cells (coL a (.slice qa a.parts.length qn)).toArray 30)) (w.heap.size+1+1) (coL a (.slice qa a.parts.length qn))):=a0a (by simpa using HZ0.out)
 have BL:=a0a ((Below.refl ((w.alloc (.cells (coL ⟨op,n,m,[a]⟩ (.slice (some ⟨pb,off,none⟩) 1 cap)).toArray 30)).alloc (.cells [.int .i64 0,.int .i64 0,.int .i64 0,.slice none 0 0].toArray 30)).heap.size _).alloc (Nat.le_refl _) (.cells (coL a (.slice qa a.parts.length qn)).toArray 30))
 have B3:=a0a (a0b Y2 BL.out Y2.size)
 have X3:=a0a (Y0.next BL.out)
 have Y3:=a0a (Y1.next BL.out)
 clear hs hx qf qc Y0 Y1 Y2 HZ0 hk
 rcases hc with ⟨rfl,rfl,rfl⟩ | ⟨rfl,rfl,rfl⟩ | ⟨rfl,rfl,rfl⟩
 all_goals as_aux_lemma=>
  go_enter Tryz.func40,Tryz.ntmps40
  go_wp2_with fail
  refine Calls.mono (HK.out _) ?_
  rintro e w2 ⟨rfl,b2⟩
  have B4:=kb B3 b2
  have X4:=a0a (X3.out.next b2)
  have Y4:=a0a (Y3.out.next b2)
  have Z4:=a0a (HZ.out.next b2)
  clear x0 x1 x2 x3 xl
  clear y0 y1 y2 y3 g0 g1 g2 g3 yl
  clear q0 q1 q2 q3 b2 HK HZ BL B3 X3 Y3 HY0 HY1 B0 lpw
  have n6:=H6.out
  obtain⟨x0,x1,x2,x3⟩:=Box.c4 X4.out
  have xl:=X4.out.lt
  obtain⟨y0,y1,y2,y3⟩:=Box.c4 Y4.out
  have g0:=Y4.out.free 0 (by simp)
  have g1:=Y4.out.free 1 (by simp)
  have g2:=Y4.out.free 2 (by simp)
  have g3:=Y4.out.free 3 (by simp)
  have yl:=Y4.out.lt
  obtain⟨z0,z1,z2,z3⟩:=Box.c4 Z4.out
  have zl:=Z4.out.lt
  go_wp2_with fail
  refine bodyPost_ret (v:=coV a (.slice qa a.parts.length qn)) (by simp[results,Tryz.results40,go_sem, *]) rfl ?_
  exact⟨_,rfl,HQ.out,((((B4.out.setCell (p:=⟨w.heap.size+1,0,none⟩) (by simp) _).setCell (p:=⟨w.heap.size+1,1,none⟩) (by simp) _).setCell (p:=⟨w.heap.size+1,2,none⟩) (by simp) _).setCell (p:=⟨w.heap.size+1,3,none⟩) (by simp) _)⟩
theorem b8H (ok:Nat->Prop)(n m:Int)(a:Co)(v:Value)(w:World)(hk:cst a=true)(h6:¬ a.op=6)(hs:CSP ok w ⟨7,n,m,[a]⟩ v):Calls Tryz.prog 40 #[coV ⟨7,n,m,[a]⟩ v] w (a0H ok w a):=b5f ok 7 true false n m a v w (by simp) hk (by simpa using h6) hs
theorem b8I (ok:Nat->Prop)(n m:Int)(a:Co)(v:Value)(w:World)(hk:cst a=false)(h6:a.op=6)(hs:CSP ok w ⟨7,n,m,[a]⟩ v):Calls Tryz.prog 40 #[coV ⟨7,n,m,[a]⟩ v] w (a0H ok w a):=b5f ok 7 false true n m a v w (by simp) hk (by simpa using h6) hs
theorem b7u (ok:Nat->Prop)(n m:Int)(a:Co)(v:Value)(w:World)(hk:cst a=false)(h6:a.op=6)(hs:CSP ok w ⟨13,n,m,[a]⟩ v):Calls Tryz.prog 40 #[coV ⟨13,n,m,[a]⟩ v] w (a0H ok w a):=b5f ok 13 false true n m a v w (by simp) hk (by simpa using h6) hs
end Go.Proofs.YtkbmgloilckdhaaGreatDoor
