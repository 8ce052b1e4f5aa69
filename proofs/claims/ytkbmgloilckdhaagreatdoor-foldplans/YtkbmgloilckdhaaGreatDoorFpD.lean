import Derived.Test.YtkbmgloilckdhaaGreatDoorMpA
namespace Go.Proofs.YtkbmgloilckdhaaGreatDoor
open Go.RowKit
set_option maxHeartbeats 1000000 in
set_option maxRecDepth 20000 in
theorem a9d (ok:Nat->Prop)(n m:Int)(a y z:Co)(on:Bool)(v:Value)(w:World)(hs:CSP ok w ⟨28,n,m,[a,y,z]⟩ v):
 Calls Tryz.prog 69 #[coV ⟨28,n,m,[a,y,z]⟩ v,.bool false,.bool false,.bool on] w (a0H ok w ⟨28,n,m,[a,y,z]⟩):=by
 have HCs:=a0a hs
 obtain⟨pb,off,cap,rfl,k1,k2,lp,hx⟩:=hs.at (by simp)
 dsimp only at hx k1 HCs
 show Calls _ _ #[coV ⟨28,n,m,[a,y,z]⟩ (.slice (some ⟨pb,off,none⟩) 3 cap),_,_,_] _ _
 clear hs
 obtain⟨Y0,Y1,Y2⟩:=a0e w 30 30 (coL ⟨28,n,m,[a,y,z]⟩ (.slice (some ⟨pb,off,none⟩) 3 cap)) [.int .i64 0,.int .i64 0,.int .i64 0,.slice none 0 0]
 obtain⟨x0,x1,x2,x3⟩:=Box.c4 Y0
 have xl:=Y0.lt
 obtain⟨y0,y1,y2,y3⟩:=Box.c4 Y1
 have g0:=Y1.free 0 (by simp)
 have g1:=Y1.free 1 (by simp)
 have g2:=Y1.free 2 (by simp)
 have g3:=Y1.free 3 (by simp)
 have yl:=Y1.lt
 have HY0:=a0a Y0
 have HY1:=a0a Y1
 have B0:=a0a Y2
 have HA2:Hid (∀ o o',Below w.heap.size w ((w.alloc o).alloc o')):=fun o o'=>((Below.refl _ _).alloc (Nat.le_refl _) _).alloc (by simp) _
 obtain⟨qa,qn,qf,qc⟩:=hx 0 (by simp)
 obtain⟨q0,q1,q2,q3⟩:=qf.keep (w':=(w.alloc (.cells (coL ⟨28,n,m,[a,y,z]⟩ (.slice (some ⟨pb,off,none⟩) 3 cap)).toArray 30)).alloc (.cells [.int .i64 0,.int .i64 0,.int .i64 0,.slice none 0 0].toArray 30)) (fun j=>Y2.cell (p:=⟨pb,j,none⟩) lp)
 have Hq:=a0a qc
 clear qf qc
 simp only[List.getElem_cons_zero,Nat.zero_mul,Nat.add_zero] at q0 q1 q2 q3 Hq
 have lpw:=Nat.lt_of_lt_of_le lp Y2.size
 have lp1:pb<w.heap.size+1:=by omega
 have lp2:pb<w.heap.size+1+1:=by omega
 have lp3:pb<w.heap.size+1+1+1:=by omega
 clear Y0 Y1 Y2 hx Hq
 have HA3:Hid (∀ o o' o'',Below w.heap.size w (((w.alloc o).alloc o').alloc o'')):=fun o o' o''=>(((Below.refl _ _).alloc (Nat.le_refl _) _).alloc (by simp) _).alloc (by simp;omega) _
 go_enter Tryz.func69,Tryz.ntmps69
 go_wp2_with fail
 refine bodyPost_ret (v:=coV ⟨28,n,m,[a,y,z]⟩ (.slice (some ⟨pb,off,none⟩) 3 cap)) (by simp[results,Tryz.results69,go_sem, *]) rfl ?_
 exact⟨_,rfl,HCs.out,by first | exact HA3.out _ _ _ | exact(((((HA3.out _ _ _).setCell (p:=⟨w.heap.size+1,0,none⟩) (by simp) _).setCell (p:=⟨w.heap.size+1,1,none⟩) (by simp) _).setCell (p:=⟨w.heap.size+1,2,none⟩) (by simp) _).setCell (p:=⟨w.heap.size+1,3,none⟩) (by simp) _)⟩
set_option maxHeartbeats 1000000 in
set_option maxRecDepth 20000 in
theorem a9h (ok:Nat->Prop)(n m:Int)(a y:Co)(on:Bool)(v:Value)(w:World)(hs:CSP ok w ⟨25,n,m,[a,y]⟩ v):
 Calls Tryz.prog 69 #[coV ⟨25,n,m,[a,y]⟩ v,.bool false,.bool false,.bool on] w (a0H ok w ⟨25,n,m,[a,y]⟩):=by
 have HCs:=a0a hs
 obtain⟨pb,off,cap,rfl,k1,k2,lp,hx⟩:=hs.at (by simp)
 dsimp only at hx k1 HCs
 show Calls _ _ #[coV ⟨25,n,m,[a,y]⟩ (.slice (some ⟨pb,off,none⟩) 2 cap),_,_,_] _ _
 clear hs
 obtain⟨Y0,Y1,Y2⟩:=a0e w 30 30 (coL ⟨25,n,m,[a,y]⟩ (.slice (some ⟨pb,off,none⟩) 2 cap)) [.int .i64 0,.int .i64 0,.int .i64 0,.slice none 0 0]
 obtain⟨x0,x1,x2,x3⟩:=Box.c4 Y0
 have xl:=Y0.lt
 obtain⟨y0,y1,y2,y3⟩:=Box.c4 Y1
 have g0:=Y1.free 0 (by simp)
 have g1:=Y1.free 1 (by simp)
 have g2:=Y1.free 2 (by simp)
 have g3:=Y1.free 3 (by simp)
 have yl:=Y1.lt
 have HY0:=a0a Y0
 have HY1:=a0a Y1
 have B0:=a0a Y2
 have HA2:Hid (∀ o o',Below w.heap.size w ((w.alloc o).alloc o')):=fun o o'=>((Below.refl _ _).alloc (Nat.le_refl _) _).alloc (by simp) _
 obtain⟨qa,qn,qf,qc⟩:=hx 0 (by simp)
 obtain⟨q0,q1,q2,q3⟩:=qf.keep (w':=(w.alloc (.cells (coL ⟨25,n,m,[a,y]⟩ (.slice (some ⟨pb,off,none⟩) 2 cap)).toArray 30)).alloc (.cells [.int .i64 0,.int .i64 0,.int .i64 0,.slice none 0 0].toArray 30)) (fun j=>Y2.cell (p:=⟨pb,j,none⟩) lp)
 have Hq:=a0a qc
 clear qf qc
 simp only[List.getElem_cons_zero,Nat.zero_mul,Nat.add_zero] at q0 q1 q2 q3 Hq
 have lpw:=Nat.lt_of_lt_of_le lp Y2.size
 have lp1:pb<w.heap.size+1:=by omega
 have lp2:pb<w.heap.size+1+1:=by omega
 have lp3:pb<w.heap.size+1+1+1:=by omega
 clear Y0 Y1 Y2 hx Hq
 have HA3:Hid (∀ o o' o'',Below w.heap.size w (((w.alloc o).alloc o').alloc o'')):=fun o o' o''=>(((Below.refl _ _).alloc (Nat.le_refl _) _).alloc (by simp) _).alloc (by simp;omega) _
 go_enter Tryz.func69,Tryz.ntmps69
 go_wp2_with fail
 refine bodyPost_ret (v:=coV ⟨25,n,m,[a,y]⟩ (.slice (some ⟨pb,off,none⟩) 2 cap)) (by simp[results,Tryz.results69,go_sem, *]) rfl ?_
 exact⟨_,rfl,HCs.out,by first | exact HA3.out _ _ _ | exact(((((HA3.out _ _ _).setCell (p:=⟨w.heap.size+1,0,none⟩) (by simp) _).setCell (p:=⟨w.heap.size+1,1,none⟩) (by simp) _).setCell (p:=⟨w.heap.size+1,2,none⟩) (by simp) _).setCell (p:=⟨w.heap.size+1,3,none⟩) (by simp) _)⟩
set_option maxHeartbeats 1000000 in
set_option maxRecDepth 20000 in
theorem a9f (ok:Nat->Prop)(n m:Int)(a y:Co)(on:Bool)(v:Value)(w:World)(hs:CSP ok w ⟨26,n,m,[a,y]⟩ v):
 Calls Tryz.prog 69 #[coV ⟨26,n,m,[a,y]⟩ v,.bool false,.bool false,.bool on] w (a0H ok w ⟨26,n,m,[a,y]⟩):=by
 have HCs:=a0a hs
 obtain⟨pb,off,cap,rfl,k1,k2,lp,hx⟩:=hs.at (by simp)
 dsimp only at hx k1 HCs
 show Calls _ _ #[coV ⟨26,n,m,[a,y]⟩ (.slice (some ⟨pb,off,none⟩) 2 cap),_,_,_] _ _
 clear hs
 obtain⟨Y0,Y1,Y2⟩:=a0e w 30 30 (coL ⟨26,n,m,[a,y]⟩ (.slice (some ⟨pb,off,none⟩) 2 cap)) [.int .i64 0,.int .i64 0,.int .i64 0,.slice none 0 0]
 obtain⟨x0,x1,x2,x3⟩:=Box.c4 Y0
 have xl:=Y0.lt
 obtain⟨y0,y1,y2,y3⟩:=Box.c4 Y1
 have g0:=Y1.free 0 (by simp)
 have g1:=Y1.free 1 (by simp)
 have g2:=Y1.free 2 (by simp)
 have g3:=Y1.free 3 (by simp)
 have yl:=Y1.lt
 have HY0:=a0a Y0
 have HY1:=a0a Y1
 have B0:=a0a Y2
 have HA2:Hid (∀ o o',Below w.heap.size w ((w.alloc o).alloc o')):=fun o o'=>((Below.refl _ _).alloc (Nat.le_refl _) _).alloc (by simp) _
 obtain⟨qa,qn,qf,qc⟩:=hx 0 (by simp)
 obtain⟨q0,q1,q2,q3⟩:=qf.keep (w':=(w.alloc (.cells (coL ⟨26,n,m,[a,y]⟩ (.slice (some ⟨pb,off,none⟩) 2 cap)).toArray 30)).alloc (.cells [.int .i64 0,.int .i64 0,.int .i64 0,.slice none 0 0].toArray 30)) (fun j=>Y2.cell (p:=⟨pb,j,none⟩) lp)
 have Hq:=a0a qc
 clear qf qc
 simp only[List.getElem_cons_zero,Nat.zero_mul,Nat.add_zero] at q0 q1 q2 q3 Hq
 have lpw:=Nat.lt_of_lt_of_le lp Y2.size
 have lp1:pb<w.heap.size+1:=by omega
 have lp2:pb<w.heap.size+1+1:=by omega
 have lp3:pb<w.heap.size+1+1+1:=by omega
 clear Y0 Y1 Y2 hx Hq
 have HA3:Hid (∀ o o' o'',Below w.heap.size w (((w.alloc o).alloc o').alloc o'')):=fun o o' o''=>(((Below.refl _ _).alloc (Nat.le_refl _) _).alloc (by simp) _).alloc (by simp;omega) _
 go_enter Tryz.func69,Tryz.ntmps69
 go_wp2_with fail
 refine bodyPost_ret (v:=coV ⟨26,n,m,[a,y]⟩ (.slice (some ⟨pb,off,none⟩) 2 cap)) (by simp[results,Tryz.results69,go_sem, *]) rfl ?_
 exact⟨_,rfl,HCs.out,by first | exact HA3.out _ _ _ | exact(((((HA3.out _ _ _).setCell (p:=⟨w.heap.size+1,0,none⟩) (by simp) _).setCell (p:=⟨w.heap.size+1,1,none⟩) (by simp) _).setCell (p:=⟨w.heap.size+1,2,none⟩) (by simp) _).setCell (p:=⟨w.heap.size+1,3,none⟩) (by simp) _)⟩
set_option maxHeartbeats 1000000 in
set_option maxRecDepth 20000 in
theorem b5w (ok:Nat->Prop)(n m:Int)(a y z:Co)  (v:Value)(w:World)(hs:CSP ok w ⟨28,n,m,[a,y,z]⟩ v):
 Calls Tryz.prog 69 #[coV ⟨28,n,m,[a,y,z]⟩ v,.bool true,.bool false,.bool false] w (a0H ok w z):=by
 have HCs:=a0a hs
 obtain⟨pb,off,cap,rfl,k1,k2,lp,hx⟩:=hs.at (by simp)
 dsimp only at hx k1 HCs
 show Calls _ _ #[coV ⟨28,n,m,[a,y,z]⟩ (.slice (some ⟨pb,off,none⟩) 3 cap),_,_,_] _ _
 clear hs
 obtain⟨Y0,Y1,Y2⟩:=a0e w 30 30 (coL ⟨28,n,m,[a,y,z]⟩ (.slice (some ⟨pb,off,none⟩) 3 cap)) [.int .i64 0,.int .i64 0,.int .i64 0,.slice none 0 0]
 obtain⟨x0,x1,x2,x3⟩:=Box.c4 Y0
 have xl:=Y0.lt
 obtain⟨y0,y1,y2,y3⟩:=Box.c4 Y1
 have g0:=Y1.free 0 (by simp)
 have g1:=Y1.free 1 (by simp)
 have g2:=Y1.free 2 (by simp)
 have g3:=Y1.free 3 (by simp)
 have yl:=Y1.lt
 have HY0:=a0a Y0
 have HY1:=a0a Y1
 have B0:=a0a Y2
 have HA2:Hid (∀ o o',Below w.heap.size w ((w.alloc o).alloc o')):=fun o o'=>((Below.refl _ _).alloc (Nat.le_refl _) _).alloc (by simp) _
 obtain⟨qa,qn,qf,qc⟩:=hx 0 (by simp)
 obtain⟨q0,q1,q2,q3⟩:=qf.keep (w':=(w.alloc (.cells (coL ⟨28,n,m,[a,y,z]⟩ (.slice (some ⟨pb,off,none⟩) 3 cap)).toArray 30)).alloc (.cells [.int .i64 0,.int .i64 0,.int .i64 0,.slice none 0 0].toArray 30)) (fun j=>Y2.cell (p:=⟨pb,j,none⟩) lp)
 have Hq:=a0a qc
 clear qf qc
 simp only[List.getElem_cons_zero,Nat.zero_mul,Nat.add_zero] at q0 q1 q2 q3 Hq
 obtain⟨pa,pn,pf,pc⟩:=hx 2 (by simp)
 obtain⟨p0,p1,p2,p3⟩:=pf.keep (w':=(w.alloc (.cells (coL ⟨28,n,m,[a,y,z]⟩ (.slice (some ⟨pb,off,none⟩) 3 cap)).toArray 30)).alloc (.cells [.int .i64 0,.int .i64 0,.int .i64 0,.slice none 0 0].toArray 30)) (fun j=>Y2.cell (p:=⟨pb,j,none⟩) lp)
 have Hp:=a0a pc
 clear pf pc
 simp only[List.getElem_cons_succ,List.getElem_cons_zero,Nat.reduceMul] at p0 p1 p2 p3 Hp
 have lpw:=Nat.lt_of_lt_of_le lp Y2.size
 have lp1:pb<w.heap.size+1:=by omega
 have lp2:pb<w.heap.size+1+1:=by omega
 have lp3:pb<w.heap.size+1+1+1:=by omega
 clear Y0 Y1 Y2 hx HCs
 have HA3:Hid (∀ o o' o'',Below w.heap.size w (((w.alloc o).alloc o').alloc o'')):=fun o o' o''=>(((Below.refl _ _).alloc (Nat.le_refl _) _).alloc (by simp) _).alloc (by simp;omega) _
 go_enter Tryz.func69,Tryz.ntmps69
 go_wp2_with fail
 refine bodyPost_ret (v:=coV z (.slice pa z.parts.length pn)) (by simp[results,Tryz.results69,go_sem, *]) rfl ?_
 exact⟨_,rfl,Hp.out,by first | exact HA3.out _ _ _ | exact(((((HA3.out _ _ _).setCell (p:=⟨w.heap.size+1,0,none⟩) (by simp) _).setCell (p:=⟨w.heap.size+1,1,none⟩) (by simp) _).setCell (p:=⟨w.heap.size+1,2,none⟩) (by simp) _).setCell (p:=⟨w.heap.size+1,3,none⟩) (by simp) _)⟩
set_option maxHeartbeats 1000000 in
set_option maxRecDepth 20000 in
theorem b5v (ok:Nat->Prop)(n m:Int)(a y z:Co)  (v:Value)(w:World)(hs:CSP ok w ⟨28,n,m,[a,y,z]⟩ v):
 Calls Tryz.prog 69 #[coV ⟨28,n,m,[a,y,z]⟩ v,.bool true,.bool false,.bool true] w (a0H ok w y):=by
 have HCs:=a0a hs
 obtain⟨pb,off,cap,rfl,k1,k2,lp,hx⟩:=hs.at (by simp)
 dsimp only at hx k1 HCs
 show Calls _ _ #[coV ⟨28,n,m,[a,y,z]⟩ (.slice (some ⟨pb,off,none⟩) 3 cap),_,_,_] _ _
 clear hs
 obtain⟨Y0,Y1,Y2⟩:=a0e w 30 30 (coL ⟨28,n,m,[a,y,z]⟩ (.slice (some ⟨pb,off,none⟩) 3 cap)) [.int .i64 0,.int .i64 0,.int .i64 0,.slice none 0 0]
 obtain⟨x0,x1,x2,x3⟩:=Box.c4 Y0
 have xl:=Y0.lt
 obtain⟨y0,y1,y2,y3⟩:=Box.c4 Y1
 have g0:=Y1.free 0 (by simp)
 have g1:=Y1.free 1 (by simp)
 have g2:=Y1.free 2 (by simp)
 have g3:=Y1.free 3 (by simp)
 have yl:=Y1.lt
 have HY0:=a0a Y0
 have HY1:=a0a Y1
 have B0:=a0a Y2
 have HA2:Hid (∀ o o',Below w.heap.size w ((w.alloc o).alloc o')):=fun o o'=>((Below.refl _ _).alloc (Nat.le_refl _) _).alloc (by simp) _
 obtain⟨qa,qn,qf,qc⟩:=hx 0 (by simp)
 obtain⟨q0,q1,q2,q3⟩:=qf.keep (w':=(w.alloc (.cells (coL ⟨28,n,m,[a,y,z]⟩ (.slice (some ⟨pb,off,none⟩) 3 cap)).toArray 30)).alloc (.cells [.int .i64 0,.int .i64 0,.int .i64 0,.slice none 0 0].toArray 30)) (fun j=>Y2.cell (p:=⟨pb,j,none⟩) lp)
 have Hq:=a0a qc
 clear qf qc
 simp only[List.getElem_cons_zero,Nat.zero_mul,Nat.add_zero] at q0 q1 q2 q3 Hq
 obtain⟨pa,pn,pf,pc⟩:=hx 1 (by simp)
 obtain⟨p0,p1,p2,p3⟩:=pf.keep (w':=(w.alloc (.cells (coL ⟨28,n,m,[a,y,z]⟩ (.slice (some ⟨pb,off,none⟩) 3 cap)).toArray 30)).alloc (.cells [.int .i64 0,.int .i64 0,.int .i64 0,.slice none 0 0].toArray 30)) (fun j=>Y2.cell (p:=⟨pb,j,none⟩) lp)
 have Hp:=a0a pc
 clear pf pc
 simp only[List.getElem_cons_succ,List.getElem_cons_zero,Nat.one_mul] at p0 p1 p2 p3 Hp
 have lpw:=Nat.lt_of_lt_of_le lp Y2.size
 have lp1:pb<w.heap.size+1:=by omega
 have lp2:pb<w.heap.size+1+1:=by omega
 have lp3:pb<w.heap.size+1+1+1:=by omega
 clear Y0 Y1 Y2 hx HCs
 have HA3:Hid (∀ o o' o'',Below w.heap.size w (((w.alloc o).alloc o').alloc o'')):=fun o o' o''=>(((Below.refl _ _).alloc (Nat.le_refl _) _).alloc (by simp) _).alloc (by simp;omega) _
 go_enter Tryz.func69,Tryz.ntmps69
 go_wp2_with fail
 refine bodyPost_ret (v:=coV y (.slice pa y.parts.length pn)) (by simp[results,Tryz.results69,go_sem, *]) rfl ?_
 exact⟨_,rfl,Hp.out,by first | exact HA3.out _ _ _ | exact(((((HA3.out _ _ _).setCell (p:=⟨w.heap.size+1,0,none⟩) (by simp) _).setCell (p:=⟨w.heap.size+1,1,none⟩) (by simp) _).setCell (p:=⟨w.heap.size+1,2,none⟩) (by simp) _).setCell (p:=⟨w.heap.size+1,3,none⟩) (by simp) _)⟩
set_option maxHeartbeats 1000000 in
set_option maxRecDepth 20000 in
theorem b5A (ok:Nat->Prop)(n m:Int)(a y:Co)  (v:Value)(w:World)(hs:CSP ok w ⟨25,n,m,[a,y]⟩ v):
 Calls Tryz.prog 69 #[coV ⟨25,n,m,[a,y]⟩ v,.bool true,.bool false,.bool false] w (a0H ok w a):=by
 have HCs:=a0a hs
 obtain⟨pb,off,cap,rfl,k1,k2,lp,hx⟩:=hs.at (by simp)
 dsimp only at hx k1 HCs
 show Calls _ _ #[coV ⟨25,n,m,[a,y]⟩ (.slice (some ⟨pb,off,none⟩) 2 cap),_,_,_] _ _
 clear hs
 obtain⟨Y0,Y1,Y2⟩:=a0e w 30 30 (coL ⟨25,n,m,[a,y]⟩ (.slice (some ⟨pb,off,none⟩) 2 cap)) [.int .i64 0,.int .i64 0,.int .i64 0,.slice none 0 0]
 obtain⟨x0,x1,x2,x3⟩:=Box.c4 Y0
 have xl:=Y0.lt
 obtain⟨y0,y1,y2,y3⟩:=Box.c4 Y1
 have g0:=Y1.free 0 (by simp)
 have g1:=Y1.free 1 (by simp)
 have g2:=Y1.free 2 (by simp)
 have g3:=Y1.free 3 (by simp)
 have yl:=Y1.lt
 have HY0:=a0a Y0
 have HY1:=a0a Y1
 have B0:=a0a Y2
 have HA2:Hid (∀ o o',Below w.heap.size w ((w.alloc o).alloc o')):=fun o o'=>((Below.refl _ _).alloc (Nat.le_refl _) _).alloc (by simp) _
 obtain⟨qa,qn,qf,qc⟩:=hx 0 (by simp)
 obtain⟨q0,q1,q2,q3⟩:=qf.keep (w':=(w.alloc (.cells (coL ⟨25,n,m,[a,y]⟩ (.slice (some ⟨pb,off,none⟩) 2 cap)).toArray 30)).alloc (.cells [.int .i64 0,.int .i64 0,.int .i64 0,.slice none 0 0].toArray 30)) (fun j=>Y2.cell (p:=⟨pb,j,none⟩) lp)
 have Hq:=a0a qc
 clear qf qc
 simp only[List.getElem_cons_zero,Nat.zero_mul,Nat.add_zero] at q0 q1 q2 q3 Hq
 have lpw:=Nat.lt_of_lt_of_le lp Y2.size
 have lp1:pb<w.heap.size+1:=by omega
 have lp2:pb<w.heap.size+1+1:=by omega
 have lp3:pb<w.heap.size+1+1+1:=by omega
 clear Y0 Y1 Y2 hx HCs
 have HA3:Hid (∀ o o' o'',Below w.heap.size w (((w.alloc o).alloc o').alloc o'')):=fun o o' o''=>(((Below.refl _ _).alloc (Nat.le_refl _) _).alloc (by simp) _).alloc (by simp;omega) _
 go_enter Tryz.func69,Tryz.ntmps69
 go_wp2_with fail
 refine bodyPost_ret (v:=coV a (.slice qa a.parts.length qn)) (by simp[results,Tryz.results69,go_sem, *]) rfl ?_
 exact⟨_,rfl,Hq.out,by first | exact HA3.out _ _ _ | exact(((((HA3.out _ _ _).setCell (p:=⟨w.heap.size+1,0,none⟩) (by simp) _).setCell (p:=⟨w.heap.size+1,1,none⟩) (by simp) _).setCell (p:=⟨w.heap.size+1,2,none⟩) (by simp) _).setCell (p:=⟨w.heap.size+1,3,none⟩) (by simp) _)⟩
set_option maxHeartbeats 1000000 in
set_option maxRecDepth 20000 in
theorem b5z (ok:Nat->Prop)(n m:Int)(a y:Co)  (v:Value)(w:World)(hs:CSP ok w ⟨25,n,m,[a,y]⟩ v):
 Calls Tryz.prog 69 #[coV ⟨25,n,m,[a,y]⟩ v,.bool true,.bool false,.bool true] w (a0H ok w y):=by
 have HCs:=a0a hs
 obtain⟨pb,off,cap,rfl,k1,k2,lp,hx⟩:=hs.at (by simp)
 dsimp only at hx k1 HCs
 show Calls _ _ #[coV ⟨25,n,m,[a,y]⟩ (.slice (some ⟨pb,off,none⟩) 2 cap),_,_,_] _ _
 clear hs
 obtain⟨Y0,Y1,Y2⟩:=a0e w 30 30 (coL ⟨25,n,m,[a,y]⟩ (.slice (some ⟨pb,off,none⟩) 2 cap)) [.int .i64 0,.int .i64 0,.int .i64 0,.slice none 0 0]
 obtain⟨x0,x1,x2,x3⟩:=Box.c4 Y0
 have xl:=Y0.lt
 obtain⟨y0,y1,y2,y3⟩:=Box.c4 Y1
 have g0:=Y1.free 0 (by simp)
 have g1:=Y1.free 1 (by simp)
 have g2:=Y1.free 2 (by simp)
 have g3:=Y1.free 3 (by simp)
 have yl:=Y1.lt
 have HY0:=a0a Y0
 have HY1:=a0a Y1
 have B0:=a0a Y2
 have HA2:Hid (∀ o o',Below w.heap.size w ((w.alloc o).alloc o')):=fun o o'=>((Below.refl _ _).alloc (Nat.le_refl _) _).alloc (by simp) _
 obtain⟨qa,qn,qf,qc⟩:=hx 0 (by simp)
 obtain⟨q0,q1,q2,q3⟩:=qf.keep (w':=(w.alloc (.cells (coL ⟨25,n,m,[a,y]⟩ (.slice (some ⟨pb,off,none⟩) 2 cap)).toArray 30)).alloc (.cells [.int .i64 0,.int .i64 0,.int .i64 0,.slice none 0 0].toArray 30)) (fun j=>Y2.cell (p:=⟨pb,j,none⟩) lp)
 have Hq:=a0a qc
 clear qf qc
 simp only[List.getElem_cons_zero,Nat.zero_mul,Nat.add_zero] at q0 q1 q2 q3 Hq
 obtain⟨pa,pn,pf,pc⟩:=hx 1 (by simp)
 obtain⟨p0,p1,p2,p3⟩:=pf.keep (w':=(w.alloc (.cells (coL ⟨25,n,m,[a,y]⟩ (.slice (some ⟨pb,off,none⟩) 2 cap)).toArray 30)).alloc (.cells [.int .i64 0,.int .i64 0,.int .i64 0,.slice none 0 0].toArray 30)) (fun j=>Y2.cell (p:=⟨pb,j,none⟩) lp)
 have Hp:=a0a pc
 clear pf pc
 simp only[List.getElem_cons_succ,List.getElem_cons_zero,Nat.one_mul] at p0 p1 p2 p3 Hp
 have lpw:=Nat.lt_of_lt_of_le lp Y2.size
 have lp1:pb<w.heap.size+1:=by omega
 have lp2:pb<w.heap.size+1+1:=by omega
 have lp3:pb<w.heap.size+1+1+1:=by omega
 clear Y0 Y1 Y2 hx HCs
 have HA3:Hid (∀ o o' o'',Below w.heap.size w (((w.alloc o).alloc o').alloc o'')):=fun o o' o''=>(((Below.refl _ _).alloc (Nat.le_refl _) _).alloc (by simp) _).alloc (by simp;omega) _
 go_enter Tryz.func69,Tryz.ntmps69
 go_wp2_with fail
 refine bodyPost_ret (v:=coV y (.slice pa y.parts.length pn)) (by simp[results,Tryz.results69,go_sem, *]) rfl ?_
 exact⟨_,rfl,Hp.out,by first | exact HA3.out _ _ _ | exact(((((HA3.out _ _ _).setCell (p:=⟨w.heap.size+1,0,none⟩) (by simp) _).setCell (p:=⟨w.heap.size+1,1,none⟩) (by simp) _).setCell (p:=⟨w.heap.size+1,2,none⟩) (by simp) _).setCell (p:=⟨w.heap.size+1,3,none⟩) (by simp) _)⟩
set_option maxHeartbeats 1000000 in
set_option maxRecDepth 20000 in
theorem b5y (ok:Nat->Prop)(n m:Int)(a y:Co)  (v:Value)(w:World)(hs:CSP ok w ⟨26,n,m,[a,y]⟩ v):
 Calls Tryz.prog 69 #[coV ⟨26,n,m,[a,y]⟩ v,.bool true,.bool false,.bool false] w (a0H ok w y):=by
 have HCs:=a0a hs
 obtain⟨pb,off,cap,rfl,k1,k2,lp,hx⟩:=hs.at (by simp)
 dsimp only at hx k1 HCs
 show Calls _ _ #[coV ⟨26,n,m,[a,y]⟩ (.slice (some ⟨pb,off,none⟩) 2 cap),_,_,_] _ _
 clear hs
 obtain⟨Y0,Y1,Y2⟩:=a0e w 30 30 (coL ⟨26,n,m,[a,y]⟩ (.slice (some ⟨pb,off,none⟩) 2 cap)) [.int .i64 0,.int .i64 0,.int .i64 0,.slice none 0 0]
 obtain⟨x0,x1,x2,x3⟩:=Box.c4 Y0
 have xl:=Y0.lt
 obtain⟨y0,y1,y2,y3⟩:=Box.c4 Y1
 have g0:=Y1.free 0 (by simp)
 have g1:=Y1.free 1 (by simp)
 have g2:=Y1.free 2 (by simp)
 have g3:=Y1.free 3 (by simp)
 have yl:=Y1.lt
 have HY0:=a0a Y0
 have HY1:=a0a Y1
 have B0:=a0a Y2
 have HA2:Hid (∀ o o',Below w.heap.size w ((w.alloc o).alloc o')):=fun o o'=>((Below.refl _ _).alloc (Nat.le_refl _) _).alloc (by simp) _
 obtain⟨qa,qn,qf,qc⟩:=hx 0 (by simp)
 obtain⟨q0,q1,q2,q3⟩:=qf.keep (w':=(w.alloc (.cells (coL ⟨26,n,m,[a,y]⟩ (.slice (some ⟨pb,off,none⟩) 2 cap)).toArray 30)).alloc (.cells [.int .i64 0,.int .i64 0,.int .i64 0,.slice none 0 0].toArray 30)) (fun j=>Y2.cell (p:=⟨pb,j,none⟩) lp)
 have Hq:=a0a qc
 clear qf qc
 simp only[List.getElem_cons_zero,Nat.zero_mul,Nat.add_zero] at q0 q1 q2 q3 Hq
 obtain⟨pa,pn,pf,pc⟩:=hx 1 (by simp)
 obtain⟨p0,p1,p2,p3⟩:=pf.keep (w':=(w.alloc (.cells (coL ⟨26,n,m,[a,y]⟩ (.slice (some ⟨pb,off,none⟩) 2 cap)).toArray 30)).alloc (.cells [.int .i64 0,.int .i64 0,.int .i64 0,.slice none 0 0].toArray 30)) (fun j=>Y2.cell (p:=⟨pb,j,none⟩) lp)
 have Hp:=a0a pc
 clear pf pc
 simp only[List.getElem_cons_succ,List.getElem_cons_zero,Nat.one_mul] at p0 p1 p2 p3 Hp
 have lpw:=Nat.lt_of_lt_of_le lp Y2.size
 have lp1:pb<w.heap.size+1:=by omega
 have lp2:pb<w.heap.size+1+1:=by omega
 have lp3:pb<w.heap.size+1+1+1:=by omega
 clear Y0 Y1 Y2 hx HCs
 have HA3:Hid (∀ o o' o'',Below w.heap.size w (((w.alloc o).alloc o').alloc o'')):=fun o o' o''=>(((Below.refl _ _).alloc (Nat.le_refl _) _).alloc (by simp) _).alloc (by simp;omega) _
 go_enter Tryz.func69,Tryz.ntmps69
 go_wp2_with fail
 refine bodyPost_ret (v:=coV y (.slice pa y.parts.length pn)) (by simp[results,Tryz.results69,go_sem, *]) rfl ?_
 exact⟨_,rfl,Hp.out,by first | exact HA3.out _ _ _ | exact(((((HA3.out _ _ _).setCell (p:=⟨w.heap.size+1,0,none⟩) (by simp) _).setCell (p:=⟨w.heap.size+1,1,none⟩) (by simp) _).setCell (p:=⟨w.heap.size+1,2,none⟩) (by simp) _).setCell (p:=⟨w.heap.size+1,3,none⟩) (by simp) _)⟩
set_option maxHeartbeats 1000000 in
set_option maxRecDepth 20000 in
theorem b5x (ok:Nat->Prop)(n m:Int)(a y:Co)  (v:Value)(w:World)(hs:CSP ok w ⟨26,n,m,[a,y]⟩ v):
 Calls Tryz.prog 69 #[coV ⟨26,n,m,[a,y]⟩ v,.bool true,.bool false,.bool true] w (a0H ok w a):=by
 have HCs:=a0a hs
 obtain⟨pb,off,cap,rfl,k1,k2,lp,hx⟩:=hs.at (by simp)
 dsimp only at hx k1 HCs
 show Calls _ _ #[coV ⟨26,n,m,[a,y]⟩ (.slice (some ⟨pb,off,none⟩) 2 cap),_,_,_] _ _
 clear hs
 obtain⟨Y0,Y1,Y2⟩:=a0e w 30 30 (coL ⟨26,n,m,[a,y]⟩ (.slice (some ⟨pb,off,none⟩) 2 cap)) [.int .i64 0,.int .i64 0,.int .i64 0,.slice none 0 0]
 obtain⟨x0,x1,x2,x3⟩:=Box.c4 Y0
 have xl:=Y0.lt
 obtain⟨y0,y1,y2,y3⟩:=Box.c4 Y1
 have g0:=Y1.free 0 (by simp)
 have g1:=Y1.free 1 (by simp)
 have g2:=Y1.free 2 (by simp)
 have g3:=Y1.free 3 (by simp)
 have yl:=Y1.lt
 have HY0:=a0a Y0
 have HY1:=a0a Y1
 have B0:=a0a Y2
 have HA2:Hid (∀ o o',Below w.heap.size w ((w.alloc o).alloc o')):=fun o o'=>((Below.refl _ _).alloc (Nat.le_refl _) _).alloc (by simp) _
 obtain⟨qa,qn,qf,qc⟩:=hx 0 (by simp)
 obtain⟨q0,q1,q2,q3⟩:=qf.keep (w':=(w.alloc (.cells (coL ⟨26,n,m,[a,y]⟩ (.slice (some ⟨pb,off,none⟩) 2 cap)).toArray 30)).alloc (.cells [.int .i64 0,.int .i64 0,.int .i64 0,.slice none 0 0].toArray 30)) (fun j=>Y2.cell (p:=⟨pb,j,none⟩) lp)
 have Hq:=a0a qc
 clear qf qc
 simp only[List.getElem_cons_zero,Nat.zero_mul,Nat.add_zero] at q0 q1 q2 q3 Hq
 have lpw:=Nat.lt_of_lt_of_le lp Y2.size
 have lp1:pb<w.heap.size+1:=by omega
 have lp2:pb<w.heap.size+1+1:=by omega
 have lp3:pb<w.heap.size+1+1+1:=by omega
 clear Y0 Y1 Y2 hx HCs
 have HA3:Hid (∀ o o' o'',Below w.heap.size w (((w.alloc o).alloc o').alloc o'')):=fun o o' o''=>(((Below.refl _ _).alloc (Nat.le_refl _) _).alloc (by simp) _).alloc (by simp;omega) _
 go_enter Tryz.func69,Tryz.ntmps69
 go_wp2_with fail
 refine bodyPost_ret (v:=coV a (.slice qa a.parts.length qn)) (by simp[results,Tryz.results69,go_sem, *]) rfl ?_
 exact⟨_,rfl,Hq.out,by first | exact HA3.out _ _ _ | exact(((((HA3.out _ _ _).setCell (p:=⟨w.heap.size+1,0,none⟩) (by simp) _).setCell (p:=⟨w.heap.size+1,1,none⟩) (by simp) _).setCell (p:=⟨w.heap.size+1,2,none⟩) (by simp) _).setCell (p:=⟨w.heap.size+1,3,none⟩) (by simp) _)⟩
set_option maxHeartbeats 1000000 in
set_option maxRecDepth 20000 in
theorem a9i (ok:Nat->Prop)(n m:Int)(a y:Co)(on:Bool)(hfit:a6R ⟨6,a.n,2,[]⟩)(v:Value)(w:World)(hs:CSP ok w ⟨25,n,m,[a,y]⟩ v):
 Calls Tryz.prog 69 #[coV ⟨25,n,m,[a,y]⟩ v,.bool false,.bool true,.bool on] w (a0H ok w ⟨6,a.n,2,[]⟩):=by
 have HCs:=a0a hs
 obtain⟨pb,off,cap,rfl,k1,k2,lp,hx⟩:=hs.at (by simp)
 dsimp only at hx k1 HCs
 show Calls _ _ #[coV ⟨25,n,m,[a,y]⟩ (.slice (some ⟨pb,off,none⟩) 2 cap),_,_,_] _ _
 clear hs
 obtain⟨Y0,Y1,Y2⟩:=a0e w 30 30 (coL ⟨25,n,m,[a,y]⟩ (.slice (some ⟨pb,off,none⟩) 2 cap)) [.int .i64 0,.int .i64 0,.int .i64 0,.slice none 0 0]
 obtain⟨x0,x1,x2,x3⟩:=Box.c4 Y0
 have xl:=Y0.lt
 obtain⟨y0,y1,y2,y3⟩:=Box.c4 Y1
 have g0:=Y1.free 0 (by simp)
 have g1:=Y1.free 1 (by simp)
 have g2:=Y1.free 2 (by simp)
 have g3:=Y1.free 3 (by simp)
 have yl:=Y1.lt
 have HY0:=a0a Y0
 have HY1:=a0a Y1
 have B0:=a0a Y2
 have HA2:Hid (∀ o o',Below w.heap.size w ((w.alloc o).alloc o')):=fun o o'=>((Below.refl _ _).alloc (Nat.le_refl _) _).alloc (by simp) _
 obtain⟨qa,qn,qf,qc⟩:=hx 0 (by simp)
 obtain⟨q0,q1,q2,q3⟩:=qf.keep (w':=(w.alloc (.cells (coL ⟨25,n,m,[a,y]⟩ (.slice (some ⟨pb,off,none⟩) 2 cap)).toArray 30)).alloc (.cells [.int .i64 0,.int .i64 0,.int .i64 0,.slice none 0 0].toArray 30)) (fun j=>Y2.cell (p:=⟨pb,j,none⟩) lp)
 have Hq:=a0a qc
 clear qf qc
 simp only[List.getElem_cons_zero,Nat.zero_mul,Nat.add_zero] at q0 q1 q2 q3 Hq
 have lpw:=Nat.lt_of_lt_of_le lp Y2.size
 have lp1:pb<w.heap.size+1:=by omega
 have lp2:pb<w.heap.size+1+1:=by omega
 have lp3:pb<w.heap.size+1+1+1:=by omega
 clear Y0 Y1 Y2 hx Hq HCs
 have HA3:Hid (∀ o o' o'',Below w.heap.size w (((w.alloc o).alloc o').alloc o'')):=fun o o' o''=>(((Below.refl _ _).alloc (Nat.le_refl _) _).alloc (by simp) _).alloc (by simp;omega) _
 have HFa:=a0a (fun W=>a4f a.n 25 W)
 rw[show a2m 25=2 from rfl] at HFa
 have HYA:=a0a (fun o=>HY1.out.next ((Below.refl _ _).alloc (Nat.le_refl _) o))
 go_enter Tryz.func69,Tryz.ntmps69
 go_wp2_with fail
 refine Calls.mono (HFa.out _) ?_
 rintro e w2 ⟨rfl,b2⟩
 have B2:=a0a (a0b (HA3.out _ _ _) b2 (HA3.out _ _ _).size)
 have Y1:=(HYA.out _).next b2
 clear x0 x1 x2 x3 xl
 clear y0 y1 y2 y3 g0 g1 g2 g3 yl
 clear q0 q1 q2 q3 b2 HFa
 obtain⟨y0,y1,y2,y3⟩:=Box.c4 Y1
 have g0:=Y1.free 0 (by simp)
 have g1:=Y1.free 1 (by simp)
 have g2:=Y1.free 2 (by simp)
 have g3:=Y1.free 3 (by simp)
 have yl:=Y1.lt
 clear Y1
 go_wp2_with fail
 refine bodyPost_ret (v:=coV ⟨6,a.n,2,[]⟩ (.slice none 0 0)) (by simp[results,Tryz.results69,go_sem, *]) rfl ?_
 exact⟨_,rfl,CSP.leaf w hfit,((((B2.out.setCell (p:=⟨w.heap.size+1,0,none⟩) (by simp) _).setCell (p:=⟨w.heap.size+1,1,none⟩) (by simp) _).setCell (p:=⟨w.heap.size+1,2,none⟩) (by simp) _).setCell (p:=⟨w.heap.size+1,3,none⟩) (by simp) _)⟩
set_option maxHeartbeats 1000000 in
set_option maxRecDepth 20000 in
theorem a9g (ok:Nat->Prop)(n m:Int)(a y:Co)(on:Bool)(hfit:a6R ⟨6,a.n,2,[]⟩)(v:Value)(w:World)(hs:CSP ok w ⟨26,n,m,[a,y]⟩ v):
 Calls Tryz.prog 69 #[coV ⟨26,n,m,[a,y]⟩ v,.bool false,.bool true,.bool on] w (a0H ok w ⟨6,a.n,2,[]⟩):=by
 have HCs:=a0a hs
 obtain⟨pb,off,cap,rfl,k1,k2,lp,hx⟩:=hs.at (by simp)
 dsimp only at hx k1 HCs
 show Calls _ _ #[coV ⟨26,n,m,[a,y]⟩ (.slice (some ⟨pb,off,none⟩) 2 cap),_,_,_] _ _
 clear hs
 obtain⟨Y0,Y1,Y2⟩:=a0e w 30 30 (coL ⟨26,n,m,[a,y]⟩ (.slice (some ⟨pb,off,none⟩) 2 cap)) [.int .i64 0,.int .i64 0,.int .i64 0,.slice none 0 0]
 obtain⟨x0,x1,x2,x3⟩:=Box.c4 Y0
 have xl:=Y0.lt
 obtain⟨y0,y1,y2,y3⟩:=Box.c4 Y1
 have g0:=Y1.free 0 (by simp)
 have g1:=Y1.free 1 (by simp)
 have g2:=Y1.free 2 (by simp)
 have g3:=Y1.free 3 (by simp)
 have yl:=Y1.lt
 have HY0:=a0a Y0
 have HY1:=a0a Y1
 have B0:=a0a Y2
 have HA2:Hid (∀ o o',Below w.heap.size w ((w.alloc o).alloc o')):=fun o o'=>((Below.refl _ _).alloc (Nat.le_refl _) _).alloc (by simp) _
 obtain⟨qa,qn,qf,qc⟩:=hx 0 (by simp)
 obtain⟨q0,q1,q2,q3⟩:=qf.keep (w':=(w.alloc (.cells (coL ⟨26,n,m,[a,y]⟩ (.slice (some ⟨pb,off,none⟩) 2 cap)).toArray 30)).alloc (.cells [.int .i64 0,.int .i64 0,.int .i64 0,.slice none 0 0].toArray 30)) (fun j=>Y2.cell (p:=⟨pb,j,none⟩) lp)
 have Hq:=a0a qc
 clear qf qc
 simp only[List.getElem_cons_zero,Nat.zero_mul,Nat.add_zero] at q0 q1 q2 q3 Hq
 have lpw:=Nat.lt_of_lt_of_le lp Y2.size
 have lp1:pb<w.heap.size+1:=by omega
 have lp2:pb<w.heap.size+1+1:=by omega
 have lp3:pb<w.heap.size+1+1+1:=by omega
 clear Y0 Y1 Y2 hx Hq HCs
 have HA3:Hid (∀ o o' o'',Below w.heap.size w (((w.alloc o).alloc o').alloc o'')):=fun o o' o''=>(((Below.refl _ _).alloc (Nat.le_refl _) _).alloc (by simp) _).alloc (by simp;omega) _
 have HFa:=a0a (fun W=>a4f a.n 26 W)
 rw[show a2m 26=2 from rfl] at HFa
 have HYA:=a0a (fun o=>HY1.out.next ((Below.refl _ _).alloc (Nat.le_refl _) o))
 go_enter Tryz.func69,Tryz.ntmps69
 go_wp2_with fail
 refine Calls.mono (HFa.out _) ?_
 rintro e w2 ⟨rfl,b2⟩
 have B2:=a0a (a0b (HA3.out _ _ _) b2 (HA3.out _ _ _).size)
 have Y1:=(HYA.out _).next b2
 clear x0 x1 x2 x3 xl
 clear y0 y1 y2 y3 g0 g1 g2 g3 yl
 clear q0 q1 q2 q3 b2 HFa
 obtain⟨y0,y1,y2,y3⟩:=Box.c4 Y1
 have g0:=Y1.free 0 (by simp)
 have g1:=Y1.free 1 (by simp)
 have g2:=Y1.free 2 (by simp)
 have g3:=Y1.free 3 (by simp)
 have yl:=Y1.lt
 clear Y1
 go_wp2_with fail
 refine bodyPost_ret (v:=coV ⟨6,a.n,2,[]⟩ (.slice none 0 0)) (by simp[results,Tryz.results69,go_sem, *]) rfl ?_
 exact⟨_,rfl,CSP.leaf w hfit,((((B2.out.setCell (p:=⟨w.heap.size+1,0,none⟩) (by simp) _).setCell (p:=⟨w.heap.size+1,1,none⟩) (by simp) _).setCell (p:=⟨w.heap.size+1,2,none⟩) (by simp) _).setCell (p:=⟨w.heap.size+1,3,none⟩) (by simp) _)⟩
set_option maxHeartbeats 1000000 in
set_option maxRecDepth 20000 in
theorem a9e (ok:Nat->Prop)(n m:Int)(a y z:Co)(on:Bool)(hny:a0q y<=8192)(hfit:a6R ⟨6,a.n,sM y,[]⟩)(v:Value)(w:World)(hs:CSP ok w ⟨28,n,m,[a,y,z]⟩ v):
 Calls Tryz.prog 69 #[coV ⟨28,n,m,[a,y,z]⟩ v,.bool false,.bool true,.bool on] w (a0H ok w ⟨6,a.n,sM y,[]⟩):=by
 have HCs:=a0a hs
 obtain⟨pb,off,cap,rfl,k1,k2,lp,hx⟩:=hs.at (by simp)
 dsimp only at hx k1 HCs
 show Calls _ _ #[coV ⟨28,n,m,[a,y,z]⟩ (.slice (some ⟨pb,off,none⟩) 3 cap),_,_,_] _ _
 clear hs
 obtain⟨Y0,Y1,Y2⟩:=a0e w 30 30 (coL ⟨28,n,m,[a,y,z]⟩ (.slice (some ⟨pb,off,none⟩) 3 cap)) [.int .i64 0,.int .i64 0,.int .i64 0,.slice none 0 0]
 obtain⟨x0,x1,x2,x3⟩:=Box.c4 Y0
 have xl:=Y0.lt
 obtain⟨y0,y1,y2,y3⟩:=Box.c4 Y1
 have g0:=Y1.free 0 (by simp)
 have g1:=Y1.free 1 (by simp)
 have g2:=Y1.free 2 (by simp)
 have g3:=Y1.free 3 (by simp)
 have yl:=Y1.lt
 have HY0:=a0a Y0
 have HY1:=a0a Y1
 have B0:=a0a Y2
 have HA2:Hid (∀ o o',Below w.heap.size w ((w.alloc o).alloc o')):=fun o o'=>((Below.refl _ _).alloc (Nat.le_refl _) _).alloc (by simp) _
 obtain⟨qa,qn,qf,qc⟩:=hx 0 (by simp)
 obtain⟨q0,q1,q2,q3⟩:=qf.keep (w':=(w.alloc (.cells (coL ⟨28,n,m,[a,y,z]⟩ (.slice (some ⟨pb,off,none⟩) 3 cap)).toArray 30)).alloc (.cells [.int .i64 0,.int .i64 0,.int .i64 0,.slice none 0 0].toArray 30)) (fun j=>Y2.cell (p:=⟨pb,j,none⟩) lp)
 have Hq:=a0a qc
 clear qf qc
 simp only[List.getElem_cons_zero,Nat.zero_mul,Nat.add_zero] at q0 q1 q2 q3 Hq
 have lpw:=Nat.lt_of_lt_of_le lp Y2.size
 obtain⟨pa,pn,pf,pc⟩:=hx 1 (by simp)
 obtain⟨p0,p1,p2,p3⟩:=pf.keep (w':=(w.alloc (.cells (coL ⟨28,n,m,[a,y,z]⟩ (.slice (some ⟨pb,off,none⟩) 3 cap)).toArray 30)).alloc (.cells [.int .i64 0,.int .i64 0,.int .i64 0,.slice none 0 0].toArray 30)) (fun j=>Y2.cell (p:=⟨pb,j,none⟩) lp)
 have Hp:=a0a pc
 clear pf pc
 simp only[List.getElem_cons_succ,List.getElem_cons_zero,Nat.one_mul] at p0 p1 p2 p3 Hp
 have HSo:=a0a (fun W (hW:Below w.heap.size w W)=>b0g y _ W (Hp.out.sits.next hW) hny)
 clear Y0 Y1 Y2 hx Hq HCs
 have HYA:=a0a (fun o=>HY1.out.next ((Below.refl _ _).alloc (Nat.le_refl _) o))
 have HA3:Hid (∀ o o' o'',Below w.heap.size w (((w.alloc o).alloc o').alloc o'')):=fun o o' o''=>(((Below.refl _ _).alloc (Nat.le_refl _) _).alloc (by simp) _).alloc (by simp;omega) _
 have HZ0:=a0a (Box.new ((w.alloc (.cells (coL ⟨28,n,m,[a,y,z]⟩ (.slice (some ⟨pb,off,none⟩) 3 cap)).toArray 30)).alloc (.cells [.int .i64 0,.int .i64 0,.int .i64 0,.slice none 0 0].toArray 30)) (coL a (.slice qa a.parts.length qn)) 30)
 have HZ:Hid (Box (((w.alloc (.cells (coL ⟨28,n,m,[a,y,z]⟩ (.slice (some ⟨pb,off,none⟩) 3 cap)).toArray 30)).alloc (.cells [.int .i64 0,.int .i64 0,.int .i64 0,.slice none 0 0].toArray 30)).alloc (.cells (coL a (.slice qa a.parts.length qn)).toArray 30)) (w.heap.size+1+1) (coL a (.slice qa a.parts.length qn))):=a0a (by simpa using HZ0.out)
 have BL:=a0a ((Below.refl ((w.alloc (.cells (coL ⟨28,n,m,[a,y,z]⟩ (.slice (some ⟨pb,off,none⟩) 3 cap)).toArray 30)).alloc (.cells [.int .i64 0,.int .i64 0,.int .i64 0,.slice none 0 0].toArray 30)).heap.size _).alloc (Nat.le_refl _) (.cells (coL a (.slice qa a.parts.length qn)).toArray 30))
 generalize sM y=sm at *
 go_enter Tryz.func69,Tryz.ntmps69
 go_wp2_with fail
 have X3:=HY0.out.next BL.out
 have Y3:=HY1.out.next BL.out
 have r0:=(BL.out.cell (p:=⟨pb,off+4,none⟩) lpw).trans p0
 have r1:=(BL.out.cell (p:=⟨pb,off+4+1,none⟩) lpw).trans p1
 have r2:=(BL.out.cell (p:=⟨pb,off+4+2,none⟩) lpw).trans p2
 have r3:=(BL.out.cell (p:=⟨pb,off+4+3,none⟩) lpw).trans p3
 have rl:=Nat.lt_of_lt_of_le lpw BL.out.size
 have HY3:=a0a Y3
 have c3:=X3.cell 3 _ rfl
 have cl:=X3.lt
 have a1:=HZ.out.cell 1 _ rfl
 have al:=HZ.out.lt
 have B3:=a0a (HA3.out (.cells (coL ⟨28,n,m,[a,y,z]⟩ (.slice (some ⟨pb,off,none⟩) 3 cap)).toArray 30) (.cells [.int .i64 0,.int .i64 0,.int .i64 0,.slice none 0 0].toArray 30) (.cells (coL a (.slice qa a.parts.length qn)).toArray 30))
 clear x0 x1 x2 x3 xl
 clear y0 y1 y2 y3 g0 g1 g2 g3 yl
 clear p0 p1 p2 p3 q0 q1 q2 q3 HYA HZ0 HZ BL X3 Y3 HY0 HY1 B0 lpw Hp
 generalize hW0:((w.alloc _).alloc _).alloc _=w0 at *
 clear hW0
 go_region_held3 (fun w'=>(w'.cell? ⟨w.heap.size,3,none⟩=some (.slice (some ⟨pb,off,none⟩) 3 cap)/\w'.cell? ⟨w.heap.size+1+1,1,none⟩=some (.int .i64 a.n))/\(w'.cell? ⟨pb,off+4,none⟩=some (.int .i64 y.op)/\w'.cell? ⟨pb,off+4+1,none⟩=some (.int .i64 y.n)/\w'.cell? ⟨pb,off+4+2,none⟩=some (.int .i64 y.m)/\w'.cell? ⟨pb,off+4+3,none⟩=some (.slice pa y.parts.length pn))) (simp[go_sem, *]) (first|(go_at_call 130;refine Calls.mono (HSo.out _ (by exact a0j B3.out _)) ?_;rintro e w2 ⟨rfl,b2⟩;have gg:=fun p v hp hv=>(b2.cell (p:=p) hp).trans (hv:w0.cell? p=some v);replace c3:=gg _ _ cl c3;replace a1:=gg _ _ al a1;replace r0:=gg _ _ rl r0;replace r1:=gg _ _ rl r1;replace r2:=gg _ _ rl r2;replace r3:=gg _ _ rl r3;have B4:=a0a (a0b B3.out (b:=w2) ⟨b2.os,b2.tape,b2.output,b2.size,b2.block⟩ B3.out.size);have Y4:=HY3.out.next (w':=w2) ⟨b2.os,b2.tape,b2.output,b2.size,b2.block⟩;have y0:=Y4.cell 0 _ rfl;have y1:=Y4.cell 1 _ rfl;have y2:=Y4.cell 2 _ rfl;have y3:=Y4.cell 3 _ rfl;have g0:=Y4.free 0 (by simp);have g1:=Y4.free 1 (by simp);have g2:=Y4.free 2 (by simp);have g3:=Y4.free 3 (by simp);have yl:=Y4.lt;replace cl:w.heap.size<w2.heap.size:=Nat.lt_of_lt_of_le cl b2.size;replace al:w.heap.size+1+1<w2.heap.size:=Nat.lt_of_lt_of_le al b2.size;replace rl:pb<w2.heap.size:=Nat.lt_of_lt_of_le rl b2.size;clear gg b2 Y4))
 clear c3 a1 r0 r1 r2 r3 HSo
 go_wp2_with fail
 refine bodyPost_ret (v:=coV ⟨6,a.n,sm,[]⟩ (.slice none 0 0)) (by simp[results,Tryz.results69,go_sem, *]) rfl ?_
 exact⟨_,rfl,CSP.leaf w hfit,((((B4.out.setCell (p:=⟨w.heap.size+1,0,none⟩) (by simp) _).setCell (p:=⟨w.heap.size+1,1,none⟩) (by simp) _).setCell (p:=⟨w.heap.size+1,2,none⟩) (by simp) _).setCell (p:=⟨w.heap.size+1,3,none⟩) (by simp) _)⟩
end Go.Proofs.YtkbmgloilckdhaaGreatDoor
