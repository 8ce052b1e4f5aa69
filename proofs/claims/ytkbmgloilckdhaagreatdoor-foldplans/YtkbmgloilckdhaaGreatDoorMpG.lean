import Derived.Test.YtkbmgloilckdhaaGreatDoorMpA
namespace Go.Proofs.YtkbmgloilckdhaaGreatDoor
open Go.RowKit
set_option maxHeartbeats 1000000 in
set_option maxRecDepth 20000 in
theorem b7t (ok:Nat->Prop)(n m:Int)(a:Co)(v:Value)(w:World)(hk:cst a=true)(h6:¬ a.op=6)(D:Co)(hw:∀ W,Below w.heap.size w W->Calls Tryz.prog 72 #[coV ⟨13,n,m,[a]⟩ v] W fun e w'=>∃ u,e=.returned (coV D u)/\CSP ok w D u/\Below W.heap.size W w')(hs:CSP ok w ⟨13,n,m,[a]⟩ v):
 Calls Tryz.prog 40 #[coV ⟨13,n,m,[a]⟩ v] w (a0H ok w D):=by
 have HCs:=a0a hs
 obtain⟨pb,off,cap,rfl,k1,k2,lp,hx⟩:=hs.at (by simp)
 dsimp only at hx k1 HCs
 show Calls _ _ #[coV ⟨13,n,m,[a]⟩ (.slice (some ⟨pb,off,none⟩) 1 cap)] _ _
 have H6:=a0a h6
 clear h6
 have HW:=a0a hw
 clear hw
 obtain⟨qa,qn,qf,qc⟩:=hx 0 (by simp)
 simp only[List.getElem_cons_zero,Nat.zero_mul,Nat.add_zero] at qf qc
 have HQ:=a0a qc
 obtain⟨Y0,Y1,Y2⟩:=a0e w 30 30 (coL ⟨13,n,m,[a]⟩ (.slice (some ⟨pb,off,none⟩) 1 cap)) [.int .i64 0,.int .i64 0,.int .i64 0,.slice none 0 0]
 obtain⟨x0,x1,x2,x3⟩:=Box.c4 Y0
 have xl:=Y0.lt
 obtain⟨y0,y1,y2,y3⟩:=Box.c4 Y1
 have g0:=Y1.free 0 (by simp)
 have g1:=Y1.free 1 (by simp)
 have g2:=Y1.free 2 (by simp)
 have g3:=Y1.free 3 (by simp)
 have yl:=Y1.lt
 have HY0:=a0a Y0
 have HY1:=a0a Y1
 have B0:=a0a Y2
 have HA2:Hid (∀ o o',Below w.heap.size w ((w.alloc o).alloc o')):=fun o o'=>((Below.refl _ _).alloc (Nat.le_refl _) _).alloc (by simp) _
 obtain⟨q0,q1,q2,q3⟩:=qf.keep (w':=((w.alloc (.cells (coL ⟨13,n,m,[a]⟩ (.slice (some ⟨pb,off,none⟩) 1 cap)).toArray 30)).alloc (.cells [.int .i64 0,.int .i64 0,.int .i64 0,.slice none 0 0].toArray 30))) (fun j=>Y2.cell (p:=⟨pb,j,none⟩) lp)
 have lpw:=Nat.lt_of_lt_of_le lp Y2.size
 have HK:=a0a (fun W=>a0N a qa a.parts.length qn W)
 rw[hk] at HK
 have HZ0:=a0a (Box.new ((w.alloc (.cells (coL ⟨13,n,m,[a]⟩ (.slice (some ⟨pb,off,none⟩) 1 cap)).toArray 30)).alloc (.cells [.int .i64 0,.int .i64 0,.int .i64 0,.slice none 0 0].toArray 30)) (coL a (.slice qa a.parts.length qn)) 30)
 have HZ:Hid (Box (((w.alloc (.cells (coL ⟨13,n,m,[a]⟩ (.slice (some ⟨pb,off,none⟩) 1 cap)).toArray 30)).alloc (.cells [.int .i64 0,.int .i64 0,.int .i64 0,.slice none 0 0].toArray 30)).alloc (.cells (coL a (.slice qa a.parts.length qn)).toArray 30)) (w.heap.size+1+1) (coL a (.slice qa a.parts.length qn))):=a0a (by simpa using HZ0.out)
 have BL:=a0a ((Below.refl ((w.alloc (.cells (coL ⟨13,n,m,[a]⟩ (.slice (some ⟨pb,off,none⟩) 1 cap)).toArray 30)).alloc (.cells [.int .i64 0,.int .i64 0,.int .i64 0,.slice none 0 0].toArray 30)).heap.size _).alloc (Nat.le_refl _) (.cells (coL a (.slice qa a.parts.length qn)).toArray 30))
 have B3:=a0a (a0b Y2 BL.out Y2.size)
 have X3:=a0a (Y0.next BL.out)
 have Y3:=a0a (Y1.next BL.out)
 clear hs hx qf qc Y0 Y1 Y2 HZ0 hk
 go_enter Tryz.func40,Tryz.ntmps40
 go_wp2_with fail
 refine Calls.mono (HK.out _) ?_
 rintro e w2 ⟨rfl,b2⟩
 have B4:=kb B3 b2
 have X4:=a0a (X3.out.next b2)
 have Y4:=a0a (Y3.out.next b2)
 have Z4:=a0a (HZ.out.next b2)
 clear x0 x1 x2 x3 xl
 clear y0 y1 y2 y3 g0 g1 g2 g3 yl
 clear q0 q1 q2 q3 b2 HK HZ BL B3 X3 Y3 HY0 HY1 B0 lpw
 have n6:(a.op==6)=false:=by simpa using H6.out
 obtain⟨x0,x1,x2,x3⟩:=Box.c4 X4.out
 have xl:=X4.out.lt
 obtain⟨y0,y1,y2,y3⟩:=Box.c4 Y4.out
 have g0:=Y4.out.free 0 (by simp)
 have g1:=Y4.out.free 1 (by simp)
 have g2:=Y4.out.free 2 (by simp)
 have g3:=Y4.out.free 3 (by simp)
 have yl:=Y4.out.lt
 obtain⟨z0,z1,z2,z3⟩:=Box.c4 Z4.out
 have zl:=Z4.out.lt
 go_wp2_with fail
 refine Calls.mono (HW.out _ B4.out) ?_
 rintro e w3 ⟨u,rfl,hu,b3⟩
 obtain⟨ua,uc,rfl,-,-⟩:=hu.parts.shape
 have HU:=a0a hu
 clear hu
 have Y5:=Y4.out.next b3
 have B5:=kb B4 b3
 clear x0 x1 x2 x3 xl
 clear y0 y1 y2 y3 g0 g1 g2 g3 yl
 clear z0 z1 z2 z3 zl b3
 obtain⟨y0,y1,y2,y3⟩:=Box.c4 Y5
 have g0:=Y5.free 0 (by simp)
 have g1:=Y5.free 1 (by simp)
 have g2:=Y5.free 2 (by simp)
 have g3:=Y5.free 3 (by simp)
 have yl:=Y5.lt
 clear Y5
 go_wp2_with fail
 refine bodyPost_ret (v:=coV D (.slice ua D.parts.length uc)) (by simp[results,Tryz.results40,go_sem, *]) rfl ?_
 exact⟨_,rfl,HU.out,((((B5.out.setCell (p:=⟨w.heap.size+1,0,none⟩) (by simp) _).setCell (p:=⟨w.heap.size+1,1,none⟩) (by simp) _).setCell (p:=⟨w.heap.size+1,2,none⟩) (by simp) _).setCell (p:=⟨w.heap.size+1,3,none⟩) (by simp) _)⟩
set_option maxHeartbeats 1000000 in
set_option maxRecDepth 20000 in
theorem b8C (ok:Nat->Prop)(op:Int)(n m:Int)(a:Co)(v:Value)(w:World)(hk:cst a=false)(h6:a.op=6)(hfit:a6R ⟨6,a.n,a2m op,[]⟩)(hop:8<=op/\op<=24/\op≠13)(hs:CSP ok w ⟨op,n,m,[a]⟩ v):
 Calls Tryz.prog 40 #[coV ⟨op,n,m,[a]⟩ v] w (a0H ok w ⟨6,a.n,a2m op,[]⟩):=by
 have HCs:=a0a hs
 obtain⟨pb,off,cap,rfl,k1,k2,lp,hx⟩:=hs.at (by simp)
 dsimp only at hx k1 HCs
 show Calls _ _ #[coV ⟨op,n,m,[a]⟩ (.slice (some ⟨pb,off,none⟩) 1 cap)] _ _
 have H6:=a0a h6
 clear h6
 have HFa:=a0a (fun W=>a4f a.n op W)
 generalize a2m op=fm at *
 have n28:(op==28)=false:=by simp;omega
 have n25:(op==25)=false:=by simp;omega
 have n26:(op==26)=false:=by simp;omega
 have n27:(op==27)=false:=by simp;omega
 have n13:(op==13)=false:=by simp;omega
 have n7:(op==7)=false:=by simp;omega
 have n32:(op==32)=false:=by simp;omega
 have n30:(op==30)=false:=by simp;omega
 have n31:(op==31)=false:=by simp;omega
 have n29:(op==29)=false:=by simp;omega
 have HOp:=a0a hop
 clear hop
 obtain⟨qa,qn,qf,qc⟩:=hx 0 (by simp)
 simp only[List.getElem_cons_zero,Nat.zero_mul,Nat.add_zero] at qf qc
 have HQ:=a0a qc
 obtain⟨Y0,Y1,Y2⟩:=a0e w 30 30 (coL ⟨op,n,m,[a]⟩ (.slice (some ⟨pb,off,none⟩) 1 cap)) [.int .i64 0,.int .i64 0,.int .i64 0,.slice none 0 0]
 obtain⟨x0,x1,x2,x3⟩:=Box.c4 Y0
 have xl:=Y0.lt
 obtain⟨y0,y1,y2,y3⟩:=Box.c4 Y1
 have g0:=Y1.free 0 (by simp)
 have g1:=Y1.free 1 (by simp)
 have g2:=Y1.free 2 (by simp)
 have g3:=Y1.free 3 (by simp)
 have yl:=Y1.lt
 have HY0:=a0a Y0
 have HY1:=a0a Y1
 have B0:=a0a Y2
 have HA2:Hid (∀ o o',Below w.heap.size w ((w.alloc o).alloc o')):=fun o o'=>((Below.refl _ _).alloc (Nat.le_refl _) _).alloc (by simp) _
 obtain⟨q0,q1,q2,q3⟩:=qf.keep (w':=((w.alloc (.cells (coL ⟨op,n,m,[a]⟩ (.slice (some ⟨pb,off,none⟩) 1 cap)).toArray 30)).alloc (.cells [.int .i64 0,.int .i64 0,.int .i64 0,.slice none 0 0].toArray 30))) (fun j=>Y2.cell (p:=⟨pb,j,none⟩) lp)
 have lpw:=Nat.lt_of_lt_of_le lp Y2.size
 have HK:=a0a (fun W=>a0N a qa a.parts.length qn W)
 rw[hk] at HK
 have HZ0:=a0a (Box.new ((w.alloc (.cells (coL ⟨op,n,m,[a]⟩ (.slice (some ⟨pb,off,none⟩) 1 cap)).toArray 30)).alloc (.cells [.int .i64 0,.int .i64 0,.int .i64 0,.slice none 0 0].toArray 30)) (coL a (.slice qa a.parts.length qn)) 30)
 have HZ:Hid (Box (((w.alloc (.cells (coL ⟨op,n,m,[a]⟩ (.slice (some ⟨pb,off,none⟩) 1 cap)).toArray 30)).alloc (.cells [.int .i64 0,.int .i64 0,.int .i64 0,.slice none 0 0].toArray 30)).alloc (.cells (coL a (.slice qa a.parts.length qn)).toArray 30)) (w.heap.size+1+1) (coL a (.slice qa a.parts.length qn))):=a0a (by simpa using HZ0.out)
 have BL:=a0a ((Below.refl ((w.alloc (.cells (coL ⟨op,n,m,[a]⟩ (.slice (some ⟨pb,off,none⟩) 1 cap)).toArray 30)).alloc (.cells [.int .i64 0,.int .i64 0,.int .i64 0,.slice none 0 0].toArray 30)).heap.size _).alloc (Nat.le_refl _) (.cells (coL a (.slice qa a.parts.length qn)).toArray 30))
 have B3:=a0a (a0b Y2 BL.out Y2.size)
 have X3:=a0a (Y0.next BL.out)
 have Y3:=a0a (Y1.next BL.out)
 clear hs hx qf qc Y0 Y1 Y2 HZ0 hk
 go_enter Tryz.func40,Tryz.ntmps40
 go_wp2_with fail
 refine Calls.mono (HK.out _) ?_
 rintro e w2 ⟨rfl,b2⟩
 have B4:=kb B3 b2
 have X4:=a0a (X3.out.next b2)
 have Y4:=a0a (Y3.out.next b2)
 have Z4:=a0a (HZ.out.next b2)
 clear x0 x1 x2 x3 xl
 clear y0 y1 y2 y3 g0 g1 g2 g3 yl
 clear q0 q1 q2 q3 b2 HK HZ BL B3 X3 Y3 HY0 HY1 B0 lpw
 have n6:(a.op==6)=true:=by simpa using H6.out
 obtain⟨x0,x1,x2,x3⟩:=Box.c4 X4.out
 have xl:=X4.out.lt
 obtain⟨y0,y1,y2,y3⟩:=Box.c4 Y4.out
 have g0:=Y4.out.free 0 (by simp)
 have g1:=Y4.out.free 1 (by simp)
 have g2:=Y4.out.free 2 (by simp)
 have g3:=Y4.out.free 3 (by simp)
 have yl:=Y4.out.lt
 obtain⟨z0,z1,z2,z3⟩:=Box.c4 Z4.out
 have zl:=Z4.out.lt
 go_wp2_with fail
 refine Calls.mono (HFa.out _) ?_
 rintro e w3 ⟨rfl,b3⟩
 have Y5:=Y4.out.next b3
 have B5:=kb B4 b3
 clear x0 x1 x2 x3 xl
 clear y0 y1 y2 y3 g0 g1 g2 g3 yl
 clear z0 z1 z2 z3 zl b3
 obtain⟨y0,y1,y2,y3⟩:=Box.c4 Y5
 have g0:=Y5.free 0 (by simp)
 have g1:=Y5.free 1 (by simp)
 have g2:=Y5.free 2 (by simp)
 have g3:=Y5.free 3 (by simp)
 have yl:=Y5.lt
 clear Y5
 go_wp2_with fail
 refine bodyPost_ret (v:=coV ⟨6,a.n,fm,[]⟩ (.slice none 0 0)) (by simp[results,Tryz.results40,go_sem, *]) rfl ?_
 exact⟨_,rfl,CSP.leaf w hfit,((((B5.out.setCell (p:=⟨w.heap.size+1,0,none⟩) (by simp) _).setCell (p:=⟨w.heap.size+1,1,none⟩) (by simp) _).setCell (p:=⟨w.heap.size+1,2,none⟩) (by simp) _).setCell (p:=⟨w.heap.size+1,3,none⟩) (by simp) _)⟩
set_option maxHeartbeats 1000000 in
set_option maxRecDepth 20000 in
theorem b8A (ok:Nat->Prop)(op:Int)(n m:Int)(a:Co)(v:Value)(w:World)(hk:cst a=false)(h6:¬ a.op=6)  (hop:8<=op/\op<=24/\op≠13)(hs:CSP ok w ⟨op,n,m,[a]⟩ v):
 Calls Tryz.prog 40 #[coV ⟨op,n,m,[a]⟩ v] w (a0H ok w ⟨op,n,m,[a]⟩):=by
 have HCs:=a0a hs
 obtain⟨pb,off,cap,rfl,k1,k2,lp,hx⟩:=hs.at (by simp)
 dsimp only at hx k1 HCs
 show Calls _ _ #[coV ⟨op,n,m,[a]⟩ (.slice (some ⟨pb,off,none⟩) 1 cap)] _ _
 have H6:=a0a h6
 clear h6
 have n28:(op==28)=false:=by simp;omega
 have n25:(op==25)=false:=by simp;omega
 have n26:(op==26)=false:=by simp;omega
 have n27:(op==27)=false:=by simp;omega
 have n13:(op==13)=false:=by simp;omega
 have n7:(op==7)=false:=by simp;omega
 have n32:(op==32)=false:=by simp;omega
 have n30:(op==30)=false:=by simp;omega
 have n31:(op==31)=false:=by simp;omega
 have n29:(op==29)=false:=by simp;omega
 have HOp:=a0a hop
 clear hop
 obtain⟨qa,qn,qf,qc⟩:=hx 0 (by simp)
 simp only[List.getElem_cons_zero,Nat.zero_mul,Nat.add_zero] at qf qc
 have HQ:=a0a qc
 obtain⟨Y0,Y1,Y2⟩:=a0e w 30 30 (coL ⟨op,n,m,[a]⟩ (.slice (some ⟨pb,off,none⟩) 1 cap)) [.int .i64 0,.int .i64 0,.int .i64 0,.slice none 0 0]
 obtain⟨x0,x1,x2,x3⟩:=Box.c4 Y0
 have xl:=Y0.lt
 obtain⟨y0,y1,y2,y3⟩:=Box.c4 Y1
 have g0:=Y1.free 0 (by simp)
 have g1:=Y1.free 1 (by simp)
 have g2:=Y1.free 2 (by simp)
 have g3:=Y1.free 3 (by simp)
 have yl:=Y1.lt
 have HY0:=a0a Y0
 have HY1:=a0a Y1
 have B0:=a0a Y2
 have HA2:Hid (∀ o o',Below w.heap.size w ((w.alloc o).alloc o')):=fun o o'=>((Below.refl _ _).alloc (Nat.le_refl _) _).alloc (by simp) _
 obtain⟨q0,q1,q2,q3⟩:=qf.keep (w':=((w.alloc (.cells (coL ⟨op,n,m,[a]⟩ (.slice (some ⟨pb,off,none⟩) 1 cap)).toArray 30)).alloc (.cells [.int .i64 0,.int .i64 0,.int .i64 0,.slice none 0 0].toArray 30))) (fun j=>Y2.cell (p:=⟨pb,j,none⟩) lp)
 have lpw:=Nat.lt_of_lt_of_le lp Y2.size
 have HK:=a0a (fun W=>a0N a qa a.parts.length qn W)
 rw[hk] at HK
 have HZ0:=a0a (Box.new ((w.alloc (.cells (coL ⟨op,n,m,[a]⟩ (.slice (some ⟨pb,off,none⟩) 1 cap)).toArray 30)).alloc (.cells [.int .i64 0,.int .i64 0,.int .i64 0,.slice none 0 0].toArray 30)) (coL a (.slice qa a.parts.length qn)) 30)
 have HZ:Hid (Box (((w.alloc (.cells (coL ⟨op,n,m,[a]⟩ (.slice (some ⟨pb,off,none⟩) 1 cap)).toArray 30)).alloc (.cells [.int .i64 0,.int .i64 0,.int .i64 0,.slice none 0 0].toArray 30)).alloc (.cells (coL a (.slice qa a.parts.length qn)).toArray 30)) (w.heap.size+1+1) (coL a (.slice qa a.parts.length qn))):=a0a (by simpa using HZ0.out)
 have BL:=a0a ((Below.refl ((w.alloc (.cells (coL ⟨op,n,m,[a]⟩ (.slice (some ⟨pb,off,none⟩) 1 cap)).toArray 30)).alloc (.cells [.int .i64 0,.int .i64 0,.int .i64 0,.slice none 0 0].toArray 30)).heap.size _).alloc (Nat.le_refl _) (.cells (coL a (.slice qa a.parts.length qn)).toArray 30))
 have B3:=a0a (a0b Y2 BL.out Y2.size)
 have X3:=a0a (Y0.next BL.out)
 have Y3:=a0a (Y1.next BL.out)
 clear hs hx qf qc Y0 Y1 Y2 HZ0 hk
 go_enter Tryz.func40,Tryz.ntmps40
 go_wp2_with fail
 refine Calls.mono (HK.out _) ?_
 rintro e w2 ⟨rfl,b2⟩
 have B4:=kb B3 b2
 have X4:=a0a (X3.out.next b2)
 have Y4:=a0a (Y3.out.next b2)
 have Z4:=a0a (HZ.out.next b2)
 clear x0 x1 x2 x3 xl
 clear y0 y1 y2 y3 g0 g1 g2 g3 yl
 clear q0 q1 q2 q3 b2 HK HZ BL B3 X3 Y3 HY0 HY1 B0 lpw
 have n6:(a.op==6)=false:=by simpa using H6.out
 obtain⟨x0,x1,x2,x3⟩:=Box.c4 X4.out
 have xl:=X4.out.lt
 obtain⟨y0,y1,y2,y3⟩:=Box.c4 Y4.out
 have g0:=Y4.out.free 0 (by simp)
 have g1:=Y4.out.free 1 (by simp)
 have g2:=Y4.out.free 2 (by simp)
 have g3:=Y4.out.free 3 (by simp)
 have yl:=Y4.out.lt
 obtain⟨z0,z1,z2,z3⟩:=Box.c4 Z4.out
 have zl:=Z4.out.lt
 go_wp2_with fail
 refine bodyPost_ret (v:=coV ⟨op,n,m,[a]⟩ (.slice (some ⟨pb,off,none⟩) 1 cap)) (by simp[results,Tryz.results40,go_sem, *]) rfl ?_
 exact⟨_,rfl,HCs.out,((((B4.out.setCell (p:=⟨w.heap.size+1,0,none⟩) (by simp) _).setCell (p:=⟨w.heap.size+1,1,none⟩) (by simp) _).setCell (p:=⟨w.heap.size+1,2,none⟩) (by simp) _).setCell (p:=⟨w.heap.size+1,3,none⟩) (by simp) _)⟩
set_option maxHeartbeats 1000000 in
set_option maxRecDepth 20000 in
theorem b8B (ok:Nat->Prop)(op:Int)(n m:Int)(a:Co)(v:Value)(w:World)(hk:cst a=true)(h6:¬ a.op=6)(D:Co)(hw:∀ W,Below w.heap.size w W->Calls Tryz.prog 72 #[coV ⟨op,n,m,[a]⟩ v] W fun e w'=>∃ u,e=.returned (coV D u)/\CSP ok w D u/\Below W.heap.size W w')(hop:8<=op/\op<=24/\op≠13)(hs:CSP ok w ⟨op,n,m,[a]⟩ v):
 Calls Tryz.prog 40 #[coV ⟨op,n,m,[a]⟩ v] w (a0H ok w D):=by
 have HCs:=a0a hs
 obtain⟨pb,off,cap,rfl,k1,k2,lp,hx⟩:=hs.at (by simp)
 dsimp only at hx k1 HCs
 show Calls _ _ #[coV ⟨op,n,m,[a]⟩ (.slice (some ⟨pb,off,none⟩) 1 cap)] _ _
 have H6:=a0a h6
 clear h6
 have HW:=a0a hw
 clear hw
 have n28:(op==28)=false:=by simp;omega
 have n25:(op==25)=false:=by simp;omega
 have n26:(op==26)=false:=by simp;omega
 have n27:(op==27)=false:=by simp;omega
 have n13:(op==13)=false:=by simp;omega
 have n7:(op==7)=false:=by simp;omega
 have n32:(op==32)=false:=by simp;omega
 have n30:(op==30)=false:=by simp;omega
 have n31:(op==31)=false:=by simp;omega
 have n29:(op==29)=false:=by simp;omega
 have HOp:=a0a hop
 clear hop
 obtain⟨qa,qn,qf,qc⟩:=hx 0 (by simp)
 simp only[List.getElem_cons_zero,Nat.zero_mul,Nat.add_zero] at qf qc
 have HQ:=a0a qc
 obtain⟨Y0,Y1,Y2⟩:=a0e w 30 30 (coL ⟨op,n,m,[a]⟩ (.slice (some ⟨pb,off,none⟩) 1 cap)) [.int .i64 0,.int .i64 0,.int .i64 0,.slice none 0 0]
 obtain⟨x0,x1,x2,x3⟩:=Box.c4 Y0
 have xl:=Y0.lt
 obtain⟨y0,y1,y2,y3⟩:=Box.c4 Y1
 have g0:=Y1.free 0 (by simp)
 have g1:=Y1.free 1 (by simp)
 have g2:=Y1.free 2 (by simp)
 have g3:=Y1.free 3 (by simp)
 have yl:=Y1.lt
 have HY0:=a0a Y0
 have HY1:=a0a Y1
 have B0:=a0a Y2
 have HA2:Hid (∀ o o',Below w.heap.size w ((w.alloc o).alloc o')):=fun o o'=>((Below.refl _ _).alloc (Nat.le_refl _) _).alloc (by simp) _
 obtain⟨q0,q1,q2,q3⟩:=qf.keep (w':=((w.alloc (.cells (coL ⟨op,n,m,[a]⟩ (.slice (some ⟨pb,off,none⟩) 1 cap)).toArray 30)).alloc (.cells [.int .i64 0,.int .i64 0,.int .i64 0,.slice none 0 0].toArray 30))) (fun j=>Y2.cell (p:=⟨pb,j,none⟩) lp)
 have lpw:=Nat.lt_of_lt_of_le lp Y2.size
 have HK:=a0a (fun W=>a0N a qa a.parts.length qn W)
 rw[hk] at HK
 have HZ0:=a0a (Box.new ((w.alloc (.cells (coL ⟨op,n,m,[a]⟩ (.slice (some ⟨pb,off,none⟩) 1 cap)).toArray 30)).alloc (.cells [.int .i64 0,.int .i64 0,.int .i64 0,.slice none 0 0].toArray 30)) (coL a (.slice qa a.parts.length qn)) 30)
 have HZ:Hid (Box (((w.alloc (.cells (coL ⟨op,n,m,[a]⟩ (.slice (some ⟨pb,off,none⟩) 1 cap)).toArray 30)).alloc (.cells [.int .i64 0,.int .i64 0,.int .i64 0,.slice none 0 0].toArray 30)).alloc (.cells (coL a (.slice qa a.parts.length qn)).toArray 30)) (w.heap.size+1+1) (coL a (.slice qa a.parts.length qn))):=a0a (by simpa using HZ0.out)
 have BL:=a0a ((Below.refl ((w.alloc (.cells (coL ⟨op,n,m,[a]⟩ (.slice (some ⟨pb,off,none⟩) 1 cap)).toArray 30)).alloc (.cells [.int .i64 0,.int .i64 0,.int .i64 0,.slice none 0 0].toArray 30)).heap.size _).alloc (Nat.le_refl _) (.cells (coL a (.slice qa a.parts.length qn)).toArray 30))
 have B3:=a0a (a0b Y2 BL.out Y2.size)
 have X3:=a0a (Y0.next BL.out)
 have Y3:=a0a (Y1.next BL.out)
 clear hs hx qf qc Y0 Y1 Y2 HZ0 hk
 go_enter Tryz.func40,Tryz.ntmps40
 go_wp2_with fail
 refine Calls.mono (HK.out _) ?_
 rintro e w2 ⟨rfl,b2⟩
 have B4:=kb B3 b2
 have X4:=a0a (X3.out.next b2)
 have Y4:=a0a (Y3.out.next b2)
 have Z4:=a0a (HZ.out.next b2)
 clear x0 x1 x2 x3 xl
 clear y0 y1 y2 y3 g0 g1 g2 g3 yl
 clear q0 q1 q2 q3 b2 HK HZ BL B3 X3 Y3 HY0 HY1 B0 lpw
 have n6:(a.op==6)=false:=by simpa using H6.out
 obtain⟨x0,x1,x2,x3⟩:=Box.c4 X4.out
 have xl:=X4.out.lt
 obtain⟨y0,y1,y2,y3⟩:=Box.c4 Y4.out
 have g0:=Y4.out.free 0 (by simp)
 have g1:=Y4.out.free 1 (by simp)
 have g2:=Y4.out.free 2 (by simp)
 have g3:=Y4.out.free 3 (by simp)
 have yl:=Y4.out.lt
 obtain⟨z0,z1,z2,z3⟩:=Box.c4 Z4.out
 have zl:=Z4.out.lt
 go_wp2_with fail
 refine Calls.mono (HW.out _ B4.out) ?_
 rintro e w3 ⟨u,rfl,hu,b3⟩
 obtain⟨ua,uc,rfl,-,-⟩:=hu.parts.shape
 have HU:=a0a hu
 clear hu
 have Y5:=Y4.out.next b3
 have B5:=kb B4 b3
 clear x0 x1 x2 x3 xl
 clear y0 y1 y2 y3 g0 g1 g2 g3 yl
 clear z0 z1 z2 z3 zl b3
 obtain⟨y0,y1,y2,y3⟩:=Box.c4 Y5
 have g0:=Y5.free 0 (by simp)
 have g1:=Y5.free 1 (by simp)
 have g2:=Y5.free 2 (by simp)
 have g3:=Y5.free 3 (by simp)
 have yl:=Y5.lt
 clear Y5
 go_wp2_with fail
 refine bodyPost_ret (v:=coV D (.slice ua D.parts.length uc)) (by simp[results,Tryz.results40,go_sem, *]) rfl ?_
 exact⟨_,rfl,HU.out,((((B5.out.setCell (p:=⟨w.heap.size+1,0,none⟩) (by simp) _).setCell (p:=⟨w.heap.size+1,1,none⟩) (by simp) _).setCell (p:=⟨w.heap.size+1,2,none⟩) (by simp) _).setCell (p:=⟨w.heap.size+1,3,none⟩) (by simp) _)⟩
set_option maxHeartbeats 1000000 in
set_option maxRecDepth 20000 in
theorem b8F (ok:Nat->Prop)(op:Int)(n m:Int)(a y:Co)(v:Value)(w:World)(hk:cst a=false)(h6:a.op=6)(hfit:a6R ⟨6,a.n,a2m op,[]⟩)(hop:8<=op/\op<=24/\op≠13)(hs:CSP ok w ⟨op,n,m,[a,y]⟩ v):
 Calls Tryz.prog 40 #[coV ⟨op,n,m,[a,y]⟩ v] w (a0H ok w ⟨6,a.n,a2m op,[]⟩):=by
 have HCs:=a0a hs
 obtain⟨pb,off,cap,rfl,k1,k2,lp,hx⟩:=hs.at (by simp)
 dsimp only at hx k1 HCs
 show Calls _ _ #[coV ⟨op,n,m,[a,y]⟩ (.slice (some ⟨pb,off,none⟩) 2 cap)] _ _
 have H6:=a0a h6
 clear h6
 have HFa:=a0a (fun W=>a4f a.n op W)
 generalize a2m op=fm at *
 have n28:(op==28)=false:=by simp;omega
 have n25:(op==25)=false:=by simp;omega
 have n26:(op==26)=false:=by simp;omega
 have n27:(op==27)=false:=by simp;omega
 have n13:(op==13)=false:=by simp;omega
 have n7:(op==7)=false:=by simp;omega
 have n32:(op==32)=false:=by simp;omega
 have n30:(op==30)=false:=by simp;omega
 have n31:(op==31)=false:=by simp;omega
 have n29:(op==29)=false:=by simp;omega
 have HOp:=a0a hop
 clear hop
 obtain⟨qa,qn,qf,qc⟩:=hx 0 (by simp)
 simp only[List.getElem_cons_zero,Nat.zero_mul,Nat.add_zero] at qf qc
 have HQ:=a0a qc
 obtain⟨Y0,Y1,Y2⟩:=a0e w 30 30 (coL ⟨op,n,m,[a,y]⟩ (.slice (some ⟨pb,off,none⟩) 2 cap)) [.int .i64 0,.int .i64 0,.int .i64 0,.slice none 0 0]
 obtain⟨x0,x1,x2,x3⟩:=Box.c4 Y0
 have xl:=Y0.lt
 obtain⟨y0,y1,y2,y3⟩:=Box.c4 Y1
 have g0:=Y1.free 0 (by simp)
 have g1:=Y1.free 1 (by simp)
 have g2:=Y1.free 2 (by simp)
 have g3:=Y1.free 3 (by simp)
 have yl:=Y1.lt
 have HY0:=a0a Y0
 have HY1:=a0a Y1
 have B0:=a0a Y2
 have HA2:Hid (∀ o o',Below w.heap.size w ((w.alloc o).alloc o')):=fun o o'=>((Below.refl _ _).alloc (Nat.le_refl _) _).alloc (by simp) _
 obtain⟨q0,q1,q2,q3⟩:=qf.keep (w':=((w.alloc (.cells (coL ⟨op,n,m,[a,y]⟩ (.slice (some ⟨pb,off,none⟩) 2 cap)).toArray 30)).alloc (.cells [.int .i64 0,.int .i64 0,.int .i64 0,.slice none 0 0].toArray 30))) (fun j=>Y2.cell (p:=⟨pb,j,none⟩) lp)
 have lpw:=Nat.lt_of_lt_of_le lp Y2.size
 have HK:=a0a (fun W=>a0N a qa a.parts.length qn W)
 rw[hk] at HK
 have HZ0:=a0a (Box.new ((w.alloc (.cells (coL ⟨op,n,m,[a,y]⟩ (.slice (some ⟨pb,off,none⟩) 2 cap)).toArray 30)).alloc (.cells [.int .i64 0,.int .i64 0,.int .i64 0,.slice none 0 0].toArray 30)) (coL a (.slice qa a.parts.length qn)) 30)
 have HZ:Hid (Box (((w.alloc (.cells (coL ⟨op,n,m,[a,y]⟩ (.slice (some ⟨pb,off,none⟩) 2 cap)).toArray 30)).alloc (.cells [.int .i64 0,.int .i64 0,.int .i64 0,.slice none 0 0].toArray 30)).alloc (.cells (coL a (.slice qa a.parts.length qn)).toArray 30)) (w.heap.size+1+1) (coL a (.slice qa a.parts.length qn))):=a0a (by simpa using HZ0.out)
 have BL:=a0a ((Below.refl ((w.alloc (.cells (coL ⟨op,n,m,[a,y]⟩ (.slice (some ⟨pb,off,none⟩) 2 cap)).toArray 30)).alloc (.cells [.int .i64 0,.int .i64 0,.int .i64 0,.slice none 0 0].toArray 30)).heap.size _).alloc (Nat.le_refl _) (.cells (coL a (.slice qa a.parts.length qn)).toArray 30))
 have B3:=a0a (a0b Y2 BL.out Y2.size)
 have X3:=a0a (Y0.next BL.out)
 have Y3:=a0a (Y1.next BL.out)
 clear hs hx qf qc Y0 Y1 Y2 HZ0 hk
 go_enter Tryz.func40,Tryz.ntmps40
 go_wp2_with fail
 refine Calls.mono (HK.out _) ?_
 rintro e w2 ⟨rfl,b2⟩
 have B4:=kb B3 b2
 have X4:=a0a (X3.out.next b2)
 have Y4:=a0a (Y3.out.next b2)
 have Z4:=a0a (HZ.out.next b2)
 clear x0 x1 x2 x3 xl
 clear y0 y1 y2 y3 g0 g1 g2 g3 yl
 clear q0 q1 q2 q3 b2 HK HZ BL B3 X3 Y3 HY0 HY1 B0 lpw
 have n6:(a.op==6)=true:=by simpa using H6.out
 obtain⟨x0,x1,x2,x3⟩:=Box.c4 X4.out
 have xl:=X4.out.lt
 obtain⟨y0,y1,y2,y3⟩:=Box.c4 Y4.out
 have g0:=Y4.out.free 0 (by simp)
 have g1:=Y4.out.free 1 (by simp)
 have g2:=Y4.out.free 2 (by simp)
 have g3:=Y4.out.free 3 (by simp)
 have yl:=Y4.out.lt
 obtain⟨z0,z1,z2,z3⟩:=Box.c4 Z4.out
 have zl:=Z4.out.lt
 go_wp2_with fail
 refine Calls.mono (HFa.out _) ?_
 rintro e w3 ⟨rfl,b3⟩
 have Y5:=Y4.out.next b3
 have B5:=kb B4 b3
 clear x0 x1 x2 x3 xl
 clear y0 y1 y2 y3 g0 g1 g2 g3 yl
 clear z0 z1 z2 z3 zl b3
 obtain⟨y0,y1,y2,y3⟩:=Box.c4 Y5
 have g0:=Y5.free 0 (by simp)
 have g1:=Y5.free 1 (by simp)
 have g2:=Y5.free 2 (by simp)
 have g3:=Y5.free 3 (by simp)
 have yl:=Y5.lt
 clear Y5
 go_wp2_with fail
 refine bodyPost_ret (v:=coV ⟨6,a.n,fm,[]⟩ (.slice none 0 0)) (by simp[results,Tryz.results40,go_sem, *]) rfl ?_
 exact⟨_,rfl,CSP.leaf w hfit,((((B5.out.setCell (p:=⟨w.heap.size+1,0,none⟩) (by simp) _).setCell (p:=⟨w.heap.size+1,1,none⟩) (by simp) _).setCell (p:=⟨w.heap.size+1,2,none⟩) (by simp) _).setCell (p:=⟨w.heap.size+1,3,none⟩) (by simp) _)⟩
set_option maxHeartbeats 1000000 in
set_option maxRecDepth 20000 in
theorem b8E (ok:Nat->Prop)(op:Int)(n m:Int)(a y:Co)(v:Value)(w:World)(hk:cst a=false)(h6:¬ a.op=6)  (hop:8<=op/\op<=24/\op≠13)(hs:CSP ok w ⟨op,n,m,[a,y]⟩ v):
 Calls Tryz.prog 40 #[coV ⟨op,n,m,[a,y]⟩ v] w (a0H ok w ⟨op,n,m,[a,y]⟩):=by
 have HCs:=a0a hs
 obtain⟨pb,off,cap,rfl,k1,k2,lp,hx⟩:=hs.at (by simp)
 dsimp only at hx k1 HCs
 show Calls _ _ #[coV ⟨op,n,m,[a,y]⟩ (.slice (some ⟨pb,off,none⟩) 2 cap)] _ _
 have H6:=a0a h6
 clear h6
 have n28:(op==28)=false:=by simp;omega
 have n25:(op==25)=false:=by simp;omega
 have n26:(op==26)=false:=by simp;omega
 have n27:(op==27)=false:=by simp;omega
 have n13:(op==13)=false:=by simp;omega
 have n7:(op==7)=false:=by simp;omega
 have n32:(op==32)=false:=by simp;omega
 have n30:(op==30)=false:=by simp;omega
 have n31:(op==31)=false:=by simp;omega
 have n29:(op==29)=false:=by simp;omega
 have HOp:=a0a hop
 clear hop
 obtain⟨qa,qn,qf,qc⟩:=hx 0 (by simp)
 simp only[List.getElem_cons_zero,Nat.zero_mul,Nat.add_zero] at qf qc
 have HQ:=a0a qc
 obtain⟨Y0,Y1,Y2⟩:=a0e w 30 30 (coL ⟨op,n,m,[a,y]⟩ (.slice (some ⟨pb,off,none⟩) 2 cap)) [.int .i64 0,.int .i64 0,.int .i64 0,.slice none 0 0]
 obtain⟨x0,x1,x2,x3⟩:=Box.c4 Y0
 have xl:=Y0.lt
 obtain⟨y0,y1,y2,y3⟩:=Box.c4 Y1
 have g0:=Y1.free 0 (by simp)
 have g1:=Y1.free 1 (by simp)
 have g2:=Y1.free 2 (by simp)
 have g3:=Y1.free 3 (by simp)
 have yl:=Y1.lt
 have HY0:=a0a Y0
 have HY1:=a0a Y1
 have B0:=a0a Y2
 have HA2:Hid (∀ o o',Below w.heap.size w ((w.alloc o).alloc o')):=fun o o'=>((Below.refl _ _).alloc (Nat.le_refl _) _).alloc (by simp) _
 obtain⟨q0,q1,q2,q3⟩:=qf.keep (w':=((w.alloc (.cells (coL ⟨op,n,m,[a,y]⟩ (.slice (some ⟨pb,off,none⟩) 2 cap)).toArray 30)).alloc (.cells [.int .i64 0,.int .i64 0,.int .i64 0,.slice none 0 0].toArray 30))) (fun j=>Y2.cell (p:=⟨pb,j,none⟩) lp)
 have lpw:=Nat.lt_of_lt_of_le lp Y2.size
 have HK:=a0a (fun W=>a0N a qa a.parts.length qn W)
 rw[hk] at HK
 have HZ0:=a0a (Box.new ((w.alloc (.cells (coL ⟨op,n,m,[a,y]⟩ (.slice (some ⟨pb,off,none⟩) 2 cap)).toArray 30)).alloc (.cells [.int .i64 0,.int .i64 0,.int .i64 0,.slice none 0 0].toArray 30)) (coL a (.slice qa a.parts.length qn)) 30)
 have HZ:Hid (Box (((w.alloc (.cells (coL ⟨op,n,m,[a,y]⟩ (.slice (some ⟨pb,off,none⟩) 2 cap)).toArray 30)).alloc (.cells [.int .i64 0,.int .i64 0,.int .i64 0,.slice none 0 0].toArray 30)).alloc (.cells (coL a (.slice qa a.parts.length qn)).toArray 30)) (w.heap.size+1+1) (coL a (.slice qa a.parts.length qn))):=a0a (by simpa using HZ0.out)
 have BL:=a0a ((Below.refl ((w.alloc (.cells (coL ⟨op,n,m,[a,y]⟩ (.slice (some ⟨pb,off,none⟩) 2 cap)).toArray 30)).alloc (.cells [.int .i64 0,.int .i64 0,.int .i64 0,.slice none 0 0].toArray 30)).heap.size _).alloc (Nat.le_refl _) (.cells (coL a (.slice qa a.parts.length qn)).toArray 30))
 have B3:=a0a (a0b Y2 BL.out Y2.size)
 have X3:=a0a (Y0.next BL.out)
 have Y3:=a0a (Y1.next BL.out)
 clear hs hx qf qc Y0 Y1 Y2 HZ0 hk
 go_enter Tryz.func40,Tryz.ntmps40
 go_wp2_with fail
 refine Calls.mono (HK.out _) ?_
 rintro e w2 ⟨rfl,b2⟩
 have B4:=kb B3 b2
 have X4:=a0a (X3.out.next b2)
 have Y4:=a0a (Y3.out.next b2)
 have Z4:=a0a (HZ.out.next b2)
 clear x0 x1 x2 x3 xl
 clear y0 y1 y2 y3 g0 g1 g2 g3 yl
 clear q0 q1 q2 q3 b2 HK HZ BL B3 X3 Y3 HY0 HY1 B0 lpw
 have n6:(a.op==6)=false:=by simpa using H6.out
 obtain⟨x0,x1,x2,x3⟩:=Box.c4 X4.out
 have xl:=X4.out.lt
 obtain⟨y0,y1,y2,y3⟩:=Box.c4 Y4.out
 have g0:=Y4.out.free 0 (by simp)
 have g1:=Y4.out.free 1 (by simp)
 have g2:=Y4.out.free 2 (by simp)
 have g3:=Y4.out.free 3 (by simp)
 have yl:=Y4.out.lt
 obtain⟨z0,z1,z2,z3⟩:=Box.c4 Z4.out
 have zl:=Z4.out.lt
 go_wp2_with fail
 refine bodyPost_ret (v:=coV ⟨op,n,m,[a,y]⟩ (.slice (some ⟨pb,off,none⟩) 2 cap)) (by simp[results,Tryz.results40,go_sem, *]) rfl ?_
 exact⟨_,rfl,HCs.out,((((B4.out.setCell (p:=⟨w.heap.size+1,0,none⟩) (by simp) _).setCell (p:=⟨w.heap.size+1,1,none⟩) (by simp) _).setCell (p:=⟨w.heap.size+1,2,none⟩) (by simp) _).setCell (p:=⟨w.heap.size+1,3,none⟩) (by simp) _)⟩
set_option maxHeartbeats 1000000 in
set_option maxRecDepth 20000 in
theorem b7l (ok:Nat->Prop)(op:Int)(n m:Int)(a y:Co)(v:Value)(w:World)(hk:cst a=true)(h6:¬ a.op=6)(hy6:y.op=6)(hfit:a6R ⟨6,y.n,a2m op,[]⟩)(hop:8<=op/\op<=24/\op≠13)(hs:CSP ok w ⟨op,n,m,[a,y]⟩ v):
 Calls Tryz.prog 40 #[coV ⟨op,n,m,[a,y]⟩ v] w (a0H ok w ⟨6,y.n,a2m op,[]⟩):=by
 have HCs:=a0a hs
 obtain⟨pb,off,cap,rfl,k1,k2,lp,hx⟩:=hs.at (by simp)
 dsimp only at hx k1 HCs
 show Calls _ _ #[coV ⟨op,n,m,[a,y]⟩ (.slice (some ⟨pb,off,none⟩) 2 cap)] _ _
 have H6:=a0a h6
 clear h6
 have HFa:=a0a (fun W=>a4f y.n op W)
 generalize a2m op=fm at *
 have n28:(op==28)=false:=by simp;omega
 have n25:(op==25)=false:=by simp;omega
 have n26:(op==26)=false:=by simp;omega
 have n27:(op==27)=false:=by simp;omega
 have n13:(op==13)=false:=by simp;omega
 have n7:(op==7)=false:=by simp;omega
 have n32:(op==32)=false:=by simp;omega
 have n30:(op==30)=false:=by simp;omega
 have n31:(op==31)=false:=by simp;omega
 have n29:(op==29)=false:=by simp;omega
 have HOp:=a0a hop
 clear hop
 obtain⟨qa,qn,qf,qc⟩:=hx 0 (by simp)
 simp only[List.getElem_cons_zero,Nat.zero_mul,Nat.add_zero] at qf qc
 obtain⟨ya,yn,yf,yc⟩:=hx 1 (by simp)
 simp only[List.getElem_cons_succ,List.getElem_cons_zero,Nat.one_mul] at yf yc
 have HY:=a0a yc
 have HQ:=a0a qc
 obtain⟨Y0,Y1,Y2⟩:=a0e w 30 30 (coL ⟨op,n,m,[a,y]⟩ (.slice (some ⟨pb,off,none⟩) 2 cap)) [.int .i64 0,.int .i64 0,.int .i64 0,.slice none 0 0]
 obtain⟨x0,x1,x2,x3⟩:=Box.c4 Y0
 have xl:=Y0.lt
 obtain⟨y0,y1,y2,y3⟩:=Box.c4 Y1
 have g0:=Y1.free 0 (by simp)
 have g1:=Y1.free 1 (by simp)
 have g2:=Y1.free 2 (by simp)
 have g3:=Y1.free 3 (by simp)
 have yl:=Y1.lt
 have HY0:=a0a Y0
 have HY1:=a0a Y1
 have B0:=a0a Y2
 have HA2:Hid (∀ o o',Below w.heap.size w ((w.alloc o).alloc o')):=fun o o'=>((Below.refl _ _).alloc (Nat.le_refl _) _).alloc (by simp) _
 obtain⟨q0,q1,q2,q3⟩:=qf.keep (w':=((w.alloc (.cells (coL ⟨op,n,m,[a,y]⟩ (.slice (some ⟨pb,off,none⟩) 2 cap)).toArray 30)).alloc (.cells [.int .i64 0,.int .i64 0,.int .i64 0,.slice none 0 0].toArray 30))) (fun j=>Y2.cell (p:=⟨pb,j,none⟩) lp)
 have lpw:=Nat.lt_of_lt_of_le lp Y2.size
 have HK:=a0a (fun W=>a0N a qa a.parts.length qn W)
 rw[hk] at HK
 have HZ0:=a0a (Box.new ((w.alloc (.cells (coL ⟨op,n,m,[a,y]⟩ (.slice (some ⟨pb,off,none⟩) 2 cap)).toArray 30)).alloc (.cells [.int .i64 0,.int .i64 0,.int .i64 0,.slice none 0 0].toArray 30)) (coL a (.slice qa a.parts.length qn)) 30)
 have HZ:Hid (Box (((w.alloc (.cells (coL ⟨op,n,m,[a,y]⟩ (.slice (some ⟨pb,off,none⟩) 2 cap)).toArray 30)).alloc (.cells [.int .i64 0,.int .i64 0,.int .i64 0,.slice none 0 0].toArray 30)).alloc (.cells (coL a (.slice qa a.parts.length qn)).toArray 30)) (w.heap.size+1+1) (coL a (.slice qa a.parts.length qn))):=a0a (by simpa using HZ0.out)
 have BL:=a0a ((Below.refl ((w.alloc (.cells (coL ⟨op,n,m,[a,y]⟩ (.slice (some ⟨pb,off,none⟩) 2 cap)).toArray 30)).alloc (.cells [.int .i64 0,.int .i64 0,.int .i64 0,.slice none 0 0].toArray 30)).heap.size _).alloc (Nat.le_refl _) (.cells (coL a (.slice qa a.parts.length qn)).toArray 30))
 have B3:=a0a (a0b Y2 BL.out Y2.size)
 have X3:=a0a (Y0.next BL.out)
 have Y3:=a0a (Y1.next BL.out)
 clear hs hx qf qc Y0 Y1 Y2 HZ0 hk yc
 go_enter Tryz.func40,Tryz.ntmps40
 go_wp2_with fail
 refine Calls.mono (HK.out _) ?_
 rintro e w2 ⟨rfl,b2⟩
 have B4:=kb B3 b2
 have X4:=a0a (X3.out.next b2)
 have Y4:=a0a (Y3.out.next b2)
 have Z4:=a0a (HZ.out.next b2)
 clear x0 x1 x2 x3 xl
 clear y0 y1 y2 y3 g0 g1 g2 g3 yl
 clear q0 q1 q2 q3 b2 HK HZ BL B3 X3 Y3 HY0 HY1 B0 lpw
 have n6:(a.op==6)=false:=by simpa using H6.out
 obtain⟨x0,x1,x2,x3⟩:=Box.c4 X4.out
 have xl:=X4.out.lt
 obtain⟨y0,y1,y2,y3⟩:=Box.c4 Y4.out
 have g0:=Y4.out.free 0 (by simp)
 have g1:=Y4.out.free 1 (by simp)
 have g2:=Y4.out.free 2 (by simp)
 have g3:=Y4.out.free 3 (by simp)
 have yl:=Y4.out.lt
 obtain⟨z0,z1,z2,z3⟩:=Box.c4 Z4.out
 have zl:=Z4.out.lt
 obtain⟨t0,t1,t2,t3⟩:=yf.keep (w':=w2) (fun j=>B4.out.cell (p:=⟨pb,j,none⟩) lp)
 have lp4:=Nat.lt_of_lt_of_le lp B4.out.size
 have HA5:=a0a (fun o=>B4.out.alloc B4.out.size o)
 have XA5:=a0a (fun o=>X4.out.next ((Below.refl _ _).alloc (Nat.le_refl _) o))
 have YA5:=a0a (fun o=>Y4.out.next ((Below.refl _ _).alloc (Nat.le_refl _) o))
 go_wp2_with fail
 refine Calls.mono (HFa.out _) ?_
 rintro e w3 ⟨rfl,b3⟩
 have Y5:=a0a ((YA5.out _).next b3)
 have X5:=a0a ((XA5.out _).next b3)
 have B5:=a0a (a0b (HA5.out _) b3 (HA5.out _).size)
 clear x0 x1 x2 x3 xl
 clear y0 y1 y2 y3 g0 g1 g2 g3 yl
 clear z0 z1 z2 z3 zl b3 t0 t1 t2 t3 XA5 YA5
 obtain⟨y0,y1,y2,y3⟩:=Box.c4 Y5.out
 have g0:=Y5.out.free 0 (by simp)
 have g1:=Y5.out.free 1 (by simp)
 have g2:=Y5.out.free 2 (by simp)
 have g3:=Y5.out.free 3 (by simp)
 have yl:=Y5.out.lt
 go_wp2_with fail
 refine bodyPost_ret (v:=coV ⟨6,y.n,fm,[]⟩ (.slice none 0 0)) (by simp[results,Tryz.results40,go_sem, *]) rfl ?_
 exact⟨_,rfl,CSP.leaf w hfit,((((B5.out.setCell (p:=⟨w.heap.size+1,0,none⟩) (by simp) _).setCell (p:=⟨w.heap.size+1,1,none⟩) (by simp) _).setCell (p:=⟨w.heap.size+1,2,none⟩) (by simp) _).setCell (p:=⟨w.heap.size+1,3,none⟩) (by simp) _)⟩
set_option maxHeartbeats 1000000 in
set_option maxRecDepth 20000 in
theorem b7j (ok:Nat->Prop)(op:Int)(n m:Int)(a y:Co)(v:Value)(w:World)(hk:cst a=true)(h6:¬ a.op=6)(hy6:¬ y.op=6)(hyc:cst y=false)(hop:8<=op/\op<=24/\op≠13)(hs:CSP ok w ⟨op,n,m,[a,y]⟩ v):
 Calls Tryz.prog 40 #[coV ⟨op,n,m,[a,y]⟩ v] w (a0H ok w ⟨op,n,m,[a,y]⟩):=by
 have HCs:=a0a hs
 obtain⟨pb,off,cap,rfl,k1,k2,lp,hx⟩:=hs.at (by simp)
 dsimp only at hx k1 HCs
 show Calls _ _ #[coV ⟨op,n,m,[a,y]⟩ (.slice (some ⟨pb,off,none⟩) 2 cap)] _ _
 have H6:=a0a h6
 clear h6
 have HCy:=a0a (fun ad cap W=>a0N y ad y.parts.length cap W)
 rw[hyc] at HCy
 clear hyc
 have n28:(op==28)=false:=by simp;omega
 have n25:(op==25)=false:=by simp;omega
 have n26:(op==26)=false:=by simp;omega
 have n27:(op==27)=false:=by simp;omega
 have n13:(op==13)=false:=by simp;omega
 have n7:(op==7)=false:=by simp;omega
 have n32:(op==32)=false:=by simp;omega
 have n30:(op==30)=false:=by simp;omega
 have n31:(op==31)=false:=by simp;omega
 have n29:(op==29)=false:=by simp;omega
 have HOp:=a0a hop
 clear hop
 obtain⟨qa,qn,qf,qc⟩:=hx 0 (by simp)
 simp only[List.getElem_cons_zero,Nat.zero_mul,Nat.add_zero] at qf qc
 obtain⟨ya,yn,yf,yc⟩:=hx 1 (by simp)
 simp only[List.getElem_cons_succ,List.getElem_cons_zero,Nat.one_mul] at yf yc
 have HY:=a0a yc
 have HQ:=a0a qc
 obtain⟨Y0,Y1,Y2⟩:=a0e w 30 30 (coL ⟨op,n,m,[a,y]⟩ (.slice (some ⟨pb,off,none⟩) 2 cap)) [.int .i64 0,.int .i64 0,.int .i64 0,.slice none 0 0]
 obtain⟨x0,x1,x2,x3⟩:=Box.c4 Y0
 have xl:=Y0.lt
 obtain⟨y0,y1,y2,y3⟩:=Box.c4 Y1
 have g0:=Y1.free 0 (by simp)
 have g1:=Y1.free 1 (by simp)
 have g2:=Y1.free 2 (by simp)
 have g3:=Y1.free 3 (by simp)
 have yl:=Y1.lt
 have HY0:=a0a Y0
 have HY1:=a0a Y1
 have B0:=a0a Y2
 have HA2:Hid (∀ o o',Below w.heap.size w ((w.alloc o).alloc o')):=fun o o'=>((Below.refl _ _).alloc (Nat.le_refl _) _).alloc (by simp) _
 obtain⟨q0,q1,q2,q3⟩:=qf.keep (w':=((w.alloc (.cells (coL ⟨op,n,m,[a,y]⟩ (.slice (some ⟨pb,off,none⟩) 2 cap)).toArray 30)).alloc (.cells [.int .i64 0,.int .i64 0,.int .i64 0,.slice none 0 0].toArray 30))) (fun j=>Y2.cell (p:=⟨pb,j,none⟩) lp)
 have lpw:=Nat.lt_of_lt_of_le lp Y2.size
 have HK:=a0a (fun W=>a0N a qa a.parts.length qn W)
 rw[hk] at HK
 have HZ0:=a0a (Box.new ((w.alloc (.cells (coL ⟨op,n,m,[a,y]⟩ (.slice (some ⟨pb,off,none⟩) 2 cap)).toArray 30)).alloc (.cells [.int .i64 0,.int .i64 0,.int .i64 0,.slice none 0 0].toArray 30)) (coL a (.slice qa a.parts.length qn)) 30)
 have HZ:Hid (Box (((w.alloc (.cells (coL ⟨op,n,m,[a,y]⟩ (.slice (some ⟨pb,off,none⟩) 2 cap)).toArray 30)).alloc (.cells [.int .i64 0,.int .i64 0,.int .i64 0,.slice none 0 0].toArray 30)).alloc (.cells (coL a (.slice qa a.parts.length qn)).toArray 30)) (w.heap.size+1+1) (coL a (.slice qa a.parts.length qn))):=a0a (by simpa using HZ0.out)
 have BL:=a0a ((Below.refl ((w.alloc (.cells (coL ⟨op,n,m,[a,y]⟩ (.slice (some ⟨pb,off,none⟩) 2 cap)).toArray 30)).alloc (.cells [.int .i64 0,.int .i64 0,.int .i64 0,.slice none 0 0].toArray 30)).heap.size _).alloc (Nat.le_refl _) (.cells (coL a (.slice qa a.parts.length qn)).toArray 30))
 have B3:=a0a (a0b Y2 BL.out Y2.size)
 have X3:=a0a (Y0.next BL.out)
 have Y3:=a0a (Y1.next BL.out)
 clear hs hx qf qc Y0 Y1 Y2 HZ0 hk yc
 go_enter Tryz.func40,Tryz.ntmps40
 go_wp2_with fail
 refine Calls.mono (HK.out _) ?_
 rintro e w2 ⟨rfl,b2⟩
 have B4:=kb B3 b2
 have X4:=a0a (X3.out.next b2)
 have Y4:=a0a (Y3.out.next b2)
 have Z4:=a0a (HZ.out.next b2)
 clear x0 x1 x2 x3 xl
 clear y0 y1 y2 y3 g0 g1 g2 g3 yl
 clear q0 q1 q2 q3 b2 HK HZ BL B3 X3 Y3 HY0 HY1 B0 lpw
 have n6:(a.op==6)=false:=by simpa using H6.out
 obtain⟨x0,x1,x2,x3⟩:=Box.c4 X4.out
 have xl:=X4.out.lt
 obtain⟨y0,y1,y2,y3⟩:=Box.c4 Y4.out
 have g0:=Y4.out.free 0 (by simp)
 have g1:=Y4.out.free 1 (by simp)
 have g2:=Y4.out.free 2 (by simp)
 have g3:=Y4.out.free 3 (by simp)
 have yl:=Y4.out.lt
 obtain⟨z0,z1,z2,z3⟩:=Box.c4 Z4.out
 have zl:=Z4.out.lt
 obtain⟨t0,t1,t2,t3⟩:=yf.keep (w':=w2) (fun j=>B4.out.cell (p:=⟨pb,j,none⟩) lp)
 have lp4:=Nat.lt_of_lt_of_le lp B4.out.size
 have HA5:=a0a (fun o=>B4.out.alloc B4.out.size o)
 have XA5:=a0a (fun o=>X4.out.next ((Below.refl _ _).alloc (Nat.le_refl _) o))
 have YA5:=a0a (fun o=>Y4.out.next ((Below.refl _ _).alloc (Nat.le_refl _) o))
 have m6:(y.op==6)=false:=by simpa using hy6
 go_wp2_with fail
 refine Calls.mono (HCy.out _ _ _) ?_
 rintro e w3 ⟨rfl,b3⟩
 have Y5:=a0a ((YA5.out _).next b3)
 have X5:=a0a ((XA5.out _).next b3)
 have B5:=a0a (a0b (HA5.out _) b3 (HA5.out _).size)
 clear x0 x1 x2 x3 xl
 clear y0 y1 y2 y3 g0 g1 g2 g3 yl
 clear z0 z1 z2 z3 zl b3 t0 t1 t2 t3 XA5 YA5
 obtain⟨y0,y1,y2,y3⟩:=Box.c4 Y5.out
 have g0:=Y5.out.free 0 (by simp)
 have g1:=Y5.out.free 1 (by simp)
 have g2:=Y5.out.free 2 (by simp)
 have g3:=Y5.out.free 3 (by simp)
 have yl:=Y5.out.lt
 obtain⟨x0,x1,x2,x3⟩:=Box.c4 X5.out
 have xl:=X5.out.lt
 go_wp2_with fail
 refine bodyPost_ret (v:=coV ⟨op,n,m,[a,y]⟩ (.slice (some ⟨pb,off,none⟩) 2 cap)) (by simp[results,Tryz.results40,go_sem, *]) rfl ?_
 exact⟨_,rfl,HCs.out,((((B5.out.setCell (p:=⟨w.heap.size+1,0,none⟩) (by simp) _).setCell (p:=⟨w.heap.size+1,1,none⟩) (by simp) _).setCell (p:=⟨w.heap.size+1,2,none⟩) (by simp) _).setCell (p:=⟨w.heap.size+1,3,none⟩) (by simp) _)⟩
set_option maxHeartbeats 1000000 in
set_option maxRecDepth 20000 in
theorem b7k (ok:Nat->Prop)(op:Int)(n m:Int)(a y:Co)(v:Value)(w:World)(hk:cst a=true)(h6:¬ a.op=6)(hy6:¬ y.op=6)(hyc:cst y=true)(D:Co)(hw:∀ W,Below w.heap.size w W->Calls Tryz.prog 72 #[coV ⟨op,n,m,[a,y]⟩ v] W fun e w'=>∃ u,e=.returned (coV D u)/\CSP ok w D u/\Below W.heap.size W w')(hop:8<=op/\op<=24/\op≠13)(hs:CSP ok w ⟨op,n,m,[a,y]⟩ v):
 Calls Tryz.prog 40 #[coV ⟨op,n,m,[a,y]⟩ v] w (a0H ok w D):=by
 have HCs:=a0a hs
 obtain⟨pb,off,cap,rfl,k1,k2,lp,hx⟩:=hs.at (by simp)
 dsimp only at hx k1 HCs
 show Calls _ _ #[coV ⟨op,n,m,[a,y]⟩ (.slice (some ⟨pb,off,none⟩) 2 cap)] _ _
 have H6:=a0a h6
 clear h6
 have HCy:=a0a (fun ad cap W=>a0N y ad y.parts.length cap W)
 rw[hyc] at HCy
 clear hyc
 have HW:=a0a hw
 clear hw
 have n28:(op==28)=false:=by simp;omega
 have n25:(op==25)=false:=by simp;omega
 have n26:(op==26)=false:=by simp;omega
 have n27:(op==27)=false:=by simp;omega
 have n13:(op==13)=false:=by simp;omega
 have n7:(op==7)=false:=by simp;omega
 have n32:(op==32)=false:=by simp;omega
 have n30:(op==30)=false:=by simp;omega
 have n31:(op==31)=false:=by simp;omega
 have n29:(op==29)=false:=by simp;omega
 have HOp:=a0a hop
 clear hop
 obtain⟨qa,qn,qf,qc⟩:=hx 0 (by simp)
 simp only[List.getElem_cons_zero,Nat.zero_mul,Nat.add_zero] at qf qc
 obtain⟨ya,yn,yf,yc⟩:=hx 1 (by simp)
 simp only[List.getElem_cons_succ,List.getElem_cons_zero,Nat.one_mul] at yf yc
 have HY:=a0a yc
 have HQ:=a0a qc
 obtain⟨Y0,Y1,Y2⟩:=a0e w 30 30 (coL ⟨op,n,m,[a,y]⟩ (.slice (some ⟨pb,off,none⟩) 2 cap)) [.int .i64 0,.int .i64 0,.int .i64 0,.slice none 0 0]
 obtain⟨x0,x1,x2,x3⟩:=Box.c4 Y0
 have xl:=Y0.lt
 obtain⟨y0,y1,y2,y3⟩:=Box.c4 Y1
 have g0:=Y1.free 0 (by simp)
 have g1:=Y1.free 1 (by simp)
 have g2:=Y1.free 2 (by simp)
 have g3:=Y1.free 3 (by simp)
 have yl:=Y1.lt
 have HY0:=a0a Y0
 have HY1:=a0a Y1
 have B0:=a0a Y2
 have HA2:Hid (∀ o o',Below w.heap.size w ((w.alloc o).alloc o')):=fun o o'=>((Below.refl _ _).alloc (Nat.le_refl _) _).alloc (by simp) _
 obtain⟨q0,q1,q2,q3⟩:=qf.keep (w':=((w.alloc (.cells (coL ⟨op,n,m,[a,y]⟩ (.slice (some ⟨pb,off,none⟩) 2 cap)).toArray 30)).alloc (.cells [.int .i64 0,.int .i64 0,.int .i64 0,.slice none 0 0].toArray 30))) (fun j=>Y2.cell (p:=⟨pb,j,none⟩) lp)
 have lpw:=Nat.lt_of_lt_of_le lp Y2.size
 have HK:=a0a (fun W=>a0N a qa a.parts.length qn W)
 rw[hk] at HK
 have HZ0:=a0a (Box.new ((w.alloc (.cells (coL ⟨op,n,m,[a,y]⟩ (.slice (some ⟨pb,off,none⟩) 2 cap)).toArray 30)).alloc (.cells [.int .i64 0,.int .i64 0,.int .i64 0,.slice none 0 0].toArray 30)) (coL a (.slice qa a.parts.length qn)) 30)
 have HZ:Hid (Box (((w.alloc (.cells (coL ⟨op,n,m,[a,y]⟩ (.slice (some ⟨pb,off,none⟩) 2 cap)).toArray 30)).alloc (.cells [.int .i64 0,.int .i64 0,.int .i64 0,.slice none 0 0].toArray 30)).alloc (.cells (coL a (.slice qa a.parts.length qn)).toArray 30)) (w.heap.size+1+1) (coL a (.slice qa a.parts.length qn))):=a0a (by simpa using HZ0.out)
 have BL:=a0a ((Below.refl ((w.alloc (.cells (coL ⟨op,n,m,[a,y]⟩ (.slice (some ⟨pb,off,none⟩) 2 cap)).toArray 30)).alloc (.cells [.int .i64 0,.int .i64 0,.int .i64 0,.slice none 0 0].toArray 30)).heap.size _).alloc (Nat.le_refl _) (.cells (coL a (.slice qa a.parts.length qn)).toArray 30))
 have B3:=a0a (a0b Y2 BL.out Y2.size)
 have X3:=a0a (Y0.next BL.out)
 have Y3:=a0a (Y1.next BL.out)
 clear hs hx qf qc Y0 Y1 Y2 HZ0 hk yc
 go_enter Tryz.func40,Tryz.ntmps40
 go_wp2_with fail
 refine Calls.mono (HK.out _) ?_
 rintro e w2 ⟨rfl,b2⟩
 have B4:=kb B3 b2
 have X4:=a0a (X3.out.next b2)
 have Y4:=a0a (Y3.out.next b2)
 have Z4:=a0a (HZ.out.next b2)
 clear x0 x1 x2 x3 xl
 clear y0 y1 y2 y3 g0 g1 g2 g3 yl
 clear q0 q1 q2 q3 b2 HK HZ BL B3 X3 Y3 HY0 HY1 B0 lpw
 have n6:(a.op==6)=false:=by simpa using H6.out
 obtain⟨x0,x1,x2,x3⟩:=Box.c4 X4.out
 have xl:=X4.out.lt
 obtain⟨y0,y1,y2,y3⟩:=Box.c4 Y4.out
 have g0:=Y4.out.free 0 (by simp)
 have g1:=Y4.out.free 1 (by simp)
 have g2:=Y4.out.free 2 (by simp)
 have g3:=Y4.out.free 3 (by simp)
 have yl:=Y4.out.lt
 obtain⟨z0,z1,z2,z3⟩:=Box.c4 Z4.out
 have zl:=Z4.out.lt
 obtain⟨t0,t1,t2,t3⟩:=yf.keep (w':=w2) (fun j=>B4.out.cell (p:=⟨pb,j,none⟩) lp)
 have lp4:=Nat.lt_of_lt_of_le lp B4.out.size
 have HA5:=a0a (fun o=>B4.out.alloc B4.out.size o)
 have XA5:=a0a (fun o=>X4.out.next ((Below.refl _ _).alloc (Nat.le_refl _) o))
 have YA5:=a0a (fun o=>Y4.out.next ((Below.refl _ _).alloc (Nat.le_refl _) o))
 have m6:(y.op==6)=false:=by simpa using hy6
 go_wp2_with fail
 refine Calls.mono (HCy.out _ _ _) ?_
 rintro e w3 ⟨rfl,b3⟩
 have Y5:=a0a ((YA5.out _).next b3)
 have X5:=a0a ((XA5.out _).next b3)
 have B5:=a0a (a0b (HA5.out _) b3 (HA5.out _).size)
 clear x0 x1 x2 x3 xl
 clear y0 y1 y2 y3 g0 g1 g2 g3 yl
 clear z0 z1 z2 z3 zl b3 t0 t1 t2 t3 XA5 YA5
 obtain⟨x0,x1,x2,x3⟩:=Box.c4 X5.out
 have xl:=X5.out.lt
 go_wp2_with fail
 refine Calls.mono (HW.out _ B5.out) ?_
 rintro e w6 ⟨u,rfl,hu,b6⟩
 obtain⟨ua,uc,rfl,-,-⟩:=hu.parts.shape
 have HU:=a0a hu
 have Y6:=Y5.out.next b6
 have B6:=kb B5 b6
 clear hu b6 x0 x1 x2 x3 xl
 obtain⟨y0,y1,y2,y3⟩:=Box.c4 Y6
 have g0:=Y6.free 0 (by simp)
 have g1:=Y6.free 1 (by simp)
 have g2:=Y6.free 2 (by simp)
 have g3:=Y6.free 3 (by simp)
 have yl:=Y6.lt
 clear Y6
 go_wp2_with fail
 refine bodyPost_ret (v:=coV D (.slice ua D.parts.length uc)) (by simp[results,Tryz.results40,go_sem, *]) rfl ?_
 exact⟨_,rfl,HU.out,((((B6.out.setCell (p:=⟨w.heap.size+1,0,none⟩) (by simp) _).setCell (p:=⟨w.heap.size+1,1,none⟩) (by simp) _).setCell (p:=⟨w.heap.size+1,2,none⟩) (by simp) _).setCell (p:=⟨w.heap.size+1,3,none⟩) (by simp) _)⟩
end Go.Proofs.YtkbmgloilckdhaaGreatDoor
