import Derived.Test.YtkbmgloilckdhaaGreatDoorMpA
namespace Go.Proofs.YtkbmgloilckdhaaGreatDoor
open Go.RowKit
set_option maxHeartbeats 16000000 in
set_option maxRecDepth 20000 in
theorem b7i (ok:Nat->Prop)(op:Int)(kc fc:Bool)(n m:Int)(a:Co)(r:List Co)(v:Value)(w:World)(hc:(op=32/\kc=false/\fc=true)\/(op=32/\kc=false/\fc=false))(hk:cst a=kc)(h6:(a.op==6)=fc)  (hs:CSP ok w ⟨op,n,m,a::r⟩ v):
 Calls Tryz.prog 40 #[coV ⟨op,n,m,a::r⟩ v] w (a0H ok w ⟨op,n,m,a::r⟩):=by
 have HCs:=a0a hs
 obtain⟨pb,off,cap,rfl,k1,k2,lp,hx⟩:=hs.at (by simp)
 dsimp only at hx k1 HCs
 show Calls _ _ #[coV ⟨op,n,m,a::r⟩ (.slice (some ⟨pb,off,none⟩) (a::r).length cap)] _ _
 have H6:=a0a h6
 clear h6
 obtain⟨qa,qn,qf,qc⟩:=hx 0 (by simp)
 simp only[List.getElem_cons_zero,Nat.zero_mul,Nat.add_zero] at qf qc
 have HQ:=a0a qc
 obtain⟨Y0,Y1,Y2⟩:=a0e w 30 30 (coL ⟨op,n,m,a::r⟩ (.slice (some ⟨pb,off,none⟩) (a::r).length cap)) [.int .i64 0,.int .i64 0,.int .i64 0,.slice none 0 0]
 obtain⟨x0,x1,x2,x3⟩:=Box.c4 Y0
 have xl:=Y0.lt
 obtain⟨y0,y1,y2,y3⟩:=Box.c4 Y1
 have g0:=Y1.free 0 (by simp)
 have g1:=Y1.free 1 (by simp)
 have g2:=Y1.free 2 (by simp)
 have g3:=Y1.free 3 (by simp)
 have yl:=Y1.lt
 have HY0:=a0a Y0
 have HY1:=a0a Y1
 have B0:=a0a Y2
 have HA2:Hid (∀ o o',Below w.heap.size w ((w.alloc o).alloc o')):=fun o o'=>((Below.refl _ _).alloc (Nat.le_refl _) _).alloc (by simp) _
 obtain⟨q0,q1,q2,q3⟩:=qf.keep (w':=((w.alloc (.cells (coL ⟨op,n,m,a::r⟩ (.slice (some ⟨pb,off,none⟩) (a::r).length cap)).toArray 30)).alloc (.cells [.int .i64 0,.int .i64 0,.int .i64 0,.slice none 0 0].toArray 30))) (fun j=>Y2.cell (p:=⟨pb,j,none⟩) lp)
 have lpw:=Nat.lt_of_lt_of_le lp Y2.size
 have HK:=a0a (fun W=>a0N a qa a.parts.length qn W)
 rw[hk] at HK
 have HZ0:=a0a (Box.new ((w.alloc (.cells (coL ⟨op,n,m,a::r⟩ (.slice (some ⟨pb,off,none⟩) (a::r).length cap)).toArray 30)).alloc (.cells [.int .i64 0,.int .i64 0,.int .i64 0,.slice none 0 0].toArray 30)) (coL a (.slice qa a.parts.length qn)) 30)
 have HZ:Hid (Box (((w.alloc (.cells (coL ⟨op,n,m,a::r⟩ (.slice (some ⟨pb,off,none⟩) (a::r).length cap)).toArray 30)).alloc (.cells [.int .i64 0,.int .i64 0,.int .i64 0,.slice none 0 0].toArray 30)).alloc (.cells (coL a (.slice qa a.parts.length qn)).toArray 30)) (w.heap.size+1+1) (coL a (.slice qa a.parts.length qn))):=a0a (by simpa using HZ0.out)
 have BL:=a0a ((Below.refl ((w.alloc (.cells (coL ⟨op,n,m,a::r⟩ (.slice (some ⟨pb,off,none⟩) (a::r).length cap)).toArray 30)).alloc (.cells [.int .i64 0,.int .i64 0,.int .i64 0,.slice none 0 0].toArray 30)).heap.size _).alloc (Nat.le_refl _) (.cells (coL a (.slice qa a.parts.length qn)).toArray 30))
 have B3:=a0a (a0b Y2 BL.out Y2.size)
 have X3:=a0a (Y0.next BL.out)
 have Y3:=a0a (Y1.next BL.out)
 clear hs hx qf qc Y0 Y1 Y2 HZ0 hk
 have hL0:0<(a::r).length:=by simp
 generalize (a::r).length=L at *
 obtain⟨V,hV⟩:∃ V,Hid (V=coV ⟨op,n,m,a::r⟩ (.slice (some ⟨pb,off,none⟩) L cap)):=⟨_,a0a rfl⟩
 rcases hc with ⟨rfl,rfl,rfl⟩ | ⟨rfl,rfl,rfl⟩
 all_goals as_aux_lemma=>
  go_enter Tryz.func40,Tryz.ntmps40
  go_wp2_with fail
  refine Calls.mono (HK.out _) ?_
  rintro e w2 ⟨rfl,b2⟩
  have B4:=kb B3 b2
  have X4:=a0a (X3.out.next b2)
  have Y4:=a0a (Y3.out.next b2)
  have Z4:=a0a (HZ.out.next b2)
  clear x0 x1 x2 x3 xl
  clear y0 y1 y2 y3 g0 g1 g2 g3 yl
  clear q0 q1 q2 q3 b2 HK HZ BL B3 X3 Y3 HY0 HY1 B0 lpw
  have n6:=H6.out
  obtain⟨x0,x1,x2,x3⟩:=Box.c4 X4.out
  have xl:=X4.out.lt
  obtain⟨y0,y1,y2,y3⟩:=Box.c4 Y4.out
  have g0:=Y4.out.free 0 (by simp)
  have g1:=Y4.out.free 1 (by simp)
  have g2:=Y4.out.free 2 (by simp)
  have g3:=Y4.out.free 3 (by simp)
  have yl:=Y4.out.lt
  obtain⟨z0,z1,z2,z3⟩:=Box.c4 Z4.out
  have zl:=Z4.out.lt
  go_wp2_with fail
  refine bodyPost_ret (v:=V) (by rw[hV.out];simp[results,Tryz.results40,go_sem, *]) rfl ?_
  exact⟨_,congrArg Ending.returned hV.out,HCs.out,((((B4.out.setCell (p:=⟨w.heap.size+1,0,none⟩) (by simp) _).setCell (p:=⟨w.heap.size+1,1,none⟩) (by simp) _).setCell (p:=⟨w.heap.size+1,2,none⟩) (by simp) _).setCell (p:=⟨w.heap.size+1,3,none⟩) (by simp) _)⟩
theorem b7o (ok:Nat->Prop)(n m:Int)(a:Co)(r:List Co)(v:Value)(w:World)(hk:cst a=false)(h6:a.op=6)(hs:CSP ok w ⟨32,n,m,a::r⟩ v):Calls Tryz.prog 40 #[coV ⟨32,n,m,a::r⟩ v] w (a0H ok w ⟨32,n,m,a::r⟩):=b7i ok 32 false true n m a r v w (by simp) hk (by simpa using h6) hs
theorem b7m (ok:Nat->Prop)(n m:Int)(a:Co)(r:List Co)(v:Value)(w:World)(hk:cst a=false)(h6:¬ a.op=6)(hs:CSP ok w ⟨32,n,m,a::r⟩ v):Calls Tryz.prog 40 #[coV ⟨32,n,m,a::r⟩ v] w (a0H ok w ⟨32,n,m,a::r⟩):=b7i ok 32 false false n m a r v w (by simp) hk (by simpa using h6) hs
set_option maxHeartbeats 1000000 in
set_option maxRecDepth 20000 in
theorem b7n (ok:Nat->Prop)(n m:Int)(a:Co)(r:List Co)(v:Value)(w:World)(hk:cst a=true)(h6:¬ a.op=6)(D:Co)(hw:∀ W,Below w.heap.size w W->Calls Tryz.prog 70 #[coV ⟨32,n,m,a::r⟩ v] W fun e w'=>∃ u,e=.returned (coV D u)/\CSP ok w D u/\Below W.heap.size W w')(hs:CSP ok w ⟨32,n,m,a::r⟩ v):
 Calls Tryz.prog 40 #[coV ⟨32,n,m,a::r⟩ v] w (a0H ok w D):=by
 have HCs:=a0a hs
 obtain⟨pb,off,cap,rfl,k1,k2,lp,hx⟩:=hs.at (by simp)
 dsimp only at hx k1 HCs
 show Calls _ _ #[coV ⟨32,n,m,a::r⟩ (.slice (some ⟨pb,off,none⟩) (a::r).length cap)] _ _
 have H6:=a0a h6
 clear h6
 have HW:=a0a hw
 clear hw
 obtain⟨qa,qn,qf,qc⟩:=hx 0 (by simp)
 simp only[List.getElem_cons_zero,Nat.zero_mul,Nat.add_zero] at qf qc
 have HQ:=a0a qc
 obtain⟨Y0,Y1,Y2⟩:=a0e w 30 30 (coL ⟨32,n,m,a::r⟩ (.slice (some ⟨pb,off,none⟩) (a::r).length cap)) [.int .i64 0,.int .i64 0,.int .i64 0,.slice none 0 0]
 obtain⟨x0,x1,x2,x3⟩:=Box.c4 Y0
 have xl:=Y0.lt
 obtain⟨y0,y1,y2,y3⟩:=Box.c4 Y1
 have g0:=Y1.free 0 (by simp)
 have g1:=Y1.free 1 (by simp)
 have g2:=Y1.free 2 (by simp)
 have g3:=Y1.free 3 (by simp)
 have yl:=Y1.lt
 have HY0:=a0a Y0
 have HY1:=a0a Y1
 have B0:=a0a Y2
 have HA2:Hid (∀ o o',Below w.heap.size w ((w.alloc o).alloc o')):=fun o o'=>((Below.refl _ _).alloc (Nat.le_refl _) _).alloc (by simp) _
 obtain⟨q0,q1,q2,q3⟩:=qf.keep (w':=((w.alloc (.cells (coL ⟨32,n,m,a::r⟩ (.slice (some ⟨pb,off,none⟩) (a::r).length cap)).toArray 30)).alloc (.cells [.int .i64 0,.int .i64 0,.int .i64 0,.slice none 0 0].toArray 30))) (fun j=>Y2.cell (p:=⟨pb,j,none⟩) lp)
 have lpw:=Nat.lt_of_lt_of_le lp Y2.size
 have HK:=a0a (fun W=>a0N a qa a.parts.length qn W)
 rw[hk] at HK
 have HZ0:=a0a (Box.new ((w.alloc (.cells (coL ⟨32,n,m,a::r⟩ (.slice (some ⟨pb,off,none⟩) (a::r).length cap)).toArray 30)).alloc (.cells [.int .i64 0,.int .i64 0,.int .i64 0,.slice none 0 0].toArray 30)) (coL a (.slice qa a.parts.length qn)) 30)
 have HZ:Hid (Box (((w.alloc (.cells (coL ⟨32,n,m,a::r⟩ (.slice (some ⟨pb,off,none⟩) (a::r).length cap)).toArray 30)).alloc (.cells [.int .i64 0,.int .i64 0,.int .i64 0,.slice none 0 0].toArray 30)).alloc (.cells (coL a (.slice qa a.parts.length qn)).toArray 30)) (w.heap.size+1+1) (coL a (.slice qa a.parts.length qn))):=a0a (by simpa using HZ0.out)
 have BL:=a0a ((Below.refl ((w.alloc (.cells (coL ⟨32,n,m,a::r⟩ (.slice (some ⟨pb,off,none⟩) (a::r).length cap)).toArray 30)).alloc (.cells [.int .i64 0,.int .i64 0,.int .i64 0,.slice none 0 0].toArray 30)).heap.size _).alloc (Nat.le_refl _) (.cells (coL a (.slice qa a.parts.length qn)).toArray 30))
 have B3:=a0a (a0b Y2 BL.out Y2.size)
 have X3:=a0a (Y0.next BL.out)
 have Y3:=a0a (Y1.next BL.out)
 clear hs hx qf qc Y0 Y1 Y2 HZ0 hk
 have hL0:0<(a::r).length:=by simp
 generalize (a::r).length=L at *
 go_enter Tryz.func40,Tryz.ntmps40
 go_wp2_with fail
 refine Calls.mono (HK.out _) ?_
 rintro e w2 ⟨rfl,b2⟩
 have B4:=kb B3 b2
 have X4:=a0a (X3.out.next b2)
 have Y4:=a0a (Y3.out.next b2)
 have Z4:=a0a (HZ.out.next b2)
 clear x0 x1 x2 x3 xl
 clear y0 y1 y2 y3 g0 g1 g2 g3 yl
 clear q0 q1 q2 q3 b2 HK HZ BL B3 X3 Y3 HY0 HY1 B0 lpw
 have n6:(a.op==6)=false:=by simpa using H6.out
 obtain⟨x0,x1,x2,x3⟩:=Box.c4 X4.out
 have xl:=X4.out.lt
 obtain⟨y0,y1,y2,y3⟩:=Box.c4 Y4.out
 have g0:=Y4.out.free 0 (by simp)
 have g1:=Y4.out.free 1 (by simp)
 have g2:=Y4.out.free 2 (by simp)
 have g3:=Y4.out.free 3 (by simp)
 have yl:=Y4.out.lt
 obtain⟨z0,z1,z2,z3⟩:=Box.c4 Z4.out
 have zl:=Z4.out.lt
 go_wp2_with fail
 refine Calls.mono (HW.out _ B4.out) ?_
 rintro e w3 ⟨u,rfl,hu,b3⟩
 obtain⟨ua,uc,rfl,-,-⟩:=hu.parts.shape
 have HU:=a0a hu
 clear hu
 have Y5:=Y4.out.next b3
 have B5:=kb B4 b3
 clear x0 x1 x2 x3 xl
 clear y0 y1 y2 y3 g0 g1 g2 g3 yl
 clear z0 z1 z2 z3 zl b3
 obtain⟨y0,y1,y2,y3⟩:=Box.c4 Y5
 have g0:=Y5.free 0 (by simp)
 have g1:=Y5.free 1 (by simp)
 have g2:=Y5.free 2 (by simp)
 have g3:=Y5.free 3 (by simp)
 have yl:=Y5.lt
 clear Y5
 go_wp2_with fail
 refine bodyPost_ret (v:=coV D (.slice ua D.parts.length uc)) (by simp[results,Tryz.results40,go_sem, *]) rfl ?_
 exact⟨_,rfl,HU.out,((((B5.out.setCell (p:=⟨w.heap.size+1,0,none⟩) (by simp) _).setCell (p:=⟨w.heap.size+1,1,none⟩) (by simp) _).setCell (p:=⟨w.heap.size+1,2,none⟩) (by simp) _).setCell (p:=⟨w.heap.size+1,3,none⟩) (by simp) _)⟩
set_option maxHeartbeats 16000000 in
set_option maxRecDepth 20000 in
theorem b6X (ok:Nat->Prop)(op:Int)(kc fc:Bool)(n m:Int)(a y:Co)(v:Value)(w:World)(hc:(op=25/\kc=true/\fc=false)\/(op=25/\kc=false/\fc=true)\/(op=25/\kc=false/\fc=false)\/(op=26/\kc=true/\fc=false)\/(op=26/\kc=false/\fc=true)\/(op=26/\kc=false/\fc=false))(hk:cst a=kc)(h6:(a.op==6)=fc)(D:Co)(hw:∀ W,Below w.heap.size w W->Calls Tryz.prog 69 #[coV ⟨op,n,m,[a,y]⟩ v,.bool kc,.bool fc,.bool (a.n==1)] W fun e w'=>∃ u,e=.returned (coV D u)/\CSP ok w D u/\Below W.heap.size W w')(hs:CSP ok w ⟨op,n,m,[a,y]⟩ v):
 Calls Tryz.prog 40 #[coV ⟨op,n,m,[a,y]⟩ v] w (a0H ok w D):=by
 have HCs:=a0a hs
 obtain⟨pb,off,cap,rfl,k1,k2,lp,hx⟩:=hs.at (by simp)
 dsimp only at hx k1 HCs
 show Calls _ _ #[coV ⟨op,n,m,[a,y]⟩ (.slice (some ⟨pb,off,none⟩) 2 cap)] _ _
 have H6:=a0a h6
 clear h6
 have HW:=a0a hw
 clear hw
 obtain⟨qa,qn,qf,qc⟩:=hx 0 (by simp)
 simp only[List.getElem_cons_zero,Nat.zero_mul,Nat.add_zero] at qf qc
 have HQ:=a0a qc
 obtain⟨Y0,Y1,Y2⟩:=a0e w 30 30 (coL ⟨op,n,m,[a,y]⟩ (.slice (some ⟨pb,off,none⟩) 2 cap)) [.int .i64 0,.int .i64 0,.int .i64 0,.slice none 0 0]
 obtain⟨x0,x1,x2,x3⟩:=Box.c4 Y0
 have xl:=Y0.lt
 obtain⟨y0,y1,y2,y3⟩:=Box.c4 Y1
 have g0:=Y1.free 0 (by simp)
 have g1:=Y1.free 1 (by simp)
 have g2:=Y1.free 2 (by simp)
 have g3:=Y1.free 3 (by simp)
 have yl:=Y1.lt
 have HY0:=a0a Y0
 have HY1:=a0a Y1
 have B0:=a0a Y2
 have HA2:Hid (∀ o o',Below w.heap.size w ((w.alloc o).alloc o')):=fun o o'=>((Below.refl _ _).alloc (Nat.le_refl _) _).alloc (by simp) _
 obtain⟨q0,q1,q2,q3⟩:=qf.keep (w':=((w.alloc (.cells (coL ⟨op,n,m,[a,y]⟩ (.slice (some ⟨pb,off,none⟩) 2 cap)).toArray 30)).alloc (.cells [.int .i64 0,.int .i64 0,.int .i64 0,.slice none 0 0].toArray 30))) (fun j=>Y2.cell (p:=⟨pb,j,none⟩) lp)
 have lpw:=Nat.lt_of_lt_of_le lp Y2.size
 have HK:=a0a (fun W=>a0N a qa a.parts.length qn W)
 rw[hk] at HK
 have HZ0:=a0a (Box.new ((w.alloc (.cells (coL ⟨op,n,m,[a,y]⟩ (.slice (some ⟨pb,off,none⟩) 2 cap)).toArray 30)).alloc (.cells [.int .i64 0,.int .i64 0,.int .i64 0,.slice none 0 0].toArray 30)) (coL a (.slice qa a.parts.length qn)) 30)
 have HZ:Hid (Box (((w.alloc (.cells (coL ⟨op,n,m,[a,y]⟩ (.slice (some ⟨pb,off,none⟩) 2 cap)).toArray 30)).alloc (.cells [.int .i64 0,.int .i64 0,.int .i64 0,.slice none 0 0].toArray 30)).alloc (.cells (coL a (.slice qa a.parts.length qn)).toArray 30)) (w.heap.size+1+1) (coL a (.slice qa a.parts.length qn))):=a0a (by simpa using HZ0.out)
 have BL:=a0a ((Below.refl ((w.alloc (.cells (coL ⟨op,n,m,[a,y]⟩ (.slice (some ⟨pb,off,none⟩) 2 cap)).toArray 30)).alloc (.cells [.int .i64 0,.int .i64 0,.int .i64 0,.slice none 0 0].toArray 30)).heap.size _).alloc (Nat.le_refl _) (.cells (coL a (.slice qa a.parts.length qn)).toArray 30))
 have B3:=a0a (a0b Y2 BL.out Y2.size)
 have X3:=a0a (Y0.next BL.out)
 have Y3:=a0a (Y1.next BL.out)
 clear hs hx qf qc Y0 Y1 Y2 HZ0 hk
 rcases hc with ⟨rfl,rfl,rfl⟩ | ⟨rfl,rfl,rfl⟩ | ⟨rfl,rfl,rfl⟩ | ⟨rfl,rfl,rfl⟩ | ⟨rfl,rfl,rfl⟩ | ⟨rfl,rfl,rfl⟩
 all_goals as_aux_lemma=>
  go_enter Tryz.func40,Tryz.ntmps40
  go_wp2_with fail
  refine Calls.mono (HK.out _) ?_
  rintro e w2 ⟨rfl,b2⟩
  have B4:=kb B3 b2
  have X4:=a0a (X3.out.next b2)
  have Y4:=a0a (Y3.out.next b2)
  have Z4:=a0a (HZ.out.next b2)
  clear x0 x1 x2 x3 xl
  clear y0 y1 y2 y3 g0 g1 g2 g3 yl
  clear q0 q1 q2 q3 b2 HK HZ BL B3 X3 Y3 HY0 HY1 B0 lpw
  have n6:=H6.out
  obtain⟨x0,x1,x2,x3⟩:=Box.c4 X4.out
  have xl:=X4.out.lt
  obtain⟨y0,y1,y2,y3⟩:=Box.c4 Y4.out
  have g0:=Y4.out.free 0 (by simp)
  have g1:=Y4.out.free 1 (by simp)
  have g2:=Y4.out.free 2 (by simp)
  have g3:=Y4.out.free 3 (by simp)
  have yl:=Y4.out.lt
  obtain⟨z0,z1,z2,z3⟩:=Box.c4 Z4.out
  have zl:=Z4.out.lt
  go_wp2_with fail
  refine Calls.mono (HW.out _ B4.out) ?_
  rintro e w3 ⟨u,rfl,hu,b3⟩
  obtain⟨ua,uc,rfl,-,-⟩:=hu.parts.shape
  have HU:=a0a hu
  clear hu
  have Y5:=Y4.out.next b3
  have B5:=kb B4 b3
  clear x0 x1 x2 x3 xl
  clear y0 y1 y2 y3 g0 g1 g2 g3 yl
  clear z0 z1 z2 z3 zl b3
  obtain⟨y0,y1,y2,y3⟩:=Box.c4 Y5
  have g0:=Y5.free 0 (by simp)
  have g1:=Y5.free 1 (by simp)
  have g2:=Y5.free 2 (by simp)
  have g3:=Y5.free 3 (by simp)
  have yl:=Y5.lt
  clear Y5
  go_wp2_with fail
  refine bodyPost_ret (v:=coV D (.slice ua D.parts.length uc)) (by simp[results,Tryz.results40,go_sem, *]) rfl ?_
  exact⟨_,rfl,HU.out,((((B5.out.setCell (p:=⟨w.heap.size+1,0,none⟩) (by simp) _).setCell (p:=⟨w.heap.size+1,1,none⟩) (by simp) _).setCell (p:=⟨w.heap.size+1,2,none⟩) (by simp) _).setCell (p:=⟨w.heap.size+1,3,none⟩) (by simp) _)⟩
theorem b0j (ok:Nat->Prop)(n m:Int)(a y:Co)(v:Value)(w:World)(hk:cst a=true)(h6:¬ a.op=6)(D:Co)(hw:∀ W,Below w.heap.size w W->Calls Tryz.prog 69 #[coV ⟨25,n,m,[a,y]⟩ v,.bool true,.bool false,.bool (a.n==1)] W fun e w'=>∃ u,e=.returned (coV D u)/\CSP ok w D u/\Below W.heap.size W w')(hs:CSP ok w ⟨25,n,m,[a,y]⟩ v):Calls Tryz.prog 40 #[coV ⟨25,n,m,[a,y]⟩ v] w (a0H ok w D):=b6X ok 25 true false n m a y v w (by simp) hk (by simpa using h6) D hw hs
theorem b5q (ok:Nat->Prop)(n m:Int)(a y:Co)(v:Value)(w:World)(hk:cst a=false)(h6:a.op=6)(D:Co)(hw:∀ W,Below w.heap.size w W->Calls Tryz.prog 69 #[coV ⟨25,n,m,[a,y]⟩ v,.bool false,.bool true,.bool (a.n==1)] W fun e w'=>∃ u,e=.returned (coV D u)/\CSP ok w D u/\Below W.heap.size W w')(hs:CSP ok w ⟨25,n,m,[a,y]⟩ v):Calls Tryz.prog 40 #[coV ⟨25,n,m,[a,y]⟩ v] w (a0H ok w D):=b6X ok 25 false true n m a y v w (by simp) hk (by simpa using h6) D hw hs
theorem b5r (ok:Nat->Prop)(n m:Int)(a y:Co)(v:Value)(w:World)(hk:cst a=false)(h6:¬ a.op=6)(D:Co)(hw:∀ W,Below w.heap.size w W->Calls Tryz.prog 69 #[coV ⟨25,n,m,[a,y]⟩ v,.bool false,.bool false,.bool (a.n==1)] W fun e w'=>∃ u,e=.returned (coV D u)/\CSP ok w D u/\Below W.heap.size W w')(hs:CSP ok w ⟨25,n,m,[a,y]⟩ v):Calls Tryz.prog 40 #[coV ⟨25,n,m,[a,y]⟩ v] w (a0H ok w D):=b6X ok 25 false false n m a y v w (by simp) hk (by simpa using h6) D hw hs
theorem b0i (ok:Nat->Prop)(n m:Int)(a y:Co)(v:Value)(w:World)(hk:cst a=true)(h6:¬ a.op=6)(D:Co)(hw:∀ W,Below w.heap.size w W->Calls Tryz.prog 69 #[coV ⟨26,n,m,[a,y]⟩ v,.bool true,.bool false,.bool (a.n==1)] W fun e w'=>∃ u,e=.returned (coV D u)/\CSP ok w D u/\Below W.heap.size W w')(hs:CSP ok w ⟨26,n,m,[a,y]⟩ v):Calls Tryz.prog 40 #[coV ⟨26,n,m,[a,y]⟩ v] w (a0H ok w D):=b6X ok 26 true false n m a y v w (by simp) hk (by simpa using h6) D hw hs
theorem b5o (ok:Nat->Prop)(n m:Int)(a y:Co)(v:Value)(w:World)(hk:cst a=false)(h6:a.op=6)(D:Co)(hw:∀ W,Below w.heap.size w W->Calls Tryz.prog 69 #[coV ⟨26,n,m,[a,y]⟩ v,.bool false,.bool true,.bool (a.n==1)] W fun e w'=>∃ u,e=.returned (coV D u)/\CSP ok w D u/\Below W.heap.size W w')(hs:CSP ok w ⟨26,n,m,[a,y]⟩ v):Calls Tryz.prog 40 #[coV ⟨26,n,m,[a,y]⟩ v] w (a0H ok w D):=b6X ok 26 false true n m a y v w (by simp) hk (by simpa using h6) D hw hs
theorem b5p (ok:Nat->Prop)(n m:Int)(a y:Co)(v:Value)(w:World)(hk:cst a=false)(h6:¬ a.op=6)(D:Co)(hw:∀ W,Below w.heap.size w W->Calls Tryz.prog 69 #[coV ⟨26,n,m,[a,y]⟩ v,.bool false,.bool false,.bool (a.n==1)] W fun e w'=>∃ u,e=.returned (coV D u)/\CSP ok w D u/\Below W.heap.size W w')(hs:CSP ok w ⟨26,n,m,[a,y]⟩ v):Calls Tryz.prog 40 #[coV ⟨26,n,m,[a,y]⟩ v] w (a0H ok w D):=b6X ok 26 false false n m a y v w (by simp) hk (by simpa using h6) D hw hs
set_option maxHeartbeats 16000000 in
set_option maxRecDepth 20000 in
theorem b8D (ok:Nat->Prop)(op:Int)(kc fc:Bool)(n m:Int)(a y z:Co)(v:Value)(w:World)(hc:(op=28/\kc=true/\fc=false)\/(op=28/\kc=false/\fc=true)\/(op=28/\kc=false/\fc=false))(hk:cst a=kc)(h6:(a.op==6)=fc)(D:Co)(hw:∀ W,Below w.heap.size w W->Calls Tryz.prog 69 #[coV ⟨op,n,m,[a,y,z]⟩ v,.bool kc,.bool fc,.bool (a.n==1)] W fun e w'=>∃ u,e=.returned (coV D u)/\CSP ok w D u/\Below W.heap.size W w')(hs:CSP ok w ⟨op,n,m,[a,y,z]⟩ v):
 Calls Tryz.prog 40 #[coV ⟨op,n,m,[a,y,z]⟩ v] w (a0H ok w D):=by
 have HCs:=a0a hs
 obtain⟨pb,off,cap,rfl,k1,k2,lp,hx⟩:=hs.at (by simp)
 dsimp only at hx k1 HCs
 show Calls _ _ #[coV ⟨op,n,m,[a,y,z]⟩ (.slice (some ⟨pb,off,none⟩) 3 cap)] _ _
 have H6:=a0a h6
 clear h6
 have HW:=a0a hw
 clear hw
 obtain⟨qa,qn,qf,qc⟩:=hx 0 (by simp)
 simp only[List.getElem_cons_zero,Nat.zero_mul,Nat.add_zero] at qf qc
 have HQ:=a0a qc
 obtain⟨Y0,Y1,Y2⟩:=a0e w 30 30 (coL ⟨op,n,m,[a,y,z]⟩ (.slice (some ⟨pb,off,none⟩) 3 cap)) [.int .i64 0,.int .i64 0,.int .i64 0,.slice none 0 0]
 obtain⟨x0,x1,x2,x3⟩:=Box.c4 Y0
 have xl:=Y0.lt
 obtain⟨y0,y1,y2,y3⟩:=Box.c4 Y1
 have g0:=Y1.free 0 (by simp)
 have g1:=Y1.free 1 (by simp)
 have g2:=Y1.free 2 (by simp)
 have g3:=Y1.free 3 (by simp)
 have yl:=Y1.lt
 have HY0:=a0a Y0
 have HY1:=a0a Y1
 have B0:=a0a Y2
 have HA2:Hid (∀ o o',Below w.heap.size w ((w.alloc o).alloc o')):=fun o o'=>((Below.refl _ _).alloc (Nat.le_refl _) _).alloc (by simp) _
 obtain⟨q0,q1,q2,q3⟩:=qf.keep (w':=((w.alloc (.cells (coL ⟨op,n,m,[a,y,z]⟩ (.slice (some ⟨pb,off,none⟩) 3 cap)).toArray 30)).alloc (.cells [.int .i64 0,.int .i64 0,.int .i64 0,.slice none 0 0].toArray 30))) (fun j=>Y2.cell (p:=⟨pb,j,none⟩) lp)
 have lpw:=Nat.lt_of_lt_of_le lp Y2.size
 have HK:=a0a (fun W=>a0N a qa a.parts.length qn W)
 rw[hk] at HK
 have HZ0:=a0a (Box.new ((w.alloc (.cells (coL ⟨op,n,m,[a,y,z]⟩ (.slice (some ⟨pb,off,none⟩) 3 cap)).toArray 30)).alloc (.cells [.int .i64 0,.int .i64 0,.int .i64 0,.slice none 0 0].toArray 30)) (coL a (.slice qa a.parts.length qn)) 30)
 have HZ:Hid (Box (((w.alloc (.cells (coL ⟨op,n,m,[a,y,z]⟩ (.slice (some ⟨pb,off,none⟩) 3 cap)).toArray 30)).alloc (.cells [.int .i64 0,.int .i64 0,.int .i64 0,.slice none 0 0].toArray 30)).alloc (.cells (coL a (.slice qa a.parts.length qn)).toArray 30)) (w.heap.size+1+1) (coL a (.slice qa a.parts.length qn))):=a0a (by simpa using HZ0.out)
 have BL:=a0a ((Below.refl ((w.alloc (.cells (coL ⟨op,n,m,[a,y,z]⟩ (.slice (some ⟨pb,off,none⟩) 3 cap)).toArray 30)).alloc (.cells [.int .i64 0,.int .i64 0,.int .i64 0,.slice none 0 0].toArray 30)).heap.size _).alloc (Nat.le_refl _) (.cells (coL a (.slice qa a.parts.length qn)).toArray 30))
 have B3:=a0a (a0b Y2 BL.out Y2.size)
 have X3:=a0a (Y0.next BL.out)
 have Y3:=a0a (Y1.next BL.out)
 clear hs hx qf qc Y0 Y1 Y2 HZ0 hk
 rcases hc with ⟨rfl,rfl,rfl⟩ | ⟨rfl,rfl,rfl⟩ | ⟨rfl,rfl,rfl⟩
 all_goals as_aux_lemma=>
  go_enter Tryz.func40,Tryz.ntmps40
  go_wp2_with fail
  refine Calls.mono (HK.out _) ?_
  rintro e w2 ⟨rfl,b2⟩
  have B4:=kb B3 b2
  have X4:=a0a (X3.out.next b2)
  have Y4:=a0a (Y3.out.next b2)
  have Z4:=a0a (HZ.out.next b2)
  clear x0 x1 x2 x3 xl
  clear y0 y1 y2 y3 g0 g1 g2 g3 yl
  clear q0 q1 q2 q3 b2 HK HZ BL B3 X3 Y3 HY0 HY1 B0 lpw
  have n6:=H6.out
  obtain⟨x0,x1,x2,x3⟩:=Box.c4 X4.out
  have xl:=X4.out.lt
  obtain⟨y0,y1,y2,y3⟩:=Box.c4 Y4.out
  have g0:=Y4.out.free 0 (by simp)
  have g1:=Y4.out.free 1 (by simp)
  have g2:=Y4.out.free 2 (by simp)
  have g3:=Y4.out.free 3 (by simp)
  have yl:=Y4.out.lt
  obtain⟨z0,z1,z2,z3⟩:=Box.c4 Z4.out
  have zl:=Z4.out.lt
  go_wp2_with fail
  refine Calls.mono (HW.out _ B4.out) ?_
  rintro e w3 ⟨u,rfl,hu,b3⟩
  obtain⟨ua,uc,rfl,-,-⟩:=hu.parts.shape
  have HU:=a0a hu
  clear hu
  have Y5:=Y4.out.next b3
  have B5:=kb B4 b3
  clear x0 x1 x2 x3 xl
  clear y0 y1 y2 y3 g0 g1 g2 g3 yl
  clear z0 z1 z2 z3 zl b3
  obtain⟨y0,y1,y2,y3⟩:=Box.c4 Y5
  have g0:=Y5.free 0 (by simp)
  have g1:=Y5.free 1 (by simp)
  have g2:=Y5.free 2 (by simp)
  have g3:=Y5.free 3 (by simp)
  have yl:=Y5.lt
  clear Y5
  go_wp2_with fail
  refine bodyPost_ret (v:=coV D (.slice ua D.parts.length uc)) (by simp[results,Tryz.results40,go_sem, *]) rfl ?_
  exact⟨_,rfl,HU.out,((((B5.out.setCell (p:=⟨w.heap.size+1,0,none⟩) (by simp) _).setCell (p:=⟨w.heap.size+1,1,none⟩) (by simp) _).setCell (p:=⟨w.heap.size+1,2,none⟩) (by simp) _).setCell (p:=⟨w.heap.size+1,3,none⟩) (by simp) _)⟩
theorem b0h (ok:Nat->Prop)(n m:Int)(a y z:Co)(v:Value)(w:World)(hk:cst a=true)(h6:¬ a.op=6)(D:Co)(hw:∀ W,Below w.heap.size w W->Calls Tryz.prog 69 #[coV ⟨28,n,m,[a,y,z]⟩ v,.bool true,.bool false,.bool (a.n==1)] W fun e w'=>∃ u,e=.returned (coV D u)/\CSP ok w D u/\Below W.heap.size W w')(hs:CSP ok w ⟨28,n,m,[a,y,z]⟩ v):Calls Tryz.prog 40 #[coV ⟨28,n,m,[a,y,z]⟩ v] w (a0H ok w D):=b8D ok 28 true false n m a y z v w (by simp) hk (by simpa using h6) D hw hs
theorem b5m (ok:Nat->Prop)(n m:Int)(a y z:Co)(v:Value)(w:World)(hk:cst a=false)(h6:a.op=6)(D:Co)(hw:∀ W,Below w.heap.size w W->Calls Tryz.prog 69 #[coV ⟨28,n,m,[a,y,z]⟩ v,.bool false,.bool true,.bool (a.n==1)] W fun e w'=>∃ u,e=.returned (coV D u)/\CSP ok w D u/\Below W.heap.size W w')(hs:CSP ok w ⟨28,n,m,[a,y,z]⟩ v):Calls Tryz.prog 40 #[coV ⟨28,n,m,[a,y,z]⟩ v] w (a0H ok w D):=b8D ok 28 false true n m a y z v w (by simp) hk (by simpa using h6) D hw hs
theorem b5n (ok:Nat->Prop)(n m:Int)(a y z:Co)(v:Value)(w:World)(hk:cst a=false)(h6:¬ a.op=6)(D:Co)(hw:∀ W,Below w.heap.size w W->Calls Tryz.prog 69 #[coV ⟨28,n,m,[a,y,z]⟩ v,.bool false,.bool false,.bool (a.n==1)] W fun e w'=>∃ u,e=.returned (coV D u)/\CSP ok w D u/\Below W.heap.size W w')(hs:CSP ok w ⟨28,n,m,[a,y,z]⟩ v):Calls Tryz.prog 40 #[coV ⟨28,n,m,[a,y,z]⟩ v] w (a0H ok w D):=b8D ok 28 false false n m a y z v w (by simp) hk (by simpa using h6) D hw hs
end Go.Proofs.YtkbmgloilckdhaaGreatDoor
