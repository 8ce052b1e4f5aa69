/- Package codec: the reader's pieces. -/
import Derived.Test.YthfnjlfhaibbeaaDoorDcJ
namespace Go.Proofs.YthfnjlfhaibbeaaDoor
open Go.RowKit

theorem bind_none {α β : Type} {f : Rdr α} {g : α → Rdr β} {l : List UInt8} (h : f l = none) : rBind f g l = none := by unfold rBind; rw [h]; rfl
theorem tt {rb : Nat} {a b c : World} (h : Turn [rb] a b) (k : Turn [rb] b c) : Turn [rb] a c := h.trans k (fun _ hi => .inl hi)
theorem i64W_wrap {l : List UInt8} (h : l.length = 8) : wrap64 (beW l : Nat) = i64W l := by
  have := beW_lt l
  rw [h, show 256 ^ 8 = 18446744073709551616 from by decide] at this
  unfold wrap64 i64W
  split <;> omega

set_option maxHeartbeats 2000000 in
set_option maxRecDepth 20000 in
theorem four_c (rb : Nat) (l : List UInt8) (v : Value) (w : World) (h : Rdp w rb l v) :
    Calls Tryd.prog 33 #[.pointer (some ⟨rb, 0, none⟩)] w (RdQ rb w (rFour l) (fun a x _ => x = Value.int .i64 a)) := by
  have H0 := chid h
  have t0 := Turn.refl [rb] w
  have HE : Hid (∀ e w', rFour l = none → Thrown e → Turn [rb] w w' → RdQ rb w (rFour l) (fun a x _ => x = Value.int .i64 a) e w') := chid (fun e w' hn he t => ⟨t, by rw [hn]; exact he⟩)
  have HO : Hid (∀ a l' x v' w', rFour l = some (a, l') → (fun a x _ => x = Value.int .i64 a) a x w' → Rdp w' rb l' v' → Turn [rb] w w' → RdQ rb w (rFour l) (fun a x _ => x = Value.int .i64 a) (.returned x) w') := chid (fun a l' x v' w' hn hx hr t => ⟨t, by rw [hn]; exact ⟨x, v', rfl, hx, hr⟩⟩)
  clear h
  generalize RdQ rb w (rFour l) (fun a x _ => x = Value.int .i64 a) = Post at *
  go_enter Tryd.func33, Tryd.ntmps33
  go_wp2_with fail
  have HC := chid (rnumber_c rb 4 (by omega) (by omega) l v w H0.out)
  refine Calls.mono HC.out ?_
  rintro e w1 ⟨t1, hh⟩
  cases hc : rNum 4 l with
  | none =>
    rw [hc] at hh
    obtain ⟨u, pv, rfl⟩ := hh
    have hn : rFour l = none := by unfold rFour; rw [hc]; rfl
    go_wp2_with fail
    exact ⟨rfl, HE.out _ _ hn ⟨u, pv, rfl⟩ t1⟩
  | some p =>
  obtain ⟨a, l1⟩ := p
  rw [hc] at hh
  obtain ⟨x, v1, rfl, rfl, h1⟩ := hh
  by_cases hm : a ≤ 2147483647
  · have hm' : (a : Int) ≤ 2147483647 := by omega
    have hw : wrap64 (a : Int) = (a : Int) := by unfold wrap64; omega
    have hw2 : IntKind.i64.wrap (a : Int) = (a : Int) := by rw [IntKind.wrap_i64]; omega
    have hn : rFour l = some ((a : Int), l1) := by unfold rFour; rw [hc, Option.bind_some, if_pos hm]
    have HF := chid (HO.out _ _ _ _ _ hn rfl h1 t1)
    have hW := chid (want_t w1)
    clear h1 t1 hn hc HC
    go_wp2_with fail
    refine Calls.mono hW.out ?_
    rintro e w2 ⟨rfl, rfl⟩
    go_wp2_with fail
    exact HF.out
  · have hm' : ¬ (a : Int) ≤ 2147483647 := by omega
    have hn : rFour l = none := by unfold rFour; rw [hc, Option.bind_some, if_neg hm]
    have hW := want_f w1 h1.err
    rw [show false = decide ((a : Int) ≤ 2147483647) by simp; omega] at hW
    have hW := chid hW
    clear h1 hc HC
    go_wp2_with fail
    refine Calls.mono hW.out ?_
    rintro e w2 ⟨⟨u, pv, rfl⟩, rfl⟩
    go_wp2_with fail
    exact ⟨rfl, HE.out _ _ hn ⟨u, pv, rfl⟩ t1⟩

set_option maxHeartbeats 2000000 in
set_option maxRecDepth 20000 in
theorem eight_c (rb : Nat) (l : List UInt8) (v : Value) (w : World) (h : Rdp w rb l v) :
    Calls Tryd.prog 36 #[.pointer (some ⟨rb, 0, none⟩)] w (RdQ rb w (rEight l) (fun a x _ => x = Value.int .i64 a)) := by
  have H0 := chid h
  have t0 := Turn.refl [rb] w
  have HE : Hid (∀ e w', rEight l = none → Thrown e → Turn [rb] w w' → RdQ rb w (rEight l) (fun a x _ => x = Value.int .i64 a) e w') := chid (fun e w' hn he t => ⟨t, by rw [hn]; exact he⟩)
  have HO : Hid (∀ a l' x v' w', rEight l = some (a, l') → (fun a x _ => x = Value.int .i64 a) a x w' → Rdp w' rb l' v' → Turn [rb] w w' → RdQ rb w (rEight l) (fun a x _ => x = Value.int .i64 a) (.returned x) w') := chid (fun a l' x v' w' hn hx hr t => ⟨t, by rw [hn]; exact ⟨x, v', rfl, hx, hr⟩⟩)
  clear h
  generalize RdQ rb w (rEight l) (fun a x _ => x = Value.int .i64 a) = Post at *
  go_enter Tryd.func36, Tryd.ntmps36
  go_wp2_with fail
  have HC := chid (rnumber_c rb 8 (by omega) (by omega) l v w H0.out)
  refine Calls.mono HC.out ?_
  rintro e w1 ⟨t1, hh⟩
  cases hc : rCut 8 l with
  | none =>
    have hm : rNum 8 l = none := by unfold rNum; rw [hc]; rfl
    rw [hm] at hh
    obtain ⟨u, pv, rfl⟩ := hh
    have hn : rEight l = none := by unfold rEight; rw [hc]; rfl
    go_wp2_with fail
    exact ⟨rfl, HE.out _ _ hn ⟨u, pv, rfl⟩ t1⟩
  | some p =>
  obtain ⟨a, l1⟩ := p
  have hm : rNum 8 l = some (beW a, l1) := by unfold rNum; rw [hc]; rfl
  rw [hm] at hh
  obtain ⟨x, v1, rfl, rfl, h1⟩ := hh
  have hw := i64W_wrap (cut_bwd hc).2
  have hn : rEight l = some (i64W a, l1) := by unfold rEight; simp only [hc, Option.map_some]
  have HF := chid (HO.out _ _ (.int .i64 (wrap64 (beW a : Nat))) _ _ hn (by rw [hw]) h1 t1)
  clear h1 t1 hn hc HC hm hw
  go_wp2_with fail
  exact HF.out

set_option maxHeartbeats 2000000 in
set_option maxRecDepth 20000 in
theorem rrules_c (rb : Nat) (l : List UInt8) (v : Value) (w : World) (h : Rdp w rb l v) :
    Calls Tryd.prog 34 #[.pointer (some ⟨rb, 0, none⟩)] w (RdQ rb w (rRules l) (fun a x _ => x = Value.agg #[.int .i64 a.mn, .int .i64 a.mx, .int .i64 a.st, .int .i64 a.up, .int .i64 a.dn])) := by
  have H0 := chid h
  have HE : Hid (∀ e w', rRules l = none → Thrown e → Turn [rb] w w' → RdQ rb w (rRules l) (fun a x _ => x = Value.agg #[.int .i64 a.mn, .int .i64 a.mx, .int .i64 a.st, .int .i64 a.up, .int .i64 a.dn]) e w') := chid (fun e w' hn he t => ⟨t, by rw [hn]; exact he⟩)
  have HO : Hid (∀ a l' x v' w', rRules l = some (a, l') → (fun a x _ => x = Value.agg #[.int .i64 a.mn, .int .i64 a.mx, .int .i64 a.st, .int .i64 a.up, .int .i64 a.dn]) a x w' → Rdp w' rb l' v' → Turn [rb] w w' → RdQ rb w (rRules l) (fun a x _ => x = Value.agg #[.int .i64 a.mn, .int .i64 a.mx, .int .i64 a.st, .int .i64 a.up, .int .i64 a.dn]) (.returned x) w') := chid (fun a l' x v' w' hn hx hr t => ⟨t, by rw [hn]; exact ⟨x, v', rfl, hx, hr⟩⟩)
  clear h
  generalize RdQ rb w (rRules l) (fun a x _ => x = Value.agg #[.int .i64 a.mn, .int .i64 a.mx, .int .i64 a.st, .int .i64 a.up, .int .i64 a.dn]) = Post at *
  have g0 : rb < w.heap.size := H0.out.box.lt
  obtain ⟨g, hg⟩ : ∃ g, Hid (g = w.heap.size) := ⟨_, chid rfl⟩
  have BX0 := Box.new w [.int .i64 0, .int .i64 0, .int .i64 0, .int .i64 0, .int .i64 0] 25
  rw [← hg.out] at BX0
  have H0 := chid (H0.out.next (bel_alloc w (.cells #[.int .i64 0, .int .i64 0, .int .i64 0, .int .i64 0, .int .i64 0] 25)))
  have t0 : Turn [rb] w (w.alloc (.cells #[.int .i64 0, .int .i64 0, .int .i64 0, .int .i64 0, .int .i64 0] 25)) := Turn.of_below (bel_alloc w _)
  go_enter Tryd.func34, Tryd.ntmps34
  go_wp2_with fail
  have HC := chid (eight_c rb l v _ H0.out)
  refine Calls.mono HC.out ?_
  rintro e w1 ⟨tn, hh⟩
  cases hc0 : rEight l with
  | none =>
    rw [hc0] at hh
    obtain ⟨u, pv, rfl⟩ := hh
    have hn := (show rRules l = none from bind_none hc0)
    go_wp2_with fail
    exact ⟨rfl, HE.out _ _ hn ⟨u, pv, rfl⟩ (tt t0 tn)⟩
  | some p =>
  obtain ⟨a1, l1⟩ := p
  rw [hc0] at hh
  obtain ⟨x1, v1, rfl, hx1, h1⟩ := hh
  have H1 := chid h1
  have t1 := tt t0 tn
  have he1 := chid (show rRules l = _ from bind_fwd hc0)
  have BX1 := BX0.turn tn (by simp; have := hg.out; omega)
  clear h1 tn HC BX0
  subst hx1
  go_wp2_with fail
  have HC := chid (eight_c rb l1 v1 w1 H1.out)
  refine Calls.mono HC.out ?_
  rintro e w2 ⟨tn, hh⟩
  cases hc1 : rEight l1 with
  | none =>
    rw [hc1] at hh
    obtain ⟨u, pv, rfl⟩ := hh
    have hn := he1.out.trans (bind_none hc1)
    go_wp2_with fail
    exact ⟨rfl, HE.out _ _ hn ⟨u, pv, rfl⟩ (tt t1 tn)⟩
  | some p =>
  obtain ⟨a2, l2⟩ := p
  rw [hc1] at hh
  obtain ⟨x2, v2, rfl, hx2, h2⟩ := hh
  have H2 := chid h2
  have t2 := tt t1 tn
  have he2 := chid (he1.out.trans (bind_fwd hc1))
  have BX2 := BX1.turn tn (by simp; have := hg.out; omega)
  clear h2 tn HC BX1
  subst hx2
  go_wp2_with fail
  have HC := chid (eight_c rb l2 v2 w2 H2.out)
  refine Calls.mono HC.out ?_
  rintro e w3 ⟨tn, hh⟩
  cases hc2 : rEight l2 with
  | none =>
    rw [hc2] at hh
    obtain ⟨u, pv, rfl⟩ := hh
    have hn := he2.out.trans (bind_none hc2)
    go_wp2_with fail
    exact ⟨rfl, HE.out _ _ hn ⟨u, pv, rfl⟩ (tt t2 tn)⟩
  | some p =>
  obtain ⟨a3, l3⟩ := p
  rw [hc2] at hh
  obtain ⟨x3, v3, rfl, hx3, h3⟩ := hh
  have H3 := chid h3
  have t3 := tt t2 tn
  have he3 := chid (he2.out.trans (bind_fwd hc2))
  have BX3 := BX2.turn tn (by simp; have := hg.out; omega)
  clear h3 tn HC BX2
  subst hx3
  go_wp2_with fail
  have HC := chid (eight_c rb l3 v3 w3 H3.out)
  refine Calls.mono HC.out ?_
  rintro e w4 ⟨tn, hh⟩
  cases hc3 : rEight l3 with
  | none =>
    rw [hc3] at hh
    obtain ⟨u, pv, rfl⟩ := hh
    have hn := he3.out.trans (bind_none hc3)
    go_wp2_with fail
    exact ⟨rfl, HE.out _ _ hn ⟨u, pv, rfl⟩ (tt t3 tn)⟩
  | some p =>
  obtain ⟨a4, l4⟩ := p
  rw [hc3] at hh
  obtain ⟨x4, v4, rfl, hx4, h4⟩ := hh
  have H4 := chid h4
  have t4 := tt t3 tn
  have he4 := chid (he3.out.trans (bind_fwd hc3))
  have BX4 := BX3.turn tn (by simp; have := hg.out; omega)
  clear h4 tn HC BX3
  subst hx4
  go_wp2_with fail
  have HC := chid (eight_c rb l4 v4 w4 H4.out)
  refine Calls.mono HC.out ?_
  rintro e w5 ⟨tn, hh⟩
  cases hc4 : rEight l4 with
  | none =>
    rw [hc4] at hh
    obtain ⟨u, pv, rfl⟩ := hh
    have hn := he4.out.trans (bind_none hc4)
    go_wp2_with fail
    exact ⟨rfl, HE.out _ _ hn ⟨u, pv, rfl⟩ (tt t4 tn)⟩
  | some p =>
  obtain ⟨a5, l5⟩ := p
  rw [hc4] at hh
  obtain ⟨x5, v5, rfl, hx5, h5⟩ := hh
  have H5 := chid h5
  have t5 := tt t4 tn
  have he5 := chid (he4.out.trans (bind_fwd hc4))
  have BX5 := BX4.turn tn (by simp; have := hg.out; omega)
  clear h5 tn HC BX4
  subst hx5
  have z0 := BX5.cell 0 _ rfl
  have y0 := BX5.free 0 (by simp)
  have z1 := BX5.cell 1 _ rfl
  have y1 := BX5.free 1 (by simp)
  have z2 := BX5.cell 2 _ rfl
  have y2 := BX5.free 2 (by simp)
  have z3 := BX5.cell 3 _ rfl
  have y3 := BX5.free 3 (by simp)
  have z4 := BX5.cell 4 _ rfl
  have y4 := BX5.free 4 (by simp)
  have zl := BX5.lt
  have HF := chid (HO.out _ _ (.agg #[.int .i64 a1, .int .i64 a2, .int .i64 a3, .int .i64 a4, .int .i64 a5]) _ _ he5.out rfl (Rdp.set (Rdp.set (Rdp.set (Rdp.set (Rdp.set H5.out (g := g) (j := 0) (x := .int .i64 a1) (by have := hg.out; omega)) (g := g) (j := 1) (x := .int .i64 a2) (by have := hg.out; omega)) (g := g) (j := 2) (x := .int .i64 a3) (by have := hg.out; omega)) (g := g) (j := 3) (x := .int .i64 a4) (by have := hg.out; omega)) (g := g) (j := 4) (x := .int .i64 a5) (by have := hg.out; omega)) (Turn.andSet (Turn.andSet (Turn.andSet (Turn.andSet (Turn.andSet t5 ⟨g, 0, none⟩ (.int .i64 a1) (.inr (by have := hg.out; show w.heap.size ≤ g; omega))) ⟨g, 1, none⟩ (.int .i64 a2) (.inr (by have := hg.out; show w.heap.size ≤ g; omega))) ⟨g, 2, none⟩ (.int .i64 a3) (.inr (by have := hg.out; show w.heap.size ≤ g; omega))) ⟨g, 3, none⟩ (.int .i64 a4) (.inr (by have := hg.out; show w.heap.size ≤ g; omega))) ⟨g, 4, none⟩ (.int .i64 a5) (.inr (by have := hg.out; show w.heap.size ≤ g; omega))))
  have HBn : Hid (Box (((((w5.setCell ⟨g, 0, none⟩ (.int .i64 a1)).setCell ⟨g, 1, none⟩ (.int .i64 a2)).setCell ⟨g, 2, none⟩ (.int .i64 a3)).setCell ⟨g, 3, none⟩ (.int .i64 a4)).setCell ⟨g, 4, none⟩ (.int .i64 a5)) g [.int .i64 a1, .int .i64 a2, .int .i64 a3, .int .i64 a4, .int .i64 a5]) := chid (((((BX5.set 0 (by simp) (.int .i64 a1)).set 1 (by simp) (.int .i64 a2)).set 2 (by simp) (.int .i64 a3)).set 3 (by simp) (.int .i64 a4)).set 4 (by simp) (.int .i64 a5))
  have u0 := HBn.out.cell 0 _ rfl
  have u1 := HBn.out.cell 1 _ rfl
  have u2 := HBn.out.cell 2 _ rfl
  have u3 := HBn.out.cell 3 _ rfl
  have u4 := HBn.out.cell 4 _ rfl
  clear t0 t1 t2 t3 t4 t5 BX5
  rw [← hg.out]
  go_wp2_with fail
  refine bodyPost_ret (v := .agg #[.int .i64 a1, .int .i64 a2, .int .i64 a3, .int .i64 a4, .int .i64 a5]) (by simp [results, Tryd.results34, go_sem, *]) rfl HF.out

set_option maxHeartbeats 2000000 in
set_option maxRecDepth 20000 in
theorem rwindow_c (rb : Nat) (l : List UInt8) (v : Value) (w : World) (h : Rdp w rb l v) :
    Calls Tryd.prog 38 #[.pointer (some ⟨rb, 0, none⟩)] w (RdQ rb w (rWin l) (fun a x _ => x = Value.agg (wiL a).toArray)) := by
  have H0 := chid h
  have HE : Hid (∀ e w', rWin l = none → Thrown e → Turn [rb] w w' → RdQ rb w (rWin l) (fun a x _ => x = Value.agg (wiL a).toArray) e w') := chid (fun e w' hn he t => ⟨t, by rw [hn]; exact he⟩)
  have HO : Hid (∀ a l' x v' w', rWin l = some (a, l') → (fun a x _ => x = Value.agg (wiL a).toArray) a x w' → Rdp w' rb l' v' → Turn [rb] w w' → RdQ rb w (rWin l) (fun a x _ => x = Value.agg (wiL a).toArray) (.returned x) w') := chid (fun a l' x v' w' hn hx hr t => ⟨t, by rw [hn]; exact ⟨x, v', rfl, hx, hr⟩⟩)
  clear h
  generalize RdQ rb w (rWin l) (fun a x _ => x = Value.agg (wiL a).toArray) = Post at *
  have g0 : rb < w.heap.size := H0.out.box.lt
  obtain ⟨g, hg⟩ : ∃ g, Hid (g = w.heap.size) := ⟨_, chid rfl⟩
  have BX0 := Box.new w [.int .i64 0, .int .i64 0, .int .i64 0, .int .i64 0] 65
  rw [← hg.out] at BX0
  have H0 := chid (H0.out.next (bel_alloc w (.cells #[.int .i64 0, .int .i64 0, .int .i64 0, .int .i64 0] 65)))
  have t0 : Turn [rb] w (w.alloc (.cells #[.int .i64 0, .int .i64 0, .int .i64 0, .int .i64 0] 65)) := Turn.of_below (bel_alloc w _)
  go_enter Tryd.func38, Tryd.ntmps38
  go_wp2_with fail
  have HC := chid (four_c rb l v _ H0.out)
  refine Calls.mono HC.out ?_
  rintro e w1 ⟨tn, hh⟩
  cases hc0 : rFour l with
  | none =>
    rw [hc0] at hh
    obtain ⟨u, pv, rfl⟩ := hh
    have hn := (show rWin l = none from bind_none hc0)
    go_wp2_with fail
    exact ⟨rfl, HE.out _ _ hn ⟨u, pv, rfl⟩ (tt t0 tn)⟩
  | some p =>
  obtain ⟨a1, l1⟩ := p
  rw [hc0] at hh
  obtain ⟨x1, v1, rfl, hx1, h1⟩ := hh
  have H1 := chid h1
  have t1 := tt t0 tn
  have he1 := chid (show rWin l = _ from bind_fwd hc0)
  have BX1 := BX0.turn tn (by simp; have := hg.out; omega)
  clear h1 tn HC BX0
  subst hx1
  go_wp2_with fail
  have HC := chid (four_c rb l1 v1 w1 H1.out)
  refine Calls.mono HC.out ?_
  rintro e w2 ⟨tn, hh⟩
  cases hc1 : rFour l1 with
  | none =>
    rw [hc1] at hh
    obtain ⟨u, pv, rfl⟩ := hh
    have hn := he1.out.trans (bind_none hc1)
    go_wp2_with fail
    exact ⟨rfl, HE.out _ _ hn ⟨u, pv, rfl⟩ (tt t1 tn)⟩
  | some p =>
  obtain ⟨a2, l2⟩ := p
  rw [hc1] at hh
  obtain ⟨x2, v2, rfl, hx2, h2⟩ := hh
  have H2 := chid h2
  have t2 := tt t1 tn
  have he2 := chid (he1.out.trans (bind_fwd hc1))
  have BX2 := BX1.turn tn (by simp; have := hg.out; omega)
  clear h2 tn HC BX1
  subst hx2
  go_wp2_with fail
  have HC := chid (eight_c rb l2 v2 w2 H2.out)
  refine Calls.mono HC.out ?_
  rintro e w3 ⟨tn, hh⟩
  cases hc2 : rEight l2 with
  | none =>
    rw [hc2] at hh
    obtain ⟨u, pv, rfl⟩ := hh
    have hn := he2.out.trans (bind_none hc2)
    go_wp2_with fail
    exact ⟨rfl, HE.out _ _ hn ⟨u, pv, rfl⟩ (tt t2 tn)⟩
  | some p =>
  obtain ⟨a3, l3⟩ := p
  rw [hc2] at hh
  obtain ⟨x3, v3, rfl, hx3, h3⟩ := hh
  have H3 := chid h3
  have t3 := tt t2 tn
  have he3 := chid (he2.out.trans (bind_fwd hc2))
  have BX3 := BX2.turn tn (by simp; have := hg.out; omega)
  clear h3 tn HC BX2
  subst hx3
  go_wp2_with fail
  have HC := chid (eight_c rb l3 v3 w3 H3.out)
  refine Calls.mono HC.out ?_
  rintro e w4 ⟨tn, hh⟩
  cases hc3 : rEight l3 with
  | none =>
    rw [hc3] at hh
    obtain ⟨u, pv, rfl⟩ := hh
    have hn := he3.out.trans (bind_none hc3)
    go_wp2_with fail
    exact ⟨rfl, HE.out _ _ hn ⟨u, pv, rfl⟩ (tt t3 tn)⟩
  | some p =>
  obtain ⟨a4, l4⟩ := p
  rw [hc3] at hh
  obtain ⟨x4, v4, rfl, hx4, h4⟩ := hh
  have H4 := chid h4
  have t4 := tt t3 tn
  have he4 := chid (he3.out.trans (bind_fwd hc3))
  have BX4 := BX3.turn tn (by simp; have := hg.out; omega)
  clear h4 tn HC BX3
  subst hx4
  have z0 := BX4.cell 0 _ rfl
  have y0 := BX4.free 0 (by simp)
  have z1 := BX4.cell 1 _ rfl
  have y1 := BX4.free 1 (by simp)
  have z2 := BX4.cell 2 _ rfl
  have y2 := BX4.free 2 (by simp)
  have z3 := BX4.cell 3 _ rfl
  have y3 := BX4.free 3 (by simp)
  have zl := BX4.lt
  have HF := chid (HO.out _ _ (.agg #[.int .i64 a1, .int .i64 a2, .int .i64 a3, .int .i64 a4]) _ _ he4.out rfl (Rdp.set (Rdp.set (Rdp.set (Rdp.set H4.out (g := g) (j := 0) (x := .int .i64 a1) (by have := hg.out; omega)) (g := g) (j := 1) (x := .int .i64 a2) (by have := hg.out; omega)) (g := g) (j := 2) (x := .int .i64 a3) (by have := hg.out; omega)) (g := g) (j := 3) (x := .int .i64 a4) (by have := hg.out; omega)) (Turn.andSet (Turn.andSet (Turn.andSet (Turn.andSet t4 ⟨g, 0, none⟩ (.int .i64 a1) (.inr (by have := hg.out; show w.heap.size ≤ g; omega))) ⟨g, 1, none⟩ (.int .i64 a2) (.inr (by have := hg.out; show w.heap.size ≤ g; omega))) ⟨g, 2, none⟩ (.int .i64 a3) (.inr (by have := hg.out; show w.heap.size ≤ g; omega))) ⟨g, 3, none⟩ (.int .i64 a4) (.inr (by have := hg.out; show w.heap.size ≤ g; omega))))
  have HBn : Hid (Box ((((w4.setCell ⟨g, 0, none⟩ (.int .i64 a1)).setCell ⟨g, 1, none⟩ (.int .i64 a2)).setCell ⟨g, 2, none⟩ (.int .i64 a3)).setCell ⟨g, 3, none⟩ (.int .i64 a4)) g [.int .i64 a1, .int .i64 a2, .int .i64 a3, .int .i64 a4]) := chid ((((BX4.set 0 (by simp) (.int .i64 a1)).set 1 (by simp) (.int .i64 a2)).set 2 (by simp) (.int .i64 a3)).set 3 (by simp) (.int .i64 a4))
  have u0 := HBn.out.cell 0 _ rfl
  have u1 := HBn.out.cell 1 _ rfl
  have u2 := HBn.out.cell 2 _ rfl
  have u3 := HBn.out.cell 3 _ rfl
  clear t0 t1 t2 t3 t4 BX4
  rw [← hg.out]
  go_wp2_with fail
  refine bodyPost_ret (v := .agg #[.int .i64 a1, .int .i64 a2, .int .i64 a3, .int .i64 a4]) (by simp [results, Tryd.results38, go_sem, *]) rfl HF.out

set_option maxHeartbeats 2000000 in
set_option maxRecDepth 20000 in
theorem rsched_c (rb : Nat) (l : List UInt8) (v : Value) (w : World) (h : Rdp w rb l v) :
    Calls Tryd.prog 40 #[.pointer (some ⟨rb, 0, none⟩)] w (RdQ rb w (rCron l) (fun a x _ => x = Value.agg (crL a).toArray)) := by
  have H0 := chid h
  have HE : Hid (∀ e w', rCron l = none → Thrown e → Turn [rb] w w' → RdQ rb w (rCron l) (fun a x _ => x = Value.agg (crL a).toArray) e w') := chid (fun e w' hn he t => ⟨t, by rw [hn]; exact he⟩)
  have HO : Hid (∀ a l' x v' w', rCron l = some (a, l') → (fun a x _ => x = Value.agg (crL a).toArray) a x w' → Rdp w' rb l' v' → Turn [rb] w w' → RdQ rb w (rCron l) (fun a x _ => x = Value.agg (crL a).toArray) (.returned x) w') := chid (fun a l' x v' w' hn hx hr t => ⟨t, by rw [hn]; exact ⟨x, v', rfl, hx, hr⟩⟩)
  clear h
  generalize RdQ rb w (rCron l) (fun a x _ => x = Value.agg (crL a).toArray) = Post at *
  have g0 : rb < w.heap.size := H0.out.box.lt
  obtain ⟨g, hg⟩ : ∃ g, Hid (g = w.heap.size) := ⟨_, chid rfl⟩
  have BX0 := Box.new w [.int .u64 0, .int .u64 0, .int .u64 0, .int .u64 0, .int .u64 0] 68
  rw [← hg.out] at BX0
  have H0 := chid (H0.out.next (bel_alloc w (.cells #[.int .u64 0, .int .u64 0, .int .u64 0, .int .u64 0, .int .u64 0] 68)))
  have t0 : Turn [rb] w (w.alloc (.cells #[.int .u64 0, .int .u64 0, .int .u64 0, .int .u64 0, .int .u64 0] 68)) := Turn.of_below (bel_alloc w _)
  go_enter Tryd.func40, Tryd.ntmps40
  go_wp2_with fail
  have HC := chid (rnumber_c rb 8 (by omega) (by omega) l v _ H0.out)
  refine Calls.mono HC.out ?_
  rintro e w1 ⟨tn, hh⟩
  cases hc0 : rNum 8 l with
  | none =>
    rw [hc0] at hh
    obtain ⟨u, pv, rfl⟩ := hh
    have hn := (show rCron l = none from bind_none hc0)
    go_wp2_with fail
    exact ⟨rfl, HE.out _ _ hn ⟨u, pv, rfl⟩ (tt t0 tn)⟩
  | some p =>
  obtain ⟨a1, l1⟩ := p
  rw [hc0] at hh
  obtain ⟨x1, v1, rfl, hx1, h1⟩ := hh
  have H1 := chid h1
  have t1 := tt t0 tn
  have he1 := chid (show rCron l = _ from bind_fwd hc0)
  have BX1 := BX0.turn tn (by simp; have := hg.out; omega)
  clear h1 tn HC BX0
  subst hx1
  go_wp2_with fail
  have HC := chid (rnumber_c rb 8 (by omega) (by omega) l1 v1 w1 H1.out)
  refine Calls.mono HC.out ?_
  rintro e w2 ⟨tn, hh⟩
  cases hc1 : rNum 8 l1 with
  | none =>
    rw [hc1] at hh
    obtain ⟨u, pv, rfl⟩ := hh
    have hn := he1.out.trans (bind_none hc1)
    go_wp2_with fail
    exact ⟨rfl, HE.out _ _ hn ⟨u, pv, rfl⟩ (tt t1 tn)⟩
  | some p =>
  obtain ⟨a2, l2⟩ := p
  rw [hc1] at hh
  obtain ⟨x2, v2, rfl, hx2, h2⟩ := hh
  have H2 := chid h2
  have t2 := tt t1 tn
  have he2 := chid (he1.out.trans (bind_fwd hc1))
  have BX2 := BX1.turn tn (by simp; have := hg.out; omega)
  clear h2 tn HC BX1
  subst hx2
  go_wp2_with fail
  have HC := chid (rnumber_c rb 8 (by omega) (by omega) l2 v2 w2 H2.out)
  refine Calls.mono HC.out ?_
  rintro e w3 ⟨tn, hh⟩
  cases hc2 : rNum 8 l2 with
  | none =>
    rw [hc2] at hh
    obtain ⟨u, pv, rfl⟩ := hh
    have hn := he2.out.trans (bind_none hc2)
    go_wp2_with fail
    exact ⟨rfl, HE.out _ _ hn ⟨u, pv, rfl⟩ (tt t2 tn)⟩
  | some p =>
  obtain ⟨a3, l3⟩ := p
  rw [hc2] at hh
  obtain ⟨x3, v3, rfl, hx3, h3⟩ := hh
  have H3 := chid h3
  have t3 := tt t2 tn
  have he3 := chid (he2.out.trans (bind_fwd hc2))
  have BX3 := BX2.turn tn (by simp; have := hg.out; omega)
  clear h3 tn HC BX2
  subst hx3
  go_wp2_with fail
  have HC := chid (rnumber_c rb 8 (by omega) (by omega) l3 v3 w3 H3.out)
  refine Calls.mono HC.out ?_
  rintro e w4 ⟨tn, hh⟩
  cases hc3 : rNum 8 l3 with
  | none =>
    rw [hc3] at hh
    obtain ⟨u, pv, rfl⟩ := hh
    have hn := he3.out.trans (bind_none hc3)
    go_wp2_with fail
    exact ⟨rfl, HE.out _ _ hn ⟨u, pv, rfl⟩ (tt t3 tn)⟩
  | some p =>
  obtain ⟨a4, l4⟩ := p
  rw [hc3] at hh
  obtain ⟨x4, v4, rfl, hx4, h4⟩ := hh
  have H4 := chid h4
  have t4 := tt t3 tn
  have he4 := chid (he3.out.trans (bind_fwd hc3))
  have BX4 := BX3.turn tn (by simp; have := hg.out; omega)
  clear h4 tn HC BX3
  subst hx4
  go_wp2_with fail
  have HC := chid (rnumber_c rb 8 (by omega) (by omega) l4 v4 w4 H4.out)
  refine Calls.mono HC.out ?_
  rintro e w5 ⟨tn, hh⟩
  cases hc4 : rNum 8 l4 with
  | none =>
    rw [hc4] at hh
    obtain ⟨u, pv, rfl⟩ := hh
    have hn := he4.out.trans (bind_none hc4)
    go_wp2_with fail
    exact ⟨rfl, HE.out _ _ hn ⟨u, pv, rfl⟩ (tt t4 tn)⟩
  | some p =>
  obtain ⟨a5, l5⟩ := p
  rw [hc4] at hh
  obtain ⟨x5, v5, rfl, hx5, h5⟩ := hh
  have H5 := chid h5
  have t5 := tt t4 tn
  have he5 := chid (he4.out.trans (bind_fwd hc4))
  have BX5 := BX4.turn tn (by simp; have := hg.out; omega)
  clear h5 tn HC BX4
  subst hx5
  have z0 := BX5.cell 0 _ rfl
  have y0 := BX5.free 0 (by simp)
  have z1 := BX5.cell 1 _ rfl
  have y1 := BX5.free 1 (by simp)
  have z2 := BX5.cell 2 _ rfl
  have y2 := BX5.free 2 (by simp)
  have z3 := BX5.cell 3 _ rfl
  have y3 := BX5.free 3 (by simp)
  have z4 := BX5.cell 4 _ rfl
  have y4 := BX5.free 4 (by simp)
  have zl := BX5.lt
  have HF := chid (HO.out _ _ (.agg #[.int .u64 (a1 : Nat), .int .u64 (a2 : Nat), .int .u64 (a3 : Nat), .int .u64 (a4 : Nat), .int .u64 (a5 : Nat)]) _ _ he5.out rfl (Rdp.set (Rdp.set (Rdp.set (Rdp.set (Rdp.set H5.out (g := g) (j := 0) (x := .int .u64 (a1 : Nat)) (by have := hg.out; omega)) (g := g) (j := 1) (x := .int .u64 (a2 : Nat)) (by have := hg.out; omega)) (g := g) (j := 2) (x := .int .u64 (a3 : Nat)) (by have := hg.out; omega)) (g := g) (j := 3) (x := .int .u64 (a4 : Nat)) (by have := hg.out; omega)) (g := g) (j := 4) (x := .int .u64 (a5 : Nat)) (by have := hg.out; omega)) (Turn.andSet (Turn.andSet (Turn.andSet (Turn.andSet (Turn.andSet t5 ⟨g, 0, none⟩ (.int .u64 (a1 : Nat)) (.inr (by have := hg.out; show w.heap.size ≤ g; omega))) ⟨g, 1, none⟩ (.int .u64 (a2 : Nat)) (.inr (by have := hg.out; show w.heap.size ≤ g; omega))) ⟨g, 2, none⟩ (.int .u64 (a3 : Nat)) (.inr (by have := hg.out; show w.heap.size ≤ g; omega))) ⟨g, 3, none⟩ (.int .u64 (a4 : Nat)) (.inr (by have := hg.out; show w.heap.size ≤ g; omega))) ⟨g, 4, none⟩ (.int .u64 (a5 : Nat)) (.inr (by have := hg.out; show w.heap.size ≤ g; omega))))
  have HBn : Hid (Box (((((w5.setCell ⟨g, 0, none⟩ (.int .u64 (a1 : Nat))).setCell ⟨g, 1, none⟩ (.int .u64 (a2 : Nat))).setCell ⟨g, 2, none⟩ (.int .u64 (a3 : Nat))).setCell ⟨g, 3, none⟩ (.int .u64 (a4 : Nat))).setCell ⟨g, 4, none⟩ (.int .u64 (a5 : Nat))) g [.int .u64 (a1 : Nat), .int .u64 (a2 : Nat), .int .u64 (a3 : Nat), .int .u64 (a4 : Nat), .int .u64 (a5 : Nat)]) := chid (((((BX5.set 0 (by simp) (.int .u64 (a1 : Nat))).set 1 (by simp) (.int .u64 (a2 : Nat))).set 2 (by simp) (.int .u64 (a3 : Nat))).set 3 (by simp) (.int .u64 (a4 : Nat))).set 4 (by simp) (.int .u64 (a5 : Nat)))
  have u0 := HBn.out.cell 0 _ rfl
  have u1 := HBn.out.cell 1 _ rfl
  have u2 := HBn.out.cell 2 _ rfl
  have u3 := HBn.out.cell 3 _ rfl
  have u4 := HBn.out.cell 4 _ rfl
  clear t0 t1 t2 t3 t4 t5 BX5
  rw [← hg.out]
  go_wp2_with fail
  refine bodyPost_ret (v := .agg #[.int .u64 (a1 : Nat), .int .u64 (a2 : Nat), .int .u64 (a3 : Nat), .int .u64 (a4 : Nat), .int .u64 (a5 : Nat)]) (by simp [results, Tryd.results40, go_sem, *]) rfl HF.out

theorem cut_num {l r : List UInt8} {n : Nat} (h : rNum 1 l = some (n, r)) : n < 256 := ((num_reads 1).bwd _ _ _ h).2

set_option maxHeartbeats 2000000 in
set_option maxRecDepth 20000 in
theorem rins_c (rb : Nat) (l : List UInt8) (v : Value) (w : World) (h : Rdp w rb l v) :
    Calls Tryd.prog 42 #[.pointer (some ⟨rb, 0, none⟩)] w (RdQ rb w (rIns l) (fun a x _ => x = Value.agg (inL a).toArray)) := by
  have H0 := chid h
  have HE : Hid (∀ e w', rIns l = none → Thrown e → Turn [rb] w w' → RdQ rb w (rIns l) (fun a x _ => x = Value.agg (inL a).toArray) e w') := chid (fun e w' hn he t => ⟨t, by rw [hn]; exact he⟩)
  have HO : Hid (∀ a l' x v' w', rIns l = some (a, l') → (fun a x _ => x = Value.agg (inL a).toArray) a x w' → Rdp w' rb l' v' → Turn [rb] w w' → RdQ rb w (rIns l) (fun a x _ => x = Value.agg (inL a).toArray) (.returned x) w') := chid (fun a l' x v' w' hn hx hr t => ⟨t, by rw [hn]; exact ⟨x, v', rfl, hx, hr⟩⟩)
  clear h
  generalize RdQ rb w (rIns l) (fun a x _ => x = Value.agg (inL a).toArray) = Post at *
  have g0 : rb < w.heap.size := H0.out.box.lt
  obtain ⟨g, hg⟩ : ∃ g, Hid (g = w.heap.size) := ⟨_, chid rfl⟩
  have BX0 := Box.new w [.int .i64 0, .int .i64 0] 51
  rw [← hg.out] at BX0
  have H0 := chid (H0.out.next (bel_alloc w (.cells #[.int .i64 0, .int .i64 0] 51)))
  have t0 : Turn [rb] w (w.alloc (.cells #[.int .i64 0, .int .i64 0] 51)) := Turn.of_below (bel_alloc w _)
  go_enter Tryd.func42, Tryd.ntmps42
  go_wp2_with fail
  have HC := chid (rnumber_c rb 1 (by omega) (by omega) l v _ H0.out)
  refine Calls.mono HC.out ?_
  rintro e w1 ⟨tn, hh⟩
  cases hc0 : rNum 1 l with
  | none =>
    rw [hc0] at hh
    obtain ⟨u, pv, rfl⟩ := hh
    have hn := (show rIns l = none from bind_none hc0)
    go_wp2_with fail
    exact ⟨rfl, HE.out _ _ hn ⟨u, pv, rfl⟩ (tt t0 tn)⟩
  | some p =>
  obtain ⟨a1, l1⟩ := p
  rw [hc0] at hh
  obtain ⟨x1, v1, rfl, hx1, h1⟩ := hh
  have H1 := chid h1
  have t1 := tt t0 tn
  have he1 := chid (show rIns l = _ from bind_fwd hc0)
  have BX1 := BX0.turn tn (by simp; have := hg.out; omega)
  clear h1 tn HC BX0
  subst hx1
  have hA := cut_num hc0
  have hwa : wrap64 (a1 : Int) = (a1 : Int) := by unfold wrap64; omega
  have hwb : IntKind.i64.wrap (a1 : Int) = (a1 : Int) := by rw [IntKind.wrap_i64]; omega
  go_wp2_with fail
  have HC := chid (eight_c rb l1 v1 w1 H1.out)
  refine Calls.mono HC.out ?_
  rintro e w2 ⟨tn, hh⟩
  cases hc1 : rEight l1 with
  | none =>
    rw [hc1] at hh
    obtain ⟨u, pv, rfl⟩ := hh
    have hn := he1.out.trans (bind_none hc1)
    go_wp2_with fail
    exact ⟨rfl, HE.out _ _ hn ⟨u, pv, rfl⟩ (tt t1 tn)⟩
  | some p =>
  obtain ⟨a2, l2⟩ := p
  rw [hc1] at hh
  obtain ⟨x2, v2, rfl, hx2, h2⟩ := hh
  have H2 := chid h2
  have t2 := tt t1 tn
  have he2 := chid (he1.out.trans (bind_fwd hc1))
  have BX2 := BX1.turn tn (by simp; have := hg.out; omega)
  clear h2 tn HC BX1
  subst hx2
  have z0 := BX2.cell 0 _ rfl
  have y0 := BX2.free 0 (by simp)
  have z1 := BX2.cell 1 _ rfl
  have y1 := BX2.free 1 (by simp)
  have zl := BX2.lt
  have HF := chid (HO.out _ _ (.agg #[.int .i64 (a1 : Nat), .int .i64 a2]) _ _ he2.out rfl (Rdp.set (Rdp.set H2.out (g := g) (j := 0) (x := .int .i64 (a1 : Nat)) (by have := hg.out; omega)) (g := g) (j := 1) (x := .int .i64 a2) (by have := hg.out; omega)) (Turn.andSet (Turn.andSet t2 ⟨g, 0, none⟩ (.int .i64 (a1 : Nat)) (.inr (by have := hg.out; show w.heap.size ≤ g; omega))) ⟨g, 1, none⟩ (.int .i64 a2) (.inr (by have := hg.out; show w.heap.size ≤ g; omega))))
  have HBn : Hid (Box ((w2.setCell ⟨g, 0, none⟩ (.int .i64 (a1 : Nat))).setCell ⟨g, 1, none⟩ (.int .i64 a2)) g [.int .i64 (a1 : Nat), .int .i64 a2]) := chid ((BX2.set 0 (by simp) (.int .i64 (a1 : Nat))).set 1 (by simp) (.int .i64 a2))
  have u0 := HBn.out.cell 0 _ rfl
  have u1 := HBn.out.cell 1 _ rfl
  clear t0 t1 t2 BX2
  rw [← hg.out]
  go_wp2_with fail
  refine bodyPost_ret (v := .agg #[.int .i64 (a1 : Nat), .int .i64 a2]) (by simp [results, Tryd.results42, go_sem, *]) rfl HF.out

end Go.Proofs.YthfnjlfhaibbeaaDoor
