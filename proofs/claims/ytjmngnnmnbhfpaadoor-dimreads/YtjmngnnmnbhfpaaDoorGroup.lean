/- The statement DimGroup: the walk of her Go text, out of the contracts of package dim. -/
import Derived.Test.YtjmngnnmnbhfpaaDoorDimX
namespace Go.Proofs.YtjmngnnmnbhfpaaDoor
open Go.RowKit

abbrev dCells (x : D5) : List Value := [.int .i64 x.a, .int .i64 x.b, .int .i64 x.c, .int .i64 x.d, .int .i64 x.e]
theorem dim0_fits : dim0.Fits := by constructor <;> decide
theorem joinS_comm (x y : D5) : joinS (· + ·) y x = joinS (· + ·) x y := by
  unfold joinS
  simp only [Int.add_comm y.a, Int.add_comm y.b, Int.add_comm y.c, Int.add_comm y.d, Int.add_comm y.e]
theorem joinS_in (f : Int → Int → Int) (x y r : D5) (h : joinS f x y = some r) : r = ⟨f x.a y.a, f x.b y.b, f x.c y.c, f x.d y.d, f x.e y.e⟩ ∧ In8 r.a ∧ In8 r.b ∧ In8 r.c ∧ In8 r.d ∧ In8 r.e := by
  unfold joinS at h
  split at h
  · rename_i k
    cases h
    exact ⟨rfl, k⟩
  · cases h
theorem fits_in8 {x : D5} (h : In8 x.a ∧ In8 x.b ∧ In8 x.c ∧ In8 x.d ∧ In8 x.e) : x.Fits := by
  obtain ⟨⟨a0, a1⟩, ⟨b0, b1⟩, ⟨c0, c1⟩, ⟨d0, d1⟩, ⟨e0, e1⟩⟩ := h
  constructor <;> omega
theorem joinS_fits (f : Int → Int → Int) (x y : D5) : ((joinS f x y).getD dim0).Fits := by
  cases h : joinS f x y with
  | none => exact dim0_fits
  | some r => exact fits_in8 (joinS_in f x y r h).2
theorem join_back (x y r : D5) (h : joinS (· + ·) x y = some r) (hx : In8 x.a ∧ In8 x.b ∧ In8 x.c ∧ In8 x.d ∧ In8 x.e) : joinS (· - ·) r y = some x := by
  obtain ⟨rfl, _⟩ := joinS_in _ x y r h
  have e : ∀ p q : Int, p + q - q = p := fun p q => by omega
  rw [joinS_some (· - ·) _ y (by simp only [e]; exact hx)]
  simp only [e]
theorem join_self (x : D5) : joinS (· - ·) x x = some dim0 := by
  have e : ∀ p : Int, p - p = 0 := fun p => by omega
  rw [joinS_some (· - ·) x x (by simp only [e]; decide)]
  simp only [e]
  rfl
theorem join_none (x : D5) (hx : In8 x.a ∧ In8 x.b ∧ In8 x.c ∧ In8 x.d ∧ In8 x.e) : joinS (· + ·) x dim0 = some x := by
  have e : ∀ p : Int, p + 0 = p := fun p => by omega
  rw [joinS_some (· + ·) x dim0 (by simp only [dim0, e]; exact hx)]
  simp only [dim0, e]

theorem Box.cells5 {w : World} {g : Nat} {v0 v1 v2 v3 v4 : Value} (h : Box w g [v0, v1, v2, v3, v4]) : w.cell? ⟨g, 0, none⟩ = some v0 ∧ w.cell? ⟨g, 1, none⟩ = some v1 ∧ w.cell? ⟨g, 2, none⟩ = some v2 ∧ w.cell? ⟨g, 3, none⟩ = some v3 ∧ w.cell? ⟨g, 4, none⟩ = some v4 :=
  ⟨h.cell 0 _ rfl, h.cell 1 _ rfl, h.cell 2 _ rfl, h.cell 3 _ rfl, h.cell 4 _ rfl⟩
theorem Text_zero (w : World) : Calls Tryd.prog 12 #[dimV dim0] w fun e w' => e = .returned (.string ⟨#[49]⟩) ∧ Below w.heap.size w w' := by
  have hq := fun wx => eqDim dim0 dim0 wx
  rw [eqD_self] at hq
  simp only [dimV, dim0] at hq ⊢
  go_enter Tryd.func12, Tryd.ntmps12
  go_wp2_with fail
  go_ret
  exact ⟨rfl, (Below.refl _ _).alloc (Nat.le_refl _) _⟩

set_option maxHeartbeats 8000000 in
theorem dimGroup_walk (x y : D5) (fx : x.Fits) (fy : y.Fits) (w : World) (hN : NamesAt w) :
    Calls Tryd.prog 7 #[dimV x, dimV y] w fun e w' => e = .returned (.bool true) ∧ Below w.heap.size w w' := by
  have hq := fun (p q : D5) wx => eqDim p q wx
  simp only [dimV] at hq
  obtain ⟨xb, yb, l0⟩ := two_boxes w 24 24 (dCells x) (dCells y)
  have hN1 := hN.later l0
  have hm := fun wx => Mul_any x y fx fy wx
  have hm2 := fun wx => Mul_any y x fy fx wx
  rw [joinS_comm x y] at hm2
  have fc := joinS_fits (· + ·) x y
  have hr : joinV (joinS (· + ·) x y) = .tuple #[dimV ((joinS (· + ·) x y).getD dim0), .bool (joinS (· + ·) x y).isSome] := rfl
  rw [hr] at hm hm2
  generalize hc : (joinS (· + ·) x y).getD dim0 = c at *
  generalize hk : (joinS (· + ·) x y).isSome = ok at *
  have HC : Hid _ := hc
  have HK : Hid _ := hk
  simp only [dimV] at hm hm2
  clear hr hc hk
  have sf := eqD_self c
  go_enter Tryd.func7, Tryd.ntmps7
  go_wp2_with fail
  refine (awake_any _ hN1).mono ?_
  rintro e w1 ⟨rfl, hb1⟩
  have xb := xb.next hb1
  have yb := yb.next hb1
  have bl := l0.trans (hb1.mono l0.size)
  clear hb1 l0 hN1
  obtain ⟨x0, x1, x2, x3, x4⟩ := xb.cells5
  obtain ⟨y0, y1, y2, y3, y4⟩ := yb.cells5
  go_wp2_with fail
  refine (hm _).mono ?_
  rintro e w2 ⟨rfl, hb2⟩
  clear x0 x1 x2 x3 x4 y0 y1 y2 y3 y4
  obtain ⟨cb, l2⟩ := one_box w2 24 (dCells c)
  have xb := (xb.next hb2).next l2
  have yb := (yb.next hb2).next l2
  have bl := (bl.trans (hb2.mono bl.size)).trans (l2.mono (Nat.le_trans bl.size hb2.size))
  clear hb2 l2
  obtain ⟨x0, x1, x2, x3, x4⟩ := xb.cells5
  obtain ⟨y0, y1, y2, y3, y4⟩ := yb.cells5
  go_wp2_with fail
  refine (hm2 _).mono ?_
  rintro e w3 ⟨rfl, hb3⟩
  clear x0 x1 x2 x3 x4 y0 y1 y2 y3 y4
  obtain ⟨db, l3⟩ := one_box w3 24 (dCells c)
  have xb := (xb.next hb3).next l3
  have yb := (yb.next hb3).next l3
  have cb := (cb.next hb3).next l3
  have bl := (bl.trans (hb3.mono bl.size)).trans (l3.mono (Nat.le_trans bl.size hb3.size))
  clear hb3 l3
  obtain ⟨x0, x1, x2, x3, x4⟩ := xb.cells5
  obtain ⟨y0, y1, y2, y3, y4⟩ := yb.cells5
  obtain ⟨c0, c1, c2, c3, c4⟩ := cb.cells5
  obtain ⟨d0, d1, d2, d3, d4⟩ := db.cells5
  have okk : (ok != ok) = false := by simp
  go_wp2_with fail
  have hdW := bl.size
  generalize hW : w3.alloc (.cells (dCells c).toArray 24) = W at *
  clear hW db d0 d1 d2 d3 d4 y0 y1 y2 y3 y4 c0 c1 c2 c3 c4 x0 x1 x2 x3 x4
  go_loopw [9] (fun i wr => ∃ k : Nat, i = .int .i64 k ∧ k ≤ 5 ∧ (0 < k → In8 x.a) ∧ (1 < k → In8 x.b) ∧ (2 < k → In8 x.c) ∧ (3 < k → In8 x.d) ∧ (4 < k → In8 x.e) ∧ W = wr) (fun i _ => 5 - (intOf i).toNat)
  case atStart => exact ⟨0, rfl, by decide, by omega, by omega, by omega, by omega, by omega, rfl⟩
  case round =>
    obtain ⟨k, rfl, hk, h0, h1, h2, h3, h4, rfl⟩ := hrel
    obtain _ | k := k
    · have m0 := xb.cell 0 _ rfl
      by_cases hi : In8 x.a
      · have e2 : ¬ 8 < x.a := by have := hi.2; omega
        have e3 : ¬ x.a < -8 := by have := hi.1; omega
        have HI : Hid _ := hi
        clear hi
        go_wp2_with fail
        go_roundw
        case rel => exact ⟨0 + 1, rfl, by decide, fun _ => HI.out, by omega, by omega, by omega, by omega, trivial⟩
        case measure => simp [intOf]
      · have e1 : 8 < x.a ∨ (¬ 8 < x.a ∧ x.a < -8) := by unfold In8 at hi; omega
        clear hi
        rcases e1 with e1 | ⟨e1, e2⟩
        all_goals
          go_wp2_with fail
          go_ret
          exact ⟨rfl, bl⟩
    obtain _ | k := k
    · have m0 := xb.cell 1 _ rfl
      by_cases hi : In8 x.b
      · have e2 : ¬ 8 < x.b := by have := hi.2; omega
        have e3 : ¬ x.b < -8 := by have := hi.1; omega
        have HI : Hid _ := hi
        clear hi
        go_wp2_with fail
        go_roundw
        case rel => exact ⟨1 + 1, rfl, by decide, fun _ => h0 (by omega), fun _ => HI.out, by omega, by omega, by omega, trivial⟩
        case measure => simp [intOf]
      · have e1 : 8 < x.b ∨ (¬ 8 < x.b ∧ x.b < -8) := by unfold In8 at hi; omega
        clear hi
        rcases e1 with e1 | ⟨e1, e2⟩
        all_goals
          go_wp2_with fail
          go_ret
          exact ⟨rfl, bl⟩
    obtain _ | k := k
    · have m0 := xb.cell 2 _ rfl
      by_cases hi : In8 x.c
      · have e2 : ¬ 8 < x.c := by have := hi.2; omega
        have e3 : ¬ x.c < -8 := by have := hi.1; omega
        have HI : Hid _ := hi
        clear hi
        go_wp2_with fail
        go_roundw
        case rel => exact ⟨2 + 1, rfl, by decide, fun _ => h0 (by omega), fun _ => h1 (by omega), fun _ => HI.out, by omega, by omega, trivial⟩
        case measure => simp [intOf]
      · have e1 : 8 < x.c ∨ (¬ 8 < x.c ∧ x.c < -8) := by unfold In8 at hi; omega
        clear hi
        rcases e1 with e1 | ⟨e1, e2⟩
        all_goals
          go_wp2_with fail
          go_ret
          exact ⟨rfl, bl⟩
    obtain _ | k := k
    · have m0 := xb.cell 3 _ rfl
      by_cases hi : In8 x.d
      · have e2 : ¬ 8 < x.d := by have := hi.2; omega
        have e3 : ¬ x.d < -8 := by have := hi.1; omega
        have HI : Hid _ := hi
        clear hi
        go_wp2_with fail
        go_roundw
        case rel => exact ⟨3 + 1, rfl, by decide, fun _ => h0 (by omega), fun _ => h1 (by omega), fun _ => h2 (by omega), fun _ => HI.out, by omega, trivial⟩
        case measure => simp [intOf]
      · have e1 : 8 < x.d ∨ (¬ 8 < x.d ∧ x.d < -8) := by unfold In8 at hi; omega
        clear hi
        rcases e1 with e1 | ⟨e1, e2⟩
        all_goals
          go_wp2_with fail
          go_ret
          exact ⟨rfl, bl⟩
    obtain _ | k := k
    · have m0 := xb.cell 4 _ rfl
      by_cases hi : In8 x.e
      · have e2 : ¬ 8 < x.e := by have := hi.2; omega
        have e3 : ¬ x.e < -8 := by have := hi.1; omega
        have HI : Hid _ := hi
        clear hi
        go_wp2_with fail
        go_roundw
        case rel => exact ⟨4 + 1, rfl, by decide, fun _ => h0 (by omega), fun _ => h1 (by omega), fun _ => h2 (by omega), fun _ => h3 (by omega), fun _ => HI.out, trivial⟩
        case measure => simp [intOf]
      · have e1 : 8 < x.e ∨ (¬ 8 < x.e ∧ x.e < -8) := by unfold In8 at hi; omega
        clear hi
        rcases e1 with e1 | ⟨e1, e2⟩
        all_goals
          go_wp2_with fail
          go_ret
          exact ⟨rfl, bl⟩
    · obtain rfl : k = 0 := by omega
      have hx8 : In8 x.a ∧ In8 x.b ∧ In8 x.c ∧ In8 x.d ∧ In8 x.e := ⟨h0 (by omega), h1 (by omega), h2 (by omega), h3 (by omega), h4 (by omega)⟩
      clear h0 h1 h2 h3 h4
      have hself := fun wx => Div_any x x fx fx wx
      rw [join_self x] at hself
      simp only [joinV, Option.getD, Option.isSome, dimV, dim0] at hself
      have hnone := fun wx => Mul_any x dim0 fx dim0_fits wx
      rw [join_none x hx8] at hnone
      simp only [joinV, Option.getD, Option.isSome, dimV, dim0] at hnone
      have htext := Text_zero
      simp only [dimV, dim0] at htext
      have q0 := fun wx => hq dim0 dim0 wx
      rw [eqD_self] at q0
      simp only [dim0] at q0
      have q1 := fun wx => hq x x wx
      rw [eqD_self] at q1
      have QQ : Hid _ := hq
      have H8 : Hid _ := hx8
      clear hq hx8
      cases ok
      · clear HC HK hm hm2 sf
        obtain ⟨x0, x1, x2, x3, x4⟩ := xb.cells5
        go_wp2_with fail
        refine (hself _).mono ?_
        rintro e w4 ⟨rfl, hb4⟩
        clear x0 x1 x2 x3 x4
        obtain ⟨eb, l4⟩ := one_box w4 24 [.int .i64 0, .int .i64 0, .int .i64 0, .int .i64 0, .int .i64 0]
        have xb := (xb.next hb4).next l4
        have bl := (bl.trans (hb4.mono bl.size)).trans (l4.mono (Nat.le_trans bl.size hb4.size))
        clear hb4 l4
        obtain ⟨x0, x1, x2, x3, x4⟩ := xb.cells5
        go_wp2_with fail
        refine (hnone _).mono ?_
        rintro e w5 ⟨rfl, hb5⟩
        clear x0 x1 x2 x3 x4
        obtain ⟨fb, l5⟩ := one_box w5 24 (dCells x)
        have xb := (xb.next hb5).next l5
        have eb := (eb.next hb5).next l5
        have bl := (bl.trans (hb5.mono bl.size)).trans (l5.mono (Nat.le_trans bl.size hb5.size))
        clear hb5 l5
        obtain ⟨x0, x1, x2, x3, x4⟩ := xb.cells5
        obtain ⟨e0, e1, e2, e3, e4⟩ := eb.cells5
        obtain ⟨f0, f1, f2, f3, f4⟩ := fb.cells5
        go_wp2_with fail
        refine (htext _).mono ?_
        rintro e w6 ⟨rfl, hb6⟩
        go_wp2_with fail
        go_ret
        exact ⟨rfl, bl.trans (hb6.mono bl.size)⟩
      · have hM : joinS (· + ·) x y = some c := by
          cases hj : joinS (· + ·) x y with
          | none => have := HK.out; rw [hj] at this; cases this
          | some r => have := HC.out; rw [hj] at this; exact congrArg some this
        have hback := fun wx => Div_any c y fc fy wx
        rw [join_back x y c hM H8.out] at hback
        simp only [joinV, Option.getD, Option.isSome, dimV] at hback
        clear HC HK hm hm2 sf hM
        obtain ⟨c0, c1, c2, c3, c4⟩ := cb.cells5
        obtain ⟨y0, y1, y2, y3, y4⟩ := yb.cells5
        go_wp2_with fail
        refine (hback _).mono ?_
        rintro e w7 ⟨rfl, hb7⟩
        clear c0 c1 c2 c3 c4 y0 y1 y2 y3 y4
        obtain ⟨gb, l7⟩ := one_box w7 24 (dCells x)
        have xb := (xb.next hb7).next l7
        have bl := (bl.trans (hb7.mono bl.size)).trans (l7.mono (Nat.le_trans bl.size hb7.size))
        clear hb7 l7
        obtain ⟨x0, x1, x2, x3, x4⟩ := xb.cells5
        obtain ⟨g0, g1, g2, g3, g4⟩ := gb.cells5
        go_wp2_with fail
        refine (hself _).mono ?_
        rintro e w4 ⟨rfl, hb4⟩
        clear x0 x1 x2 x3 x4 g0 g1 g2 g3 g4
        obtain ⟨eb, l4⟩ := one_box w4 24 [.int .i64 0, .int .i64 0, .int .i64 0, .int .i64 0, .int .i64 0]
        have xb := (xb.next hb4).next l4
        have bl := (bl.trans (hb4.mono bl.size)).trans (l4.mono (Nat.le_trans bl.size hb4.size))
        clear hb4 l4
        obtain ⟨x0, x1, x2, x3, x4⟩ := xb.cells5
        go_wp2_with fail
        refine (hnone _).mono ?_
        rintro e w5 ⟨rfl, hb5⟩
        clear x0 x1 x2 x3 x4
        obtain ⟨fb, l5⟩ := one_box w5 24 (dCells x)
        have xb := (xb.next hb5).next l5
        have eb := (eb.next hb5).next l5
        have bl := (bl.trans (hb5.mono bl.size)).trans (l5.mono (Nat.le_trans bl.size hb5.size))
        clear hb5 l5
        obtain ⟨x0, x1, x2, x3, x4⟩ := xb.cells5
        obtain ⟨e0, e1, e2, e3, e4⟩ := eb.cells5
        obtain ⟨f0, f1, f2, f3, f4⟩ := fb.cells5
        go_wp2_with fail
        refine (htext _).mono ?_
        rintro e w6 ⟨rfl, hb6⟩
        go_wp2_with fail
        go_ret
        exact ⟨rfl, bl.trans (hb6.mono bl.size)⟩
end Go.Proofs.YtjmngnnmnbhfpaaDoor
