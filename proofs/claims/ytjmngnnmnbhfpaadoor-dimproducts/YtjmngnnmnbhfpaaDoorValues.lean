/- The statement DimValues: the walk of her Go text. -/
import Derived.Test.YtjmngnnmnbhfpaaDoorDimX
import Derived.Test.YtjmngnnmnbhfpaaDoorDiv1
import Derived.Test.YtjmngnnmnbhfpaaDoorFixSc
import Derived.Test.YtjmngnnmnbhfpaaDoorRef8D
import Derived.OpenShut
import Derived.Deep.RegionWith
namespace Go.Proofs.YtjmngnnmnbhfpaaDoor
open Go.RowKit

theorem rheld_eq (n : Int) : rheld n = held n := rfl
def scaleS (a m d : Int) : Int := if m < 0 ∨ d < 1 then 0 else held (a * m / d)
theorem Scale_any (a m d : Int) (a0 : -9223372036854775808 ≤ a) (a1 : a < 9223372036854775808) (m1 : m < 9223372036854775808) (d1 : d < 9223372036854775808) (w : World) :
    Calls Tryd.prog 35 #[.int .i64 a, .int .i64 m, .int .i64 d] w fun e w' => e = .returned (.int .i64 (scaleS a m d)) ∧ Below w.heap.size w w' := by
  unfold scaleS
  by_cases h : m < 0 ∨ d < 1
  · rw [if_pos h]; exact Scale_none a m d h w
  · rw [if_neg h]; exact Scale_of a m d a0 a1 (by omega) m1 (by omega) d1 (divOK_any _ _ (by omega) (by omega)) w
theorem rScale_all (a m d : Int) (a0 : -9223372036854775808 ≤ a) (a1 : a < 9223372036854775808) (m1 : m < 9223372036854775808) (d1 : d < 9223372036854775808) (w : World) :
    Calls Tryd.prog 36 #[.int .i64 a, .int .i64 m, .int .i64 d] w fun e w' => e = .returned (.int .i64 (scaleS a m d)) ∧ Below w.heap.size w w' := by
  unfold scaleS
  by_cases h : m < 0 ∨ d < 1
  · rw [if_pos h]; exact rScale_none a m d h w
  · rw [if_neg h]; exact rScale_any a m d a0 a1 (by omega) m1 (by omega) d1 w

structure UFits (u : U5) : Prop where
  n0 : -9223372036854775808 ≤ u.num
  n1 : u.num < 9223372036854775808
  d0 : -9223372036854775808 ≤ u.den
  d1 : u.den < 9223372036854775808
theorem Value_any (u : U5) (v : Int) (hu : UFits u) (v0 : -9223372036854775808 ≤ v) (v1 : v < 9223372036854775808) (w : World) :
    Calls Tryd.prog 17 #[unitV u, .int .i64 v] w fun e w' => e = .returned (.int .i64 (scaleS v u.num u.den)) ∧ Below w.heap.size w w' := by
  go_enter Tryd.func17, Tryd.ntmps17
  go_wp2_with fail
  refine (Scale_any v u.num u.den v0 v1 hu.n1 hu.d1 _).mono ?_
  rintro e w1 ⟨rfl, hb1⟩
  go_wp2_with fail
  go_ret
  exact ⟨rfl, below_two ((Below.refl _ _).alloc (Nat.le_refl _) _) hb1⟩
theorem rValue_any (u : U5) (v : Int) (hu : UFits u) (v0 : -9223372036854775808 ≤ v) (v1 : v < 9223372036854775808) (w : World) :
    Calls Tryd.prog 18 #[unitV u, .int .i64 v] w fun e w' => e = .returned (.int .i64 (scaleS v u.num u.den)) ∧ Below w.heap.size w w' := by
  go_enter Tryd.func18, Tryd.ntmps18
  go_wp2_with fail
  refine (rScale_all v u.num u.den v0 v1 hu.n1 hu.d1 _).mono ?_
  rintro e w1 ⟨rfl, hb1⟩
  go_wp2_with fail
  go_ret
  exact ⟨rfl, below_two ((Below.refl _ _).alloc (Nat.le_refl _) _) hb1⟩

theorem Box.cells7 {w : World} {g : Nat} {v0 v1 v2 v3 v4 v5 v6 : Value} (h : Box w g [v0, v1, v2, v3, v4, v5, v6]) : w.cell? ⟨g, 0, none⟩ = some v0 ∧ w.cell? ⟨g, 1, none⟩ = some v1 ∧ w.cell? ⟨g, 2, none⟩ = some v2 ∧ w.cell? ⟨g, 3, none⟩ = some v3 ∧ w.cell? ⟨g, 4, none⟩ = some v4 ∧ w.cell? ⟨g, 5, none⟩ = some v5 ∧ w.cell? ⟨g, 6, none⟩ = some v6 :=
  ⟨h.cell 0 _ rfl, h.cell 1 _ rfl, h.cell 2 _ rfl, h.cell 3 _ rfl, h.cell 4 _ rfl, h.cell 5 _ rfl, h.cell 6 _ rfl⟩
set_option maxHeartbeats 4000000 in
theorem dimValues_walk (u : U5) (v : Int) (un : (Lit.int .i64 u.num).wf = true) (ud : (Lit.int .i64 u.den).wf = true) (hv : (Lit.int .i64 v).wf = true) (w : World) (hN : NamesAt w) :
    Calls Tryd.prog 6 #[unitV u, .int .i64 v] w fun e w' => e = .returned (.bool true) ∧ Below w.heap.size w w' := by
  have hu : UFits u := by
    have h1 := bounds_i64 un
    have h2 := bounds_i64 ud
    constructor <;> omega
  have hb := bounds_i64 hv
  have hval := fun wx => Value_any u v hu (by omega) (by omega) wx
  have rval := fun wx => rValue_any u v hu (by omega) (by omega) wx
  generalize scaleS v u.num u.den = r at *
  have HB : Hid _ := hb
  clear hb un ud hv
  obtain ⟨ub, l0⟩ := one_box w 26 (uCells u)
  have hN1 : NamesAt (w.alloc (.cells (uCells u).toArray 26)).drew := hN.later l0.drew
  have lq := l0.drew
  go_enter Tryd.func6, Tryd.ntmps6
  go_wp2_with fail
  go_region_with (first
    | (go_at_call 9; refine (awake_any _ hN1).mono ?_; rintro e w1 ⟨rfl, hb1⟩; have b1 := ub.next ((Below.refl _ _).drew.trans hb1); obtain ⟨x0, x1, x2, x3, x4, x5, x6⟩ := b1.cells7; have bl := lq.trans (hb1.mono lq.size); clear hb1)
    | (go_at_call 17; refine (hval _).mono ?_; rintro e w2 ⟨rfl, hb2⟩; (first | (have b2 := b1.next hb2; obtain ⟨y0, y1, y2, y3, y4, y5, y6⟩ := b2.cells7; have bl2 := bl.trans (hb2.mono bl.size)) | (have bl3 := bl2.trans (hb2.mono bl2.size))))
    | (go_at_call 18; refine (rval _).mono ?_; rintro e w3 ⟨rfl, hb3⟩; (first | (have b2 := b1.next hb3; obtain ⟨y0, y1, y2, y3, y4, y5, y6⟩ := b2.cells7; have bl2 := bl.trans (hb3.mono bl.size)) | (have bl3 := bl2.trans (hb3.mono bl2.size)))))
  all_goals
    clear hb2 hb3
    go_wp2_with fail
    go_ret
    exact ⟨rfl, bl3⟩
end Go.Proofs.YtjmngnnmnbhfpaaDoor
