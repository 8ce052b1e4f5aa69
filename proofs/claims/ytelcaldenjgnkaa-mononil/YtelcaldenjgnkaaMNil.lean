/- The walk of the statement MonoNil. -/
import Derived.Test.YtelcaldenjgnkaaMoO
namespace Go.Proofs.Ytelcaldenjgnkaa
open Go.RowKit

theorem rd_two (w : World) (x y : Int) (t : TypeId) : Rd (w.alloc (.cells #[.int .i64 x, .int .i64 y] t)) (.slice (some ⟨w.heap.size, 0, none⟩) 2 2) [x, y] := by
  have h := Box.new w [.int .i64 x, .int .i64 y] t
  refine ⟨_, 2, rfl, .inr ⟨w.heap.size, 0, rfl, h.lt, fun i z hz => ?_⟩⟩
  rw [Nat.zero_add]
  refine h.cell i _ ?_
  have hi : i < 2 := (List.getElem?_eq_some_iff.1 hz).1
  obtain rfl | rfl : i = 0 ∨ i = 1 := by omega
  · simp at hz; subst hz; rfl
  · simp at hz; subst hz; rfl
set_option maxRecDepth 20000 in
set_option maxHeartbeats 1000000 in
theorem monoNil_walk (v : Int) (_hv : (Lit.int .i64 v).wf = true) (w : World) :
    Calls Try.prog 6 #[.int .i64 v] w fun e w' => e = .returned (.bool true) ∧ Below w.heap.size w w' := by
  go_enter Try.func6, Try.ntmps6
  go_wp2_with fail
  refine (awake_any w).mono ?_
  rintro e w1 ⟨rfl, hb1⟩
  go_wp2_with fail
  refine (mPut_nil v w1).mono ?_
  rintro e w2 ⟨rfl, rfl⟩
  go_wp2_with fail
  refine (mBest_nil w1).mono ?_
  rintro e w2 ⟨rfl, rfl⟩
  go_wp2_with fail
  refine (mTake_nil w1).mono ?_
  rintro e w2 ⟨rfl, rfl⟩
  go_wp2_with fail
  refine (mLen_nil w1).mono ?_
  rintro e w2 ⟨rfl, rfl⟩
  go_wp2_with fail
  refine (mKept_nil w1).mono ?_
  rintro e w2 ⟨rfl, rfl⟩
  have hm := mo_new w1 false 42
  have hb2 : Below w.heap.size w (w1.alloc (.cells #[.bool false, .int .i64 0, .slice none 0 0] 42)) := hb1.alloc hb1.size _
  have HM := hid hm
  have HB := hid hb2
  clear hm hb2
  go_wp2_with fail
  refine Calls.mono (mPut _ _ false [] v _ HM.out (by decide)) ?_
  rintro e w3 ⟨rfl, g3, h3, t3, o3⟩
  have H3 := hid h3
  clear h3
  go_wp2_with fail
  refine Calls.mono (mPut _ _ false [v] 0 w3 H3.out (by simp)) ?_
  rintro e w4 ⟨rfl, g4, h4, t4, o4⟩
  have H4 := hid h4
  have hb5 : Below w4.heap.size w4 (w4.alloc (.cells #[.int .i64 v, .int .i64 0] 2)) := (Below.refl _ _).alloc (Nat.le_refl _) _
  have hrd := rd_two w4 v 0 2
  have HB5 := hid hb5
  have HRD := hid hrd
  clear h4 hb5 hrd
  go_wp2_with fail
  refine Calls.mono (looks_any _ _ false _ [v, 0] _ (H4.out.next HB5.out) HRD.out (by simp)) ?_
  rintro e w6 ⟨rfl, hb6⟩
  go_wp2_with fail
  go_ret
  have s2 := HB.out.size
  have s1 := hb1.size
  simp only [World.size_alloc] at s2 o3
  have e3 := HB.out.trans (t3.below (B := w.heap.size) (by simp; omega) HB.out.size)
  have e4 := e3.trans (t4.below (B := w.heap.size) (by simp; omega) e3.size)
  have e5 := e4.trans (HB5.out.mono e4.size)
  exact ⟨rfl, e5.trans (hb6.mono e5.size)⟩
end Go.Proofs.Ytelcaldenjgnkaa
