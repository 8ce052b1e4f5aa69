/- The walk of the statement RankNil. -/
import Derived.Test.YtgljcaebgcmahaaRkL
namespace Go.Proofs.Ytgljcaebgcmahaa
open Go.RowKit

theorem ins_none (v : Int) : ins v [] = [v] := by simp [ins]
theorem nearest_one : nearest 1 1 = 1 := by decide
theorem rem_one (v : Int) : rem v [v] = [] := by simp [rem, cnt]
set_option maxRecDepth 20000 in
set_option maxHeartbeats 1000000 in
theorem rankNil_walk (v : Int) (_hv : (Lit.int .i64 v).wf = true) (w : World) :
    Calls Try.prog 6 #[.int .i64 v] w fun e w' => e = .returned (.bool true) ∧ Below w.heap.size w w' := by
  go_enter Try.func6, Try.ntmps6
  go_wp2_with fail
  refine (awake_any w).mono ?_
  rintro e w1 ⟨rfl, hb1⟩
  go_wp2_with fail
  refine (rPut_nil v w1).mono ?_
  rintro e w2 ⟨rfl, rfl⟩
  go_wp2_with fail
  refine (rBy_nil _ w1).mono ?_
  rintro e w2 ⟨rfl, rfl⟩
  go_wp2_with fail
  refine (rAt_nil _ w1).mono ?_
  rintro e w2 ⟨rfl, rfl⟩
  go_wp2_with fail
  refine (rTake_nil v w1).mono ?_
  rintro e w2 ⟨rfl, hb2⟩
  go_wp2_with fail
  refine (rLen_nil w2).mono ?_
  rintro e w3 ⟨rfl, rfl⟩
  go_wp2_with fail
  refine (rList_nil w2).mono ?_
  rintro e w3 ⟨rfl, rfl⟩
  have hs2 := Nat.le_trans hb1.size hb2.size
  have hb3 : Below w.heap.size w w2 := hb1.trans (hb2.mono hb1.size)
  have hm : Own w.heap.size (w2.alloc (.cells #[.slice none 0 0] 45)) w2.heap.size w2.heap.size [] := ⟨⟨.slice none 0 0, Box.new w2 [.slice none 0 0] _, .inl ⟨rfl, rfl, rfl⟩⟩, List.Pairwise.nil, ⟨hs2, hs2⟩, by simp; omega⟩
  have hb4 : Below w.heap.size w (w2.alloc (.cells #[.slice none 0 0] 45)) := hb3.alloc hs2 _
  have HM := hid hm
  have HB := hid hb4
  clear hm hb4 hb3 hs2 hb1 hb2
  go_wp2_with fail
  refine Calls.mono (oPut _ _ _ [] v _ HM.out (by decide)) ?_
  rintro e w3 ⟨rfl, g3, h3, t3⟩
  rw [ins_none] at h3
  have H3 := hid h3
  clear h3
  go_wp2_with fail
  refine Calls.mono (rBy_yes _ _ [v] 1 v w3 H3.out.rk (by decide) (by decide) (by simp) (by simp [nearest_one])) ?_
  rintro e w4 ⟨rfl, rfl⟩
  go_wp2_with fail
  refine Calls.mono (oTake _ _ _ [v] v w3 H3.out (by simp) (by simp)) ?_
  rintro e w4 ⟨rfl, g4, h4, t4⟩
  rw [rem_one] at h4
  have H4 := hid h4
  clear h4
  go_wp2_with fail
  refine Calls.mono (rLen _ _ [] w4 H4.out.rk) ?_
  rintro e w5 ⟨rfl, rfl⟩
  go_wp2_with fail
  go_ret
  exact ⟨rfl, HB.out.trans (t3.trans t4)⟩
end Go.Proofs.Ytgljcaebgcmahaa
