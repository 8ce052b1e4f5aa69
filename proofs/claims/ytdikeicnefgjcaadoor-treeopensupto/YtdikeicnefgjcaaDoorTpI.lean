/- TreeOpens: Open gives a tree's parts just where the tree is formed and of the kind that is asked, and as new memory. -/
import Derived.Test.YtdikeicnefgjcaaDoorTpH
import Derived.Test.YtdikeicnefgjcaaDoorTsB
import Derived.Test.YtdikeicnefgjcaaDoorTrU
import Derived.Test.YtdikeicnefgjcaaDoorTrW
namespace Go.Proofs.YtdikeicnefgjcaaDoor
open Go.RowKit

theorem sameB_self (t : Tm) : sameB t t = true := by
  induction t using Tm.ind with
  | h t ih =>
    rw [sameB_eq]
    have h1 : hdEq t t = true := by unfold hdEq; simp
    have h2 : sameL t.parts t.parts = true := by
      unfold sameL
      simp only [decide_true, Bool.true_and, List.all_eq_true, List.mem_range]
      intro i hi
      rw [samePt_at hi hi]
      exact ih _ (List.getElem_mem hi)
    rw [h1, h2]; rfl
/-- What Open answers, whatever is asked. -/
def OpenR (z : Nat) (t : Tm) (A : Int) (w : World) (e : Ending) (w' : World) : Prop := ∃ a n c er, e = .returned (.tuple #[.slice a n c, .int .i64 er]) ∧ Hid (Below w.heap.size w w') ∧
  Hid (goodB t = true → t.kind = A → er = 0 ∧ n = t.parts.length ∧ LAt z w.heap.size w' (.slice a n c) t.parts) ∧ Hid (¬ (goodB t = true ∧ t.kind = A) → er = 1 ∧ n = 0)
theorem open_r {z : Nat} (hz : z ≤ 281474976710656) (t : Tm) (v : Value) (A : Int) (w : World) (hs : Sits z w t v) (hT : TabsAt w) (hn : nodes t ≤ 16384) : Calls Tryd.prog 27 #[tmV t v, .int .i64 A] w (OpenR z t A w) := by
  by_cases h : goodB t = true ∧ t.kind = A
  · obtain ⟨h1, rfl⟩ := h
    refine (open_q hz t v w hs hT hn h1).mono ?_
    rintro e w1 ⟨a, n, c, rfl, hl, hb⟩
    exact ⟨a, n, c, 0, rfl, hb, (fun _ _ => ⟨rfl, hl.len, hl⟩), fun hh => absurd ⟨h1, rfl⟩ hh⟩
  · refine (open_no (by omega) t v A w hs hT (by
      by_cases h1 : goodB t = true
      · exact .inr (fun e => h ⟨h1, e⟩)
      · exact .inl (by simpa using h1))).mono ?_
    rintro e w1 ⟨rfl, hb⟩
    exact ⟨none, 0, 0, 1, rfl, hb, (fun h1 h2 => absurd ⟨h1, h2⟩ h), fun _ => ⟨rfl, rfl⟩⟩
end Go.Proofs.YtdikeicnefgjcaaDoor
