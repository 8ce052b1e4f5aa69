import Derived.Test.YtigldebdljfnbaaDoorMhC
namespace Go.Proofs.YtigldebdljfnbaaDoor
open Go.RowKit



theorem mk_of {k : Nat} {c : Co} {ss : List Int} {r : Int} {ts : List Int} (hm : mkT.getD k none = some (r, ts)) (h : sortF ladF k c ss ≠ 0) : ss = ts ∧ sortF ladF k c ss = r := by
  unfold sortF at h ⊢
  rw [hm] at h ⊢
  dsimp only [mkF] at h ⊢
  by_cases e : ss = ts
  · exact ⟨e, if_pos e⟩
  · rw [if_neg e] at h; exact absurd rfl h
theorem len1 {l : List Co} (h : l.length = 1) : ∃ x, l = [x] := by
  match l, h with
  | [x], h => exact ⟨x, rfl⟩
theorem len2 {l : List Co} (h : l.length = 2) : ∃ x y, l = [x, y] := by
  match l, h with
  | [x, y], h => exact ⟨x, y, rfl⟩
theorem alike_of {k : Nat} {ss : List Int} (h : alikeF k ss ≠ 0) : ss.length = k ∧ ss.headD 0 ≠ 3 ∧ (∀ x, x ∈ ss → x = ss.headD 0) ∧ alikeF k ss = ss.headD 0 := by
  by_cases e : ss.length = k ∧ ss.headD 0 ≠ 3 ∧ ∀ x, x ∈ ss → x = ss.headD 0
  · exact ⟨e.1, e.2.1, e.2.2, alikeF_yes e⟩
  · exact absurd (alikeF_no e) h
theorem choice_of {ss : List Int} (h : choiceF ss ≠ 0) : ∃ a, ss = [2, a, a] ∧ choiceF ss = a := by
  unfold choiceF at h ⊢
  by_cases e : ss.headD 0 = 2
  · rw [if_pos e] at h ⊢
    obtain ⟨h1, h2, h3, h4⟩ := alike_of h
    match ss, e, h1, h3, h4 with
    | [x, a, b], e, h1, h3, h4 =>
      have hb : b = a := h3 b (by simp)
      have hx : x = 2 := e
      subst hb hx
      exact ⟨b, rfl, h4⟩
  · rw [if_neg e] at h; exact absurd rfl h
theorem zero_64 : C64 0 := by unfold C64; decide




end Go.Proofs.YtigldebdljfnbaaDoor
