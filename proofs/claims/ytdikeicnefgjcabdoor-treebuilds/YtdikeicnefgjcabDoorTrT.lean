/- The document's Literal. -/
import Derived.Test.YtdikeicnefgjcabDoorTrS
import Derived.Test.YtdikeicnefgjcabDoorTrE
namespace Go.Proofs.YtdikeicnefgjcabDoor
open Go.RowKit

/-- What Literal answers. -/
def litOut (r : Option (Tm × Int)) : Value := match r with
  | some (x, s) => .tuple #[.int .i64 (s * x.n), .string x.text, .bool true]
  | none => .tuple #[.int .i64 0, .string ⟨#[]⟩, .bool false]
theorem num_formed {t : Tm} (h : numB t = true) : formedB t = true := by
  unfold numB at h
  simp only [Bool.and_eq_true, decide_eq_true_eq] at h
  obtain ⟨hk, hl, hf⟩ := h
  rw [formedB_eq, hl, List.eq_nil_of_length_eq_zero hl, headB, if_pos rfl, hf]; rfl
theorem plain_iff {k : Int} {s : ByteArray} {n m lo hi : Int} : plainB k s n m lo hi = true ↔ lo ≤ k ∧ k ≤ hi ∧ bareB s n m = true := by simp only [plainB, Bool.and_eq_true, decide_eq_true_eq]
theorem lit_none {t : Tm} (h : formedB t = false) : litR t = none := by
  have hn : ¬ numB t = true := fun e => by rw [num_formed e] at h; cases h
  unfold litR
  rw [if_neg hn]
  match hp : t.parts with
  | [] => rfl
  | [x] =>
    simp only
    rw [if_neg]
    rintro ⟨h1, h2⟩
    unfold negB at h1
    rw [Bool.and_eq_true, plain_iff] at h1
    rw [formedB_eq, hp, headB] at h
    simp only [List.length_singleton, Nat.one_ne_zero, if_false, if_true, List.all_cons, List.all_nil, Bool.and_true, num_formed h2] at h
    rw [show plainB t.kind t.text t.n t.m 13 17 = true from plain_iff.2 ⟨h1.1.1, by omega, h1.1.2.2⟩] at h
    cases h
  | _ :: _ :: _ => rfl
theorem formed_num {t : Tm} (h : formedB t = true) (hk : t.kind = 1) : numB t = true ∧ t.parts = [] := by
  rw [formedB_eq, Bool.and_eq_true] at h
  obtain ⟨h1, _⟩ := h
  unfold headB at h1
  have hl : t.parts.length = 0 := by
    rcases Nat.eq_zero_or_pos t.parts.length with e | e
    · exact e
    · rw [if_neg (by omega)] at h1
      exfalso
      split at h1
      · rw [plain_iff] at h1; omega
      · split at h1
        · rw [plain_iff] at h1; omega
        · split at h1
          · rw [plain_iff] at h1; omega
          · cases h1
  rw [if_pos hl] at h1
  unfold numB
  rw [decide_eq_true hk, decide_eq_true hl, h1]
  exact ⟨rfl, List.eq_nil_of_length_eq_zero hl⟩
theorem formed_neg {t : Tm} (h : formedB t = true) (hk : t.kind = 13) : ∃ x, t.parts = [x] ∧ formedB x = true ∧ negB t = true := by
  rw [formedB_eq, Bool.and_eq_true] at h
  obtain ⟨h1, h2⟩ := h
  rw [head_own] at h1
  simp only [Bool.and_eq_true, decide_eq_true_eq] at h1
  obtain ⟨_, _, h3, h4⟩ := h1
  rw [hk] at h3
  have hl : t.parts.length = 1 := h3.symm
  match hp : t.parts, hl with
  | [x], _ =>
    refine ⟨x, rfl, ?_, ?_⟩
    · rw [hp] at h2; simpa using h2
    · unfold negB
      rw [hp, Bool.and_eq_true, plain_iff]
      have hb : ownB t.kind t.text t.n t.m = bareB t.text t.n t.m := by
        unfold ownB
        rw [if_neg (by omega), if_neg (by omega), if_neg (by omega), if_neg (by omega), if_neg (by omega)]
      exact ⟨⟨by omega, by omega, by rw [← hb]; exact h4⟩, rfl⟩
theorem lit_other {t : Tm} (h1 : t.kind ≠ 1) (h2 : t.kind ≠ 13) : litR t = none := by
  unfold litR
  rw [if_neg (by unfold numB; rw [decide_eq_false h1]; simp)]
  match t.parts with
  | [] => rfl
  | [x] =>
    simp only
    rw [if_neg]
    rintro ⟨h, _⟩
    unfold negB at h
    rw [Bool.and_eq_true, plain_iff] at h
    omega
  | _ :: _ :: _ => rfl
theorem leaf_num_pos {t : Tm} (h : numB t = true) : 0 ≤ t.n := by
  unfold numB at h
  simp only [Bool.and_eq_true, decide_eq_true_eq] at h
  obtain ⟨hk, _, hf⟩ := h
  unfold leafB at hf
  rw [if_pos hk] at hf
  simp only [Bool.and_eq_true, decide_eq_true_eq] at hf
  exact hf.1
end Go.Proofs.YtdikeicnefgjcabDoor
