/- The document's Formed. -/
import Derived.Test.YtdikeicnefgjcabDoorTrR
import Derived.Test.YtdikeicnefgjcabDoorTrH
import Derived.Deep.RegionHeld3
namespace Go.Proofs.YtdikeicnefgjcabDoor
open Go.RowKit

theorem head_own (k : Int) (s : ByteArray) (n m : Int) (c : Nat) : headB k s n m c = (decide (1 ≤ k) && (decide (k ≤ 32) && (decide (arI k = c) && ownB k s n m))) := by
  refine Bool.eq_iff_iff.2 ?_
  simp only [Bool.and_eq_true, decide_eq_true_eq]
  have plain : ∀ lo hi, plainB k s n m lo hi = true ↔ lo ≤ k ∧ k ≤ hi ∧ bareB s n m = true := fun lo hi => by simp only [plainB, Bool.and_eq_true, decide_eq_true_eq]
  have own13 : 13 ≤ k → ownB k s n m = bareB s n m := fun h => by
    unfold ownB
    rw [if_neg (by omega), if_neg (by omega), if_neg (by omega), if_neg (by omega), if_neg (by omega)]
  unfold headB
  by_cases c0 : c = 0
  · subst c0
    rw [if_pos rfl]
    have ar : arI k = 0 ↔ k ≤ 12 := by unfold arI; (repeat' split) <;> omega
    rw [ar]
    unfold leafB ownB
    by_cases k1 : k = 1
    · rw [if_pos k1, if_pos k1]; exact ⟨fun h => ⟨by omega, by omega, by omega, h⟩, fun h => h.2.2.2⟩
    rw [if_neg k1, if_neg k1]
    by_cases k2 : k = 2
    · rw [if_pos k2, if_pos k2]; exact ⟨fun h => ⟨by omega, by omega, by omega, h⟩, fun h => h.2.2.2⟩
    rw [if_neg k2, if_neg k2]
    by_cases k6 : k = 6
    · rw [if_pos k6, if_pos k6]; exact ⟨fun h => ⟨by omega, by omega, by omega, h⟩, fun h => h.2.2.2⟩
    rw [if_neg k6, if_neg k6]
    by_cases k7 : 7 ≤ k ∧ k ≤ 11
    · rw [if_pos k7, if_pos k7]; exact ⟨fun h => ⟨by omega, by omega, by omega, h⟩, fun h => h.2.2.2⟩
    rw [if_neg k7, if_neg k7]
    by_cases k12 : k = 12
    · rw [if_pos k12, if_pos k12]; exact ⟨fun h => ⟨by omega, by omega, by omega, h⟩, fun h => h.2.2.2⟩
    rw [if_neg k12, if_neg k12, plain]
    exact ⟨fun h => ⟨by omega, by omega, by omega, h.2.2⟩, fun h => ⟨by omega, by omega, h.2.2.2⟩⟩
  rw [if_neg c0]
  by_cases c1 : c = 1
  · subst c1
    rw [if_pos rfl, plain]
    have ar : arI k = 1 ↔ 13 ≤ k ∧ k ≤ 17 := by unfold arI; (repeat' split) <;> omega
    rw [ar]
    exact ⟨fun h => ⟨by omega, by omega, by omega, by rw [own13 (by omega)]; exact h.2.2⟩, fun h => ⟨by omega, by omega, by rw [← own13 (by omega)]; exact h.2.2.2⟩⟩
  rw [if_neg c1]
  by_cases c2 : c = 2
  · subst c2
    rw [if_pos rfl, plain]
    have ar : arI k = 2 ↔ 18 ≤ k ∧ k ≤ 31 := by unfold arI; (repeat' split) <;> omega
    rw [ar]
    exact ⟨fun h => ⟨by omega, by omega, by omega, by rw [own13 (by omega)]; exact h.2.2⟩, fun h => ⟨by omega, by omega, by rw [← own13 (by omega)]; exact h.2.2.2⟩⟩
  rw [if_neg c2]
  by_cases c3 : c = 3
  · subst c3
    rw [if_pos rfl, plain]
    have ar : arI k = 3 ↔ 32 ≤ k := by unfold arI; (repeat' split) <;> omega
    rw [ar]
    exact ⟨fun h => ⟨by omega, by omega, by omega, by rw [own13 (by omega)]; exact h.2.2⟩, fun h => ⟨by omega, by omega, by rw [← own13 (by omega)]; exact h.2.2.2⟩⟩
  rw [if_neg c3]
  constructor
  · intro h; cases h
  · rintro ⟨_, _, h, _⟩
    unfold arI at h
    split at h
    · omega
    · split at h
      · omega
      · split at h <;> omega
end Go.Proofs.YtdikeicnefgjcabDoor
