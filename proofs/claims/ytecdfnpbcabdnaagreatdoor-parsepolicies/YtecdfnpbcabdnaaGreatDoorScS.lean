/- The document's answer: a sequence, put together by arithmetic. -/
import Derived.Test.YtecdfnpbcabdnaaGreatDoorScI
namespace Go.Proofs.YtecdfnpbcabdnaaGreatDoor
open Go.RowKit Go.Lib

/-- The first byte says how many bytes there are, what it bears itself, and the least rune of that many bytes. -/
def Lead (b n r0 least : Nat) : Prop := 128 ≤ b ∧ ((b / 32 = 6 ∧ n = 2 ∧ r0 = b % 32 ∧ least = 128) ∨ (b / 16 = 14 ∧ n = 3 ∧ r0 = b % 16 ∧ least = 2048) ∨ (b / 8 = 30 ∧ n = 4 ∧ r0 = b % 8 ∧ least = 65536))
/-- What k bytes say together. -/
def acc (g : Nat → Nat) (r0 : Nat) : Nat → Option Nat
  | 0 => none
  | 1 => some r0
  | k + 2 => (acc g r0 (k + 1)).bind fun r => if g (k + 1) / 64 = 2 then some (r * 64 + g (k + 1) % 64) else none
theorem acc_step {g : Nat → Nat} {r0 k r : Nat} (hk : 1 ≤ k) (h : acc g r0 k = some r) : acc g r0 (k + 1) = if g k / 64 = 2 then some (r * 64 + g k % 64) else none := by
  obtain ⟨k, rfl⟩ : ∃ j, k = j + 1 := ⟨k - 1, by omega⟩
  simp only [acc, h, Option.bind_some]
theorem acc_none {g : Nat → Nat} {r0 k : Nat} (hk : 1 ≤ k) (h : acc g r0 k = none) : ∀ m, acc g r0 (k + m) = none
  | 0 => h
  | m + 1 => by
    obtain ⟨k, rfl⟩ : ∃ j, k = j + 1 := ⟨k - 1, by omega⟩
    have := acc_none hk h m
    rw [show k + 1 + (m + 1) = (k + m) + 2 by omega]
    rw [show k + 1 + m = k + m + 1 by omega] at this
    simp only [acc, this, Option.bind_none]
theorem lead_short {b n r0 least m : Nat} {g : Nat → Nat} (hL : Lead b n r0 least) (h : m < n) : noSeq (decodeN m b (g 1) (g 2) (g 3)) = true := by
  unfold decodeN
  obtain ⟨h0, h1 | h1 | h1⟩ := hL
  all_goals (
    rw [if_neg (by omega), if_neg (by omega), if_neg (by omega), if_neg (by omega)]
    rfl)
theorem lead_none {b n r0 least m : Nat} {g : Nat → Nat} (hL : Lead b n r0 least) (h : acc g r0 n = none) : noSeq (decodeN m b (g 1) (g 2) (g 3)) = true := by
  unfold decodeN
  obtain ⟨h0, ⟨h1, rfl, rfl, rfl⟩ | ⟨h1, rfl, rfl, rfl⟩ | ⟨h1, rfl, rfl, rfl⟩⟩ := hL
  · simp only [acc, Option.bind_some] at h
    by_cases k1 : g 1 / 64 = 2
    · simp [k1] at h
    rw [if_neg (by omega), if_neg (by omega), if_neg (by omega), if_neg (by omega)]
    rfl
  · simp only [acc, Option.bind_some] at h
    by_cases k1 : g 1 / 64 = 2
    · by_cases k2 : g 2 / 64 = 2
      · simp [k1, k2] at h
      rw [if_neg (by omega), if_neg (by omega), if_neg (by omega), if_neg (by omega)]
      rfl
    rw [if_neg (by omega), if_neg (by omega), if_neg (by omega), if_neg (by omega)]
    rfl
  · simp only [acc, Option.bind_some] at h
    by_cases k1 : g 1 / 64 = 2
    · by_cases k2 : g 2 / 64 = 2
      · by_cases k3 : g 3 / 64 = 2
        · simp [k1, k2, k3] at h
        rw [if_neg (by omega), if_neg (by omega), if_neg (by omega), if_neg (by omega)]
        rfl
      rw [if_neg (by omega), if_neg (by omega), if_neg (by omega), if_neg (by omega)]
      rfl
    rw [if_neg (by omega), if_neg (by omega), if_neg (by omega), if_neg (by omega)]
    rfl
/-- What the bytes say is a rune, or none. -/
abbrev outR (r least : Nat) : Prop := r < least ∨ 1114111 < r ∨ (55296 ≤ r ∧ r ≤ 57343)
theorem lead_some {b n r0 least m : Nat} {g : Nat → Nat} (hL : Lead b n r0 least) {r : Nat} (h : acc g r0 n = some r) (hm : n ≤ m) : (outR r least → noSeq (decodeN m b (g 1) (g 2) (g 3)) = true) ∧ (¬ outR r least → decodeN m b (g 1) (g 2) (g 3) = (r, n)) := by
  unfold decodeN
  obtain ⟨h0, ⟨h1, rfl, rfl, rfl⟩ | ⟨h1, rfl, rfl, rfl⟩ | ⟨h1, rfl, rfl, rfl⟩⟩ := hL
  · simp only [acc, Option.bind_some, Nat.zero_add] at h
    by_cases k1 : g 1 / 64 = 2
    · simp only [if_pos k1, Option.some.injEq] at h
      rw [if_neg (by omega), if_pos (by omega)]
      constructor
      · intro ho
        rw [if_neg (by omega)]
        rfl
      · intro ho
        rw [if_pos (by omega), h]
    · simp [k1] at h
  · simp only [acc, Option.bind_some, Nat.zero_add, Nat.reduceAdd] at h
    by_cases k1 : g 1 / 64 = 2
    · by_cases k2 : g 2 / 64 = 2
      · simp only [if_pos k1, if_pos k2, Option.bind_some, Option.some.injEq] at h
        rw [if_neg (by omega), if_neg (by omega), if_pos (by omega)]
        constructor
        · intro ho
          rw [if_neg (by omega)]
          rfl
        · intro ho
          rw [if_pos (by omega)]
          exact Prod.ext (by simp only []; omega) rfl
      · simp [k1, k2] at h
    · simp [k1] at h
  · simp only [acc, Option.bind_some, Nat.zero_add, Nat.reduceAdd] at h
    by_cases k1 : g 1 / 64 = 2
    · by_cases k2 : g 2 / 64 = 2
      · by_cases k3 : g 3 / 64 = 2
        · simp only [if_pos k1, if_pos k2, if_pos k3, Option.bind_some, Option.some.injEq] at h
          rw [if_neg (by omega), if_neg (by omega), if_neg (by omega), if_pos (by omega)]
          constructor
          · intro ho
            rw [if_neg (by omega)]
            rfl
          · intro ho
            rw [if_pos (by omega)]
            exact Prod.ext (by simp only []; omega) rfl
        · simp [k1, k2, k3] at h
      · simp [k1, k2] at h
    · simp [k1] at h
theorem lead_not {b m : Nat} {g : Nat → Nat} (h0 : 128 ≤ b) (h1 : ¬ b / 32 = 6) (h2 : ¬ b / 16 = 14) (h3 : ¬ b / 8 = 30) : noSeq (decodeN m b (g 1) (g 2) (g 3)) = true := by
  unfold decodeN
  rw [if_neg (by omega), if_neg (by omega), if_neg (by omega), if_neg (by omega)]
  rfl
/-- The sequence at a place: its rune and its bytes; 0, 0: none begins there. -/
def seqV (d : Nat × Nat) : Nat × Nat := if noSeq d then (0, 0) else d
end Go.Proofs.YtecdfnpbcabdnaaGreatDoor
