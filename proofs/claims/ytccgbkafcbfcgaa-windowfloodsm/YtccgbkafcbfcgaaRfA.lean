/- The document's number at a place, and of a percent. -/
import Derived.Test.YtccgbkafcbfcgaaMgE
namespace Go.Proofs.Ytccgbkafcbfcgaa
open Go.RowKit

theorem low_next {Z : List Int} {k : Nat} {x v : Int} (hx : Z[k]? = some x) : low v (Z.take (k + 1)) = low v (Z.take k) + (if x < v then 1 else 0) := by
  rw [List.take_add_one, hx]
  unfold low
  rw [List.countP_append]
  by_cases h : x < v <;> simp [h]
theorem eqs_next {Z : List Int} {k : Nat} {x v : Int} (hx : Z[k]? = some x) : eqs v (Z.take (k + 1)) = eqs v (Z.take k) + (if x = v then 1 else 0) := by
  rw [List.take_add_one, hx]
  unfold eqs
  rw [List.countP_append]
  by_cases h : x = v <;> simp [h]
theorem fAt_no (v : Value) (L : List Int) (i : Int) (w : World) (hv : Rd w v L) (hi : i < 0 ∨ (L.length : Int) ≤ i) :
    Calls Try.prog 78 #[v, .int .i64 i] w fun e w' => e = .returned (.tuple #[.int .i64 0, .bool false]) ∧ w = w' := by
  obtain ⟨a, c, rfl, -⟩ := hv
  by_cases hi0 : i < 0
  · clear hi
    go_enter Try.func78, Try.ntmps78
    go_wp2_with fail
    go_ret2
    exact ⟨rfl, rfl⟩
  · have hi1 : (L.length : Int) ≤ i := by omega
    clear hi
    go_enter Try.func78, Try.ntmps78
    go_wp2_with fail
    go_ret2
    exact ⟨rfl, rfl⟩
/-- None of the first k is y. -/
def Before (L : List Int) (y : Int) (k : Nat) : Prop := ∀ t x, t < k → L[t]? = some x → x ≠ y
theorem before_next {L : List Int} {y x : Int} {k : Nat} (h : Before L y k) (hx : L[k]? = some x) (hn : x ≠ y) : Before L y (k + 1) := by
  intro t z ht hz
  by_cases e : t = k
  · subst e; rw [hx] at hz; cases hz; exact hn
  · exact h t z (by omega) hz
theorem before_all {L : List Int} {y : Int} (h : Before L y L.length) : y ∉ L := by
  intro hm
  obtain ⟨t, ht⟩ := List.getElem?_of_mem hm
  exact h t y (List.getElem?_eq_some_iff.1 ht).1 ht rfl
set_option maxRecDepth 20000 in
set_option maxHeartbeats 2000000 in
theorem fAt_yes (v : Value) (L : List Int) (i : Nat) (y : Int) (w : World) (hv : Rd w v L) (hy : (srt L)[i]? = some y) (hl : L.length < 4611686018427387904) :
    Calls Try.prog 78 #[v, .int .i64 (i : Nat)] w fun e w' => e = .returned (.tuple #[.int .i64 y, .bool true]) ∧ ∃ m, w' = w.drewN m := by
  have hi : i < L.length := by have := (List.getElem?_eq_some_iff.1 hy).1; rwa [srt_length] at this
  obtain ⟨a, c, rfl, e | ⟨g, off, rfl, hg, hcell⟩⟩ := hv
  · rw [e] at hi; simp at hi
  obtain ⟨n, hn⟩ : ∃ n, n = L.length := ⟨_, rfl⟩
  rw [← hn] at hl hi ⊢
  have HY := hid hy
  have HN := hid hn
  have HC := hid hcell
  clear hy hn hcell
  have hi0 : ¬ (i : Int) < 0 := by omega
  have hi1 : ¬ (n : Int) ≤ (i : Int) := by omega
  go_enter Try.func78, Try.ntmps78
  go_wp2_with fail
  go_loopw [6] (fun p wr => ∃ k m : Nat, p = .int .i64 (k : Nat) ∧ k ≤ n ∧ Before L y k ∧ wr = w.drewN m) (fun p _ => n - (intOf p).toNat)
  case atStart => exact ⟨0, 0, rfl, by omega, fun t x ht => absurd ht (Nat.not_lt_zero _), rfl⟩
  case round =>
    obtain ⟨k, m, rfl, hk, hbf, rfl⟩ := hrel
    have HBF := hid hbf
    clear hbf
    by_cases hlt : k < n
    · obtain ⟨x, hx⟩ : ∃ x, L[k]? = some x := ⟨_, List.getElem?_eq_getElem (by have := HN.out; omega)⟩
      have dk := HC.out k x hx
      have hlt' : (k : Int) < (n : Int) := by omega
      have HX := hid hx
      clear hx
      go_wp2_with fail
      go_loopw [7, 8, 9] (fun p7 p8 p9 wr => ∃ j m : Nat, p7 = .int .i64 (low x (L.take j) : Nat) ∧ p8 = .int .i64 (eqs x (L.take j) : Nat) ∧ p9 = .int .i64 (j : Nat) ∧ j ≤ n ∧ wr = w.drewN m) (fun _ _ p _ => n - (intOf p).toNat)
      case atStart => exact ⟨0, m, rfl, rfl, rfl, by omega, rfl⟩
      case round =>
        obtain ⟨j, m2, rfl, rfl, rfl, hj, rfl⟩ := hrel
        have hlo : low x (L.take j) ≤ j := by have := List.countP_le_length (p := fun z => decide (z < x)) (l := L.take j); unfold low; simp only [List.length_take] at this; omega
        have heq : eqs x (L.take j) ≤ j := by have := List.countP_le_length (p := fun z => decide (z = x)) (l := L.take j); unfold eqs; simp only [List.length_take] at this; omega
        obtain ⟨lo, elo⟩ : ∃ lo, lo = low x (L.take j) := ⟨_, rfl⟩
        obtain ⟨eq, eeq⟩ : ∃ eq, eq = eqs x (L.take j) := ⟨_, rfl⟩
        rw [← elo] at hlo ⊢
        rw [← eeq] at heq ⊢
        have HLO := hid elo
        have HEQ := hid eeq
        clear elo eeq
        by_cases hjn : j < n
        · obtain ⟨z, hz⟩ : ∃ z, L[j]? = some z := ⟨_, List.getElem?_eq_getElem (by have := HN.out; omega)⟩
          have dj := HC.out j z hz
          have hjn' : (j : Int) < (n : Int) := by omega
          have HZ := hid hz
          clear hz
          by_cases h1 : z < x
          · have h2 : ¬ z = x := by omega
            have h2' : (z == x) = false := by simpa using h2
            go_wp2_with fail
            go_quiet (fail)
            go_wp2_with fail
            go_quiet (fail)
            go_wp2_with fail
            exact ⟨⟨j + 1, _, by rw [low_next HZ.out, if_pos h1, ← HLO.out]; simp, by rw [eqs_next HZ.out, if_neg h2, ← HEQ.out]; simp, by simp, by omega, rfl⟩, by simp [intOf]; omega⟩
          · by_cases h2 : z = x
            · subst h2
              go_wp2_with fail
              go_quiet (fail)
              go_wp2_with fail
              go_quiet (fail)
              go_wp2_with fail
              exact ⟨⟨j + 1, _, by rw [low_next HZ.out, if_neg (Int.not_lt.2 h1), ← HLO.out]; simp, by rw [eqs_next HZ.out, if_pos rfl, ← HEQ.out]; simp, by simp, by omega, rfl⟩, by simp [intOf]; omega⟩
            · have h2' : (z == x) = false := by simpa using h2
              go_wp2_with fail
              go_quiet (fail)
              go_wp2_with fail
              go_quiet (fail)
              go_wp2_with fail
              exact ⟨⟨j + 1, _, by rw [low_next HZ.out, if_neg (Int.not_lt.2 h1), ← HLO.out]; simp, by rw [eqs_next HZ.out, if_neg h2, ← HEQ.out]; simp, by simp, by omega, rfl⟩, by simp [intOf]; omega⟩
        · obtain rfl : j = n := by omega
          have hL : L.take j = L := List.take_of_length_le (by have := HN.out; omega)
          have hiff := at_iff HY.out x
          have elo := HLO.out
          have eeq := HEQ.out
          rw [hL] at elo eeq
          rw [← elo, ← eeq] at hiff
          clear elo eeq hL
          by_cases hxy : x = y
          · subst hxy
            have h3 := hiff.2 rfl
            have h4 : (lo : Int) ≤ (i : Int) := by omega
            have h5 : (i : Int) < (lo : Int) + (eq : Int) := by omega
            clear hiff h3
            go_wp2_with fail
            go_ret2
            exact ⟨rfl, _, rfl⟩
          · have h3 : ¬ (lo ≤ i ∧ i < lo + eq) := fun h => hxy (hiff.1 h)
            have HXY := hid hxy
            clear hiff hxy
            by_cases h4 : lo ≤ i
            · have h4' : (lo : Int) ≤ (i : Int) := by omega
              have h5 : ¬ (i : Int) < (lo : Int) + (eq : Int) := by omega
              clear h3 h4
              go_wp2_with fail
              exact ⟨⟨k + 1, m2, by simp, by omega, before_next HBF.out HX.out HXY.out, rfl⟩, by simp [intOf]; omega⟩
            · have h4' : ¬ (lo : Int) ≤ (i : Int) := by omega
              clear h3 h4
              go_wp2_with fail
              exact ⟨⟨k + 1, m2, by simp, by omega, before_next HBF.out HX.out HXY.out, rfl⟩, by simp [intOf]; omega⟩
    · obtain rfl : k = n := by omega
      exact absurd ((srt_perm L).mem_iff.1 (List.mem_of_getElem? HY.out)) (before_all (HN.out ▸ HBF.out))
theorem fBy_no (v : Value) (L : List Int) (p : Int) (w : World) (hv : Rd w v L) (hp : L = [] ∨ p < 1 ∨ 100000000 < p) :
    Calls Try.prog 55 #[v, .int .i64 p] w fun e w' => e = .returned (.tuple #[.int .i64 0, .bool false]) ∧ w = w' := by
  obtain ⟨a, c, rfl, -⟩ := hv
  obtain ⟨n, hn⟩ : ∃ n, n = L.length := ⟨_, rfl⟩
  have hp' : n = 0 ∨ p < 1 ∨ 100000000 < p := hp.imp_left (fun e => by rw [hn, e]; rfl)
  rw [← hn]
  clear hn hp
  by_cases h0 : n = 0
  · subst h0
    go_enter Try.func55, Try.ntmps55
    go_wp2_with fail
    go_ret2
    exact ⟨rfl, rfl⟩
  · have hb : ((n : Int) == 0) = false := by simp; omega
    by_cases h1 : p < 1
    · go_enter Try.func55, Try.ntmps55
      go_wp2_with fail
      go_ret2
      exact ⟨rfl, rfl⟩
    · have h2 : 100000000 < p := by omega
      clear hp'
      go_enter Try.func55, Try.ntmps55
      go_wp2_with fail
      go_ret2
      exact ⟨rfl, rfl⟩
set_option maxRecDepth 20000 in
set_option maxHeartbeats 2000000 in
theorem fBy_yes (v : Value) (L : List Int) (p : Int) (y : Int) (w : World) (hv : Rd w v L) (h1 : 1 ≤ p) (h2 : p ≤ 100000000) (hl : L.length < 2147483648) (hy : (srt L)[nearest p L.length - 1]? = some y) :
    Calls Try.prog 55 #[v, .int .i64 p] w fun e w' => e = .returned (.tuple #[.int .i64 y, .bool true]) ∧ ∃ m, w' = w.drewN m := by
  have hk : nearest p L.length - 1 < L.length := by have := (List.getElem?_eq_some_iff.1 hy).1; rwa [srt_length] at this
  have HA := hid (fAt_yes v L _ y w hv hy (by omega))
  obtain ⟨a, c, rfl, -⟩ := hv
  obtain ⟨n1, n2, n3⟩ := nearest_bounds h1 h2 (show 0 < L.length by omega)
  have h4 : p * (L.length : Int) ≤ 100000000 * (L.length : Int) := Int.mul_le_mul_of_nonneg_right h2 (by omega)
  have h3 : (L.length : Int) ≤ p * (L.length : Int) := by
    have := Int.mul_le_mul_of_nonneg_right h1 (show (0 : Int) ≤ (L.length : Int) by omega)
    omega
  obtain ⟨n, hn⟩ : ∃ n, n = L.length := ⟨_, rfl⟩
  rw [← hn] at HA hk n1 n2 n3 h3 h4 hl ⊢
  obtain ⟨t, ht⟩ : ∃ t, t = nearest p n := ⟨_, rfl⟩
  rw [← ht] at HA hk n1 n2 n3
  have hb : ((n : Int) == 0) = false := by simp; omega
  have h5 : ¬ p < 1 := by omega
  have h6 : ¬ 100000000 < p := by omega
  have hpn : 0 ≤ p * (n : Int) := by omega
  have hpm : p * (n : Int) < 214748364800000000 := by omega
  have HN := hid n3
  clear hn ht hy n3
  go_enter Try.func55, Try.ntmps55
  go_wp2_with fail
  go_loopw [6] (fun q wr => ∃ k : Nat, q = .int .i64 (k : Nat) ∧ k ≤ t ∧ wr = w) (fun q _ => t - (intOf q).toNat)
  case atStart => exact ⟨0, rfl, by omega, rfl⟩
  case round =>
    obtain ⟨k, rfl, hkt, rfl⟩ := hrel
    by_cases hlt : k < t
    · have h7 : (k : Int) * 100000000 < p * (n : Int) := by have := HN.out; omega
      go_wp2_with fail
      go_roundw
      case rel => exact ⟨k + 1, by simp, by omega, by trivial⟩
      case measure => simp [intOf]; omega
    · obtain rfl : k = t := by omega
      have h7 : ¬ (k : Int) * 100000000 < p * (n : Int) := by have := HN.out; omega
      rw [show ((k - 1 : Nat) : Int) = (k : Int) - 1 by omega] at HA
      go_wp2_with fail
      refine Calls.mono HA.out ?_
      rintro e w1 ⟨rfl, m1, rfl⟩
      go_wp2_with fail
      go_ret2
      exact ⟨rfl, _, rfl⟩
end Go.Proofs.Ytccgbkafcbfcgaa
