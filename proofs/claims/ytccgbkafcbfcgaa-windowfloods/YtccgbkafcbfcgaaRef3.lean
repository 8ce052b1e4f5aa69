/- The document's Fit, Held, Plus and Minus (package capstanref01). -/
import Derived.Test.YtccgbkafcbfcgaaRef2
import Derived.Laws.Bits64b
namespace Go.Proofs.Ytccgbkafcbfcgaa
open Go.RowKit

theorem and_most (u : Int) (u0 : 0 ≤ u) (u1 : u < 18446744073709551616) : bits .and .u64 u 9223372036854775807 = u % 9223372036854775808 := by
  obtain ⟨a, rfl⟩ := Int.eq_ofNat_of_zero_le u0
  have h := bits_and_u64_nat a 9223372036854775807 (by omega) (by omega)
  have e : a &&& 9223372036854775807 = a % 9223372036854775808 := Nat.and_two_pow_sub_one_eq_mod a 63
  rw [e] at h
  exact h

theorem bcell' {W w1 : World} (hb : Below W.heap.size W w1) : (∀ b o, b < W.heap.size → w1.cell? ⟨b, o, none⟩ = W.cell? ⟨b, o, none⟩) ∧ (∀ b o, b < W.heap.size → w1.frozen? ⟨b, o, none⟩ = W.frozen? ⟨b, o, none⟩) :=
  ⟨fun b o h => hb.cell (p := ⟨b, o, none⟩) h, fun b o h => hb.frozen (p := ⟨b, o, none⟩) h⟩
/-- Above the digit m the size is U. -/
structure FitInv (l : List Int) (m : Nat) (U : Int) : Prop where
  eq : val l = val (l.take m) + pw m * U
  u0 : 0 ≤ U
theorem FitInv.step {l : List Int} {k : Nat} {U : Int} (h : FitInv l (k + 1) U) (hd : Dgs l) : FitInv l k (U * 65536 + l.getD k 0) := by
  obtain ⟨h1, h2⟩ := h
  have g := getD_dig l hd k
  refine ⟨?_, by omega⟩
  rw [h1, val_take_succ, pw_succ]
  generalize l.getD k 0 = x at *
  have e : pw k * (U * 65536 + x) = 65536 * pw k * U + pw k * x := by rw [Int.mul_add]; congr 1; rw [Int.mul_comm U, ← Int.mul_assoc, Int.mul_comm (pw k)]
  omega
theorem FitInv.lt {l : List Int} {m : Nat} {U : Int} (h : FitInv l m U) (hd : Dgs l) : U ≤ val l := by
  obtain ⟨h1, h2⟩ := h
  have b := (val_bd _ (dgs_take hd m)).1
  have e := Int.mul_le_mul_of_nonneg_right (show 1 ≤ pw m by have := pw_pos m; omega) h2
  omega

def Fit64 (n : Int) : Prop := -9223372036854775808 ≤ n ∧ n < 9223372036854775808
/-- What Fit answers. -/
def FitOut (w : World) (n : Int) (e : Ending) (w' : World) : Prop := ∃ x b, e = .returned (.tuple #[.int .i64 x, .bool b]) ∧ (b = true ↔ Fit64 n) ∧ (b = true → x = n) ∧ Below w.heap.size w w'

set_option maxHeartbeats 1000000 in
/-- The size of a number of up to four digits, and what Fit makes of it. -/
theorem rFit_mid (neg : Bool) (s : Value) (l : List Int) (n : Int) (w : World) (h : BigV w neg s l n) (h4 : l.length ≤ 4) (h0 : l ≠ []) :
    Calls Try.prog 53 #[.agg #[.bool neg, s]] w (FitOut w n) := by
  obtain ⟨hI, dg, tr, hn⟩ := h
  obtain ⟨a, c, rfl, _, _, _, hA⟩ := hI
  rcases hA with hA | ⟨b, off, rfl, h5, h6⟩
  · exact absurd hA h0
  have hl0 : l.length ≠ 0 := fun e => h0 (List.length_eq_zero_iff.1 e)
  have k0 : ((l.length : Int) == 0) = false := beq_eq_false_iff_ne.2 (by omega)
  have vb := val_bd l dg
  have vm : val l < 18446744073709551616 := by have := pw_mono h4; rw [pw4] at this; omega
  have vlow := val_low l dg tr (l.length - 1) (by omega)
  have vpos : 0 < val l := by have := pw_pos (l.length - 1); omega
  have HL : Hid _ := vlow
  have HB : Hid _ := vb
  have H0 : Hid _ := hl0
  have HN : Hid _ := hn
  have H6 : Hid _ := h6
  clear vlow vb hl0 hn h6 h0
  go_enter Try.func53, Try.ntmps53
  go_wp2_with fail
  go_loop [4, 5] (fun u i => ∃ (m : Nat) (U : Int), u = .int .u64 U ∧ i = .int .i64 ((m : Int) - 1) ∧ m ≤ l.length ∧ FitInv l m U) (fun _ i => (intOf i + 1).toNat)
  case atStart => exact ⟨l.length, 0, rfl, rfl, Nat.le_refl _, ⟨by rw [List.take_of_length_le (Nat.le_refl _)]; omega, by decide⟩⟩
  case round =>
    obtain ⟨m, U, rfl, rfl, hm, inv⟩ := hrel
    have u0 := inv.u0
    by_cases hm0 : m = 0
    · subst hm0
      have eU : U = val l := by have := inv.eq; simp [val, pw] at this; omega
      have EU : Hid _ := eU
      have uv : U < 18446744073709551616 := by omega
      have up : 0 < U := by omega
      clear eU
      cases neg
      · have nE : Hid (n = U) := (by rw [HN.out, EU.out]; rfl : n = U)
        by_cases hU : U ≤ 9223372036854775807
        · have am : Hid (wrap64 (bits .and .u64 U 9223372036854775807) = U) := (by rw [and_most U u0 uv]; unfold wrap64; omega : wrap64 (bits .and .u64 U 9223372036854775807) = U)
          go_wp2_with fail
          go_ret2
          exact ⟨wrap64 (bits .and .u64 U 9223372036854775807), true, rfl, by have := nE.out; simp [Fit64]; omega, fun _ => am.out.trans nE.out.symm, (Below.refl _ _).alloc (Nat.le_refl _) _⟩
        · go_wp2_with fail
          go_ret2
          exact ⟨wrap64 (bits .and .u64 U 9223372036854775807), false, rfl, by have := nE.out; simp [Fit64]; omega, fun h => by simp at h, (Below.refl _ _).alloc (Nat.le_refl _) _⟩
      · have nE : Hid (n = -U) := (by rw [HN.out, EU.out]; rfl : n = -U)
        by_cases hU : U ≤ 9223372036854775808
        · go_wp2_with fail
          go_ret2
          refine ⟨_, true, rfl, by have := nE.out; simp [Fit64]; omega, fun _ => ?_, (Below.refl _ _).alloc (Nat.le_refl _) _⟩
          have := nE.out
          omega
        · go_wp2_with fail
          go_ret2
          exact ⟨0, false, rfl, by have := nE.out; simp [Fit64]; omega, fun h => by simp at h, (Below.refl _ _).alloc (Nat.le_refl _) _⟩
    · obtain ⟨k, rfl⟩ : ∃ k, m = k + 1 := ⟨m - 1, by omega⟩
      have hcell := H6.out k (by omega)
      have hcell2 : (w.alloc (.cells #[.bool neg, .slice (some ⟨b, off, none⟩) l.length c] 103)).cell? ⟨b, off + k, none⟩ = some (.int .i64 (l.getD k 0)) := by rw [World.cell?_alloc_past _ _ _ h5]; exact hcell
      have ek : (((k + 1 : Nat) : Int) - 1) = (k : Int) := by omega
      rw [ek]
      have k1 : (k : Int) < (l.length : Int) := by omega
      have nx := inv.step dg
      have nl := nx.lt dg
      have g := getD_dig l dg k
      clear hcell
      generalize l.getD k 0 = x at *
      go_wp2_with fail
      go_round
      case rel => exact ⟨k, _, rfl, rfl, by omega, nx⟩
      case measure => simp [intOf]

set_option maxHeartbeats 400000 in
theorem rFit_any (neg : Bool) (s : Value) (l : List Int) (n : Int) (w : World) (h : BigV w neg s l n) :
    Calls Try.prog 53 #[.agg #[.bool neg, s]] w (FitOut w n) := by
  by_cases h0 : l = []
  · subst h0
    have hn : n = 0 := by rw [h.num]; cases neg <;> rfl
    obtain ⟨⟨a, c, rfl, _⟩, _, _, hnum⟩ := h
    clear hnum
    subst hn
    go_enter Try.func53, Try.ntmps53
    go_wp2_with fail
    go_ret2
    exact ⟨0, true, rfl, by simp [Fit64], fun _ => rfl, (Below.refl _ _).alloc (Nat.le_refl _) _⟩
  by_cases h4 : l.length ≤ 4
  · exact rFit_mid neg s l n w h h4 h0
  · have hv : pw 4 ≤ val l := by
      have h1 := val_low l h.dg h.tr (l.length - 1) (by omega)
      have h2 := pw_mono (show 4 ≤ l.length - 1 by omega)
      omega
    rw [pw4] at hv
    have hn : ¬ Fit64 n := by
      rw [h.num]; unfold Fit64
      cases neg
      · show ¬ (_ ≤ val l ∧ val l < _); omega
      · show ¬ (_ ≤ -val l ∧ -val l < _); omega
    obtain ⟨⟨a, c, rfl, _⟩, _, _, hnum⟩ := h
    clear hnum
    have k0 : ((l.length : Int) == 0) = false := beq_eq_false_iff_ne.2 (by omega)
    have k4 : (4 : Int) < (l.length : Int) := by omega
    have HN : Hid _ := hn
    clear hn hv h0
    go_enter Try.func53, Try.ntmps53
    go_wp2_with fail
    go_ret2
    exact ⟨0, false, rfl, ⟨fun h => by simp at h, fun h => absurd h HN.out⟩, fun h => by simp at h, (Below.refl _ _).alloc (Nat.le_refl _) _⟩

/-- The nearest int64, as the document has it. -/
def rheld (n : Int) : Int := if n < -9223372036854775808 then -9223372036854775808 else if 9223372036854775807 < n then 9223372036854775807 else n

end Go.Proofs.Ytccgbkafcbfcgaa
