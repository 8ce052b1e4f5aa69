/- The arithmetic of math/bits.Div64: schoolbook division by a word of two halves; plain numbers, no program. -/
import Derived.Laws.Bits64b
import Derived.Laws.MathBits
namespace Go.Proofs.YtkhdcojgcnomgaaGreatDoor

/-- A digit of the quotient is looked for: u * B + d over y1 * B + y0. The guess q is not too low; r is what it leaves of u. -/
structure Dig (u y1 y0 d q r : Int) : Prop where
  eq : q * y1 + r = u
  r0 : 0 ≤ r
  q0 : 0 ≤ q
  ge : u * 4294967296 + d < (q + 1) * (y1 * 4294967296 + y0)

/-- What is asked of a digit's numbers. -/
structure Norm (u y1 y0 d : Int) : Prop where
  y00 : 0 ≤ y0
  y01 : y0 < 4294967296
  y10 : 2147483648 ≤ y1
  y11 : y1 < 4294967296
  u0 : 0 ≤ u
  u1 : u < y1 * 4294967296 + y0
  d0 : 0 ≤ d
  d1 : d < 4294967296

theorem mul_norm (q y1 y0 : Int) : q * (y1 * 4294967296 + y0) = q * y1 * 4294967296 + q * y0 := by rw [Int.mul_add, ← Int.mul_assoc]
theorem dig_start {u y1 y0 d : Int} (n : Norm u y1 y0 d) : Dig u y1 y0 d (u / y1) (u % y1) ∧ u % y1 < 4294967296 := by
  obtain ⟨a1, a2, a3, a4, a5, a6, a7, a8⟩ := n
  have h1 := Int.ediv_mul_add_emod u y1
  have h2 := Int.emod_nonneg u (show y1 ≠ 0 by omega)
  have h3 := Int.emod_lt_of_pos u (show 0 < y1 by omega)
  have h4 := Int.ediv_nonneg a5 (show 0 ≤ y1 by omega)
  have h5 : 0 ≤ (u / y1 + 1) * y0 := Int.mul_nonneg (by omega) a1
  refine ⟨⟨h1, h2, h4, ?_⟩, by omega⟩
  rw [mul_norm, Int.add_mul (u / y1) 1 y1]
  generalize u / y1 * y1 = p at *
  generalize (u / y1 + 1) * y0 = p0 at *
  omega
/-- The guess was too high: one less. -/
theorem dig_less {u y1 y0 d q r : Int} (n : Norm u y1 y0 d) (g : Dig u y1 y0 d q r) (h : 4294967296 ≤ q ∨ 4294967296 * r + d < q * y0) : Dig u y1 y0 d (q - 1) (r + y1) ∧ 1 ≤ q := by
  obtain ⟨a1, a2, a3, a4, a5, a6, a7, a8⟩ := n
  obtain ⟨g1, g2, g3, g4⟩ := g
  have key : u * 4294967296 + d < q * (y1 * 4294967296 + y0) := by
    rcases h with h | h
    · have h5 : 4294967296 * (y1 * 4294967296 + y0) ≤ q * (y1 * 4294967296 + y0) := Int.mul_le_mul_of_nonneg_right h (by omega)
      generalize q * (y1 * 4294967296 + y0) = p at *
      omega
    · rw [mul_norm]
      generalize q * y1 = p at *
      generalize q * y0 = p0 at *
      omega
  have hq : 1 ≤ q := by
    by_cases hz : q = 0
    · subst hz; rw [Int.zero_mul] at key; omega
    · omega
  refine ⟨⟨?_, by omega, by omega, ?_⟩, hq⟩
  · rw [Int.sub_mul]; generalize q * y1 = p at *; omega
  · rw [show q - 1 + 1 = q by omega]; exact key
/-- The guess is right: the loop's test says so. -/
theorem dig_done {u y1 y0 d q r : Int} (g : Dig u y1 y0 d q r) (h : q * y0 ≤ 4294967296 * r + d) : 0 ≤ u * 4294967296 + d - q * (y1 * 4294967296 + y0) ∧ u * 4294967296 + d - q * (y1 * 4294967296 + y0) < y1 * 4294967296 + y0 := by
  obtain ⟨g1, g2, g3, g4⟩ := g
  rw [Int.add_mul, Int.one_mul] at g4
  refine ⟨?_, by omega⟩
  rw [mul_norm]
  generalize q * y1 = p at *
  generalize q * y0 = p0 at *
  omega
/-- The guess is right: what is left over has no room for more. -/
theorem dig_break {u y1 y0 d q r : Int} (n : Norm u y1 y0 d) (g : Dig u y1 y0 d q r) (h : 4294967296 ≤ r) : q < 4294967296 ∧ 0 ≤ u * 4294967296 + d - q * (y1 * 4294967296 + y0) ∧ u * 4294967296 + d - q * (y1 * 4294967296 + y0) < y1 * 4294967296 + y0 := by
  obtain ⟨a1, a2, a3, a4, a5, a6, a7, a8⟩ := n
  have g' := g
  obtain ⟨g1, g2, g3, g4⟩ := g
  have hq : q < 4294967296 := by
    by_cases hz : 4294967296 ≤ q
    · have := Int.mul_le_mul_of_nonneg_right hz (show 0 ≤ y1 by omega)
      generalize q * y1 = p at *
      omega
    · omega
  have h5 : q * y0 ≤ 4294967295 * y0 := Int.mul_le_mul_of_nonneg_right (by omega) a1
  exact ⟨hq, dig_done g' (by generalize q * y0 = p0 at *; omega)⟩

/-- The dividend, shifted up by s, in a word and a word. -/
theorem shift_up (h l y : Int) (s : Nat) (h0 : 0 ≤ h) (hy : h < y) (l0 : 0 ≤ l) (l1 : l < 18446744073709551616) (s1 : s ≤ 63) (z1 : y * 2 ^ s < 18446744073709551616) :
    bits .or .u64 (IntKind.u64.wrap (h * 2 ^ s)) (l / 2 ^ (64 - s)) * 18446744073709551616 + IntKind.u64.wrap (l * 2 ^ s) = (h * 18446744073709551616 + l) * 2 ^ s ∧
    0 ≤ bits .or .u64 (IntKind.u64.wrap (h * 2 ^ s)) (l / 2 ^ (64 - s)) ∧ bits .or .u64 (IntKind.u64.wrap (h * 2 ^ s)) (l / 2 ^ (64 - s)) < y * 2 ^ s := by
  obtain ⟨H, rfl⟩ := Int.eq_ofNat_of_zero_le h0
  obtain ⟨L, rfl⟩ := Int.eq_ofNat_of_zero_le l0
  obtain ⟨Y, rfl⟩ := Int.eq_ofNat_of_zero_le (show 0 ≤ y by omega)
  have c1 : ∀ a : Nat, (a : Int) * 2 ^ s = ((a * 2 ^ s : Nat) : Int) := fun a => by rw [Int.natCast_mul, Int.natCast_pow]; rfl
  have c2 : (L : Int) / 2 ^ (64 - s) = ((L / 2 ^ (64 - s) : Nat) : Int) := by rw [Int.natCast_ediv, Int.natCast_pow]; rfl
  have c3 : ((H : Int) * 18446744073709551616 + L) * 2 ^ s = (((H * 18446744073709551616 + L) * 2 ^ s : Nat) : Int) := by rw [← c1]; rfl
  have hp : 2 ^ (64 - s) * 2 ^ s = 18446744073709551616 := by rw [← Nat.pow_add, show 64 - s + s = 64 by omega]
  have pp : 0 < 2 ^ s := Nat.two_pow_pos s
  have hL : L / 2 ^ (64 - s) < 2 ^ s := (Nat.div_lt_iff_lt_mul (Nat.two_pow_pos _)).2 (by rw [Nat.mul_comm, hp]; omega)
  have hHY : (H + 1) * 2 ^ s ≤ Y * 2 ^ s := Nat.mul_le_mul_right _ (by omega)
  have hY : Y * 2 ^ s < 18446744073709551616 := by rw [c1] at z1; omega
  rw [Nat.add_mul, Nat.one_mul] at hHY
  have hU : H * 2 ^ s ||| L / 2 ^ (64 - s) = H * 2 ^ s + L / 2 ^ (64 - s) := by
    rw [Nat.mul_comm H, Nat.two_pow_add_eq_or_of_lt hL]
  have hw : IntKind.u64.wrap ((H : Int) * 2 ^ s) = ((H * 2 ^ s : Nat) : Int) := by rw [IntKind.wrap_u64, c1]; omega
  have hw' : IntKind.u64.wrap ((L : Int) * 2 ^ s) = ((L * 2 ^ s % 18446744073709551616 : Nat) : Int) := by rw [IntKind.wrap_u64, c1]; omega
  have hb : bits .or .u64 (IntKind.u64.wrap ((H : Int) * 2 ^ s)) ((L : Int) / 2 ^ (64 - s)) = ((H * 2 ^ s + L / 2 ^ (64 - s) : Nat) : Int) := by
    rw [hw, c2, bits_or_u64_nat _ _ (by omega) (by omega), hU]
  have hd : L * 2 ^ s / 18446744073709551616 = L / 2 ^ (64 - s) := by rw [← hp]; exact Nat.mul_div_mul_right _ _ pp
  have hm := Nat.div_add_mod (L * 2 ^ s) 18446744073709551616
  rw [hb, hw', c3, c1 Y]
  rw [hd] at hm
  rw [Nat.add_mul, Nat.mul_right_comm]
  generalize L / 2 ^ (64 - s) = x at *
  generalize H * 2 ^ s = X at *
  generalize L * 2 ^ s = Z at *
  generalize Y * 2 ^ s = V at *
  refine ⟨by omega, by omega, by omega⟩

/-- The two digits together, shifted back. -/
theorem knuth_end {N y P U Y u1 u0 q1 q0 m R : Int} (P0 : 0 < P) (eY : Y = y * P) (eN : U * 18446744073709551616 + (u1 * 4294967296 + u0) = N * P) (e1 : m = U * 4294967296 + u1 - q1 * Y) (e0 : R = m * 4294967296 + u0 - q0 * Y) (R0 : 0 ≤ R) (R1 : R < Y) :
    N = (q1 * 4294967296 + q0) * y + R / P ∧ 0 ≤ R / P ∧ R / P < y := by
  have e : R = (N - (q1 * 4294967296 + q0) * y) * P := by
    have x1 : q1 * Y = q1 * y * P := by rw [eY, Int.mul_assoc]
    have x0 : q0 * Y = q0 * y * P := by rw [eY, Int.mul_assoc]
    have x2 : (q1 * 4294967296 + q0) * y * P = q1 * y * P * 4294967296 + q0 * y * P := by grind
    rw [Int.sub_mul, x2]
    rw [x1] at e1
    rw [x0] at e0
    generalize q1 * y * P = a at *
    generalize q0 * y * P = b at *
    generalize N * P = c at *
    omega
  have hR : R / P = N - (q1 * 4294967296 + q0) * y := by rw [e]; exact Int.mul_ediv_cancel _ (by omega)
  refine ⟨by rw [hR]; omega, Int.ediv_nonneg R0 (Int.le_of_lt P0), Int.ediv_lt_of_lt_mul P0 (by rw [← eY]; exact R1)⟩
end Go.Proofs.YtkhdcojgcnomgaaGreatDoor
