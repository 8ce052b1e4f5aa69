/- Units as exponents of 2, 3 and 5: what the product of two comes to (no program is looked at here). -/
import Derived.Test.YtjmngnnmnbhfpaaDoorProdP
namespace Go.Proofs.YtjmngnnmnbhfpaaDoor

/-- The exponents of 2, 3 and 5. -/
structure P3 where
  a : Int
  b : Int
  c : Int
def P3.neg (p : P3) : P3 := ⟨-p.a, -p.b, -p.c⟩
def P3.add (p q : P3) : P3 := ⟨p.a + q.a, p.b + q.b, p.c + q.c⟩
/-- The product of the primes whose exponents are above 0. -/
def prN (p : P3) : Nat := 2 ^ p.a.toNat * (3 ^ p.b.toNat * 5 ^ p.c.toNat)
theorem prN_pos (p : P3) : 0 < prN p := Nat.mul_pos (Nat.pow_pos (by decide)) (Nat.mul_pos (Nat.pow_pos (by decide)) (Nat.pow_pos (by decide)))
/-- The unit of these exponents and this dimension. -/
def mkU (p : P3) (d : D5) : U5 := ⟨(prN p : Nat), (prN p.neg : Nat), d⟩

theorem cop_pow {x y : Nat} (h : Nat.Coprime x y) (m n : Nat) : Nat.Coprime (x ^ m) (y ^ n) := (Nat.Coprime.pow_left m h).pow_right n
theorem cop_same (x m n : Nat) (h : m = 0 ∨ n = 0) : Nat.Coprime (x ^ m) (x ^ n) := by
  rcases h with rfl | rfl
  · rw [Nat.pow_zero]; exact Nat.coprime_one_left _
  · rw [Nat.pow_zero]; exact Nat.coprime_one_right _
theorem prN_cop (p : P3) : Nat.Coprime (prN p) (prN p.neg) := by
  unfold prN P3.neg
  have h2 : p.a.toNat = 0 ∨ (-p.a).toNat = 0 := by omega
  have h3 : p.b.toNat = 0 ∨ (-p.b).toNat = 0 := by omega
  have h5 : p.c.toNat = 0 ∨ (-p.c).toNat = 0 := by omega
  refine Nat.Coprime.mul_left (Nat.Coprime.mul_right (cop_same _ _ _ h2) (Nat.Coprime.mul_right (cop_pow (by decide) _ _) (cop_pow (by decide) _ _)))
    (Nat.Coprime.mul_left (Nat.Coprime.mul_right (cop_pow (by decide) _ _) (Nat.Coprime.mul_right (cop_same _ _ _ h3) (cop_pow (by decide) _ _)))
      (Nat.Coprime.mul_right (cop_pow (by decide) _ _) (Nat.Coprime.mul_right (cop_pow (by decide) _ _) (cop_same _ _ _ h5))))
theorem prN_mul (p q : P3) : prN (p.add q) * (prN p.neg * prN q.neg) = prN (p.add q).neg * (prN p * prN q) := by
  have e : ∀ (x : Nat) (m n : Int), x ^ (m + n).toNat * (x ^ (-m).toNat * x ^ (-n).toNat) = x ^ (-(m + n)).toNat * (x ^ m.toNat * x ^ n.toNat) := by
    intro x m n
    rw [← Nat.pow_add, ← Nat.pow_add, ← Nat.pow_add, ← Nat.pow_add]
    congr 1
    omega
  have e2 := e 2 p.a q.a
  have e3 := e 3 p.b q.b
  have e5 := e 5 p.c q.c
  unfold prN P3.neg P3.add
  simp only
  generalize 2 ^ (p.a + q.a).toNat = a1 at *
  generalize 2 ^ (-p.a).toNat = a2 at *
  generalize 2 ^ (-q.a).toNat = a3 at *
  generalize 2 ^ (-(p.a + q.a)).toNat = a4 at *
  generalize 2 ^ p.a.toNat = a5 at *
  generalize 2 ^ q.a.toNat = a6 at *
  generalize 3 ^ (p.b + q.b).toNat = b1 at *
  generalize 3 ^ (-p.b).toNat = b2 at *
  generalize 3 ^ (-q.b).toNat = b3 at *
  generalize 3 ^ (-(p.b + q.b)).toNat = b4 at *
  generalize 3 ^ p.b.toNat = b5 at *
  generalize 3 ^ q.b.toNat = b6 at *
  generalize 5 ^ (p.c + q.c).toNat = c1 at *
  generalize 5 ^ (-p.c).toNat = c2 at *
  generalize 5 ^ (-q.c).toNat = c3 at *
  generalize 5 ^ (-(p.c + q.c)).toNat = c4 at *
  generalize 5 ^ p.c.toNat = c5 at *
  generalize 5 ^ q.c.toNat = c6 at *
  have l : a1 * (b1 * c1) * (a2 * (b2 * c2) * (a3 * (b3 * c3))) = (a1 * (a2 * a3)) * ((b1 * (b2 * b3)) * (c1 * (c2 * c3))) := by ac_rfl
  have r : a4 * (b4 * c4) * (a5 * (b5 * c5) * (a6 * (b6 * c6))) = (a4 * (a5 * a6)) * ((b4 * (b5 * b6)) * (c4 * (c5 * c6))) := by ac_rfl
  rw [l, r, e2, e3, e5]
theorem frac_unique (n m x y : Nat) (hn : 0 < n) (h : n * y = m * x) (c1 : Nat.Coprime n m) (c2 : Nat.Coprime x y) : n = x ∧ m = y := by
  have d1 : n ∣ x := c1.dvd_of_dvd_mul_left ⟨y, h.symm⟩
  have d2 : x ∣ n := c2.dvd_of_dvd_mul_right ⟨m, by rw [h, Nat.mul_comm]⟩
  have e := Nat.dvd_antisymm d1 d2
  subst e
  rw [Nat.mul_comm m] at h
  exact ⟨rfl, (Nat.eq_of_mul_eq_mul_left hn h).symm⟩

/-- The two parts of the product of two units of exponents. -/
theorem parts_mk (p q : P3) (d e : D5) :
    ((mkU p d).num / gOf (mkU p d) (mkU q e)) * ((mkU q e).num / hOf (mkU p d) (mkU q e)) = (prN (p.add q) : Nat) ∧
    ((mkU p d).den / hOf (mkU p d) (mkU q e)) * ((mkU q e).den / gOf (mkU p d) (mkU q e)) = (prN (p.add q).neg : Nat) := by
  have hg : gOf (mkU p d) (mkU q e) = ((Nat.gcd (prN p) (prN q.neg) : Nat) : Int) := by unfold gOf mkU; rw [Int.gcd_natCast_natCast]
  have hh : hOf (mkU p d) (mkU q e) = ((Nat.gcd (prN q) (prN p.neg) : Nat) : Int) := by unfold hOf mkU; rw [Int.gcd_natCast_natCast]
  rw [hg, hh]
  unfold mkU
  simp only
  have g0 : 0 < Nat.gcd (prN p) (prN q.neg) := Nat.gcd_pos_of_pos_left _ (prN_pos p)
  have h0 : 0 < Nat.gcd (prN q) (prN p.neg) := Nat.gcd_pos_of_pos_left _ (prN_pos q)
  have k1 : Nat.Coprime (prN p / Nat.gcd (prN p) (prN q.neg)) (prN q.neg / Nat.gcd (prN p) (prN q.neg)) := Nat.coprime_div_gcd_div_gcd g0
  have k2 : Nat.Coprime (prN q / Nat.gcd (prN q) (prN p.neg)) (prN p.neg / Nat.gcd (prN q) (prN p.neg)) := Nat.coprime_div_gcd_div_gcd h0
  have k3 : Nat.Coprime (prN p / Nat.gcd (prN p) (prN q.neg)) (prN p.neg / Nat.gcd (prN q) (prN p.neg)) :=
    Nat.Coprime.coprime_dvd_left (Nat.div_dvd_of_dvd (Nat.gcd_dvd_left _ _)) (Nat.Coprime.coprime_dvd_right (Nat.div_dvd_of_dvd (Nat.gcd_dvd_right _ _)) (prN_cop p))
  have k4 : Nat.Coprime (prN q / Nat.gcd (prN q) (prN p.neg)) (prN q.neg / Nat.gcd (prN p) (prN q.neg)) :=
    Nat.Coprime.coprime_dvd_left (Nat.div_dvd_of_dvd (Nat.gcd_dvd_left _ _)) (Nat.Coprime.coprime_dvd_right (Nat.div_dvd_of_dvd (Nat.gcd_dvd_right _ _)) (prN_cop q))
  have e1 : prN p / Nat.gcd (prN p) (prN q.neg) * Nat.gcd (prN p) (prN q.neg) = prN p := Nat.div_mul_cancel (Nat.gcd_dvd_left _ _)
  have e2 : prN q.neg / Nat.gcd (prN p) (prN q.neg) * Nat.gcd (prN p) (prN q.neg) = prN q.neg := Nat.div_mul_cancel (Nat.gcd_dvd_right _ _)
  have e3 : prN q / Nat.gcd (prN q) (prN p.neg) * Nat.gcd (prN q) (prN p.neg) = prN q := Nat.div_mul_cancel (Nat.gcd_dvd_left _ _)
  have e4 : prN p.neg / Nat.gcd (prN q) (prN p.neg) * Nat.gcd (prN q) (prN p.neg) = prN p.neg := Nat.div_mul_cancel (Nat.gcd_dvd_right _ _)
  have hm := prN_mul p q
  have cc := prN_cop (p.add q)
  have p0 := prN_pos p
  have q0 := prN_pos q
  have pn := prN_pos p.neg
  have qn := prN_pos q.neg
  rw [← Int.natCast_ediv, ← Int.natCast_ediv, ← Int.natCast_ediv, ← Int.natCast_ediv, ← Int.natCast_mul, ← Int.natCast_mul]
  generalize Nat.gcd (prN p) (prN q.neg) = g at *
  generalize Nat.gcd (prN q) (prN p.neg) = h at *
  generalize prN p / g = n1 at *
  generalize prN q / h = n2 at *
  generalize prN p.neg / h = m1 at *
  generalize prN q.neg / g = m2 at *
  have cop : Nat.Coprime (n1 * n2) (m1 * m2) := Nat.Coprime.mul_left (Nat.Coprime.mul_right k3 k1) (Nat.Coprime.mul_right k2 k4)
  rw [← e1, ← e2, ← e3, ← e4] at hm
  have hx : (n1 * n2) * prN (p.add q).neg = (m1 * m2) * prN (p.add q) := by
    have hpos : 0 < g * h := Nat.mul_pos g0 h0
    apply Nat.eq_of_mul_eq_mul_right hpos
    have a1 : n1 * n2 * prN (p.add q).neg * (g * h) = prN (p.add q).neg * (n1 * g * (n2 * h)) := by ac_rfl
    have a2 : m1 * m2 * prN (p.add q) * (g * h) = prN (p.add q) * (m1 * h * (m2 * g)) := by ac_rfl
    rw [a1, a2]; exact hm.symm
  have n0 : 0 < n1 * n2 := by
    apply Nat.mul_pos
    · cases n1 with | zero => rw [Nat.zero_mul] at e1; omega | succ _ => omega
    · cases n2 with | zero => rw [Nat.zero_mul] at e3; omega | succ _ => omega
  obtain ⟨r1, r2⟩ := frac_unique _ _ _ _ n0 hx cop cc
  exact ⟨by rw [r1], by rw [r2]⟩
theorem prodS_mk (p q : P3) (d e : D5) : prodS (mkU p d) (mkU q e) =
    match joinS (· + ·) d e with
    | none => none
    | some f => if prN (p.add q) ≤ 1000000000000000 ∧ prN (p.add q).neg ≤ 1000000000000000 then some (mkU (p.add q) f) else none := by
  obtain ⟨h1, h2⟩ := parts_mk p q d e
  unfold prodS
  rw [h1, h2]
  have ed : (mkU p d).dim = d := rfl
  have ee : (mkU q e).dim = e := rfl
  rw [ed, ee]
  cases joinS (· + ·) d e with
  | none => rfl
  | some f =>
    simp only
    by_cases hk : prN (p.add q) ≤ 1000000000000000 ∧ prN (p.add q).neg ≤ 1000000000000000
    · rw [if_pos hk, if_pos (by omega)]; rfl
    · rw [if_neg hk, if_neg (by omega)]
theorem inv_mk (p : P3) (d : D5) : invS (mkU p d) = mkU p.neg ⟨0 - d.a, 0 - d.b, 0 - d.c, 0 - d.d, 0 - d.e⟩ := by
  unfold invS mkU P3.neg
  simp
end Go.Proofs.YtjmngnnmnbhfpaaDoor
