/- The document's Read (package capstanref02): exponents of primes make a unit's factor. -/
import Derived.Test.YtjmngnnmnbhfpaaDoorRPart
import Derived.Test.YtjmngnnmnbhfpaaDoorGroup
import Derived.Deep.RegionWith
import Derived.WalkSmall
namespace Go.Proofs.YtjmngnnmnbhfpaaDoor
open Go.RowKit

/-- The dimension of a base unit, g times. -/
def baseD (b : Int) (g : Int) : D5 := ⟨if b = 0 then g else 0, if b = 1 then g else 0, if b = 2 then g else 0, if b = 3 then g else 0, if b = 4 then g else 0⟩
/-- A name of the table, taken up (g = 1) or down (g = -1). -/
def nameU (k : Nat) (g : Int) : U5 := mkU ((rRow k).2.1.scale g) (baseD (rRow k).2.2 g)
theorem nameU_one (k : Nat) (h : k < 18) : unitOf k = nameU k 1 := by
  rcases (show k = 0 ∨ k = 1 ∨ k = 2 ∨ k = 3 ∨ k = 4 ∨ k = 5 ∨ k = 6 ∨ k = 7 ∨ k = 8 ∨ k = 9 ∨ k = 10 ∨ k = 11 ∨ k = 12 ∨ k = 13 ∨ k = 14 ∨ k = 15 ∨ k = 16 ∨ k = 17 by omega) with rfl | rfl | rfl | rfl | rfl | rfl | rfl | rfl | rfl | rfl | rfl | rfl | rfl | rfl | rfl | rfl | rfl | rfl <;> rfl
theorem nameU_inv (k : Nat) (h : k < 18) : invS (unitOf k) = nameU k (-1) := by
  rcases (show k = 0 ∨ k = 1 ∨ k = 2 ∨ k = 3 ∨ k = 4 ∨ k = 5 ∨ k = 6 ∨ k = 7 ∨ k = 8 ∨ k = 9 ∨ k = 10 ∨ k = 11 ∨ k = 12 ∨ k = 13 ∨ k = 14 ∨ k = 15 ∨ k = 16 ∨ k = 17 by omega) with rfl | rfl | rfl | rfl | rfl | rfl | rfl | rfl | rfl | rfl | rfl | rfl | rfl | rfl | rfl | rfl | rfl | rfl <;> rfl
theorem rRow_small (k : Nat) (h : k < 18) : -30 ≤ (rRow k).2.1.a ∧ (rRow k).2.1.a ≤ 30 ∧ -30 ≤ (rRow k).2.1.b ∧ (rRow k).2.1.b ≤ 30 ∧ -30 ≤ (rRow k).2.1.c ∧ (rRow k).2.1.c ≤ 30 ∧ -1 ≤ (rRow k).2.2 ∧ (rRow k).2.2 ≤ 4 := by
  rcases (show k = 0 ∨ k = 1 ∨ k = 2 ∨ k = 3 ∨ k = 4 ∨ k = 5 ∨ k = 6 ∨ k = 7 ∨ k = 8 ∨ k = 9 ∨ k = 10 ∨ k = 11 ∨ k = 12 ∨ k = 13 ∨ k = 14 ∨ k = 15 ∨ k = 16 ∨ k = 17 by omega) with rfl | rfl | rfl | rfl | rfl | rfl | rfl | rfl | rfl | rfl | rfl | rfl | rfl | rfl | rfl | rfl | rfl | rfl <;> decide
theorem prN_one (p : P3) (h : prN p ≤ 1000000000000000) : p.a ≤ 60 ∧ p.b ≤ 60 ∧ p.c ≤ 60 := by
  have key : ∀ (x : Nat) (n : Int), 2 ≤ x → x ^ n.toNat ≤ 1000000000000000 → n ≤ 60 := by
    intro x n hx hle
    by_cases hn : n ≤ 60
    · exact hn
    · have h1 : 2 ^ 61 ≤ x ^ n.toNat := Nat.le_trans (Nat.pow_le_pow_left hx 61) (Nat.pow_le_pow_right (by omega) (by omega))
      have h2 : (2 : Nat) ^ 61 = 2305843009213693952 := by decide
      omega
  unfold prN at h
  have p2 : 0 < 2 ^ p.a.toNat := Nat.pow_pos (by decide)
  have p3 : 0 < 3 ^ p.b.toNat := Nat.pow_pos (by decide)
  have p5 : 0 < 5 ^ p.c.toNat := Nat.pow_pos (by decide)
  have a1 : 2 ^ p.a.toNat ≤ 2 ^ p.a.toNat * (3 ^ p.b.toNat * 5 ^ p.c.toNat) := Nat.le_mul_of_pos_right _ (Nat.mul_pos p3 p5)
  have a2 : 3 ^ p.b.toNat * 5 ^ p.c.toNat ≤ 2 ^ p.a.toNat * (3 ^ p.b.toNat * 5 ^ p.c.toNat) := Nat.le_mul_of_pos_left _ p2
  have a3 : 3 ^ p.b.toNat ≤ 3 ^ p.b.toNat * 5 ^ p.c.toNat := Nat.le_mul_of_pos_right _ p5
  have a4 : 5 ^ p.c.toNat ≤ 3 ^ p.b.toNat * 5 ^ p.c.toNat := Nat.le_mul_of_pos_left _ p3
  exact ⟨key 2 _ (by decide) (by omega), key 3 _ (by decide) (by omega), key 5 _ (by decide) (by omega)⟩
/-- Exponents whose products are within the limit. -/
structure P3.Fine (p : P3) : Prop where
  up : prN p ≤ 1000000000000000
  dn : prN p.neg ≤ 1000000000000000
theorem P3.Fine.sixty {p : P3} (h : p.Fine) : -60 ≤ p.a ∧ p.a ≤ 60 ∧ -60 ≤ p.b ∧ p.b ≤ 60 ∧ -60 ≤ p.c ∧ p.c ≤ 60 := by
  have h1 := prN_one p h.up
  have h2 := prN_one p.neg h.dn
  unfold P3.neg at h2
  simp only at h2
  omega
theorem zero_fine : (⟨0, 0, 0⟩ : P3).Fine := ⟨by decide, by decide⟩
theorem mk_one : unit1 = mkU ⟨0, 0, 0⟩ dim0 := by rfl
structure D5.In (x : D5) : Prop where
  a : In8 x.a
  b : In8 x.b
  c : In8 x.c
  d : In8 x.d
  e : In8 x.e
theorem dim0_in : dim0.In := by constructor <;> decide
theorem mk_ok (p : P3) (d : D5) (hp : p.Fine) (hd : d.In) : (mkU p d).Ok := by
  have h1 := prN_pos p
  have h2 := prN_pos p.neg
  have h3 := hp.up
  have h4 := hp.dn
  exact ⟨by unfold mkU; simp only; omega, by unfold mkU; simp only; omega, by unfold mkU; simp only; omega, by unfold mkU; simp only; omega, hd.a, hd.b, hd.c, hd.d, hd.e⟩
def stepP (p q : P3) (g : Int) : P3 := p.add (q.scale g)
theorem side_gt (q : P3) : (1000000000000000 < sideS q ↔ ¬ prN q ≤ 1000000000000000) ∧ (prN q ≤ 1000000000000000 → sideS q = prN q) ∧ sideS q ≤ 1000000000000001 := by
  unfold sideS
  split <;> omega
def D5.ex2 (x : D5) : Nat → Int
  | 0 => x.a
  | 1 => x.b
  | 2 => x.c
  | 3 => x.d
  | _ => x.e
def D5.bump (x : D5) (i : Nat) (g : Int) : D5 :=
  match i with
  | 0 => ⟨x.a + g, x.b, x.c, x.d, x.e⟩
  | 1 => ⟨x.a, x.b + g, x.c, x.d, x.e⟩
  | 2 => ⟨x.a, x.b, x.c + g, x.d, x.e⟩
  | 3 => ⟨x.a, x.b, x.c, x.d + g, x.e⟩
  | _ => ⟨x.a, x.b, x.c, x.d, x.e + g⟩
theorem five (i : Nat) (h : i < 5) : i = 0 ∨ i = 1 ∨ i = 2 ∨ i = 3 ∨ i = 4 := by omega
theorem dCells_bump (x : D5) (i : Nat) (h : i < 5) (g : Int) : (dCells x).set i (.int .i64 (x.ex2 i + g)) = dCells (x.bump i g) := by
  rcases five i h with rfl | rfl | rfl | rfl | rfl <;> rfl
theorem dCells_ex (x : D5) (i : Nat) (h : i < 5) : (dCells x)[i]? = some (.int .i64 (x.ex2 i)) := by
  rcases five i h with rfl | rfl | rfl | rfl | rfl <;> rfl
theorem bump_ex (x : D5) (i : Nat) (h : i < 5) (g : Int) : (x.bump i g).ex2 i = x.ex2 i + g := by
  rcases five i h with rfl | rfl | rfl | rfl | rfl <;> rfl
theorem In_ex {x : D5} (h : x.In) (i : Nat) : In8 (x.ex2 i) := by
  unfold D5.ex2
  split
  · exact h.a
  · exact h.b
  · exact h.c
  · exact h.d
  · exact h.e
theorem bump_in {x : D5} (h : x.In) (i : Nat) (hi : i < 5) (g : Int) (hg : In8 (x.ex2 i + g)) : (x.bump i g).In := by
  obtain ⟨h1, h2, h3, h4, h5⟩ := h
  rcases five i hi with rfl | rfl | rfl | rfl | rfl
  · exact ⟨hg, h2, h3, h4, h5⟩
  · exact ⟨h1, hg, h3, h4, h5⟩
  · exact ⟨h1, h2, hg, h4, h5⟩
  · exact ⟨h1, h2, h3, hg, h5⟩
  · exact ⟨h1, h2, h3, h4, hg⟩
theorem join_base (x : D5) (hx : x.In) (i : Nat) (hi : i < 5) (g : Int) (hg : In8 (x.ex2 i + g)) : joinS (· + ·) x (baseD (i : Int) g) = some (x.bump i g) := by
  have hb := bump_in hx i hi g hg
  rcases five i hi with rfl | rfl | rfl | rfl | rfl
  all_goals
    have e : ∀ y : Int, y + 0 = y := fun y => by omega
    rw [joinS_some (· + ·) _ _ (by simp [baseD]; exact ⟨hb.a, hb.b, hb.c, hb.d, hb.e⟩)]
    simp [baseD, D5.bump]
theorem join_base_no (x : D5) (i : Nat) (hi : i < 5) (g : Int) (hg : ¬ In8 (x.ex2 i + g)) : joinS (· + ·) x (baseD (i : Int) g) = none := by
  rcases five i hi with rfl | rfl | rfl | rfl | rfl
  · exact joinS_none0 _ _ _ (by simpa [baseD, D5.ex2] using hg)
  · exact joinS_none1 _ _ _ (by simpa [baseD, D5.ex2] using hg)
  · exact joinS_none2 _ _ _ (by simpa [baseD, D5.ex2] using hg)
  · exact joinS_none3 _ _ _ (by simpa [baseD, D5.ex2] using hg)
  · exact joinS_none4 _ _ _ (by simpa [baseD, D5.ex2] using hg)
theorem join_none_base (x : D5) (hx : x.In) (g : Int) : joinS (· + ·) x (baseD (-1) g) = some x := by
  have e : baseD (-1) g = dim0 := by unfold baseD; simp [dim0]
  rw [e]
  exact join_none x ⟨hx.a, hx.b, hx.c, hx.d, hx.e⟩
theorem times_none (F u : U5) (m : Nat) (h : prodS u F = none) : timesS F (m + 1) u = none := by simp only [timesS, h]
theorem times_some (F u v : U5) (m : Nat) (h : prodS u F = some v) : timesS F (m + 1) u = timesS F m v := by simp only [timesS, h]
theorem prod_up (p q : P3) (d e : D5) (h : ¬ prN (p.add q) ≤ 1000000000000000) : prodS (mkU p d) (mkU q e) = none := by
  rw [prodS_mk]
  cases joinS (· + ·) d e with
  | none => rfl
  | some f => exact if_neg fun k => h k.1
theorem prod_dn (p q : P3) (d e : D5) (h : ¬ prN (p.add q).neg ≤ 1000000000000000) : prodS (mkU p d) (mkU q e) = none := by
  rw [prodS_mk]
  cases joinS (· + ·) d e with
  | none => rfl
  | some f => exact if_neg fun k => h k.2
theorem prod_dim (p q : P3) (d e : D5) (h : joinS (· + ·) d e = none) : prodS (mkU p d) (mkU q e) = none := by rw [prodS_mk, h]
theorem prod_yes (p q : P3) (d e f : D5) (hj : joinS (· + ·) d e = some f) (h1 : prN (p.add q) ≤ 1000000000000000) (h2 : prN (p.add q).neg ≤ 1000000000000000) : prodS (mkU p d) (mkU q e) = some (mkU (p.add q) f) := by
  rw [prodS_mk, hj]
  exact if_pos ⟨h1, h2⟩
theorem scale_one' (p : P3) : p.scale 1 = p := by cases p; simp [P3.scale]
theorem scale_neg' (p : P3) : p.scale (-1) = p.neg := by cases p; simp [P3.scale, P3.neg]
end Go.Proofs.YtjmngnnmnbhfpaaDoor
