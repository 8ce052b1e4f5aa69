/- Products and quotients of lists of digits: plain lists, no program. -/
import Derived.Test.YtccgbkafcbfcgaaDigs
namespace Go.Proofs.Ytccgbkafcbfcgaa

theorem pw_add (a b : Nat) : pw (a + b) = pw a * pw b := by unfold pw; exact Int.pow_add ..
theorem getD_set (l : List Int) (k j : Nat) (x : Int) (hk : k < l.length) : (l.set k x).getD j 0 = if j = k then x else l.getD j 0 := by
  by_cases hj : j < l.length
  · rw [getD_at _ j (by simpa using hj), getD_at l j hj, List.getElem_set]
    by_cases e : k = j
    · rw [if_pos e, if_pos e.symm]
    · rw [if_neg e, if_neg (fun h => e h.symm)]
  · rw [getD_past _ j (by simp; omega), getD_past l j (by omega), if_neg (by omega)]
theorem val_set (l : List Int) (k : Nat) (x : Int) (hk : k < l.length) : val (l.set k x) = val l + pw k * (x - l.getD k 0) := by
  induction l generalizing k with
  | nil => simp at hk
  | cons d r ih =>
    cases k with
    | zero => simp [val, pw]; omega
    | succ k =>
      have h := ih k (by simpa using hk)
      show d + 65536 * val (r.set k x) = d + 65536 * val r + pw (k + 1) * (x - r.getD k 0)
      rw [h, pw_succ, Int.mul_add, Int.mul_assoc, Int.add_assoc]
theorem dgs_set {l : List Int} (h : Dgs l) (k : Nat) (x : Int) (x0 : 0 ≤ x) (x1 : x < 65536) : Dgs (l.set k x) := by
  intro d hd
  rcases List.mem_or_eq_of_mem_set hd with h1 | h1
  · exact h d h1
  · subst h1; exact ⟨x0, x1⟩

/-- Behind i rounds of the product's outer loop. -/
structure TOut (la lb : List Int) (i : Nat) (d : List Int) : Prop where
  len : d.length = la.length + lb.length
  dg : Dgs d
  eq : val d = val (la.take i) * val lb
  zs : ∀ k, i + lb.length ≤ k → d.getD k 0 = 0
  bd : i ≤ la.length
/-- Within: behind j rounds of the inner loop. -/
structure TIn (la lb : List Int) (i j : Nat) (cy : Int) (d : List Int) : Prop where
  len : d.length = la.length + lb.length
  dg : Dgs d
  c0 : 0 ≤ cy
  c1 : cy < 65536
  eq : val d + pw (i + j) * cy = val (la.take i) * val lb + pw i * la.getD i 0 * val (lb.take j)
  zs : ∀ k, i + lb.length ≤ k → d.getD k 0 = 0
  bd : j ≤ lb.length
theorem TOut.enter {la lb : List Int} {i : Nat} {d : List Int} (h : TOut la lb i d) : TIn la lb i 0 0 d :=
  ⟨h.len, h.dg, by decide, by decide, by rw [h.eq]; simp [val], h.zs, Nat.zero_le _⟩
theorem dig_prod {x y : Int} (x0 : 0 ≤ x) (x1 : x < 65536) (y0 : 0 ≤ y) (y1 : y < 65536) : 0 ≤ x * y ∧ x * y ≤ 4294836225 := by
  refine ⟨Int.mul_nonneg x0 y0, ?_⟩
  have := Int.mul_le_mul (show x ≤ 65535 by omega) (show y ≤ 65535 by omega) y0 (by decide)
  omega
theorem TIn.step {la lb : List Int} {i j : Nat} {cy : Int} {d : List Int} (h : TIn la lb i j cy d) (ha : Dgs la) (hb : Dgs lb) (hi : i < la.length) (hj : j < lb.length) :
    TIn la lb i (j + 1) ((d.getD (i + j) 0 + la.getD i 0 * lb.getD j 0 + cy) / 65536) (d.set (i + j) ((d.getD (i + j) 0 + la.getD i 0 * lb.getD j 0 + cy) % 65536)) := by
  obtain ⟨h1, h2, h3, h4, h5, h6, h7⟩ := h
  have gx := getD_dig la ha i
  have gy := getD_dig lb hb j
  have gd := getD_dig d h2 (i + j)
  have gp := dig_prod gx.1 gx.2 gy.1 gy.2
  have hk : i + j < d.length := by omega
  refine ⟨by rw [List.length_set]; exact h1, dgs_set h2 _ _ (by omega) (by omega), by omega, by omega, ?_, ?_, hj⟩
  · rw [val_set d _ _ hk, val_take_succ, ← Nat.add_assoc, pw_succ]
    have e2 : pw i * la.getD i 0 * (val (lb.take j) + pw j * lb.getD j 0) = pw i * la.getD i 0 * val (lb.take j) + pw (i + j) * (la.getD i 0 * lb.getD j 0) := by
      rw [Int.mul_add, pw_add]; congr 1; grind
    rw [e2]
    generalize la.getD i 0 * lb.getD j 0 = p at *
    generalize d.getD (i + j) 0 = z at *
    have e1 : pw (i + j) * ((z + p + cy) % 65536 - z) + 65536 * pw (i + j) * ((z + p + cy) / 65536) = pw (i + j) * (p + cy) := by
      rw [Int.mul_comm 65536, Int.mul_assoc, ← Int.mul_add, show (z + p + cy) % 65536 - z + 65536 * ((z + p + cy) / 65536) = p + cy by omega]
    rw [Int.mul_add] at e1
    omega
  · intro k hk'
    rw [getD_set d _ _ _ hk, if_neg (by omega)]
    exact h6 k hk'
theorem TIn.leave {la lb : List Int} {i : Nat} {cy : Int} {d : List Int} (h : TIn la lb i lb.length cy d) (hi : i < la.length) : TOut la lb (i + 1) (d.set (i + lb.length) cy) := by
  obtain ⟨h1, h2, h3, h4, h5, h6, h7⟩ := h
  have hk : i + lb.length < d.length := by omega
  refine ⟨by rw [List.length_set]; exact h1, dgs_set h2 _ _ h3 h4, ?_, ?_, hi⟩
  · rw [val_set d _ _ hk, h6 _ (Nat.le_refl _), Int.sub_zero, h5, val_take_succ, List.take_of_length_le (Nat.le_refl _), Int.add_mul]
  · intro k hk'
    rw [getD_set d _ _ _ hk, if_neg (by omega)]
    exact h6 k (by omega)
theorem TOut.done {la lb : List Int} {d : List Int} (h : TOut la lb la.length d) : val d = val la * val lb := by
  rw [h.eq, List.take_of_length_le (Nat.le_refl _)]
theorem zeros_val (n : Nat) : val (List.replicate n (0 : Int)) = 0 := by
  induction n with
  | zero => rfl
  | succ n ih => show 0 + 65536 * val (List.replicate n (0 : Int)) = 0; rw [ih]; rfl
theorem zeros_get (n k : Nat) : (List.replicate n (0 : Int)).getD k 0 = 0 := by
  by_cases h : k < n
  · rw [getD_at _ k (by simpa using h)]; simp
  · rw [getD_past _ k (by simp; omega)]
theorem zeros_dgs (n : Nat) : Dgs (List.replicate n (0 : Int)) := by
  intro d hd; rw [(List.mem_replicate.1 hd).2]; decide
theorem TOut.start (la lb : List Int) : TOut la lb 0 (List.replicate (la.length + lb.length) 0) :=
  ⟨by simp, zeros_dgs _, by rw [zeros_val]; simp [val], fun k _ => zeros_get _ k, Nat.zero_le _⟩

/-- Behind the digits from m on: what they say over D is QH, R left; Q holds QH's digits. -/
structure VOut (l : List Int) (D : Int) (m : Nat) (q : List Int) (R : Int) : Prop where
  len : q.length = l.length
  dg : Dgs q
  r0 : 0 ≤ R
  r1 : R < D
  bd : m ≤ l.length
  zs : ∀ k, k < m → q.getD k 0 = 0
  eq : ∃ H QH, val l = val (l.take m) + pw m * H ∧ val q = pw m * QH ∧ H = QH * D + R
def p2 (t : Nat) : Int := 2 ^ t
theorem p2_succ (t : Nat) : p2 (t + 1) = 2 * p2 t := by unfold p2; rw [Int.pow_succ, Int.mul_comm]
theorem p2_pos (t : Nat) : 0 < p2 t := Int.pow_pos (by decide)
/-- Within a digit x: t of its bits are taken; R0 was left ahead of it; y is the quotient's digit so far. -/
structure VIn (x D R0 : Int) (t : Nat) (y R : Int) : Prop where
  r0 : 0 ≤ R
  r1 : R < D
  y0 : 0 ≤ y
  y1 : y < p2 t
  eq : R0 * p2 t + x / p2 (16 - t) = y * D + R
  bd : t ≤ 16
theorem bit_next (x : Int) (t : Nat) (ht : t < 16) : x / p2 (16 - (t + 1)) = 2 * (x / p2 (16 - t)) + x / p2 (15 - t) % 2 := by
  have e : p2 (16 - t) = p2 (15 - t) * 2 := by rw [show 16 - t = 15 - t + 1 by omega, p2_succ, Int.mul_comm]
  rw [show 16 - (t + 1) = 15 - t by omega, e, ← Int.ediv_ediv_of_nonneg (Int.le_of_lt (p2_pos _))]
  omega
theorem VIn.step {x D R0 : Int} {t : Nat} {y R : Int} (h : VIn x D R0 t y R) (ht : t < 16) :
    (2 * R + x / p2 (15 - t) % 2 < D → VIn x D R0 (t + 1) (2 * y) (2 * R + x / p2 (15 - t) % 2)) ∧
    (D ≤ 2 * R + x / p2 (15 - t) % 2 → VIn x D R0 (t + 1) (2 * y + 1) (2 * R + x / p2 (15 - t) % 2 - D)) := by
  obtain ⟨h1, h2, h3, h4, h5, h6⟩ := h
  have hb := bit_next x t ht
  have e1 : R0 * p2 (t + 1) + x / p2 (16 - (t + 1)) = 2 * (y * D + R) + x / p2 (15 - t) % 2 := by
    rw [hb, p2_succ, ← h5, Int.mul_add, ← Int.mul_assoc, Int.mul_comm R0 2, Int.mul_assoc, Int.add_assoc]
  have ps := p2_succ t
  have c0 := Int.emod_nonneg (x / p2 (15 - t)) (show (2 : Int) ≠ 0 by decide)
  have c1 := Int.emod_lt_of_pos (x / p2 (15 - t)) (show (0 : Int) < 2 by decide)
  generalize x / p2 (15 - t) % 2 = c at *
  constructor
  · intro hl
    exact ⟨by omega, hl, by omega, by omega, by rw [e1, Int.mul_assoc]; omega, ht⟩
  · intro hl
    exact ⟨by omega, by omega, by omega, by omega, by rw [e1, Int.add_mul, Int.mul_assoc]; omega, ht⟩
theorem VIn.start (x D R0 : Int) (x0 : 0 ≤ x) (x1 : x < 65536) (h0 : 0 ≤ R0) (h1 : R0 < D) : VIn x D R0 0 0 R0 :=
  ⟨h0, h1, by decide, by decide, by
    have e : x / p2 16 = 0 := Int.ediv_eq_zero_of_lt x0 x1
    show R0 * p2 0 + x / p2 16 = 0 * D + R0
    rw [e]; simp [p2], by decide⟩
theorem VOut.next {l : List Int} {D : Int} {k : Nat} {q : List Int} {R y R' : Int} (h : VOut l D (k + 1) q R) (hi : VIn (l.getD k 0) D R 16 y R') : VOut l D k (q.set k y) R' := by
  obtain ⟨h1, h2, h3, h4, h5, h6, H, QH, e1, e2, e3⟩ := h
  obtain ⟨i1, i2, i3, i4, i5, i6⟩ := hi
  have hk : k < q.length := by omega
  refine ⟨by rw [List.length_set]; exact h1, dgs_set h2 _ _ i3 i4, i1, i2, by omega, ?_, ?_⟩
  · intro j hj
    rw [getD_set q _ _ _ hk, if_neg (by omega)]
    exact h6 j (by omega)
  · refine ⟨H * 65536 + l.getD k 0, QH * 65536 + y, ?_, ?_, ?_⟩
    · rw [e1, val_take_succ, pw_succ]
      generalize l.getD k 0 = x at *
      have : pw k * (H * 65536 + x) = 65536 * pw k * H + pw k * x := by rw [Int.mul_add]; congr 1; grind
      omega
    · rw [val_set q _ _ hk, h6 k (by omega), Int.sub_zero, e2, pw_succ]
      have : pw k * (QH * 65536 + y) = 65536 * pw k * QH + pw k * y := by rw [Int.mul_add]; congr 1; grind
      omega
    · have e4 : l.getD k 0 / p2 (16 - 16) = l.getD k 0 := by show _ / p2 0 = _; simp [p2]
      rw [e4] at i5
      have e5 : p2 16 = 65536 := by decide
      rw [e5] at i5
      rw [e3, Int.add_mul, Int.add_mul, Int.mul_right_comm]
      omega
theorem VOut.start (l : List Int) (D : Int) (hD : 0 < D) : VOut l D l.length (List.replicate l.length 0) 0 :=
  ⟨by simp, zeros_dgs _, by decide, hD, Nat.le_refl _, fun k _ => zeros_get _ k, 0, 0, by rw [List.take_of_length_le (Nat.le_refl _)]; omega, by rw [zeros_val]; omega, by omega⟩
theorem VOut.done {l : List Int} {D : Int} {q : List Int} {R : Int} (h : VOut l D 0 q R) : val l = val q * D + R := by
  obtain ⟨_, _, _, _, _, _, H, QH, e1, e2, e3⟩ := h
  simp [val, pw] at e1 e2
  rw [e1, e2]; exact e3
end Go.Proofs.Ytccgbkafcbfcgaa
