/- What two texts with a star between them are read as (no program is looked at here). -/
import Derived.Test.YtjmngnnmnbhfpaaDoorDimX
namespace Go.Proofs.YtjmngnnmnbhfpaaDoor

theorem bt_left (a c : List UInt8) (n : Nat) (h : n < a.length) : bt (a ++ c) n = bt a n := by
  unfold bt
  rw [List.getD_eq_getElem?_getD, List.getD_eq_getElem?_getD, List.getElem?_append_left h]
theorem bt_star (a b : List UInt8) : bt (a ++ 42 :: b) a.length = 42 := by
  unfold bt
  rw [List.getD_eq_getElem?_getD, List.getElem?_append_right (Nat.le_refl _), Nat.sub_self]
  rfl
theorem bt_right (a b : List UInt8) (n : Nat) : bt (a ++ 42 :: b) (a.length + 1 + n) = bt b n := by
  unfold bt
  rw [List.getD_eq_getElem?_getD, List.getD_eq_getElem?_getD, List.getElem?_append_right (by omega), show a.length + 1 + n - a.length = n + 1 by omega, List.getElem?_cons_succ]
theorem len_star (a b : List UInt8) : (a ++ 42 :: b).length = a.length + 1 + b.length := by rw [List.length_append, List.length_cons]; omega

/-- The star ends every run. -/
def Stops (p : Int → Bool) : Prop := p 42 = false
theorem stops_letter : Stops letterB := by unfold Stops; decide
theorem stops_digit : Stops digitB := by unfold Stops; decide
theorem takeWhile_star (p : Int → Bool) (hp : Stops p) : ∀ (a b : List UInt8), (a ++ 42 :: b).takeWhile (fun x => p x.toNat) = a.takeWhile (fun x => p x.toNat)
  | [], b => by
    have e : p 42 = false := hp
    simp [e]
  | x :: a, b => by
    have ih := takeWhile_star p hp a b
    rw [List.cons_append, List.takeWhile_cons, List.takeWhile_cons, ih]
theorem word_left (p : Int → Bool) (hp : Stops p) (a b : List UInt8) (n : Nat) (h : n ≤ a.length) : word p (a ++ 42 :: b) n = word p a n := by
  unfold word
  rw [List.drop_append_of_le_length h]
  exact takeWhile_star p hp _ _
theorem word_right (p : Int → Bool) (a b : List UInt8) (n : Nat) : word p (a ++ 42 :: b) (a.length + 1 + n) = word p b n := by
  unfold word
  have e : (a ++ 42 :: b).drop (a.length + 1 + n) = b.drop n := by
    rw [List.drop_append, List.drop_of_length_le (by omega), show a.length + 1 + n - a.length = n + 1 by omega]
    rfl
  rw [e]
theorem facS_left (a b : List UInt8) (n : Nat) (h : n ≤ a.length) : facS (a ++ 42 :: b) n = facS a n := by
  have r1 := runEnd_le letterB a n h
  have e1 : runEnd letterB (a ++ 42 :: b) n = runEnd letterB a n := by rw [word_end, word_end, word_left _ stops_letter _ _ _ h]
  unfold facS
  rw [word_left _ stops_letter _ _ _ h, e1]
  cases findS (word letterB a n) with
  | none => rfl
  | some u =>
    simp only
    generalize runEnd letterB a n = E at *
    by_cases hE : E = a.length
    · rw [if_pos (.inr (by rw [hE, bt_star]; decide)), if_pos (.inl hE)]
    · have hlt : E < a.length := by omega
      rw [bt_left a _ E hlt]
      by_cases h94 : bt a E ≠ 94
      · rw [if_pos (.inr h94), if_pos (.inr h94)]
      · rw [if_neg (by rintro (k | k); rw [len_star] at k; omega; exact h94 k), if_neg (by rintro (k | k); exact hE k; exact h94 k)]
        rw [word_left _ stops_digit _ _ _ (by omega), word_end, word_end, word_left _ stops_digit _ _ _ (by omega)]
def shift (O : Nat) : Except Nat (U5 × Nat × Nat) → Except Nat (U5 × Nat × Nat)
  | .error p => .error (O + p)
  | .ok (u, c, f) => .ok (u, c, O + f)
theorem facS_right (a b : List UInt8) (n : Nat) : facS (a ++ 42 :: b) (a.length + 1 + n) = shift (a.length + 1) (facS b n) := by
  have e1 : runEnd letterB (a ++ 42 :: b) (a.length + 1 + n) = a.length + 1 + runEnd letterB b n := by rw [word_end, word_end, word_right]; omega
  unfold facS
  rw [word_right, e1]
  cases findS (word letterB b n) with
  | none => rfl
  | some u =>
    simp only
    generalize runEnd letterB b n = E at *
    have hL := len_star a b
    rw [bt_right a b E, Nat.add_assoc (a.length + 1) E 1, word_right, word_end, word_end, word_right]
    by_cases hE : E = b.length ∨ bt b E ≠ 94
    · rw [if_pos hE, if_pos (by rcases hE with k | k; left; omega; right; exact k)]
      rfl
    · rw [if_neg hE, if_neg (by rintro (k | k); exact hE (.inl (by omega)); exact hE (.inr k))]
      cases numS (word digitB b (E + 1)) with
      | none => simp only [shift]
      | some c => simp only [shift]; rw [Nat.add_assoc (a.length + 1)]

/-- Enough is enough. -/
theorem readF_fuel (l : List UInt8) : ∀ (k k2 n : Nat) (und : Bool) (v : U5), n ≤ l.length → l.length < k + n → l.length < k2 + n → readF l k n und v = readF l k2 n und v
  | 0, _, n, _, _, hn, h, _ => by omega
  | k + 1, 0, n, _, _, hn, _, h2 => by omega
  | k + 1, k2 + 1, n, und, v, hn, h, h2 => by
    simp only [readF]
    split
    · rfl
    · rename_i u c f hf
      obtain ⟨_, _, f0, f1⟩ := facS_ok l n f c u hn hf
      split
      · rfl
      · split
        · rfl
        · split
          · rfl
          · exact readF_fuel l k k2 (f + 1) _ _ (by omega) (by omega) (by omega)

theorem readF_at (l : List UInt8) : ∀ (k n : Nat) (und : Bool) (v : U5), n ≤ l.length → (readF l k n und v).2.1 ≤ l.length
  | 0, _, _, _, _ => Nat.zero_le _
  | k + 1, n, und, v, hn => by
    simp only [readF]
    split
    · rename_i p hp
      have r1 := runEnd_le letterB l n hn
      unfold facS at hp
      split at hp
      · cases hp; exact hn
      · split at hp
        · cases hp
        · split at hp
          · cases hp; simp only; omega
          · cases hp
    · rename_i u c f hf
      obtain ⟨_, _, f0, f1⟩ := facS_ok l n f c u hn hf
      split
      · exact hn
      · split
        · exact Nat.zero_le _
        · split
          · exact f1
          · exact readF_at l k (f + 1) _ _ (by omega)

theorem readF_left (a b : List UInt8) : ∀ (k k2 n : Nat) (und : Bool) (v : U5), n ≤ a.length → a.length < k + n → (a ++ 42 :: b).length < k2 + n →
    ((readF a k n und v).2.2 ≠ 0 → readF (a ++ 42 :: b) k2 n und v = readF a k n und v) ∧
    ((readF a k n und v).2.2 = 0 → readF (a ++ 42 :: b) k2 n und v = readF (a ++ 42 :: b) (b.length + 1) (a.length + 1) false (readF a k n und v).1)
  | 0, _, n, _, _, hn, h, _ => by omega
  | k + 1, 0, n, _, _, hn, _, h2 => by rw [len_star] at h2; omega
  | k + 1, k2 + 1, n, und, v, hn, h, h2 => by
    have hL := len_star a b
    simp only [readF]
    rw [facS_left a b n hn]
    split
    · exact ⟨fun _ => rfl, fun h => by cases h⟩
    · rename_i u c f hf
      obtain ⟨_, _, f0, f1⟩ := facS_ok a n f c u hn hf
      split
      · exact ⟨fun _ => rfl, fun h => by cases h⟩
      · rename_i x hx
        rw [if_neg (show ¬ f = (a ++ 42 :: b).length by omega)]
        by_cases hfa : f = a.length
        · rw [if_pos hfa]
          refine ⟨fun h => absurd rfl h, fun _ => ?_⟩
          have e : bt (a ++ 42 :: b) f = 42 := by rw [hfa]; exact bt_star a b
          rw [e, if_neg (by decide), hfa, show ((42 : Int) == 47) = false by decide]
          exact readF_fuel (a ++ 42 :: b) k2 (b.length + 1) (a.length + 1) false x (by omega) (by omega) (by omega)
        · rw [if_neg hfa, bt_left a _ f (by omega)]
          split
          · exact ⟨fun _ => rfl, fun h => by cases h⟩
          · exact readF_left a b k k2 (f + 1) _ _ (by omega) (by omega) (by omega)

/-- X is U times Y. -/
structure Rel (U X Y : U5) : Prop where
  q : X.num * (U.den * Y.den) = X.den * (U.num * Y.num)
  a : X.dim.a = U.dim.a + Y.dim.a
  b : X.dim.b = U.dim.b + Y.dim.b
  c : X.dim.c = U.dim.c + Y.dim.c
  d : X.dim.d = U.dim.d + Y.dim.d
  e : X.dim.e = U.dim.e + Y.dim.e
theorem prodS_is (a b c : U5) (h : prodS a b = some c) :
    c.num * (a.den * b.den) = c.den * (a.num * b.num) ∧ c.dim.a = a.dim.a + b.dim.a ∧ c.dim.b = a.dim.b + b.dim.b ∧ c.dim.c = a.dim.c + b.dim.c ∧ c.dim.d = a.dim.d + b.dim.d ∧ c.dim.e = a.dim.e + b.dim.e := by
  unfold prodS at h
  split at h
  · cases h
  · rename_i d hd
    split at h
    · cases h
      unfold joinS at hd
      split at hd
      · cases hd
        refine ⟨?_, rfl, rfl, rfl, rfl, rfl⟩
        have e1 : a.num / gOf a b * gOf a b = a.num := Int.ediv_mul_cancel (Int.gcd_dvd_left ..)
        have e2 : b.den / gOf a b * gOf a b = b.den := Int.ediv_mul_cancel (Int.gcd_dvd_right ..)
        have e3 : b.num / hOf a b * hOf a b = b.num := Int.ediv_mul_cancel (Int.gcd_dvd_left ..)
        have e4 : a.den / hOf a b * hOf a b = a.den := Int.ediv_mul_cancel (Int.gcd_dvd_right ..)
        generalize a.num / gOf a b = p at *
        generalize b.den / gOf a b = q at *
        generalize b.num / hOf a b = r at *
        generalize a.den / hOf a b = t at *
        simp only
        rw [← e1, ← e2, ← e3, ← e4]
        simp only [Int.mul_comm, Int.mul_left_comm, Int.mul_assoc]
      · cases hd
    · cases h
theorem Rel.step {U X Y F X' Y' : U5} (h : Rel U X Y) (oX : X.Ok) (oY : Y.Ok) (oF : F.Ok) (hx : prodS X F = some X') (hy : prodS Y F = some Y') : Rel U X' Y' := by
  obtain ⟨p0, p1, p2, p3, p4, p5⟩ := prodS_is X F X' hx
  obtain ⟨q0, q1, q2, q3, q4, q5⟩ := prodS_is Y F Y' hy
  obtain ⟨h0, h1, h2, h3, h4, h5⟩ := h
  refine ⟨?_, by omega, by omega, by omega, by omega, by omega⟩
  have k1 := oX.d0
  have k3 := oF.d0
  have k4 := oF.n0
  have k5 := oY.n0
  generalize X.num = a at *
  generalize X.den = b at *
  generalize Y.num = c at *
  generalize Y.den = d at *
  generalize F.num = m at *
  generalize F.den = n at *
  generalize U.num = u at *
  generalize U.den = v at *
  generalize X'.num = x at *
  generalize X'.den = y at *
  generalize Y'.num = z at *
  generalize Y'.den = t at *
  have hpos : 0 < (b * n) * (c * m) := Int.mul_pos (Int.mul_pos k1 k3) (Int.mul_pos k5 k4)
  refine Int.eq_of_mul_eq_mul_right (a := (b * n) * (c * m)) (by omega) ?_
  have e1 : x * (v * t) * ((b * n) * (c * m)) = (x * (b * n)) * (v * (t * (c * m))) := by simp only [Int.mul_comm, Int.mul_left_comm]
  have e2 : (y * (a * m)) * (v * (z * (d * n))) = (a * (v * d)) * (y * z * m * n) := by simp only [Int.mul_comm, Int.mul_left_comm]
  have e3 : (b * (u * c)) * (y * z * m * n) = y * (u * z) * ((b * n) * (c * m)) := by simp only [Int.mul_comm, Int.mul_left_comm]
  rw [e1, p0, ← q0, e2, h0, e3]
theorem Rel.times {U F : U5} (oF : F.Ok) : ∀ (c : Nat) (X Y X' Y' : U5), Rel U X Y → X.Ok → Y.Ok → timesS F c X = some X' → timesS F c Y = some Y' → Rel U X' Y'
  | 0, X, Y, X', Y', h, _, _, hx, hy => by
    simp only [timesS, Option.some.injEq] at hx hy
    subst hx; subst hy; exact h
  | c + 1, X, Y, X', Y', h, oX, oY, hx, hy => by
    simp only [timesS] at hx hy
    split at hx
    · cases hx
    · rename_i x1 e1
      split at hy
      · cases hy
      · rename_i y1 e2
        exact Rel.times oF c x1 y1 X' Y' (h.step oX oY oF e1 e2) (prodS_ok X F x1 oX oF e1) (prodS_ok Y F y1 oY oF e2) hx hy
theorem readF_right (a b : List UInt8) (U : U5) : ∀ (k n : Nat) (und : Bool) (X Y : U5), n ≤ b.length → Rel U X Y → X.Ok → Y.Ok →
    (readF (a ++ 42 :: b) k (a.length + 1 + n) und X).2.2 = 0 → (readF b k n und Y).2.2 = 0 → 0 < k → b.length < k + n →
    Rel U (readF (a ++ 42 :: b) k (a.length + 1 + n) und X).1 (readF b k n und Y).1 ∧ (readF (a ++ 42 :: b) k (a.length + 1 + n) und X).1.Ok
  | 0, _, _, _, _, _, _, _, _, _, _, hk, _ => by omega
  | k + 1, n, und, X, Y, hn, h, oX, oY, hx, hy, _, hk => by
    have hL := len_star a b
    simp only [readF] at hx hy ⊢
    rw [facS_right a b n] at hx ⊢
    cases hf : facS b n with
    | error p => rw [hf] at hy; cases hy
    | ok t =>
      obtain ⟨u, c, f⟩ := t
      obtain ⟨ou, _, f0, f1⟩ := facS_ok b n f c u hn hf
      rw [hf] at hx hy
      simp only [shift] at hx hy ⊢
      have oF : (if und = true then invS u else u).Ok := by cases und; exact ou; exact invS_ok u ou
      generalize (if und = true then invS u else u) = F at *
      cases e1 : timesS F c X with
      | none => rw [e1] at hx; cases hx
      | some X' =>
        cases e2 : timesS F c Y with
        | none => rw [e2] at hy; cases hy
        | some Y' =>
          rw [e1] at hx
          rw [e2] at hy
          simp only at hx hy ⊢
          have hR := Rel.times oF c X Y X' Y' h oX oY e1 e2
          have o1 := timesS_ok F oF c X X' oX e1
          have o2 := timesS_ok F oF c Y Y' oY e2
          by_cases hfb : f = b.length
          · rw [if_pos hfb, if_pos (by omega)]
            exact ⟨hR, o1⟩
          · rw [if_neg hfb] at hy ⊢
            rw [if_neg (show ¬ a.length + 1 + f = (a ++ 42 :: b).length by omega), bt_right] at hx ⊢
            by_cases hc : bt b f ≠ 42 ∧ bt b f ≠ 47
            · rw [if_pos hc] at hy; cases hy
            · rw [if_neg hc] at hy hx ⊢
              rw [if_neg hc]
              exact readF_right a b U k (f + 1) _ X' Y' (by omega) hR o1 o2 hx hy (by omega) (by omega)
theorem unit1_rel (u : U5) : Rel u u unit1 := by
  constructor <;> simp [unit1, dim0, Int.mul_comm]
theorem readF_ok (l : List UInt8) : ∀ (k n : Nat) (und : Bool) (v : U5), n ≤ l.length → l.length < k + n → v.Ok → (readF l k n und v).2.2 = 0 → (readF l k n und v).1.Ok
  | 0, _, _, _, hn, hk, _, _ => by omega
  | k + 1, n, und, v, hn, hk, ov, h => by
    simp only [readF] at h ⊢
    split
    · rename_i hf; rw [hf] at h; cases h
    · rename_i u c f hf
      rw [hf] at h
      simp only at h
      obtain ⟨ou, _, f0, f1⟩ := facS_ok l n f c u hn hf
      have oF : (if und = true then invS u else u).Ok := by cases und; exact ou; exact invS_ok u ou
      split
      · rename_i ht; rw [ht] at h; cases h
      · rename_i x ht
        rw [ht] at h
        simp only at h
        have ox := timesS_ok _ oF c v x ov ht
        split
        · exact ox
        · rename_i hfl
          rw [if_neg hfl] at h
          split
          · rename_i hc; rw [if_pos hc] at h; cases h
          · rename_i hc
            rw [if_neg hc] at h
            exact readF_ok l k (f + 1) _ x (by omega) (by omega) ox h

/-- Two right texts with a star between them. -/
theorem readS_star (a b : List UInt8) (ha : (readS a).2.2 = 0) (hb : (readS b).2.2 = 0) (hw : (readS (a ++ 42 :: b)).2.2 = 0) :
    Rel (readS a).1 (readS (a ++ 42 :: b)).1 (readS b).1 ∧ (readS a).1.Ok ∧ (readS b).1.Ok ∧ (readS (a ++ 42 :: b)).1.Ok := by
  have hL := len_star a b
  by_cases h64 : 64 < (a ++ 42 :: b).length
  · rw [show readS (a ++ 42 :: b) = (unit0, 0, 2) from if_pos h64] at hw; cases hw
  have ea : readS a = readF a (a.length + 1) 0 false unit1 := if_neg (by omega)
  have eb : readS b = readF b (b.length + 1) 0 false unit1 := if_neg (by omega)
  have ew : readS (a ++ 42 :: b) = readF (a ++ 42 :: b) ((a ++ 42 :: b).length + 1) 0 false unit1 := if_neg h64
  rw [ea] at ha
  rw [eb] at hb
  rw [ew] at hw
  have hl := (readF_left a b (a.length + 1) ((a ++ 42 :: b).length + 1) 0 false unit1 (Nat.zero_le _) (by omega) (by omega)).2 ha
  rw [hl] at hw
  rw [ea, eb, ew, hl]
  have oa := readF_ok a (a.length + 1) 0 false unit1 (Nat.zero_le _) (by omega) unit1_ok ha
  have ob := readF_ok b (b.length + 1) 0 false unit1 (Nat.zero_le _) (by omega) unit1_ok hb
  have hr := readF_right a b (readF a (a.length + 1) 0 false unit1).1 (b.length + 1) 0 false _ unit1 (Nat.zero_le _) (unit1_rel _) oa unit1_ok hw hb (by omega) (by omega)
  exact ⟨hr.1, oa, ob, hr.2⟩
/-- A wrong first text. -/
theorem readS_wrong (a b : List UInt8) (ha : (readS a).2.2 = 20) : (readS (a ++ 42 :: b)).2.2 = 20 ∨ (readS (a ++ 42 :: b)).2.2 = 2 := by
  have hL := len_star a b
  by_cases h64 : 64 < (a ++ 42 :: b).length
  · right; rw [show readS (a ++ 42 :: b) = (unit0, 0, 2) from if_pos h64]
  · left
    have ea : readS a = readF a (a.length + 1) 0 false unit1 := if_neg (by omega)
    have ew : readS (a ++ 42 :: b) = readF (a ++ 42 :: b) ((a ++ 42 :: b).length + 1) 0 false unit1 := if_neg h64
    rw [ea] at ha
    have hl := (readF_left a b (a.length + 1) ((a ++ 42 :: b).length + 1) 0 false unit1 (Nat.zero_le _) (by omega) (by omega)).1 (by rw [ha]; decide)
    rw [ew, hl, ha]
theorem readS_at (l : List UInt8) : (readS l).2.1 ≤ l.length := by
  unfold readS
  split
  · exact Nat.zero_le _
  · exact readF_at l _ 0 false unit1 (Nat.zero_le _)
end Go.Proofs.YtjmngnnmnbhfpaaDoor
