/- Package dim: readFactor. -/
import Derived.Test.YtjmngnnmnbhfpaaDoorDimS
import Derived.Test.YtjmngnnmnbhfpaaDoorDimN
namespace Go.Proofs.YtjmngnnmnbhfpaaDoor
open Go.RowKit

/-- The longest run that begins at n. -/
def word (p : Int → Bool) (l : List UInt8) (n : Nat) : List UInt8 := (l.drop n).takeWhile (fun b => p b.toNat)
theorem word_end (p : Int → Bool) (l : List UInt8) (n : Nat) : runEnd p l n = n + (word p l n).length := rfl
theorem word_all (p : Int → Bool) (l : List UInt8) (n : Nat) : ∀ b ∈ word p l n, p b.toNat = true := by
  intro b hb
  have h := List.all_takeWhile (p := fun b : UInt8 => p b.toNat) (l := l.drop n)
  rw [List.all_eq_true] at h
  exact h b hb
theorem word_cut (p : Int → Bool) (s : ByteArray) (l : List UInt8) (hl : s.data.toList = l) (n : Nat) : (s.extract n (runEnd p l n)).data.toList = word p l n := by
  have e : (s.extract n (runEnd p l n)).data.toList = (l.drop n).take (runEnd p l n - n) := by
    rw [Lib.extract_data, hl]
  rw [e, word_end, Nat.add_sub_cancel_left]
  exact (List.prefix_iff_eq_take.1 (List.takeWhile_prefix _)).symm

/-- What a factor at n is: where it is wrong; or the unit, how often, and the byte behind it. -/
def facS (l : List UInt8) (n : Nat) : Except Nat (U5 × Nat × Nat) :=
  match findS (word letterB l n) with
  | none => .error n
  | some u =>
    if runEnd letterB l n = l.length ∨ bt l (runEnd letterB l n) ≠ 94 then .ok (u, 1, runEnd letterB l n)
    else match numS (word digitB l (runEnd letterB l n + 1)) with
      | none => .error (runEnd letterB l n + 1)
      | some c => .ok (u, c, runEnd digitB l (runEnd letterB l n + 1))
def facR : Except Nat (U5 × Nat × Nat) → Value
  | .error p => .tuple #[facV unit0 0, .int .i64 p, .bool false]
  | .ok (u, c, f) => .tuple #[facV u c, .int .i64 f, .bool true]

set_option maxHeartbeats 4000000 in
theorem readFactor_any (s : ByteArray) (l : List UInt8) (n : Nat) (hl : s.data.toList = l) (hn : n ≤ s.size) (hz : s.size ≤ 64) (w : World) (hN : NamesAt w) :
    Calls Tryd.prog 19 #[.string s, .int .i64 n] w fun e w' => e = .returned (facR (facS l n)) ∧ Below w.heap.size w w' := by
  have hs : l.length = s.size := by rw [← hl]; rfl
  obtain ⟨ob, l0⟩ := one_box w 41 [.int .i64 0, .int .i64 0, .int .i64 0, .int .i64 0, .int .i64 0, .int .i64 0, .int .i64 0, .int .i64 0]
  have hN1 := hN.later l0
  have r1 := runEnd_le letterB l n (by omega)
  have hw := word_cut letterB s l hl n
  have i1 : (n : Int) ≤ (runEnd letterB l n : Nat) := by omega
  have i2 : ((runEnd letterB l n : Nat) : Int) ≤ (s.size : Int) := by omega
  have FSQ : Hid (facS l n = facS l n) := rfl
  unfold Hid at FSQ
  conv at FSQ => rhs; unfold facS
  have FSQ : Hid _ := FSQ
  have hrun := fun w => run_letter s l n hl hn (by omega) w
  generalize hE : runEnd letterB l n = E at *
  cases hf : findS (word letterB l n) with
  | none =>
    have e1 : facS l n = .error n := by rw [FSQ.out, hf]
    have E1 : Hid _ := e1
    have HF : Hid _ := hf
    have HW : Hid _ := hw
    clear e1 FSQ hf hw hE
    go_enter Tryd.func19, Tryd.ntmps19
    go_wp2_with fail
    refine (hrun _).mono ?_
    rintro e w0 ⟨rfl, rfl⟩
    go_wp2_with fail
    refine (find_any _ _ hN1).mono ?_
    rw [HW.out, HF.out]
    rintro e w1 ⟨he, hb1⟩
    simp only [findV, Option.getD, Option.isSome, unitV, unit0, dim0] at he
    subst he
    have ox := (ob.next hb1).next ((Below.refl _ _).alloc (Nat.le_refl _) (.cells #[.int .i64 0, .int .i64 0, .int .i64 0, .int .i64 0, .int .i64 0, .int .i64 0, .int .i64 0] 26))
    obtain ⟨o0, o1, o2, o3, o4, o5, o6, o7, g0, g1, g2, g3, g4, g5, g6, g7⟩ := ox.eight
    have sz := hb1.size
    simp at sz
    have bl2 := (l0.trans (hb1.mono l0.size)).alloc (by omega) (.cells #[.int .i64 0, .int .i64 0, .int .i64 0, .int .i64 0, .int .i64 0, .int .i64 0, .int .i64 0] 26)
    clear ob ox hb1
    go_wp2_with fail
    refine bodyPost_ret (v := .tuple #[facV unit0 0, .int .i64 n, .bool false]) (by simp [results, Tryd.results19, go_sem, unit0, dim0, o0, o1, o2, o3, o4, o5, o6, o7]) rfl ⟨by rw [E1.out]; rfl, ?_⟩
    exact below_eight bl2 (Nat.le_refl _) _ _ _ _ _ _ _ _
  | some u =>
    have HW : Hid _ := hw
    have HF : Hid _ := hf
    clear hw
    by_cases hA : E = l.length ∨ bt l E ≠ 94
    · have e1 : facS l n = .ok (u, 1, E) := by rw [FSQ.out, hf]; exact if_pos hA
      have E1 : Hid _ := e1
      clear e1 FSQ hf hE
      by_cases hA1 : E = l.length
      · have k1 : ((E : Int) == (s.size : Int)) = true := by rw [beq_iff_eq]; omega
        clear hA hA1
        go_enter Tryd.func19, Tryd.ntmps19
        go_wp2_with fail
        refine (hrun _).mono ?_
        rintro e w0 ⟨rfl, rfl⟩
        go_wp2_with fail
        refine (find_any _ _ hN1).mono ?_
        rw [HW.out, HF.out]
        rintro e w1 ⟨he, hb1⟩
        simp only [findV, Option.getD, Option.isSome, unitV] at he
        subst he
        have l1 : Below w1.heap.size w1 (w1.alloc (.cells #[.int .i64 u.num, .int .i64 u.den, .int .i64 u.dim.a, .int .i64 u.dim.b, .int .i64 u.dim.c, .int .i64 u.dim.d, .int .i64 u.dim.e] 26)) := (Below.refl _ _).alloc (Nat.le_refl _) _
        have ox := (ob.next hb1).next l1
        have sz := hb1.size
        simp at sz
        have bl2 := (l0.trans (hb1.mono l0.size)).alloc (by omega) (.cells #[.int .i64 u.num, .int .i64 u.den, .int .i64 u.dim.a, .int .i64 u.dim.b, .int .i64 u.dim.c, .int .i64 u.dim.d, .int .i64 u.dim.e] 26)
        obtain ⟨o0, o1, o2, o3, o4, o5, o6, o7, g0, g1, g2, g3, g4, g5, g6, g7⟩ := ox.eight
        clear ob ox hb1 l1
        go_wp2_with fail
        refine bodyPost_ret (v := .tuple #[facV u 1, .int .i64 E, .bool true]) (by simp [results, Tryd.results19, go_sem, o0, o1, o2, o3, o4, o5, o6, o7]) rfl ⟨by rw [E1.out]; rfl, ?_⟩
        exact below_eight bl2 (Nat.le_refl _) _ _ _ _ _ _ _ _
      · have k1 : ((E : Int) == (s.size : Int)) = false := beq_eq_false_iff_ne.2 (by omega)
        have k2 : (E : Int) < (s.size : Int) := by omega
        have k3 : E < s.size := by omega
        have hg := bt_get s E k3
        rw [hl] at hg
        have k4 : (bt l E == 94) = false := beq_eq_false_iff_ne.2 (by rcases hA with h | h; exact absurd h hA1; exact h)
        clear hA hA1
        generalize bt l E = b0 at *
        go_enter Tryd.func19, Tryd.ntmps19
        go_wp2_with fail
        refine (hrun _).mono ?_
        rintro e w0 ⟨rfl, rfl⟩
        go_wp2_with fail
        refine (find_any _ _ hN1).mono ?_
        rw [HW.out, HF.out]
        rintro e w1 ⟨he, hb1⟩
        simp only [findV, Option.getD, Option.isSome, unitV] at he
        subst he
        have l1 : Below w1.heap.size w1 (w1.alloc (.cells #[.int .i64 u.num, .int .i64 u.den, .int .i64 u.dim.a, .int .i64 u.dim.b, .int .i64 u.dim.c, .int .i64 u.dim.d, .int .i64 u.dim.e] 26)) := (Below.refl _ _).alloc (Nat.le_refl _) _
        have ox := (ob.next hb1).next l1
        have sz := hb1.size
        simp at sz
        have bl2 := (l0.trans (hb1.mono l0.size)).alloc (by omega) (.cells #[.int .i64 u.num, .int .i64 u.den, .int .i64 u.dim.a, .int .i64 u.dim.b, .int .i64 u.dim.c, .int .i64 u.dim.d, .int .i64 u.dim.e] 26)
        obtain ⟨o0, o1, o2, o3, o4, o5, o6, o7, g0, g1, g2, g3, g4, g5, g6, g7⟩ := ox.eight
        clear ob ox hb1 l1
        go_wp2_with fail
        refine bodyPost_ret (v := .tuple #[facV u 1, .int .i64 E, .bool true]) (by simp [results, Tryd.results19, go_sem, o0, o1, o2, o3, o4, o5, o6, o7]) rfl ⟨by rw [E1.out]; rfl, ?_⟩
        exact below_eight bl2 (Nat.le_refl _) _ _ _ _ _ _ _ _
    · have k1 : ((E : Int) == (s.size : Int)) = false := beq_eq_false_iff_ne.2 (by omega)
      have k2 : (E : Int) < (s.size : Int) := by omega
      have k3 : E < s.size := by omega
      have hg := bt_get s E k3
      rw [hl] at hg
      have k4 : bt l E = 94 := by omega
      rw [k4] at hg
      have rd := runEnd_le digitB l (E + 1) (by omega)
      have hrun2 := fun w => run_digit s l (E + 1) hl (by omega) (by omega) w
      have hw2 := word_cut digitB s l hl (E + 1)
      have hnum := fun w => number_any (s.extract (E + 1) (runEnd digitB l (E + 1))) _ hw2 (word_all _ _ _) (by simp only [ByteArray.size_extract]; omega) w
      have e0 : facS l n = match numS (word digitB l (E + 1)) with
        | none => .error (E + 1)
        | some c => .ok (u, c, runEnd digitB l (E + 1)) := by rw [FSQ.out, hf]; exact if_neg hA
      have FSQ : Hid _ := e0
      clear e0 hA hf hE hw2 k4
      generalize runEnd digitB l (E + 1) = F at *
      have i3 : (E : Int) + 1 ≤ (F : Int) := by omega
      have i4 : (F : Int) ≤ (s.size : Int) := by omega
      have ec : ((E + 1 : Nat) : Int) = (E : Int) + 1 := by omega
      rw [ec] at hrun2
      cases hc : numS (word digitB l (E + 1)) with
      | none =>
        have e1 : facS l n = .error (E + 1) := by rw [FSQ.out, hc]
        have E1 : Hid _ := e1
        rw [hc] at hnum
        simp only [numV, Option.getD, Option.isSome] at hnum
        clear e1 FSQ hc
        go_enter Tryd.func19, Tryd.ntmps19
        go_wp2_with fail
        refine (hrun _).mono ?_
        rintro e w0 ⟨rfl, rfl⟩
        go_wp2_with fail
        refine (find_any _ _ hN1).mono ?_
        rw [HW.out, HF.out]
        rintro e w1 ⟨he, hb1⟩
        simp only [findV, Option.getD, Option.isSome, unitV] at he
        subst he
        have l1 : Below w1.heap.size w1 (w1.alloc (.cells #[.int .i64 u.num, .int .i64 u.den, .int .i64 u.dim.a, .int .i64 u.dim.b, .int .i64 u.dim.c, .int .i64 u.dim.d, .int .i64 u.dim.e] 26)) := (Below.refl _ _).alloc (Nat.le_refl _) _
        have ox := (ob.next hb1).next l1
        have sz := hb1.size
        simp at sz
        have bl2 := (l0.trans (hb1.mono l0.size)).alloc (by omega) (.cells #[.int .i64 u.num, .int .i64 u.den, .int .i64 u.dim.a, .int .i64 u.dim.b, .int .i64 u.dim.c, .int .i64 u.dim.d, .int .i64 u.dim.e] 26)
        have ub : Box (w1.alloc (.cells #[.int .i64 u.num, .int .i64 u.den, .int .i64 u.dim.a, .int .i64 u.dim.b, .int .i64 u.dim.c, .int .i64 u.dim.d, .int .i64 u.dim.e] 26)) w1.heap.size [.int .i64 u.num, .int .i64 u.den, .int .i64 u.dim.a, .int .i64 u.dim.b, .int .i64 u.dim.c, .int .i64 u.dim.d, .int .i64 u.dim.e] := Box.new w1 [.int .i64 u.num, .int .i64 u.den, .int .i64 u.dim.a, .int .i64 u.dim.b, .int .i64 u.dim.c, .int .i64 u.dim.d, .int .i64 u.dim.e] 26
        go_wp2_with fail
        refine (hrun2 _).mono ?_
        rintro e w0 ⟨rfl, rfl⟩
        go_wp2_with fail
        refine (hnum _).mono ?_
        rintro e w2 ⟨rfl, hb2⟩
        have ox2 := ox.next hb2
        have bl3 := bl2.trans (hb2.mono bl2.size)
        obtain ⟨o0, o1, o2, o3, o4, o5, o6, o7, g0, g1, g2, g3, g4, g5, g6, g7⟩ := ox2.eight
        clear ob ox hb1 l1 ub ox2 hb2
        go_wp2_with fail
        refine bodyPost_ret (v := .tuple #[facV unit0 0, .int .i64 ((E + 1 : Nat) : Int), .bool false]) (by simp [results, Tryd.results19, go_sem, unit0, dim0, o0, o1, o2, o3, o4, o5, o6, o7]) rfl ⟨by rw [E1.out]; rfl, ?_⟩
        exact below_eight bl3 (Nat.le_refl _) _ _ _ _ _ _ _ _
      | some c =>
        have e1 : facS l n = .ok (u, c, F) := by rw [FSQ.out, hc]
        have E1 : Hid _ := e1
        rw [hc] at hnum
        simp only [numV, Option.getD, Option.isSome] at hnum
        clear e1 FSQ hc
        go_enter Tryd.func19, Tryd.ntmps19
        go_wp2_with fail
        refine (hrun _).mono ?_
        rintro e w0 ⟨rfl, rfl⟩
        go_wp2_with fail
        refine (find_any _ _ hN1).mono ?_
        rw [HW.out, HF.out]
        rintro e w1 ⟨he, hb1⟩
        simp only [findV, Option.getD, Option.isSome, unitV] at he
        subst he
        have l1 : Below w1.heap.size w1 (w1.alloc (.cells #[.int .i64 u.num, .int .i64 u.den, .int .i64 u.dim.a, .int .i64 u.dim.b, .int .i64 u.dim.c, .int .i64 u.dim.d, .int .i64 u.dim.e] 26)) := (Below.refl _ _).alloc (Nat.le_refl _) _
        have ox := (ob.next hb1).next l1
        have sz := hb1.size
        simp at sz
        have bl2 := (l0.trans (hb1.mono l0.size)).alloc (by omega) (.cells #[.int .i64 u.num, .int .i64 u.den, .int .i64 u.dim.a, .int .i64 u.dim.b, .int .i64 u.dim.c, .int .i64 u.dim.d, .int .i64 u.dim.e] 26)
        have ub : Box (w1.alloc (.cells #[.int .i64 u.num, .int .i64 u.den, .int .i64 u.dim.a, .int .i64 u.dim.b, .int .i64 u.dim.c, .int .i64 u.dim.d, .int .i64 u.dim.e] 26)) w1.heap.size [.int .i64 u.num, .int .i64 u.den, .int .i64 u.dim.a, .int .i64 u.dim.b, .int .i64 u.dim.c, .int .i64 u.dim.d, .int .i64 u.dim.e] := Box.new w1 [.int .i64 u.num, .int .i64 u.den, .int .i64 u.dim.a, .int .i64 u.dim.b, .int .i64 u.dim.c, .int .i64 u.dim.d, .int .i64 u.dim.e] 26
        go_wp2_with fail
        refine (hrun2 _).mono ?_
        rintro e w0 ⟨rfl, rfl⟩
        go_wp2_with fail
        refine (hnum _).mono ?_
        rintro e w2 ⟨rfl, hb2⟩
        have ox2 := ox.next hb2
        have ub2 := ub.next hb2
        have bl3 := bl2.trans (hb2.mono bl2.size)
        obtain ⟨o0, o1, o2, o3, o4, o5, o6, o7, g0, g1, g2, g3, g4, g5, g6, g7⟩ := ox2.eight
        obtain ⟨u0, u1, u2, u3, u4, u5, u6, q0, q1, q2, q3, q4, q5, q6⟩ := ub2.seven
        clear ob ox hb1 l1 ub ox2 hb2 ub2
        go_wp2_with fail
        refine bodyPost_ret (v := .tuple #[facV u c, .int .i64 F, .bool true]) (by simp [results, Tryd.results19, go_sem, o0, o1, o2, o3, o4, o5, o6, o7]) rfl ⟨by rw [E1.out]; rfl, ?_⟩
        exact below_eight bl3 (Nat.le_refl _) _ _ _ _ _ _ _ _
end Go.Proofs.YtjmngnnmnbhfpaaDoor
