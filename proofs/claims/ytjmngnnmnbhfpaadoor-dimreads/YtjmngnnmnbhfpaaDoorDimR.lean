/- Package dim: the product of two units, in lowest terms and within the limits. -/
import Derived.Test.YtjmngnnmnbhfpaaDoorDimB
import Derived.Test.YtjmngnnmnbhfpaaDoorDimF
import Derived.WalkSmall
namespace Go.Proofs.YtjmngnnmnbhfpaaDoor
open Go.RowKit

theorem bounded_yes (a b : Int) (a0 : 0 < a) (b0 : 0 < b) (b1 : b < 9223372036854775808) (h : a * b ≤ 1000000000000000) (w : World) :
    Calls Tryd.prog 63 #[.int .i64 a, .int .i64 b] w fun e w' => e = .returned (.tuple #[.int .i64 (a * b), .bool true]) ∧ w = w' := by
  have := bounded_any a b a0 b0 b1 w
  rw [if_pos h, decide_eq_true h] at this
  exact this
theorem bounded_not (a b : Int) (a0 : 0 < a) (b0 : 0 < b) (b1 : b < 9223372036854775808) (h : ¬ a * b ≤ 1000000000000000) (w : World) :
    Calls Tryd.prog 63 #[.int .i64 a, .int .i64 b] w fun e w' => e = .returned (.tuple #[.int .i64 0, .bool false]) ∧ w = w' := by
  have := bounded_any a b a0 b0 b1 w
  rw [if_neg h, decide_eq_false h] at this
  exact this

/-- A unit within the limits. -/
structure U5.Ok (u : U5) : Prop where
  n0 : 0 < u.num
  n1 : u.num ≤ 1000000000000000
  d0 : 0 < u.den
  d1 : u.den ≤ 1000000000000000
  a : In8 u.dim.a
  b : In8 u.dim.b
  c : In8 u.dim.c
  d : In8 u.dim.d
  e : In8 u.dim.e
theorem U5.Ok.fits {u : U5} (h : u.Ok) : u.dim.Fits := by
  obtain ⟨_, _, _, _, ⟨a0, a1⟩, ⟨b0, b1⟩, ⟨c0, c1⟩, ⟨d0, d1⟩, ⟨e0, e1⟩⟩ := h
  constructor <;> omega

/-- The two common divisors that are cut, and the product's parts. -/
def gOf (a b : U5) : Int := (Int.gcd a.num b.den : Nat)
def hOf (a b : U5) : Int := (Int.gcd b.num a.den : Nat)
def prodS (a b : U5) : Option U5 :=
  match joinS (· + ·) a.dim b.dim with
  | none => none
  | some d =>
    if (a.num / gOf a b) * (b.num / hOf a b) ≤ 1000000000000000 ∧ (a.den / hOf a b) * (b.den / gOf a b) ≤ 1000000000000000 then
      some ⟨(a.num / gOf a b) * (b.num / hOf a b), (a.den / hOf a b) * (b.den / gOf a b), d⟩
    else none
theorem div_cut (x y : Int) (x0 : 0 < x) (y0 : 0 < y) : 0 < ((Int.gcd x y : Nat) : Int) ∧ ((Int.gcd x y : Nat) : Int) ≤ x ∧ 0 < x / ((Int.gcd x y : Nat) : Int) ∧ 0 < y / ((Int.gcd x y : Nat) : Int) ∧ x / ((Int.gcd x y : Nat) : Int) ≤ x ∧ y / ((Int.gcd x y : Nat) : Int) ≤ y := by
  have g0 : 0 < ((Int.gcd x y : Nat) : Int) := by
    have := Int.gcd_pos_of_ne_zero_left y (show x ≠ 0 by omega)
    omega
  have hx : ((Int.gcd x y : Nat) : Int) ∣ x := Int.gcd_dvd_left ..
  have hy : ((Int.gcd x y : Nat) : Int) ∣ y := Int.gcd_dvd_right ..
  refine ⟨g0, Int.le_of_dvd x0 hx, Int.ediv_pos_of_pos_of_dvd x0 (by omega) hx, Int.ediv_pos_of_pos_of_dvd y0 (by omega) hy, Int.ediv_le_self _ (by omega), Int.ediv_le_self _ (by omega)⟩
theorem prodS_ok (a b c : U5) (ha : a.Ok) (hb : b.Ok) (h : prodS a b = some c) : c.Ok := by
  unfold prodS at h
  split at h
  · cases h
  · rename_i d hd
    split at h
    · rename_i hk
      cases h
      unfold joinS at hd
      split at hd
      · rename_i hj
        cases hd
        have q1 := div_cut a.num b.den ha.n0 hb.d0
        have q2 := div_cut b.num a.den hb.n0 ha.d0
        exact ⟨Int.mul_pos q1.2.2.1 q2.2.2.1, hk.1, Int.mul_pos q2.2.2.2.1 q1.2.2.2.1, hk.2, hj.1, hj.2.1, hj.2.2.1, hj.2.2.2.1, hj.2.2.2.2⟩
      · cases hd
    · cases h

set_option maxHeartbeats 4000000 in
set_option maxRecDepth 100000 in
theorem product_dim (a b : U5) (ha : a.Ok) (hb : b.Ok) (hj : joinS (· + ·) a.dim b.dim = none) (w : World) :
    Calls Tryd.prog 42 #[unitV a, unitV b] w fun e w' => e = .returned (.tuple #[unitV unit0, .bool false]) ∧ Below w.heap.size w w' := by
  have fa := ha.fits
  have fb := hb.fits
  have JN : Hid _ := hj
  clear hj
  obtain ⟨ab, bb, ob, l0⟩ := three_boxes w 26 26 26 [.int .i64 a.num, .int .i64 a.den, .int .i64 a.dim.a, .int .i64 a.dim.b, .int .i64 a.dim.c, .int .i64 a.dim.d, .int .i64 a.dim.e] [.int .i64 b.num, .int .i64 b.den, .int .i64 b.dim.a, .int .i64 b.dim.b, .int .i64 b.dim.c, .int .i64 b.dim.d, .int .i64 b.dim.e] [.int .i64 0, .int .i64 0, .int .i64 0, .int .i64 0, .int .i64 0, .int .i64 0, .int .i64 0]
  go_enter Tryd.func42, Tryd.ntmps42
  go_wp2_with fail
  refine (Mul_any a.dim b.dim fa fb _).mono ?_
  rintro e w1 ⟨he, hb1⟩
  rw [JN.out] at he
  simp only [joinV, Option.getD, Option.isSome, dimV, dim0] at he
  subst he
  have ox := ((ob.next hb1)).next ((Below.refl _ _).alloc (Nat.le_refl _) (.cells #[.int .i64 0, .int .i64 0, .int .i64 0, .int .i64 0, .int .i64 0] 24))
  obtain ⟨o0, o1, o2, o3, o4, o5, o6, g0, g1, g2, g3, g4, g5, g6⟩ := ox.seven
  have sz := hb1.size
  simp at sz
  have bl := (l0.trans (hb1.mono l0.size)).alloc (by omega) (.cells #[.int .i64 0, .int .i64 0, .int .i64 0, .int .i64 0, .int .i64 0] 24)
  clear ab bb ob ox l0 hb1
  go_wp2_with fail
  refine bodyPost_ret (v := .tuple #[unitV unit0, .bool false]) (by simp [results, Tryd.results42, go_sem, unit0, dim0, o0, o1, o2, o3, o4, o5, o6]) rfl ⟨rfl, ?_⟩
  exact below_seven bl (by omega) _ _ _ _ _ _ _

set_option maxHeartbeats 4000000 in
set_option maxRecDepth 100000 in
theorem product_num (a b : U5) (ha : a.Ok) (hb : b.Ok) (d : D5) (hj : joinS (· + ·) a.dim b.dim = some d) (hn : ¬ (a.num / gOf a b) * (b.num / hOf a b) ≤ 1000000000000000) (w : World) :
    Calls Tryd.prog 42 #[unitV a, unitV b] w fun e w' => e = .returned (.tuple #[unitV unit0, .bool false]) ∧ Below w.heap.size w w' := by
  have fa := ha.fits
  have fb := hb.fits
  have JN : Hid _ := hj
  clear hj
  have cg : ∀ (w : World) (n : Nat), Calls Tryd.prog 62 #[.int .i64 a.num, .int .i64 b.den] (w.drewN n) fun e w' => e = .returned (.int .i64 (gOf a b)) ∧ ∃ k, w' = w.drewN k := fun w n => common_quiet a.num b.den ha.n0 hb.d0 (by have := hb.d1; omega) w n
  have ch : ∀ (w : World) (n : Nat), Calls Tryd.prog 62 #[.int .i64 b.num, .int .i64 a.den] (w.drewN n) fun e w' => e = .returned (.int .i64 (hOf a b)) ∧ ∃ k, w' = w.drewN k := fun w n => common_quiet b.num a.den hb.n0 ha.d0 (by have := ha.d1; omega) w n
  obtain ⟨p1, p2, p3, p4, p5, p6⟩ : 0 < gOf a b ∧ gOf a b ≤ a.num ∧ 0 < a.num / gOf a b ∧ 0 < b.den / gOf a b ∧ a.num / gOf a b ≤ a.num ∧ b.den / gOf a b ≤ b.den := div_cut a.num b.den ha.n0 hb.d0
  obtain ⟨q1, q2, q3, q4, q5, q6⟩ : 0 < hOf a b ∧ hOf a b ≤ b.num ∧ 0 < b.num / hOf a b ∧ 0 < a.den / hOf a b ∧ b.num / hOf a b ≤ b.num ∧ a.den / hOf a b ≤ a.den := div_cut b.num a.den hb.n0 ha.d0
  have r1 := ha.n0
  have r2 := ha.n1
  have r3 := ha.d0
  have r4 := ha.d1
  have t1 := hb.n0
  have t2 := hb.n1
  have t3 := hb.d0
  have t4 := hb.d1
  generalize gOf a b = G at *
  generalize hOf a b = H at *
  have z1 : ¬ G = 0 := by omega
  have z2 : ¬ H = 0 := by omega
  have hB := bounded_not (a.num / G) (b.num / H) p3 q3 (by omega) hn
  have HN : Hid _ := hn
  clear hn
  obtain ⟨ab, bb, ob, l0⟩ := three_boxes w 26 26 26 [.int .i64 a.num, .int .i64 a.den, .int .i64 a.dim.a, .int .i64 a.dim.b, .int .i64 a.dim.c, .int .i64 a.dim.d, .int .i64 a.dim.e] [.int .i64 b.num, .int .i64 b.den, .int .i64 b.dim.a, .int .i64 b.dim.b, .int .i64 b.dim.c, .int .i64 b.dim.d, .int .i64 b.dim.e] [.int .i64 0, .int .i64 0, .int .i64 0, .int .i64 0, .int .i64 0, .int .i64 0, .int .i64 0]
  go_enter Tryd.func42, Tryd.ntmps42
  go_wp2_with fail
  refine (Mul_any a.dim b.dim fa fb _).mono ?_
  rintro e w1 ⟨he, hb1⟩
  rw [JN.out] at he
  simp only [joinV, Option.getD, Option.isSome, dimV] at he
  subst he
  have ax := ((ab.next hb1)).next ((Below.refl _ _).alloc (Nat.le_refl _) (.cells #[.int .i64 d.a, .int .i64 d.b, .int .i64 d.c, .int .i64 d.d, .int .i64 d.e] 24))
  have bx := ((bb.next hb1)).next ((Below.refl _ _).alloc (Nat.le_refl _) (.cells #[.int .i64 d.a, .int .i64 d.b, .int .i64 d.c, .int .i64 d.d, .int .i64 d.e] 24))
  have ox := ((ob.next hb1)).next ((Below.refl _ _).alloc (Nat.le_refl _) (.cells #[.int .i64 d.a, .int .i64 d.b, .int .i64 d.c, .int .i64 d.d, .int .i64 d.e] 24))
  have a0 := ax.cell 0 _ rfl
  have a1 := ax.cell 1 _ rfl
  have b0 := bx.cell 0 _ rfl
  have b1 := bx.cell 1 _ rfl
  obtain ⟨o0, o1, o2, o3, o4, o5, o6, g0, g1, g2, g3, g4, g5, g6⟩ := ox.seven
  have sz := hb1.size
  simp at sz
  have bl := (l0.trans (hb1.mono l0.size)).alloc (by omega) (.cells #[.int .i64 d.a, .int .i64 d.b, .int .i64 d.c, .int .i64 d.d, .int .i64 d.e] 24)
  clear ab bb ob ax bx ox l0 hb1
  go_wp2_with fail
  go_quiet (first | (go_at_call 62; first | with_reducible exact cg _ _ | with_reducible exact ch _ _))
  go_wp2_with fail
  go_quiet (first | (go_at_call 63; refine (hB _).mono ?_; rintro e w' ⟨rfl, rfl⟩; exact ⟨rfl, _, rfl⟩))
  go_wp2_with fail
  refine bodyPost_ret (v := .tuple #[unitV unit0, .bool false]) (by simp [results, Tryd.results42, go_sem, unit0, dim0, o0, o1, o2, o3, o4, o5, o6]) rfl ⟨rfl, ?_⟩
  exact below_seven (below_drewN bl _) (by omega) _ _ _ _ _ _ _

set_option maxHeartbeats 4000000 in
set_option maxRecDepth 100000 in
theorem product_den (a b : U5) (ha : a.Ok) (hb : b.Ok) (d : D5) (hj : joinS (· + ·) a.dim b.dim = some d) (hn : (a.num / gOf a b) * (b.num / hOf a b) ≤ 1000000000000000) (hm : ¬ (a.den / hOf a b) * (b.den / gOf a b) ≤ 1000000000000000) (w : World) :
    Calls Tryd.prog 42 #[unitV a, unitV b] w fun e w' => e = .returned (.tuple #[unitV unit0, .bool false]) ∧ Below w.heap.size w w' := by
  have fa := ha.fits
  have fb := hb.fits
  have JN : Hid _ := hj
  clear hj
  have cg : ∀ (w : World) (n : Nat), Calls Tryd.prog 62 #[.int .i64 a.num, .int .i64 b.den] (w.drewN n) fun e w' => e = .returned (.int .i64 (gOf a b)) ∧ ∃ k, w' = w.drewN k := fun w n => common_quiet a.num b.den ha.n0 hb.d0 (by have := hb.d1; omega) w n
  have ch : ∀ (w : World) (n : Nat), Calls Tryd.prog 62 #[.int .i64 b.num, .int .i64 a.den] (w.drewN n) fun e w' => e = .returned (.int .i64 (hOf a b)) ∧ ∃ k, w' = w.drewN k := fun w n => common_quiet b.num a.den hb.n0 ha.d0 (by have := ha.d1; omega) w n
  obtain ⟨p1, p2, p3, p4, p5, p6⟩ : 0 < gOf a b ∧ gOf a b ≤ a.num ∧ 0 < a.num / gOf a b ∧ 0 < b.den / gOf a b ∧ a.num / gOf a b ≤ a.num ∧ b.den / gOf a b ≤ b.den := div_cut a.num b.den ha.n0 hb.d0
  obtain ⟨q1, q2, q3, q4, q5, q6⟩ : 0 < hOf a b ∧ hOf a b ≤ b.num ∧ 0 < b.num / hOf a b ∧ 0 < a.den / hOf a b ∧ b.num / hOf a b ≤ b.num ∧ a.den / hOf a b ≤ a.den := div_cut b.num a.den hb.n0 ha.d0
  have r1 := ha.n0
  have r2 := ha.n1
  have r3 := ha.d0
  have r4 := ha.d1
  have t1 := hb.n0
  have t2 := hb.n1
  have t3 := hb.d0
  have t4 := hb.d1
  generalize gOf a b = G at *
  generalize hOf a b = H at *
  have z1 : ¬ G = 0 := by omega
  have z2 : ¬ H = 0 := by omega
  have hB := bounded_yes (a.num / G) (b.num / H) p3 q3 (by omega) hn
  have hC := bounded_not (a.den / H) (b.den / G) q4 p4 (by omega) hm
  have HN : Hid _ := hn
  have HM : Hid _ := hm
  clear hn hm
  obtain ⟨ab, bb, ob, l0⟩ := three_boxes w 26 26 26 [.int .i64 a.num, .int .i64 a.den, .int .i64 a.dim.a, .int .i64 a.dim.b, .int .i64 a.dim.c, .int .i64 a.dim.d, .int .i64 a.dim.e] [.int .i64 b.num, .int .i64 b.den, .int .i64 b.dim.a, .int .i64 b.dim.b, .int .i64 b.dim.c, .int .i64 b.dim.d, .int .i64 b.dim.e] [.int .i64 0, .int .i64 0, .int .i64 0, .int .i64 0, .int .i64 0, .int .i64 0, .int .i64 0]
  go_enter Tryd.func42, Tryd.ntmps42
  go_wp2_with fail
  refine (Mul_any a.dim b.dim fa fb _).mono ?_
  rintro e w1 ⟨he, hb1⟩
  rw [JN.out] at he
  simp only [joinV, Option.getD, Option.isSome, dimV] at he
  subst he
  have ax := ((ab.next hb1)).next ((Below.refl _ _).alloc (Nat.le_refl _) (.cells #[.int .i64 d.a, .int .i64 d.b, .int .i64 d.c, .int .i64 d.d, .int .i64 d.e] 24))
  have bx := ((bb.next hb1)).next ((Below.refl _ _).alloc (Nat.le_refl _) (.cells #[.int .i64 d.a, .int .i64 d.b, .int .i64 d.c, .int .i64 d.d, .int .i64 d.e] 24))
  have ox := ((ob.next hb1)).next ((Below.refl _ _).alloc (Nat.le_refl _) (.cells #[.int .i64 d.a, .int .i64 d.b, .int .i64 d.c, .int .i64 d.d, .int .i64 d.e] 24))
  have a0 := ax.cell 0 _ rfl
  have a1 := ax.cell 1 _ rfl
  have b0 := bx.cell 0 _ rfl
  have b1 := bx.cell 1 _ rfl
  obtain ⟨o0, o1, o2, o3, o4, o5, o6, g0, g1, g2, g3, g4, g5, g6⟩ := ox.seven
  have sz := hb1.size
  simp at sz
  have bl := (l0.trans (hb1.mono l0.size)).alloc (by omega) (.cells #[.int .i64 d.a, .int .i64 d.b, .int .i64 d.c, .int .i64 d.d, .int .i64 d.e] 24)
  clear ab bb ob ax bx ox l0 hb1
  go_wp2_with fail
  go_quiet (first | (go_at_call 62; first | with_reducible exact cg _ _ | with_reducible exact ch _ _))
  go_wp2_with fail
  go_quiet (first | (go_at_call 63; refine (hB _).mono ?_; rintro e w' ⟨rfl, rfl⟩; exact ⟨rfl, _, rfl⟩))
  go_wp2_with fail
  go_quiet (first | (go_at_call 63; refine (hC _).mono ?_; rintro e w' ⟨rfl, rfl⟩; exact ⟨rfl, _, rfl⟩))
  go_wp2_with fail
  refine bodyPost_ret (v := .tuple #[unitV unit0, .bool false]) (by simp [results, Tryd.results42, go_sem, unit0, dim0, o0, o1, o2, o3, o4, o5, o6]) rfl ⟨rfl, ?_⟩
  exact below_seven (below_drewN bl _) (by omega) _ _ _ _ _ _ _

set_option maxHeartbeats 4000000 in
set_option maxRecDepth 100000 in
theorem product_yes (a b : U5) (ha : a.Ok) (hb : b.Ok) (d : D5) (hj : joinS (· + ·) a.dim b.dim = some d) (hn : (a.num / gOf a b) * (b.num / hOf a b) ≤ 1000000000000000) (hm : (a.den / hOf a b) * (b.den / gOf a b) ≤ 1000000000000000) (w : World) :
    Calls Tryd.prog 42 #[unitV a, unitV b] w fun e w' => e = .returned (.tuple #[unitV ⟨(a.num / gOf a b) * (b.num / hOf a b), (a.den / hOf a b) * (b.den / gOf a b), d⟩, .bool true]) ∧ Below w.heap.size w w' := by
  have fa := ha.fits
  have fb := hb.fits
  have JN : Hid _ := hj
  clear hj
  have cg : ∀ (w : World) (n : Nat), Calls Tryd.prog 62 #[.int .i64 a.num, .int .i64 b.den] (w.drewN n) fun e w' => e = .returned (.int .i64 (gOf a b)) ∧ ∃ k, w' = w.drewN k := fun w n => common_quiet a.num b.den ha.n0 hb.d0 (by have := hb.d1; omega) w n
  have ch : ∀ (w : World) (n : Nat), Calls Tryd.prog 62 #[.int .i64 b.num, .int .i64 a.den] (w.drewN n) fun e w' => e = .returned (.int .i64 (hOf a b)) ∧ ∃ k, w' = w.drewN k := fun w n => common_quiet b.num a.den hb.n0 ha.d0 (by have := ha.d1; omega) w n
  obtain ⟨p1, p2, p3, p4, p5, p6⟩ : 0 < gOf a b ∧ gOf a b ≤ a.num ∧ 0 < a.num / gOf a b ∧ 0 < b.den / gOf a b ∧ a.num / gOf a b ≤ a.num ∧ b.den / gOf a b ≤ b.den := div_cut a.num b.den ha.n0 hb.d0
  obtain ⟨q1, q2, q3, q4, q5, q6⟩ : 0 < hOf a b ∧ hOf a b ≤ b.num ∧ 0 < b.num / hOf a b ∧ 0 < a.den / hOf a b ∧ b.num / hOf a b ≤ b.num ∧ a.den / hOf a b ≤ a.den := div_cut b.num a.den hb.n0 ha.d0
  have r1 := ha.n0
  have r2 := ha.n1
  have r3 := ha.d0
  have r4 := ha.d1
  have t1 := hb.n0
  have t2 := hb.n1
  have t3 := hb.d0
  have t4 := hb.d1
  generalize gOf a b = G at *
  generalize hOf a b = H at *
  have z1 : ¬ G = 0 := by omega
  have z2 : ¬ H = 0 := by omega
  have hB := bounded_yes (a.num / G) (b.num / H) p3 q3 (by omega) hn
  have hC := bounded_yes (a.den / H) (b.den / G) q4 p4 (by omega) hm
  have HN : Hid _ := hn
  have HM : Hid _ := hm
  clear hn hm
  obtain ⟨ab, bb, ob, l0⟩ := three_boxes w 26 26 26 [.int .i64 a.num, .int .i64 a.den, .int .i64 a.dim.a, .int .i64 a.dim.b, .int .i64 a.dim.c, .int .i64 a.dim.d, .int .i64 a.dim.e] [.int .i64 b.num, .int .i64 b.den, .int .i64 b.dim.a, .int .i64 b.dim.b, .int .i64 b.dim.c, .int .i64 b.dim.d, .int .i64 b.dim.e] [.int .i64 0, .int .i64 0, .int .i64 0, .int .i64 0, .int .i64 0, .int .i64 0, .int .i64 0]
  go_enter Tryd.func42, Tryd.ntmps42
  go_wp2_with fail
  refine (Mul_any a.dim b.dim fa fb _).mono ?_
  rintro e w1 ⟨he, hb1⟩
  rw [JN.out] at he
  simp only [joinV, Option.getD, Option.isSome, dimV] at he
  subst he
  have ax := ((ab.next hb1)).next ((Below.refl _ _).alloc (Nat.le_refl _) (.cells #[.int .i64 d.a, .int .i64 d.b, .int .i64 d.c, .int .i64 d.d, .int .i64 d.e] 24))
  have bx := ((bb.next hb1)).next ((Below.refl _ _).alloc (Nat.le_refl _) (.cells #[.int .i64 d.a, .int .i64 d.b, .int .i64 d.c, .int .i64 d.d, .int .i64 d.e] 24))
  have ox := ((ob.next hb1)).next ((Below.refl _ _).alloc (Nat.le_refl _) (.cells #[.int .i64 d.a, .int .i64 d.b, .int .i64 d.c, .int .i64 d.d, .int .i64 d.e] 24))
  have a0 := ax.cell 0 _ rfl
  have a1 := ax.cell 1 _ rfl
  have b0 := bx.cell 0 _ rfl
  have b1 := bx.cell 1 _ rfl
  obtain ⟨o0, o1, o2, o3, o4, o5, o6, g0, g1, g2, g3, g4, g5, g6⟩ := ox.seven
  have sz := hb1.size
  simp at sz
  have bl := (l0.trans (hb1.mono l0.size)).alloc (by omega) (.cells #[.int .i64 d.a, .int .i64 d.b, .int .i64 d.c, .int .i64 d.d, .int .i64 d.e] 24)
  clear ab bb ob ax bx ox l0 hb1
  go_wp2_with fail
  go_quiet (first | (go_at_call 62; first | with_reducible exact cg _ _ | with_reducible exact ch _ _))
  go_wp2_with fail
  go_quiet (first | (go_at_call 63; refine (hB _).mono ?_; rintro e w' ⟨rfl, rfl⟩; exact ⟨rfl, _, rfl⟩))
  go_wp2_with fail
  go_quiet (first | (go_at_call 63; refine (hC _).mono ?_; rintro e w' ⟨rfl, rfl⟩; exact ⟨rfl, _, rfl⟩))
  go_wp2_with fail
  refine bodyPost_ret (v := .tuple #[unitV ⟨(a.num / G) * (b.num / H), (a.den / H) * (b.den / G), d⟩, .bool true]) (by simp [results, Tryd.results42, go_sem, o0, o1, o2, o3, o4, o5, o6]) rfl ⟨rfl, ?_⟩
  exact below_seven (below_drewN bl _) (by omega) _ _ _ _ _ _ _

theorem product_any (a b : U5) (ha : a.Ok) (hb : b.Ok) (w : World) :
    Calls Tryd.prog 42 #[unitV a, unitV b] w fun e w' => e = .returned (findV (prodS a b)) ∧ Below w.heap.size w w' := by
  cases hj : joinS (· + ·) a.dim b.dim with
  | none =>
    have e : prodS a b = none := by unfold prodS; rw [hj]
    rw [e]
    exact (product_dim a b ha hb hj w).mono fun _ _ h => h
  | some d =>
    by_cases hn : (a.num / gOf a b) * (b.num / hOf a b) ≤ 1000000000000000
    · by_cases hm : (a.den / hOf a b) * (b.den / gOf a b) ≤ 1000000000000000
      · have e : prodS a b = some ⟨(a.num / gOf a b) * (b.num / hOf a b), (a.den / hOf a b) * (b.den / gOf a b), d⟩ := by unfold prodS; rw [hj]; exact if_pos ⟨hn, hm⟩
        rw [e]
        exact (product_yes a b ha hb d hj hn hm w).mono fun _ _ h => h
      · have e : prodS a b = none := by unfold prodS; rw [hj]; exact if_neg fun k => hm k.2
        rw [e]
        exact (product_den a b ha hb d hj hn hm w).mono fun _ _ h => h
    · have e : prodS a b = none := by unfold prodS; rw [hj]; exact if_neg fun k => hn k.1
      rw [e]
      exact (product_num a b ha hb d hj hn w).mono fun _ _ h => h
end Go.Proofs.YtjmngnnmnbhfpaaDoor
