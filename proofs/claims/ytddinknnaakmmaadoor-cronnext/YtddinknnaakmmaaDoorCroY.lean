/- Package cron: the next moment that a schedule names. -/
import Derived.Test.YtddinknnaakmmaaDoorCroN
namespace Go.Proofs.YtddinknnaakmmaaDoor
open Go.RowKit Go.Deep

theorem minB_of (c : Cr) (h n : Nat) (hn : n < 60) : minB c (h * 60 + n) = (c.b.testBit h && c.a.testBit n) := by
  unfold minB
  rw [show (h * 60 + n) / 60 = h by omega, show (h * 60 + n) % 60 = n by omega]
theorem min_same {c : Cr} {m n : Nat} (ha : OkSet c.a 0 59) (hb : OkSet c.b 0 23) (h : c.b.testBit (m / 60) = true) (hf : FromR c.a (m % 60) n true) : MinR c m (m / 60 * 60 + n) true := by
  have x := hf.1 rfl
  have h1 := (ha.bits _ x.bit).2
  have h2 := (hb.bits _ h).2
  have h3 := x.le
  refine ⟨fun _ => ⟨by omega, by omega, by rw [minB_of c _ _ (by omega), h, x.bit]; rfl, fun i k1 k2 => ?_⟩, fun e => by cases e⟩
  unfold minB
  have e1 : i / 60 = m / 60 := by omega
  rw [e1, x.no (i % 60) (by omega) (by omega), Bool.and_false]
theorem min_next {c : Cr} {m h f : Nat} {b bb : Bool} (ha : OkSet c.a 0 59) (hb : OkSet c.b 0 23) (h0 : c.b.testBit (m / 60) = false ∨ ∀ i, m % 60 ≤ i → c.a.testBit i = false) (hh : FromR c.b (m / 60 + 1) h b) (hf : FromR c.a 0 f bb) : MinR c m (h * 60 + f) b := by
  have same : ∀ i, m ≤ i → i / 60 = m / 60 → minB c i = false := fun i k1 k2 => by
    unfold minB
    rcases h0 with q | q
    · rw [k2, q, Bool.false_and]
    · rw [q (i % 60) (by omega), Bool.and_false]
  constructor
  · intro e
    subst e
    have x := hh.1 rfl
    have hbb : bb = true := by
      cases bb with
      | true => rfl
      | false =>
        exfalso
        obtain ⟨_, hz⟩ := hf.2 rfl
        exact ha.ne (Nat.eq_of_testBit_eq fun i => by rw [hz i (Nat.zero_le _), Nat.zero_testBit])
    subst hbb
    have y := hf.1 rfl
    have h1 := (ha.bits _ y.bit).2
    have h2 := (hb.bits _ x.bit).2
    have h3 := x.le
    refine ⟨by omega, by omega, by rw [minB_of c _ _ (by omega), x.bit, y.bit]; rfl, fun i k1 k2 => ?_⟩
    by_cases e1 : i / 60 = m / 60
    · exact same i k1 e1
    · unfold minB
      by_cases e2 : i / 60 = h
      · rw [y.no (i % 60) (Nat.zero_le _) (by omega), Bool.and_false]
      · rw [x.no (i / 60) (by omega) (by omega), Bool.false_and]
  · intro e
    subst e
    intro i k1 k2
    by_cases e1 : i / 60 = m / 60
    · exact same i k1 e1
    · unfold minB
      rw [(hh.2 rfl).2 (i / 60) (by omega), Bool.false_and]
/-- What minuteFrom answers. -/
def MinPost (c : Cr) (m : Nat) (w : World) (e : Ending) (w' : World) : Prop := ∃ k b, e = .returned (.tuple #[.int .i64 (k : Nat), .bool b]) ∧ MinR c m k b ∧ k ≤ 10000 ∧ Below w.heap.size w w'
set_option maxRecDepth 20000 in
set_option maxHeartbeats 2000000 in
theorem minuteFrom_any (c : Cr) (fc : c.Fits) (ha : OkSet c.a 0 59) (hb : OkSet c.b 0 23) (m : Nat) (hm : m ≤ 1440) (w : World) (hT : TzAt w) :
    Calls Tryd.prog 38 #[cronV c, .int .i64 m] w (MinPost c m w) := by
  obtain ⟨cb, l0⟩ := one_box w 25 (u5 c.a c.b c.c c.d c.e)
  have hT0 := hT.later l0
  have e1 : (m : Int).tdiv 60 = ((m / 60 : Nat) : Int) := by rw [Int.tdiv_eq_ediv_of_nonneg (by omega)]; rfl
  have e2 : (m : Int).tmod 60 = ((m % 60 : Nat) : Int) := by rw [Int.tmod_eq_emod_of_nonneg (by omega)]; rfl
  have g1 := fun wx => holds_any c.b (m / 60) fc.b (by omega) wx
  have g2 := fun wx hx => from_any c.a (m % 60) fc.a (by omega) wx hx
  have g3 := fun wx hx => from_any c.b (m / 60 + 1) fc.b (by omega) wx hx
  have g4 := fun wx hx => from_any c.a 0 fc.a (by omega) wx hx
  rw [show ((m / 60 + 1 : Nat) : Int) = ((m / 60 : Nat) : Int) + 1 by omega] at g3
  have m1 := fun n => @min_same c m n ha hb
  have m2 := fun h f b bb => @min_next c m h f b bb ha hb
  obtain ⟨o0, o1, o2, o3, o4, _⟩ := cb.five
  have hq : m / 60 ≤ 24 := by omega
  have hr : m % 60 < 60 := by omega
  generalize m / 60 = Q at *
  generalize m % 60 = R at *
  have G2 : Hid _ := g2
  have G3 : Hid _ := g3
  have G4 : Hid _ := g4
  have M1 : Hid _ := m1
  have M2 : Hid _ := m2
  clear g2 g3 g4 m1 m2 ha hb fc hT
  cases hbit : c.b.testBit Q with
  | true =>
    rw [hbit] at g1
    have HBT : Hid _ := hbit
    have G1 : Hid _ := g1
    clear g1 hbit
    go_enter Tryd.func38, Tryd.ntmps38
    go_wp2_with fail
    refine (G1.out _).mono ?_
    rintro e w1 ⟨rfl, rfl⟩
    go_wp2_with fail
    refine (G2.out _ hT0).mono ?_
    rintro e w2 ⟨n, b, rfl, hR, hn, d2, rfl⟩
    cases b with
    | true =>
      have hmr := M1.out n HBT.out hR
      have HM : Hid _ := hmr
      clear hmr hR
      go_wp2_with fail
      go_ret2
      refine ⟨Q * 60 + n, true, by congr 2, HM.out, by omega, below_drewN l0 _⟩
    | false =>
      have hno := (hR.2 rfl).2
      have HNO : Hid (c.b.testBit Q = false ∨ ∀ i, R ≤ i → c.a.testBit i = false) := Or.inr hno
      clear hno hR
      have hT1 := hT0.later (below_drewN (Below.refl _ _) d2)
      have cb1 := cb.drewN d2
      have bl1 := below_drewN l0 d2
      clear o0 o1 o2 o3 o4
      generalize (w.alloc (Obj.cells (u5 c.a c.b c.c c.d c.e).toArray 25)).drewN d2 = W1 at *
      obtain ⟨o0, o1, o2, o3, o4, _⟩ := cb1.five
      go_wp2_with fail
      refine (G3.out _ hT1).mono ?_
      rintro e w3 ⟨h3, b3, rfl, hR3, hn3, d3, rfl⟩
      have hT2 := hT1.later (below_drewN (Below.refl _ _) d3)
      have cb2 := cb1.drewN d3
      have bl2 := below_drewN bl1 d3
      clear o0 o1 o2 o3 o4
      generalize W1.drewN d3 = W2 at *
      obtain ⟨o0, o1, o2, o3, o4, _⟩ := cb2.five
      go_wp2_with fail
      refine (G4.out _ hT2).mono ?_
      rintro e w4 ⟨f4, b4, rfl, hR4, hn4, d4, rfl⟩
      have bl3 := below_drewN bl2 d4
      have HM : Hid _ := M2.out h3 f4 b3 b4 HNO.out hR3 hR4
      clear hR3 hR4 o0 o1 o2 o3 o4
      go_wp2_with fail
      go_ret2
      exact ⟨h3 * 60 + f4, b3, by congr 2, HM.out, by omega, bl3⟩
  | false =>
    rw [hbit] at g1
    have HNO : Hid (c.b.testBit Q = false ∨ ∀ i, R ≤ i → c.a.testBit i = false) := Or.inl hbit
    have G1 : Hid _ := g1
    clear g1 hbit
    go_enter Tryd.func38, Tryd.ntmps38
    go_wp2_with fail
    refine (G1.out _).mono ?_
    rintro e w1 ⟨rfl, rfl⟩
    have hT1 := hT0
    have cb1 := cb
    have bl1 := l0
    go_wp2_with fail
    refine (G3.out _ hT1).mono ?_
    rintro e w3 ⟨h3, b3, rfl, hR3, hn3, d3, rfl⟩
    have hT2 := hT1.later (below_drewN (Below.refl _ _) d3)
    have cb2 := cb1.drewN d3
    have bl2 := below_drewN bl1 d3
    clear o0 o1 o2 o3 o4
    generalize (w.alloc (Obj.cells (u5 c.a c.b c.c c.d c.e).toArray 25)).drewN d3 = W2 at *
    obtain ⟨o0, o1, o2, o3, o4, _⟩ := cb2.five
    go_wp2_with fail
    refine (G4.out _ hT2).mono ?_
    rintro e w4 ⟨f4, b4, rfl, hR4, hn4, d4, rfl⟩
    have bl3 := below_drewN bl2 d4
    have HM : Hid _ := M2.out h3 f4 b3 b4 HNO.out hR3 hR4
    clear hR3 hR4 o0 o1 o2 o3 o4
    go_wp2_with fail
    go_ret2
    exact ⟨h3 * 60 + f4, b3, by congr 2, HM.out, by omega, bl3⟩
/-- What later answers. -/
theorem later_any (t s : Int) (t0 : -9223372036854775808 ≤ t) (t1 : t < 9223372036854775808) (s0 : 0 ≤ s) (s1 : s ≤ 86400) (w : World) :
    Calls Tryd.prog 39 #[.int .i64 t, .int .i64 s] w fun e w' => e = .returned (if t + s < 9223372036854775808 then .tuple #[.int .i64 (t + s), .bool true] else .tuple #[.int .i64 0, .bool false]) ∧ w = w' := by
  by_cases h : t + s < 9223372036854775808
  · rw [if_pos h]
    have k1 : ¬ t + s < t := by omega
    go_enter Tryd.func39, Tryd.ntmps39
    go_wp2_with fail
    go_ret2
    exact ⟨rfl, rfl⟩
  · rw [if_neg h]
    have k1 : wrap64 (t + s) < t := by unfold wrap64; omega
    go_enter Tryd.func39, Tryd.ntmps39
    go_wp2_with fail
    go_ret2
    exact ⟨rfl, rfl⟩
end Go.Proofs.YtddinknnaakmmaaDoor
