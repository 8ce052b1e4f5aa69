/- Package cron and the document's answer: whether a schedule names a moment. -/
import Derived.Test.YtddinknnaakmmaaDoorCroJ
import Derived.Test.YtddinknnaakmmaaDoorRefO
namespace Go.Proofs.YtddinknnaakmmaaDoor
open Go.RowKit Go.Deep

theorem holds_int (S : Nat) (n : Int) (hS : S < 18446744073709551616) (h0 : 0 ≤ n) (h1 : n ≤ 1000) (w : World) :
    Calls Tryd.prog 35 #[.int .u64 S, .int .i64 n] w fun e w' => e = .returned (.bool (S.testBit n.toNat)) ∧ w = w' := by
  have := holds_any S n.toNat hS (by omega) w
  rwa [Int.toNat_of_nonneg h0] at this
set_option maxRecDepth 20000 in
set_option maxHeartbeats 2000000 in
theorem namesDay_any (c : Cr) (fc : c.Fits) (d : Civ) {D : Int} (hd : Date D d) (w : World) :
    Calls Tryd.prog 36 #[cronV c, civV d] w fun e w' => e = .returned (.bool (dayB c d)) ∧ Below w.heap.size w w' := by
  have d0 := hd.d0
  have d1 := hd.day31
  have m0 := hd.m0
  have m1 := hd.m1
  have wk := hd.wk
  have h1 := fun wx => holds_int c.c d.day fc.c (by omega) (by omega) wx
  have h2 := fun wx => holds_int c.d d.month fc.d (by omega) (by omega) wx
  have h3 := fun wx => holds_int c.e d.week fc.e (by omega) (by omega) wx
  obtain ⟨cb, xb, l0⟩ := two_boxes w 25 60 (u5 c.a c.b c.c c.d c.e) (civCells d)
  unfold dayB
  generalize c.c.testBit d.day.toNat = b1 at *
  generalize c.d.testBit d.month.toNat = b2 at *
  generalize c.e.testBit d.week.toNat = b3 at *
  have H1 : Hid _ := h1
  have H2 : Hid _ := h2
  have H3 : Hid _ := h3
  clear h1 h2 h3 d0 d1 m0 m1 wk hd
  cases b1 with
  | false =>
    go_enter Tryd.func36, Tryd.ntmps36
    go_wp2_with fail
    refine (H1.out _).mono ?_
    rintro e w1 ⟨rfl, rfl⟩
    go_wp2_with fail
    go_ret
    exact ⟨rfl, l0⟩
  | true =>
    cases b2 with
    | false =>
      go_enter Tryd.func36, Tryd.ntmps36
      go_wp2_with fail
      refine (H1.out _).mono ?_
      rintro e w1 ⟨rfl, rfl⟩
      go_wp2_with fail
      refine (H2.out _).mono ?_
      rintro e w1 ⟨rfl, rfl⟩
      go_wp2_with fail
      go_ret
      exact ⟨rfl, l0⟩
    | true =>
      go_enter Tryd.func36, Tryd.ntmps36
      go_wp2_with fail
      refine (H1.out _).mono ?_
      rintro e w1 ⟨rfl, rfl⟩
      go_wp2_with fail
      refine (H2.out _).mono ?_
      rintro e w1 ⟨rfl, rfl⟩
      go_wp2_with fail
      refine (H3.out _).mono ?_
      rintro e w1 ⟨rfl, rfl⟩
      go_wp2_with fail
      go_ret
      exact ⟨rfl, l0⟩
/-- What Names answers. -/
def NamesPost (b : Bool) (w : World) (e : Ending) (w' : World) : Prop := e = .returned (.bool b) ∧ Below w.heap.size w w'
set_option maxRecDepth 20000 in
set_option maxHeartbeats 2000000 in
theorem Names_any (c : Cr) (fc : c.Fits) (t : Int) (t0 : -9223372036854775808 ≤ t) (t1 : t < 9223372036854775808) (b : Bool) (hb : b = true ↔ Named c t) (w : World) (hL : LenAt w) :
    Calls Tryd.prog 16 #[cronV c, .int .i64 t] w (NamesPost b w) := by
  obtain ⟨cb, l0⟩ := one_box w 25 (u5 c.a c.b c.c c.d c.e)
  have hO := fun wx hx => Of_any t t0 t1 wx hx
  have hL0 := hL.later l0
  have HO : Hid _ := hO
  have HB : Hid _ := hb
  clear hO hb
  go_enter Tryd.func16, Tryd.ntmps16
  go_wp2_with fail
  refine (HO.out _ hL0).mono ?_
  rintro e w1 ⟨d, rfl, hat, y0, y1, hb1⟩
  have hbd : b = namesB c d := by rw [Bool.eq_iff_iff, HB.out, Named.iff hat]
  have f := hat.f
  have h0 := f.h0; have h1 := f.h1; have n0 := f.n0; have n1 := f.n1
  have g1 := fun wx => holds_int c.a d.minute fc.a n0 (by omega) wx
  have g2 := fun wx => holds_int c.b d.hour fc.b h0 (by omega) wx
  have g3 := fun wx => namesDay_any c fc d hat.date wx
  unfold namesB at hbd
  have cb1 := cb.next hb1
  have bl1 := l0.trans (hb1.mono l0.size)
  obtain ⟨xb, l1⟩ := one_box w1 60 (civCells d)
  have cb2 := cb1.next l1
  have bl2 := bl1.trans (l1.mono bl1.size)
  have G1 : Hid _ := g1
  have G2 : Hid _ := g2
  have G3 : Hid _ := g3
  obtain ⟨o0, o1, o2, o3, o4, _⟩ := cb2.five
  obtain ⟨p0, p1, p2, p3, p4, p5, p6, _⟩ := xb.seven
  clear g1 g2 g3 cb cb1 hL hL0 hb1 l0 f h0 h1 n0 n1 y0 y1
  generalize c.a.testBit d.minute.toNat = b1 at *
  generalize c.b.testBit d.hour.toNat = b2 at *
  generalize dayB c d = b3 at *
  cases b1 with
  | false =>
    subst hbd
    go_wp2_with fail
    refine (G1.out _).mono ?_
    rintro e w2 ⟨rfl, rfl⟩
    go_wp2_with fail
    go_ret
    exact ⟨rfl, bl2⟩
  | true =>
    cases b2 with
    | false =>
      subst hbd
      go_wp2_with fail
      refine (G1.out _).mono ?_
      rintro e w2 ⟨rfl, rfl⟩
      go_wp2_with fail
      refine (G2.out _).mono ?_
      rintro e w2 ⟨rfl, rfl⟩
      go_wp2_with fail
      go_ret
      exact ⟨rfl, bl2⟩
    | true =>
      have hb3 : b = b3 := by simpa using hbd
      clear hbd
      subst hb3
      go_wp2_with fail
      refine (G1.out _).mono ?_
      rintro e w2 ⟨rfl, rfl⟩
      go_wp2_with fail
      refine (G2.out _).mono ?_
      rintro e w2 ⟨rfl, rfl⟩
      go_wp2_with fail
      refine (G3.out _).mono ?_
      rintro e w3 ⟨rfl, hb3⟩
      go_wp2_with fail
      go_ret
      exact ⟨rfl, bl2.trans (hb3.mono bl2.size)⟩
theorem has_key (S n : Nat) : (((S : Int) / 2 ^ n).tmod 2 == 1) = S.testBit n := by
  have e0 : (S : Int) / 2 ^ n = ((S / 2 ^ n : Nat) : Int) := by simp
  rw [e0, Int.tmod_eq_emod_of_nonneg (Int.natCast_nonneg _), Nat.testBit_eq_decide_div_mod_eq]
  have e1 : ((S / 2 ^ n : Nat) : Int) % 2 = ((S / 2 ^ n % 2 : Nat) : Int) := rfl
  rw [e1]
  rcases Nat.mod_two_eq_zero_or_one (S / 2 ^ n) with h | h <;> rw [h] <;> rfl
set_option maxRecDepth 20000 in
set_option maxHeartbeats 1000000 in
theorem Has_nat (S n : Nat) (hn : n < 64) (w : World) :
    Calls Tryd.prog 31 #[.int .u64 S, .int .i64 n] w fun e w' => e = .returned (.bool (S.testBit n)) ∧ w = w' := by
  have e1 := has_key S n
  go_enter Tryd.func31, Tryd.ntmps31
  go_wp2_with fail
  go_ret
  exact ⟨rfl, rfl⟩
theorem Has_int (S : Nat) (n : Int) (h0 : 0 ≤ n) (h1 : n < 64) (w : World) :
    Calls Tryd.prog 31 #[.int .u64 S, .int .i64 n] w fun e w' => e = .returned (.bool (S.testBit n.toNat)) ∧ w = w' := by
  have := Has_nat S n.toNat (by omega) w
  rwa [Int.toNat_of_nonneg h0] at this
set_option maxRecDepth 20000 in
set_option maxHeartbeats 2000000 in
theorem rNames_any (c : Cr) (t : Int) (t0 : -9223372036854775808 ≤ t) (t1 : t < 9223372036854775808) (b : Bool) (hb : b = true ↔ Named c t) (w : World) :
    Calls Tryd.prog 17 #[cronV c, .int .i64 t] w (NamesPost b w) := by
  obtain ⟨cb, l0⟩ := one_box w 25 (u5 c.a c.b c.c c.d c.e)
  have hO := fun wx => rOf_any t t0 t1 wx
  have HO : Hid _ := hO
  have HB : Hid _ := hb
  clear hO hb
  go_enter Tryd.func17, Tryd.ntmps17
  go_wp2_with fail
  refine (HO.out _).mono ?_
  rintro e w1 ⟨d, rfl, hat, y0, y1, hb1⟩
  have hbd : b = namesB c d := by rw [Bool.eq_iff_iff, HB.out, Named.iff hat]
  have f := hat.f
  have h0 := f.h0; have h1 := f.h1; have n0 := f.n0; have n1 := f.n1
  have hd := hat.date
  have d0 := hd.d0; have d1 := hd.day31; have m0 := hd.m0; have m1 := hd.m1; have wk := hd.wk
  have g1 := fun wx => Has_int c.a d.minute n0 (by omega) wx
  have g2 := fun wx => Has_int c.b d.hour h0 (by omega) wx
  have g3 := fun wx => Has_int c.c d.day (by omega) (by omega) wx
  have g4 := fun wx => Has_int c.d d.month (by omega) (by omega) wx
  have g5 := fun wx => Has_int c.e d.week (by omega) (by omega) wx
  unfold namesB dayB at hbd
  have cb1 := cb.next hb1
  have bl1 := l0.trans (hb1.mono l0.size)
  obtain ⟨xb, l1⟩ := one_box w1 60 (civCells d)
  have cb2 := cb1.next l1
  have bl2 := bl1.trans (l1.mono bl1.size)
  have G1 : Hid _ := g1
  have G2 : Hid _ := g2
  have G3 : Hid _ := g3
  have G4 : Hid _ := g4
  have G5 : Hid _ := g5
  obtain ⟨o0, o1, o2, o3, o4, _⟩ := cb2.five
  obtain ⟨p0, p1, p2, p3, p4, p5, p6, _⟩ := xb.seven
  clear g1 g2 g3 g4 g5 cb cb1 hb1 l0 f h0 h1 n0 n1 y0 y1 d0 d1 m0 m1 wk hd
  generalize c.a.testBit d.minute.toNat = b1 at *
  generalize c.b.testBit d.hour.toNat = b2 at *
  generalize c.c.testBit d.day.toNat = b3 at *
  generalize c.d.testBit d.month.toNat = b4 at *
  generalize c.e.testBit d.week.toNat = b5 at *
  cases b1 with
  | false =>
    subst hbd
    go_wp2_with fail
    refine (G1.out _).mono ?_
    rintro e w2 ⟨rfl, rfl⟩
    go_wp2_with fail
    go_ret
    exact ⟨rfl, bl2⟩
  | true =>
  cases b2 with
  | false =>
    subst hbd
    go_wp2_with fail
    refine (G1.out _).mono ?_
    rintro e w2 ⟨rfl, rfl⟩
    go_wp2_with fail
    refine (G2.out _).mono ?_
    rintro e w2 ⟨rfl, rfl⟩
    go_wp2_with fail
    go_ret
    exact ⟨rfl, bl2⟩
  | true =>
  cases b3 with
  | false =>
    subst hbd
    go_wp2_with fail
    refine (G1.out _).mono ?_
    rintro e w2 ⟨rfl, rfl⟩
    go_wp2_with fail
    refine (G2.out _).mono ?_
    rintro e w2 ⟨rfl, rfl⟩
    go_wp2_with fail
    refine (G3.out _).mono ?_
    rintro e w2 ⟨rfl, rfl⟩
    go_wp2_with fail
    go_ret
    exact ⟨rfl, bl2⟩
  | true =>
  cases b4 with
  | false =>
    subst hbd
    go_wp2_with fail
    refine (G1.out _).mono ?_
    rintro e w2 ⟨rfl, rfl⟩
    go_wp2_with fail
    refine (G2.out _).mono ?_
    rintro e w2 ⟨rfl, rfl⟩
    go_wp2_with fail
    refine (G3.out _).mono ?_
    rintro e w2 ⟨rfl, rfl⟩
    go_wp2_with fail
    refine (G4.out _).mono ?_
    rintro e w2 ⟨rfl, rfl⟩
    go_wp2_with fail
    go_ret
    exact ⟨rfl, bl2⟩
  | true =>
    have hb3 : b = b5 := by simpa using hbd
    clear hbd
    subst hb3
    go_wp2_with fail
    refine (G1.out _).mono ?_
    rintro e w2 ⟨rfl, rfl⟩
    go_wp2_with fail
    refine (G2.out _).mono ?_
    rintro e w2 ⟨rfl, rfl⟩
    go_wp2_with fail
    refine (G3.out _).mono ?_
    rintro e w2 ⟨rfl, rfl⟩
    go_wp2_with fail
    refine (G4.out _).mono ?_
    rintro e w2 ⟨rfl, rfl⟩
    go_wp2_with fail
    refine (G5.out _).mono ?_
    rintro e w2 ⟨rfl, rfl⟩
    go_wp2_with fail
    go_ret
    exact ⟨rfl, bl2⟩
end Go.Proofs.YtddinknnaakmmaaDoor
