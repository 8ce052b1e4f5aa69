/- Package cron and the document's answer: whether a schedule names a moment. -/
import Derived.Test.YtddinknnaakmmabDoorCroJ
namespace Go.Proofs.YtddinknnaakmmabDoor
open Go.RowKit Go.Deep

theorem holds_int (S : Nat) (n : Int) (hS : S < 18446744073709551616) (h0 : 0 ≤ n) (h1 : n ≤ 1000) (w : World) :
    Calls Tryd.prog 9 #[.int .u64 S, .int .i64 n] w fun e w' => e = .returned (.bool (S.testBit n.toNat)) ∧ w = w' := by
  have := holds_any S n.toNat hS (by omega) w
  rwa [Int.toNat_of_nonneg h0] at this
set_option maxRecDepth 20000 in
set_option maxHeartbeats 2000000 in
theorem namesDay_any (c : Cr) (fc : c.Fits) (d : Civ) {D : Int} (hd : Date D d) (w : World) :
    Calls Tryd.prog 10 #[cronV c, civV d] w fun e w' => e = .returned (.bool (dayB c d)) ∧ Below w.heap.size w w' := by
  have d0 := hd.d0
  have d1 := hd.day31
  have m0 := hd.m0
  have m1 := hd.m1
  have wk := hd.wk
  have h1 := fun wx => holds_int c.c d.day fc.c (by omega) (by omega) wx
  have h2 := fun wx => holds_int c.d d.month fc.d (by omega) (by omega) wx
  have h3 := fun wx => holds_int c.e d.week fc.e (by omega) (by omega) wx
  obtain ⟨cb, xb, l0⟩ := two_boxes w 24 33 (u5 c.a c.b c.c c.d c.e) (civCells d)
  unfold dayB
  generalize c.c.testBit d.day.toNat = b1 at *
  generalize c.d.testBit d.month.toNat = b2 at *
  generalize c.e.testBit d.week.toNat = b3 at *
  have H1 : Hid _ := h1
  have H2 : Hid _ := h2
  have H3 : Hid _ := h3
  clear h1 h2 h3 d0 d1 m0 m1 wk hd
  cases b1 with
  | false =>
    go_enter Tryd.func10, Tryd.ntmps10
    go_wp2_with fail
    refine (H1.out _).mono ?_
    rintro e w1 ⟨rfl, rfl⟩
    go_wp2_with fail
    go_ret
    exact ⟨rfl, l0⟩
  | true =>
    cases b2 with
    | false =>
      go_enter Tryd.func10, Tryd.ntmps10
      go_wp2_with fail
      refine (H1.out _).mono ?_
      rintro e w1 ⟨rfl, rfl⟩
      go_wp2_with fail
      refine (H2.out _).mono ?_
      rintro e w1 ⟨rfl, rfl⟩
      go_wp2_with fail
      go_ret
      exact ⟨rfl, l0⟩
    | true =>
      go_enter Tryd.func10, Tryd.ntmps10
      go_wp2_with fail
      refine (H1.out _).mono ?_
      rintro e w1 ⟨rfl, rfl⟩
      go_wp2_with fail
      refine (H2.out _).mono ?_
      rintro e w1 ⟨rfl, rfl⟩
      go_wp2_with fail
      refine (H3.out _).mono ?_
      rintro e w1 ⟨rfl, rfl⟩
      go_wp2_with fail
      go_ret
      exact ⟨rfl, l0⟩
/-- What Names answers. -/
def NamesPost (b : Bool) (w : World) (e : Ending) (w' : World) : Prop := e = .returned (.bool b) ∧ Below w.heap.size w w'
set_option maxRecDepth 20000 in
set_option maxHeartbeats 2000000 in
theorem Names_any (c : Cr) (fc : c.Fits) (t : Int) (t0 : -9223372036854775808 ≤ t) (t1 : t < 9223372036854775808) (b : Bool) (hb : b = true ↔ Named c t) (w : World) (hL : LenAt w) :
    Calls Tryd.prog 5 #[cronV c, .int .i64 t] w (NamesPost b w) := by
  obtain ⟨cb, l0⟩ := one_box w 24 (u5 c.a c.b c.c c.d c.e)
  have hO := fun wx hx => Of_any t t0 t1 wx hx
  have hL0 := hL.later l0
  have HO : Hid _ := hO
  have HB : Hid _ := hb
  clear hO hb
  go_enter Tryd.func5, Tryd.ntmps5
  go_wp2_with fail
  refine (HO.out _ hL0).mono ?_
  rintro e w1 ⟨d, rfl, hat, y0, y1, hb1⟩
  have hbd : b = namesB c d := by rw [Bool.eq_iff_iff, HB.out, Named.iff hat]
  have f := hat.f
  have h0 := f.h0; have h1 := f.h1; have n0 := f.n0; have n1 := f.n1
  have g1 := fun wx => holds_int c.a d.minute fc.a n0 (by omega) wx
  have g2 := fun wx => holds_int c.b d.hour fc.b h0 (by omega) wx
  have g3 := fun wx => namesDay_any c fc d hat.date wx
  unfold namesB at hbd
  have cb1 := cb.next hb1
  have bl1 := l0.trans (hb1.mono l0.size)
  obtain ⟨xb, l1⟩ := one_box w1 33 (civCells d)
  have cb2 := cb1.next l1
  have bl2 := bl1.trans (l1.mono bl1.size)
  have G1 : Hid _ := g1
  have G2 : Hid _ := g2
  have G3 : Hid _ := g3
  obtain ⟨o0, o1, o2, o3, o4, _⟩ := cb2.five
  obtain ⟨p0, p1, p2, p3, p4, p5, p6, _⟩ := xb.seven
  clear g1 g2 g3 cb cb1 hL hL0 hb1 l0 f h0 h1 n0 n1 y0 y1
  generalize c.a.testBit d.minute.toNat = b1 at *
  generalize c.b.testBit d.hour.toNat = b2 at *
  generalize dayB c d = b3 at *
  cases b1 with
  | false =>
    subst hbd
    go_wp2_with fail
    refine (G1.out _).mono ?_
    rintro e w2 ⟨rfl, rfl⟩
    go_wp2_with fail
    go_ret
    exact ⟨rfl, bl2⟩
  | true =>
    cases b2 with
    | false =>
      subst hbd
      go_wp2_with fail
      refine (G1.out _).mono ?_
      rintro e w2 ⟨rfl, rfl⟩
      go_wp2_with fail
      refine (G2.out _).mono ?_
      rintro e w2 ⟨rfl, rfl⟩
      go_wp2_with fail
      go_ret
      exact ⟨rfl, bl2⟩
    | true =>
      have hb3 : b = b3 := by simpa using hbd
      clear hbd
      subst hb3
      go_wp2_with fail
      refine (G1.out _).mono ?_
      rintro e w2 ⟨rfl, rfl⟩
      go_wp2_with fail
      refine (G2.out _).mono ?_
      rintro e w2 ⟨rfl, rfl⟩
      go_wp2_with fail
      refine (G3.out _).mono ?_
      rintro e w3 ⟨rfl, hb3⟩
      go_wp2_with fail
      go_ret
      exact ⟨rfl, bl2.trans (hb3.mono bl2.size)⟩
end Go.Proofs.YtddinknnaakmmabDoor
