/- The statement CivilBack: the walk of her Go text, out of the contracts of package civil. -/
import Derived.Test.YtleffgecobeekaaDoorCivF
import Derived.ProofKit
import Derived.OpenShut
namespace Go.Proofs.YtleffgecobeekaaDoor
open Go.RowKit

theorem At.fits {t : Int} {c : Civ} (h : At t c) (y0 : -1000000000000 < c.year) (y1 : c.year < 1000000000000) : c.Fits := by
  have f := h.f
  have := f.m0; have := f.m1; have := f.d0; have := f.d1; have := (mdays_bounds c.year c.month).2
  have := f.h0; have := f.h1; have := f.n0; have := f.n1; have := f.s0; have := f.s1; have := h.w
  constructor <;> omega
theorem secS_at {t : Int} {c : Civ} (h : At t c) (t0 : -9223372036854775808 ≤ t) (t1 : t < 9223372036854775808) : secS c = some t := by
  have e := h.t
  rw [secS_in ((formedB_iff c).2 h.f) (by omega), e]
theorem secS_some {c : Civ} {m : Int} (h : secS c = some m) : Formed c ∧ secOf c = m ∧ -9223372036854775808 ≤ m ∧ m < 9223372036854775808 := by
  unfold secS at h
  split at h
  · rename_i k
    cases h
    exact ⟨(formedB_iff c).1 k.1, rfl, k.2⟩
  · cases h

set_option maxHeartbeats 800000 in
theorem civilBack_walk (t : Int) (c : Civ) (wf : (Lit.int .i64 t).wf = true) (fc : c.Fits) (w : World) (hL : LenAt w) :
    Calls Tryd.prog 6 #[.int .i64 t, civV c] w fun e w' => e = .returned (.bool true) ∧ Below w.heap.size w w' := by
  have hb := bounds_i64 wf
  obtain ⟨cb, l0⟩ := one_box w 24 (civCells c)
  have hL := hL.later l0
  go_enter Tryd.func6, Tryd.ntmps6
  go_wp2_with fail
  refine (awake_any _ hL).mono ?_
  rintro e w1 ⟨rfl, hb1⟩
  have hL := hL.later hb1
  have cb := cb.next hb1
  have bl := l0.trans (hb1.mono l0.size)
  clear hb1 l0
  go_wp2_with fail
  refine (Of_any t (by omega) (by omega) _ hL).mono ?_
  rintro e w2 ⟨d, rfl, hat, y0, y1, hb2⟩
  have hs := fun wx => Seconds_any d (hat.fits y0 y1) wx
  rw [secS_at hat (by omega) (by omega)] at hs
  simp only [secV, Option.getD, Option.isSome] at hs
  have hL := hL.later hb2
  have cb := cb.next hb2
  have bl := bl.trans (hb2.mono bl.size)
  clear hb2 hat
  go_wp2_with fail
  refine (hs _ hL).mono ?_
  rintro e w3 ⟨rfl, hb3⟩
  have hL := hL.later hb3
  have cb := cb.next hb3
  have bl := bl.trans (hb3.mono bl.size)
  clear hb3 hs
  have hs := fun wx => Seconds_any c fc wx
  obtain ⟨o0, o1, o2, o3, o4, o5, o6, _⟩ := cb.seven
  go_wp2_with fail
  refine (hs _ hL).mono ?_
  rintro e w4 ⟨rfl, hb4⟩
  have hL := hL.later hb4
  have cb := cb.next hb4
  have bl := bl.trans (hb4.mono bl.size)
  clear hb4 hs o0 o1 o2 o3 o4 o5 o6
  cases hk : secS c with
  | none =>
    simp only [secV, Option.getD, Option.isSome]
    go_wp2_with fail
    go_ret
    exact ⟨rfl, bl⟩
  | some m =>
    obtain ⟨F, e, m0, m1⟩ := secS_some hk
    simp only [secV, Option.getD, Option.isSome]
    go_wp2_with fail
    have hat : At m { c with week := (dayno c.year c.month c.day + 4) % 7 } := ⟨⟨F.d0, F.d1, F.h0, F.h1, F.n0, F.n1, F.s0, F.s1⟩, e, rfl⟩
    generalize (dayno c.year c.month c.day + 4) % 7 = wk at *
    have HO := fun wx => Of_at m _ hat m0 m1 wx
    have hq := fun wx => eqCiv { c with week := wk } wx
    simp only [civV] at HO hq
    clear hat
    refine (HO _ hL).mono ?_
    rintro e w5 ⟨rfl, hb5⟩
    obtain ⟨db, l5⟩ := one_box w5 24 (civCells { c with week := wk })
    have ne : w5.heap.size ≠ w.heap.size := by have := (cb.next hb5).lt; omega
    have cb := (cb.next hb5).next l5
    have bl := (bl.trans (hb5.mono bl.size)).trans (l5.mono (Nat.le_trans bl.size hb5.size))
    obtain ⟨o0, o1, o2, o3, o4, o5, o6, g0, g1, g2, g3, g4, g5, g6⟩ := cb.seven
    obtain ⟨p0, p1, p2, p3, p4, p5, p6, _⟩ := db.seven
    go_wp2_with fail
    go_ret
    exact ⟨rfl, bl.setCell (Nat.le_refl _) _⟩
end Go.Proofs.YtleffgecobeekaaDoor
