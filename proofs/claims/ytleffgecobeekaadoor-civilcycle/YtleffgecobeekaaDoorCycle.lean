/- The statement CivilCycle: the walk of her Go text, out of the contracts of package civil. -/
import Derived.Test.YtleffgecobeekaaDoorCivF
import Derived.ProofKit
import Derived.OpenShut
namespace Go.Proofs.YtleffgecobeekaaDoor
open Go.RowKit

set_option maxHeartbeats 800000 in
theorem civilCycle_walk (t : Int) (wf : (Lit.int .i64 t).wf = true) (w : World) (hL : LenAt w) :
    Calls Tryd.prog 8 #[.int .i64 t] w fun e w' => e = .returned (.bool true) ∧ Below w.heap.size w w' := by
  have hb := bounds_i64 wf
  by_cases ht : 9223372024231995007 < t
  · go_enter Tryd.func8, Tryd.ntmps8
    go_wp2_with fail
    refine (awake_any _ hL).mono ?_
    rintro e w1 ⟨rfl, hb1⟩
    go_wp2_with fail
    go_ret
    exact ⟨rfl, hb1⟩
  · go_enter Tryd.func8, Tryd.ntmps8
    go_wp2_with fail
    refine (awake_any _ hL).mono ?_
    rintro e w1 ⟨rfl, hb1⟩
    have hL := hL.later hb1
    go_wp2_with fail
    refine (Of_any t (by omega) (by omega) _ hL).mono ?_
    rintro e w2 ⟨c, rfl, hat, y0, y1, hb2⟩
    have h2 := hat.cycle 1
    rw [show (1 : Int) * 12622780800 = 12622780800 from rfl, show (1 : Int) * 400 = 400 from rfl] at h2
    have HO := fun wx => Of_at (t + 12622780800) _ h2 (by omega) (by omega) wx
    have hq := fun wx => eqCiv { c with year := c.year + 400 } wx
    have l1 := Leap_any (c.year + 400)
    have l2 := Leap_any c.year
    rw [show leap (c.year + 400) = leap c.year by have := leap_cycle 1 c.year; rw [← this]; congr 1; omega] at l1
    generalize leap c.year = b at *
    have bb : (b == b) = true := by simp
    have HH : Hid _ := hat
    clear hat h2
    obtain ⟨y, m, d, h, n, s, wk⟩ := c
    simp only [civV] at *
    obtain ⟨cb, l0⟩ := one_box w2 24 [.int .i64 y, .int .i64 m, .int .i64 d, .int .i64 h, .int .i64 n, .int .i64 s, .int .i64 wk]
    have hL := (hL.later hb2).later l0
    have bl := (hb1.trans (hb2.mono hb1.size)).trans (l0.mono (Nat.le_trans hb1.size hb2.size))
    go_wp2_with fail
    refine (HO _ hL).mono ?_
    rintro e w3 ⟨rfl, hb3⟩
    obtain ⟨db, l3⟩ := one_box w3 24 [.int .i64 (y + 400), .int .i64 m, .int .i64 d, .int .i64 h, .int .i64 n, .int .i64 s, .int .i64 wk]
    have cb := (cb.next hb3).next l3
    have bl := (bl.trans (hb3.mono bl.size)).trans (l3.mono (Nat.le_trans bl.size hb3.size))
    obtain ⟨o0, o1, o2, o3, o4, o5, o6, g0, _⟩ := cb.seven
    have ne : w3.heap.size ≠ w2.heap.size := by have := hb3.size; simp at this; omega
    have cb2 := cb.set 0 (by simp) (.int .i64 (y + 400))
    simp only [List.set_cons_zero] at cb2
    have db2 := db.other (j := 0) (v := .int .i64 (y + 400)) ne
    have bl2 := bl.setCell (p := ⟨w2.heap.size, 0, none⟩) (Nat.le_trans hb1.size hb2.size) (.int .i64 (y + 400))
    clear l3 l0 hb3 ne cb db bl
    go_wp2_with fail
    clear o0 o1 o2 o3 o4 o5 o6 g0
    generalize (World.setCell (w3.alloc (.cells #[.int .i64 (y + 400), .int .i64 m, .int .i64 d, .int .i64 h, .int .i64 n, .int .i64 s, .int .i64 wk] 24)) ⟨w2.heap.size, 0, none⟩ (.int .i64 (y + 400))) = W at *
    obtain ⟨o0, o1, o2, o3, o4, o5, o6, _⟩ := cb2.seven
    obtain ⟨p0, p1, p2, p3, p4, p5, p6, _⟩ := db2.seven
    have q1 := fun wx k => Calls.quiet_of_same (n := k) ((l1 (World.drewN wx k)).mono fun _ _ k => ⟨k.1, k.2.symm⟩)
    have q2 := fun wx k => Calls.quiet_of_same (n := k) ((l2 (World.drewN wx k)).mono fun _ _ k => ⟨k.1, k.2.symm⟩)
    go_quiet (first | (go_at_call 14; first | with_reducible exact q1 _ _ | with_reducible exact q2 _ _))
    go_wp2_with fail
    go_ret
    exact ⟨rfl, below_drewN bl2 _⟩
end Go.Proofs.YtleffgecobeekaaDoor
