/- The statement CivilNext: the walk of her Go text, out of the contracts of package civil. -/
import Derived.Test.YtleffgecobeekaaDoorNextA
namespace Go.Proofs.YtleffgecobeekaaDoor
open Go.RowKit

set_option maxHeartbeats 1600000 in
theorem civilNext_walk (t : Int) (wf : (Lit.int .i64 t).wf = true) (w : World) (hL : LenAt w) :
    Calls Tryd.prog 7 #[.int .i64 t] w fun e w' => e = .returned (.bool true) ∧ Below w.heap.size w w' := by
  have hb := bounds_i64 wf
  go_enter Tryd.func7, Tryd.ntmps7
  go_wp2_with fail
  refine (awake_any _ hL).mono ?_
  rintro e w1 ⟨rfl, hb1⟩
  replace hL := hL.later hb1
  go_wp2_with fail
  refine (Of_any t (by omega) (by omega) _ hL).mono ?_
  rintro e w2 ⟨c, rfl, hat, y0, y1, hb2⟩
  have F := hat.f
  have k1 := F.m0
  have k2 := F.m1
  have k3 := F.d0
  have k4 := F.d1
  have k5 : 0 ≤ c.week := by rw [hat.w]; omega
  have k6 : c.week ≤ 6 := by rw [hat.w]; omega
  have hd := Days_any c.year c.month
  have hdq := fun wx k (hx : LenAt wx) => Calls.quiet_of_same (n := k) ((hd (World.drewN wx k) (hx.drewN k)).mono fun _ _ k => ⟨k.1, k.2.symm⟩)
  have hn := fun wx => next_any c F y0 y1 k5 k6 wx
  have HN : Hid _ := hat.next
  clear hd F hat
  obtain ⟨cb, l2⟩ := one_box w2 24 (civCells c)
  have bl := (hb1.trans (hb2.mono hb1.size)).trans (l2.mono (Nat.le_trans hb1.size hb2.size))
  replace hL := (hL.later hb2).later l2
  clear l2 hb1 hb2
  generalize nextC c = c2 at *
  generalize mdays c.year c.month = D at *
  have d1 : decide (c.month < 1) = false := decide_eq_false (by omega)
  have d2 : decide (12 < c.month) = false := decide_eq_false (by omega)
  have d3 : decide (c.day < 1) = false := decide_eq_false (by omega)
  have d4 : decide (D < c.day) = false := decide_eq_false (by omega)
  have d5 : decide (c.week < 0) = false := decide_eq_false (by omega)
  have d6 : decide (6 < c.week) = false := decide_eq_false (by omega)
  go_wp2_with fail
  generalize w2.alloc (.cells #[.int .i64 c.year, .int .i64 c.month, .int .i64 c.day, .int .i64 c.hour, .int .i64 c.minute, .int .i64 c.second, .int .i64 c.week] 24) = W at *
  obtain ⟨o0, o1, o2, o3, o4, o5, o6, cf⟩ := cb.seven
  clear cf
  go_quiet (first | (go_at_call 16; exact hdq _ _ hL))
  replace cb := cb.next (below_drewN (Below.refl _ _) nq)
  replace hL := hL.drewN nq
  replace bl := below_drewN bl nq
  clear o0 o1 o2 o3 o4 o5 o6
  generalize W.drewN nq = V at *
  obtain ⟨o0, o1, o2, o3, o4, o5, o6, cf⟩ := cb.seven
  clear cf
  by_cases ht : t = 9223372036854775807
  · subst ht
    go_wp2_with fail
    go_quiet (fail)
    go_wp2_with fail
    go_ret
    exact ⟨rfl, below_drewN bl _⟩
  · have HO := fun wx => Of_at (t + 1) c2 HN.out (by omega) (by omega) wx
    have hq := fun wx => eqCiv c2 wx
    have tw : IntKind.i64.wrap (t + 1) = t + 1 := by rw [IntKind.wrap_i64]; omega
    have HO2 := HO
    rw [← tw] at HO2
    have tt : (t == 9223372036854775807) = false := beq_eq_false_iff_ne.2 ht
    have lt := cb.lt
    clear k1 k2 k3 k4 k5 k6 hdq y0 y1 cb wf HN ht
    go_wp2_with fail
    clear d1 d2 d3 d4 d5 d6
    go_region_with (first
      | (go_at_call 10; (first | (with_reducible refine (HO _ (hL.later (Below.refl _ _).drew)).mono ?_) | (with_reducible refine (HO2 _ (hL.later (Below.refl _ _).drew)).mono ?_)); rintro e w4 ⟨rfl, hb4⟩; replace hL := (hL.later (Below.refl _ _).drew).later hb4; replace bl := bl.trans (((Below.refl _ _).drew.trans hb4).mono bl.size); have q0 := (hb4.cell (p := ⟨w2.heap.size, 0, none⟩) lt).trans o0; have q1 := (hb4.cell (p := ⟨w2.heap.size, 1, none⟩) lt).trans o1; have q2 := (hb4.cell (p := ⟨w2.heap.size, 2, none⟩) lt).trans o2; have q3 := (hb4.cell (p := ⟨w2.heap.size, 3, none⟩) lt).trans o3; have q4 := (hb4.cell (p := ⟨w2.heap.size, 4, none⟩) lt).trans o4; have q5 := (hb4.cell (p := ⟨w2.heap.size, 5, none⟩) lt).trans o5; have q6 := (hb4.cell (p := ⟨w2.heap.size, 6, none⟩) lt).trans o6; clear hb4)
      | (go_at_call 18; refine (hn _ hL).mono ?_; rintro e w5 ⟨rfl, hb5⟩; replace bl := bl.trans (hb5.mono bl.size); clear hb5))
    all_goals
      go_wp2_with fail
      go_ret
      exact ⟨rfl, bl⟩
end Go.Proofs.YtleffgecobeekaaDoor
