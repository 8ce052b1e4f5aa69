/- The second behind a date and time, by the statement's own function next. -/
import Derived.Test.YtleffgecobeekaaDoorCivF
import Derived.ProofKit
import Derived.OpenShut
namespace Go.Proofs.YtleffgecobeekaaDoor
open Go.RowKit

set_option maxHeartbeats 1600000 in
theorem next_any (c : Civ) (F : Formed c) (y0 : -1000000000000 < c.year) (y1 : c.year < 1000000000000) (w0 : 0 ≤ c.week) (w6 : c.week ≤ 6) (w : World) (hL : LenAt w) :
    Calls Tryd.prog 18 #[civV c] w fun e w' => e = .returned (civV (nextC c)) ∧ Below w.heap.size w w' := by
  have a1 := F.h0; have a2 := F.h1; have a3 := F.n0; have a4 := F.n1; have a5 := F.s0; have a6 := F.s1
  have a7 := F.m0; have a8 := F.m1; have a9 := F.d0; have b1 := F.d1; have b2 := (mdays_bounds c.year c.month).2
  have hd := Days_any c.year c.month
  unfold nextC
  have hdq := fun wx k (hx : LenAt wx) => Calls.quiet_of_same (n := k) ((hd (World.drewN wx k) (hx.drewN k)).mono fun _ _ k => ⟨k.1, k.2.symm⟩)
  generalize mdays c.year c.month = D at *
  clear F
  obtain ⟨y, m, d, h, n, s, wk⟩ := c
  simp only at *
  by_cases k1 : s + 1 < 60
  · rw [if_pos k1]
    go_enter Tryd.func18, Tryd.ntmps18
    go_wp2_with fail
    refine bodyPost_ret (v := civV ⟨y, m, d, h, n, s + 1, wk⟩) (by simp [results, Tryd.results18, go_sem]) rfl ⟨rfl, ?_⟩
    exact (two_boxes w 24 24 _ _).2.2
  rw [if_neg k1]
  by_cases k2 : n + 1 < 60
  · rw [if_pos k2]
    go_enter Tryd.func18, Tryd.ntmps18
    go_wp2_with fail
    refine bodyPost_ret (v := civV ⟨y, m, d, h, n + 1, 0, wk⟩) (by simp [results, Tryd.results18, go_sem]) rfl ⟨rfl, ?_⟩
    exact (two_boxes w 24 24 _ _).2.2
  rw [if_neg k2]
  by_cases k3 : h + 1 < 24
  · rw [if_pos k3]
    go_enter Tryd.func18, Tryd.ntmps18
    go_wp2_with fail
    refine bodyPost_ret (v := civV ⟨y, m, d, h + 1, 0, 0, wk⟩) (by simp [results, Tryd.results18, go_sem]) rfl ⟨rfl, ?_⟩
    exact (two_boxes w 24 24 _ _).2.2
  rw [if_neg k3]
  by_cases k4 : d + 1 ≤ D
  · rw [if_pos k4]
    go_enter Tryd.func18, Tryd.ntmps18
    go_wp2_with fail
    have hL := hL.later (two_boxes w 24 24 [.int .i64 y, .int .i64 m, .int .i64 (d + 1), .int .i64 0, .int .i64 0, .int .i64 0, .int .i64 ((wk + 1) % 7)] civZ).2.2
    go_quiet (first | (go_at_call 16; exact hdq _ _ hL))
    rw [show World.drewN ((w.alloc (.cells #[.int .i64 y, .int .i64 m, .int .i64 (d + 1), .int .i64 0, .int .i64 0, .int .i64 0, .int .i64 ((wk + 1) % 7)] 24)).alloc (.cells #[.int .i64 0, .int .i64 0, .int .i64 0, .int .i64 0, .int .i64 0, .int .i64 0, .int .i64 0] 24)) nq = ((w.drewN nq).alloc (.cells #[.int .i64 y, .int .i64 m, .int .i64 (d + 1), .int .i64 0, .int .i64 0, .int .i64 0, .int .i64 ((wk + 1) % 7)] 24)).alloc (.cells #[.int .i64 0, .int .i64 0, .int .i64 0, .int .i64 0, .int .i64 0, .int .i64 0, .int .i64 0] 24) from rfl]
    have bq : Below w.heap.size w (w.drewN nq) := below_drewN (Below.refl _ _) nq
    have zq : w.heap.size = (w.drewN nq).heap.size := rfl
    rw [zq] at bq ⊢
    generalize w.drewN nq = v at *
    go_wp2_with fail
    refine bodyPost_ret (v := civV ⟨y, m, d + 1, 0, 0, 0, (wk + 1) % 7⟩) (by simp [results, Tryd.results18, go_sem]) rfl ⟨rfl, ?_⟩
    rw [zq]
    exact bq.trans (two_boxes v 24 24 _ _).2.2
  rw [if_neg k4]
  by_cases k5 : m + 1 ≤ 12
  · rw [if_pos k5]
    go_enter Tryd.func18, Tryd.ntmps18
    go_wp2_with fail
    have hL := hL.later (two_boxes w 24 24 [.int .i64 y, .int .i64 m, .int .i64 (d + 1), .int .i64 0, .int .i64 0, .int .i64 0, .int .i64 ((wk + 1) % 7)] civZ).2.2
    go_quiet (first | (go_at_call 16; exact hdq _ _ hL))
    rw [show World.drewN ((w.alloc (.cells #[.int .i64 y, .int .i64 m, .int .i64 (d + 1), .int .i64 0, .int .i64 0, .int .i64 0, .int .i64 ((wk + 1) % 7)] 24)).alloc (.cells #[.int .i64 0, .int .i64 0, .int .i64 0, .int .i64 0, .int .i64 0, .int .i64 0, .int .i64 0] 24)) nq = ((w.drewN nq).alloc (.cells #[.int .i64 y, .int .i64 m, .int .i64 (d + 1), .int .i64 0, .int .i64 0, .int .i64 0, .int .i64 ((wk + 1) % 7)] 24)).alloc (.cells #[.int .i64 0, .int .i64 0, .int .i64 0, .int .i64 0, .int .i64 0, .int .i64 0, .int .i64 0] 24) from rfl]
    have bq : Below w.heap.size w (w.drewN nq) := below_drewN (Below.refl _ _) nq
    have zq : w.heap.size = (w.drewN nq).heap.size := rfl
    rw [zq] at bq ⊢
    generalize w.drewN nq = v at *
    go_wp2_with fail
    refine bodyPost_ret (v := civV ⟨y, m + 1, 1, 0, 0, 0, (wk + 1) % 7⟩) (by simp [results, Tryd.results18, go_sem]) rfl ⟨rfl, ?_⟩
    rw [zq]
    exact bq.trans (two_boxes v 24 24 _ _).2.2
  rw [if_neg k5]
  go_enter Tryd.func18, Tryd.ntmps18
  go_wp2_with fail
  have hL := hL.later (two_boxes w 24 24 [.int .i64 y, .int .i64 m, .int .i64 (d + 1), .int .i64 0, .int .i64 0, .int .i64 0, .int .i64 ((wk + 1) % 7)] civZ).2.2
  go_quiet (first | (go_at_call 16; exact hdq _ _ hL))
  rw [show World.drewN ((w.alloc (.cells #[.int .i64 y, .int .i64 m, .int .i64 (d + 1), .int .i64 0, .int .i64 0, .int .i64 0, .int .i64 ((wk + 1) % 7)] 24)).alloc (.cells #[.int .i64 0, .int .i64 0, .int .i64 0, .int .i64 0, .int .i64 0, .int .i64 0, .int .i64 0] 24)) nq = ((w.drewN nq).alloc (.cells #[.int .i64 y, .int .i64 m, .int .i64 (d + 1), .int .i64 0, .int .i64 0, .int .i64 0, .int .i64 ((wk + 1) % 7)] 24)).alloc (.cells #[.int .i64 0, .int .i64 0, .int .i64 0, .int .i64 0, .int .i64 0, .int .i64 0, .int .i64 0] 24) from rfl]
  have bq : Below w.heap.size w (w.drewN nq) := below_drewN (Below.refl _ _) nq
  have zq : w.heap.size = (w.drewN nq).heap.size := rfl
  rw [zq] at bq ⊢
  generalize w.drewN nq = v at *
  go_wp2_with fail
  refine bodyPost_ret (v := civV ⟨y + 1, 1, 1, 0, 0, 0, (wk + 1) % 7⟩) (by simp [results, Tryd.results18, go_sem]) rfl ⟨rfl, ?_⟩
  rw [zq]
  exact bq.trans (two_boxes v 24 24 _ _).2.2
end Go.Proofs.YtleffgecobeekaaDoor
