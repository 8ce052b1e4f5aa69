/- The statement CronCycle: the walk of her Go text. -/
import Derived.Test.YtddinknnaakmmabDoorCroN
import Derived.ProofKit
import Derived.OpenShut
namespace Go.Proofs.YtddinknnaakmmabDoor
open Go.RowKit Go.Deep

theorem named_cycle (c : Cr) (t : Int) : Named c t ↔ Named c (t + 12622780800) := by
  constructor
  · rintro ⟨d, h, hn⟩
    have := h.cycle 1
    rw [show (1 : Int) * 12622780800 = 12622780800 from rfl] at this
    exact ⟨_, this, by rw [namesB_cycle]; exact hn⟩
  · rintro ⟨d, h, hn⟩
    have := h.cycle (-1)
    rw [show t + 12622780800 + -1 * 12622780800 = t by omega] at this
    exact ⟨_, this, by rw [namesB_cycle]; exact hn⟩
theorem named_bool (c : Cr) (t : Int) : ∃ b : Bool, b = true ↔ Named c t := by
  by_cases h : Named c t
  · exact ⟨true, fun _ => h, fun _ => rfl⟩
  · exact ⟨false, (fun k => by cases k), fun k => absurd k h⟩
set_option maxRecDepth 20000 in
set_option maxHeartbeats 4000000 in
theorem cronCycle_walk (c : Cr) (t : Int) (fc : c.Fits) (wf : (Lit.int .i64 t).wf = true) (w : World) (hL : LenAt w) (hF : FldAt w) (hT : TzAt w) :
    Calls Tryd.prog 3 #[cronV c, .int .i64 t] w fun e w' => e = .returned (.bool true) ∧ Below w.heap.size w w' := by
  have hb := bounds_i64 wf
  obtain ⟨xb, l0⟩ := one_box w 24 (u5 c.a c.b c.c c.d c.e)
  have lq := l0.drew
  have hL1 : LenAt (w.alloc (.cells (u5 c.a c.b c.c c.d c.e).toArray 24)).drew := hL.later lq
  have hF1 : FldAt (w.alloc (.cells (u5 c.a c.b c.c c.d c.e).toArray 24)).drew := hF.later lq
  have hT1 : TzAt (w.alloc (.cells (u5 c.a c.b c.c c.d c.e).toArray 24)).drew := hT.later lq
  by_cases ht : 9223372024231995007 < t
  · clear hb wf
    go_enter Tryd.func3, Tryd.ntmps3
    go_wp2_with fail
    refine wp_region_any (by kernel_rfl) ?_
    change wpAny _ _ _ _ _ _ _ (World.drew _)
    refine wpAny_ready (rs := [0]) (by kernel_rfl) (by simp) ?_
    refine AllReady.cons rfl (fun K hK => ?_) AllReady.nil
    go_simp
    go_wp2_with (first | (go_at_call 4; refine (awake_any _ hF1 hT1).mono ?_; rintro e w1 ⟨rfl, hb1⟩))
    have bl := lq.trans (hb1.mono lq.size)
    refine wpAny_take (i := 1) (v := .bool true) rfl (by kernel_rfl) (by kernel_rfl) (by kernel_rfl) (fun _ _ _ h => h) (Or.inl ⟨by kernel_rfl, fun w => by go_simp⟩) ?_
    refine wpAny_take (i := 2) (v := .int .i64 t) rfl (by kernel_rfl) (by kernel_rfl) (by kernel_rfl) (fun _ _ _ h => h) (Or.inl ⟨by kernel_rfl, fun w => by go_simp⟩) ?_
    refine wpAny_take (i := 3) (v := .bool true) rfl (by kernel_rfl) (by kernel_rfl) (by kernel_rfl) (fun _ _ _ h => h) (Or.inl ⟨by kernel_rfl, fun w => by go_simp⟩) ?_
    refine wpAny_take (i := 4) (v := .bool true) rfl (by kernel_rfl) (by kernel_rfl) (by kernel_rfl) (fun _ _ _ h => h) (Or.inl ⟨by kernel_rfl, fun w => by go_simp⟩) ?_
    refine wpAny_take (i := 5) (v := undef) rfl (by kernel_rfl) (by kernel_rfl) (by kernel_rfl) (fun _ _ _ h => h) (Or.inr ⟨by kernel_rfl, rfl⟩) ?_
    refine wpAny_take (i := 6) (v := undef) rfl (by kernel_rfl) (by kernel_rfl) (by kernel_rfl) (fun _ _ _ h => h) (Or.inr ⟨by kernel_rfl, rfl⟩) ?_
    refine wpAny_take (i := 7) (v := undef) rfl (by kernel_rfl) (by kernel_rfl) (by kernel_rfl) (fun _ _ _ h => h) (Or.inr ⟨by kernel_rfl, rfl⟩) ?_
    refine wpAny_take (i := 8) (v := undef) rfl (by kernel_rfl) (by kernel_rfl) (by kernel_rfl) (fun _ _ _ h => h) (Or.inr ⟨by kernel_rfl, rfl⟩) ?_
    refine wpAny_take (i := 9) (v := undef) rfl (by kernel_rfl) (by kernel_rfl) (by kernel_rfl) (fun _ _ _ h => h) (Or.inr ⟨by kernel_rfl, rfl⟩) ?_
    refine wpAny_take (i := 10) (v := undef) rfl (by kernel_rfl) (by kernel_rfl) (by kernel_rfl) (fun _ _ _ h => h) (Or.inr ⟨by kernel_rfl, rfl⟩) ?_
    refine wpAny_take (i := 11) (v := undef) rfl (by kernel_rfl) (by kernel_rfl) (by kernel_rfl) (fun _ _ _ h => h) (Or.inr ⟨by kernel_rfl, rfl⟩) ?_
    refine wpAny_take (i := 12) (v := undef) rfl (by kernel_rfl) (by kernel_rfl) (by kernel_rfl) (fun _ _ _ h => h) (Or.inr ⟨by kernel_rfl, rfl⟩) ?_
    refine wpAny_take (i := 13) (v := .bool true) rfl (by kernel_rfl) (by kernel_rfl) (by kernel_rfl) (fun _ _ _ h => h) (Or.inl ⟨by kernel_rfl, fun w => by go_simp⟩) ?_
    refine wpAny_take (i := 14) (v := .bool true) rfl (by kernel_rfl) (by kernel_rfl) (by kernel_rfl) (fun _ _ _ h => h) (Or.inl ⟨by kernel_rfl, fun w => by go_simp⟩) ?_
    refine wpAny_take (i := 15) (v := .bool true) rfl (by kernel_rfl) (by kernel_rfl) (by kernel_rfl) (fun _ _ _ h => h) (Or.inl ⟨by kernel_rfl, fun w => by go_simp⟩) ?_
    refine wpAny_done (by kernel_rfl) ?_ _
    go_wp2_with fail
    go_ret
    exact ⟨by kernel_rfl, bl⟩
  · have d1 : decide (9223372024231995007 < t) = false := decide_eq_false ht
    obtain ⟨b, hn⟩ := named_bool c t
    have h1 := fun wx hx => Names_any c fc t (by omega) (by omega) b hn wx hx
    have h2 := fun wx hx => Names_any c fc (t + 12622780800) (by omega) (by omega) b (hn.trans (named_cycle c t)) wx hx
    have tw : IntKind.i64.wrap (t + 12622780800) = t + 12622780800 := by rw [IntKind.wrap_i64]; omega
    have h3 := h2
    rw [← tw] at h3
    have H1 : Hid _ := h1
    have H2 : Hid _ := h2
    have H3 : Hid _ := h3
    clear hn hb wf h1 h2 h3 tw
    go_enter Tryd.func3, Tryd.ntmps3
    go_wp2_with fail
    go_region_with (first
      | (go_at_call 4; refine (awake_any _ hF1 hT1).mono ?_; rintro e w1 ⟨rfl, hb1⟩; have xb := xb.next ((Below.refl _ _).drew.trans hb1); obtain ⟨x0, x1, x2, x3, x4, _⟩ := xb.five; have bl := lq.trans (hb1.mono lq.size); have hL1 := hL1.later hb1; clear hb1)
      | (go_at_call 5; (first | (with_reducible refine (H1.out _ hL1).mono ?_) | (with_reducible refine (H2.out _ hL1).mono ?_) | (with_reducible refine (H3.out _ hL1).mono ?_)); rintro e w2 ⟨rfl, hb2⟩; have xb := xb.next hb2; obtain ⟨x0, x1, x2, x3, x4, _⟩ := xb.five; have bl := bl.trans (hb2.mono bl.size); have hL1 := hL1.later hb2; clear hb2))
    all_goals
      go_wp2_with fail
      go_ret
      first | exact ⟨rfl, bl⟩ | (cases b <;> exact ⟨rfl, bl⟩)
end Go.Proofs.YtddinknnaakmmabDoor
