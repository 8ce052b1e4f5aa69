/- The statement CronNames: the walk of her Go text. -/
import Derived.Test.YtddinknnaakmmaaDoorCroN
import Derived.ProofKit
import Derived.OpenShut
namespace Go.Proofs.YtddinknnaakmmaaDoor
open Go.RowKit Go.Deep

theorem named_bool (c : Cr) (t : Int) : ∃ b : Bool, b = true ↔ Named c t := by
  by_cases h : Named c t
  · exact ⟨true, fun _ => h, fun _ => rfl⟩
  · exact ⟨false, (fun k => by cases k), fun k => absurd k h⟩
set_option maxRecDepth 20000 in
set_option maxHeartbeats 4000000 in
theorem cronNames_walk (c : Cr) (t : Int) (fc : c.Fits) (wf : (Lit.int .i64 t).wf = true) (w : World) (hL : LenAt w) (hF : FldAt w) (hT : TzAt w) :
    Calls Tryd.prog 5 #[cronV c, .int .i64 t] w fun e w' => e = .returned (.bool true) ∧ Below w.heap.size w w' := by
  have hb := bounds_i64 wf
  obtain ⟨b, hn⟩ := named_bool c t
  have h1 := fun wx hx => Names_any c fc t (by omega) (by omega) b hn wx hx
  have h2 := fun wx => rNames_any c t (by omega) (by omega) b hn wx
  obtain ⟨xb, l0⟩ := one_box w 25 (u5 c.a c.b c.c c.d c.e)
  have lq := l0.drew
  have hL1 : LenAt (w.alloc (.cells (u5 c.a c.b c.c c.d c.e).toArray 25)).drew := hL.later lq
  have hF1 : FldAt (w.alloc (.cells (u5 c.a c.b c.c c.d c.e).toArray 25)).drew := hF.later lq
  have hT1 : TzAt (w.alloc (.cells (u5 c.a c.b c.c c.d c.e).toArray 25)).drew := hT.later lq
  clear hn hb wf
  go_enter Tryd.func5, Tryd.ntmps5
  go_wp2_with fail
  go_region_with (first
    | (go_at_call 9; refine (awake_any _ hF1 hT1).mono ?_; rintro e w1 ⟨rfl, hb1⟩; have xb := xb.next ((Below.refl _ _).drew.trans hb1); obtain ⟨x0, x1, x2, x3, x4, _⟩ := xb.five; have bl := lq.trans (hb1.mono lq.size); have hL1 := hL1.later hb1; clear hb1)
    | (go_at_call 16; refine (h1 _ hL1).mono ?_; rintro e w2 ⟨rfl, hb2⟩; have xb := xb.next hb2; obtain ⟨x0, x1, x2, x3, x4, _⟩ := xb.five; have bl := bl.trans (hb2.mono bl.size); have hL1 := hL1.later hb2; clear hb2)
    | (go_at_call 17; refine (h2 _).mono ?_; rintro e w3 ⟨rfl, hb3⟩; have xb := xb.next hb3; obtain ⟨x0, x1, x2, x3, x4, _⟩ := xb.five; have bl := bl.trans (hb3.mono bl.size); have hL1 := hL1.later hb3; clear hb3))
  all_goals
    go_wp2_with fail
    go_ret
    first | exact ⟨rfl, bl⟩ | (cases b <;> exact ⟨rfl, bl⟩)
end Go.Proofs.YtddinknnaakmmaaDoor
