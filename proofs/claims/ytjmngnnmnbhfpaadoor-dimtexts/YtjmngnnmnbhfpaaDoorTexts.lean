/- The statement DimTexts: the walk of her Go text. -/
import Derived.Test.YtjmngnnmnbhfpaaDoorTextR
namespace Go.Proofs.YtjmngnnmnbhfpaaDoor
open Go.RowKit

set_option maxHeartbeats 4000000 in
theorem dimTexts_walk (x : D5) (fx : x.Fits) (w : World) (hN : NamesAt w) (hP : PowAt w) (hB : BasesAt w) :
    Calls Tryd.prog 4 #[dimV x] w fun e w' => e = .returned (.bool true) ∧ Below w.heap.size w w' := by
  have ht := fun wx h1 h2 => Text_any x fx wx h1 h2
  have rt := fun wx h1 => rText_any x fx wx h1
  generalize textS x = t at *
  obtain ⟨xb, l0⟩ := one_box w 24 (dCells x)
  have lq := l0.drew
  have hN1 : NamesAt (w.alloc (.cells (dCells x).toArray 24)).drew := hN.later lq
  have hP1 : PowAt (w.alloc (.cells (dCells x).toArray 24)).drew := hP.later lq
  have hB1 : BasesAt (w.alloc (.cells (dCells x).toArray 24)).drew := hB.later lq
  simp only [dimV] at ht rt
  go_enter Tryd.func4, Tryd.ntmps4
  go_wp2_with fail
  go_region_with (first
    | (go_at_call 9; refine (awake_any _ hN1).mono ?_; rintro e w1 ⟨rfl, hb1⟩; have xb := xb.next ((Below.refl _ _).drew.trans hb1); obtain ⟨x0, x1, x2, x3, x4⟩ := xb.cells5; have bl := lq.trans (hb1.mono lq.size); have hP1 := hP1.later hb1; have hB1 := hB1.later hb1; clear hb1)
    | (go_at_call 12; refine (ht _ hP1 hB1).mono ?_; rintro e w2 ⟨rfl, hb2⟩; have xb := xb.next hb2; obtain ⟨x0, x1, x2, x3, x4⟩ := xb.cells5; have bl := bl.trans (hb2.mono bl.size); have hP1 := hP1.later hb2; have hB1 := hB1.later hb2; clear hb2)
    | (go_at_call 13; refine (rt _ hP1).mono ?_; rintro e w3 ⟨rfl, hb3⟩; have xb := xb.next hb3; obtain ⟨x0, x1, x2, x3, x4⟩ := xb.cells5; have bl := bl.trans (hb3.mono bl.size); have hP1 := hP1.later hb3; have hB1 := hB1.later hb3; clear hb3))
  all_goals
    go_wp2_with fail
    go_ret
    exact ⟨rfl, bl⟩
end Go.Proofs.YtjmngnnmnbhfpaaDoor
