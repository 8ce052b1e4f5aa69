/- Windows: what a program that does nothing does not answer. -/
import Derived.Test.YtccgbkafcbfcgaaWnG
namespace Go.Proofs.Ytccgbkafcbfcgaa
open Go.RowKit

theorem awake_told : toldOf 1 0 (vals (fresh 10 10 (pushed (fresh 10 4 (pushed (fresh 10 0 []) (0, 5))) (4, 6)))) = (0, 6) := by decide
set_option maxRecDepth 20000 in
set_option maxHeartbeats 1000000 in
theorem awake_any (w : World) : Calls Try.prog 8 #[] w fun e w' => e = .returned (.bool true) ∧ Below w.heap.size w w' := by
  go_enter Try.func8, Try.ntmps8
  go_wp2_with fail
  refine Calls.mono (wNew 0 1 10 0 w ⟨by decide, by decide, by decide, by decide, by decide, by decide, by decide⟩ ⟨by decide, by decide⟩) ?_
  rintro e w1 ⟨b, F1, rfl, h1, hF1, hb1⟩
  have H1 := hid h1
  clear h1
  go_wp2_with fail
  refine Calls.mono (wPut b F1 1 10 0 0 false [] (0, 5) w1 H1.out ⟨by decide, by decide⟩ ⟨by decide, by decide⟩ (by simp)) ?_
  rintro e w2 ⟨rfl, F2, h2, t2, f2⟩
  have H2 := hid h2
  clear h2
  go_wp2_with fail
  refine Calls.mono (wPut b F2 1 10 0 0 true _ (4, 6) w2 H2.out ⟨by decide, by decide⟩ ⟨by decide, by decide⟩ (by decide)) ?_
  rintro e w3 ⟨rfl, F3, h3, t3, f3⟩
  have H3 := hid h3
  clear h3
  go_wp2_with fail
  refine Calls.mono (wRead b F3 1 10 0 4 true _ 10 w3 H3.out ⟨by decide, by decide⟩ (by decide)) ?_
  rw [awake_told]
  rintro e w4 ⟨rfl, F4, h4, t4, f4⟩
  clear h4
  have tt : Below w.heap.size w w4 := by
    have s1 := hb1.size
    have s2 := t2.size
    have s3 := t3.size
    have g2 : ∀ i, i ∈ F2 → w.heap.size ≤ i := fun i hi => (f2 i hi).elim (hF1 i) (fun e => by omega)
    have g3 : ∀ i, i ∈ F3 → w.heap.size ≤ i := fun i hi => (f3 i hi).elim (g2 i) (fun e => by omega)
    exact ((hb1.trans (t2.below hF1 s1)).trans (t3.below g2 (by omega))).trans (t4.below g3 (by omega))
  have HT := hid tt
  clear tt hb1 t2 t3 t4 f2 f3 f4 hF1
  simp only [rv]
  go_wp2_with fail
  go_ret
  exact ⟨rfl, HT.out.alloc HT.out.size _⟩
end Go.Proofs.Ytccgbkafcbfcgaa
