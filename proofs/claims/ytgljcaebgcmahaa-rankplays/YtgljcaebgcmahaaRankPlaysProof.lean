/- For every slice of calls the Go function RankPlays answers true: whatever numbers come and go, places, ranks and lists are those of the numbers in rising order; no condition is asked beyond the given bound of a slice's bytes. -/
import Derived.Test.YtgljcaebgcmahaaRows
import Derived.Test.YtgljcaebgcmahaaRPlK
import Derived.WalkKit
import Derived.ProofKit
import Derived.OpenShut
import Derived.ChangeOld
import Derived.ChangeSlices
import Derived.Below
import Derived.SizedLaws
import Derived.JoinedCond
import Derived.Deep.SlicePairs
namespace Go.Proofs.Ytgljcaebgcmahaa.rankPlays
open Go.ChangeShapes Go.WideShapes Go.ChangeAt Go.RowKit Go.Deep

theorem own : ownKnob Try.prog.godebug = none := by kernel_rfl
theorem laidOut : laidOutB Try.prog = true := by kernel_rfl

set_option maxRecDepth 100000 in
theorem lifted (os : Os) (started : os.Started) (H : Type) (enc : TypeId × Value → H) :
    ReturnsInHanded {} Try.checked os 3 .any (Rows.rankPlaysSpec.pre6 enc Try.prog Try.f3 Rows.rankPlaysRow.domain false) (Rows.rankPlaysSpec.post enc Try.prog Try.f3 false true false false) := by
  refine returnsInHanded_of_change_sized (C := Try.checked) own started (by kernel_rfl) Try.func3
    (ChangeSpec.witness6 (enc := enc) (C := Try.checked) false ⟨#[], #[.slice none 0 0], []⟩ 8 (by kernel_rfl) (by kernel_rfl) (by kernel_rfl) (by kernel_rfl)) ?_
  intro W base args ds gs before hval0 hW _ hsz _
  have hval : ∀ (j : Nat) t v, Try.f3.params[j]? = some t → args[j]? = some v → Value.okWide Try.prog W .any base t v := hval0
  have hW' := hW
  obtain ⟨p, q, hA0, hV, rfl, hfz, hnd⟩ := hW
  have hA : DataW.TrodAll enc Try.prog W 0 (fun _ => true) true Try.f3.params.toList args.toList ds p := hA0
  rw [Try.params3] at hA hval
  obtain ⟨v0, vs0, d0, ds0, p0, q0, hargs, rfl, rfl, h0, r0⟩ := trodAll_cons hA
  obtain ⟨rfl, rfl, rfl⟩ := trodAll_nil r0
  obtain rfl : args = #[v0] := by cases args; simp_all
  obtain ⟨rfl, rfl⟩ := trodVars_none hV
  obtain ⟨a0, len0, cap0, rfl⟩ := okWide_slice Try.underlying22 (hval 0 22 v0 rfl rfl)
  have k0 := h0
  have lt0 : ∀ x ∈ p0, x.block < W.heap.size := by obtain ⟨m, hm⟩ := k0; exact DataW.trod_lt m _ _ _ hm
  have by0 : Try.checked.prog.bytesOf 28 = 16 := by kernel_rfl
  obtain ⟨O0, V0, w0, y0⟩ : ∃ O V, IsOps W a0 len0 O V ∧ len0 * 16 ≤ reachBytes := by
    obtain ⟨fuel, hf⟩ := h0
    rcases open_slice_pairs Try.underlying22 Try.underlying28 (by kernel_rfl) rfl rfl (by kernel_rfl) (by kernel_rfl) hf with ⟨hcs, _⟩ | ⟨x, l, c, m, n, V0, V1, D0, D1, P0, P1, hcs, _, hl, hm, hmm, hx, hcell⟩
    · simp [Value.cells] at hcs
      obtain ⟨rfl, rfl, rfl⟩ := hcs
      exact ⟨fun _ => (0 : Int), fun _ => 0, .inl rfl, by simp⟩
    · simp [Value.cells] at hcs
      obtain ⟨rfl, rfl, rfl⟩ := hcs
      have hd0 := (Prod.mk.inj hx).1
      have hy : len0 * 16 ≤ reachBytes := by have hsl := sized_slice hsz (j := 0) (t := 22) rfl (by rw [hd0]; rfl) Try.underlying22; rw [by0] at hsl; simp at hsl; omega
      by_cases hz : len0 = 0
      · exact ⟨fun _ => (0 : Int), fun _ => 0, .inl hz, hy⟩
      · have hmc : len0 ≤ m := by rw [hmm]; split <;> omega
        obtain ⟨b, off, spot⟩ := x
        have hs : spot = none := by
          have h := (hcell 0 (by omega)).1
          simpa [Addr.add] using World.cell?_spot h
        subst hs
        have hbl : b < W.heap.size := by
          have h := (hcell 0 (by omega)).1
          exact World.block_lt_of_cell? W _ h
        refine ⟨fun i => intOf (V0 i), fun i => intOf (V1 i), .inr ⟨b, off, rfl, hbl, fun i hi => ?_⟩, hy⟩
        obtain ⟨e0, e1, t0, t1⟩ := hcell i (by omega)
        obtain ⟨bb, hb0, _⟩ := DataW.trod_int Try.underlying3 t0
        obtain ⟨nn, hn0, _, wn⟩ := DataW.trod_int Try.underlying2 t1
        simp at hb0 hn0
        have e0' : W.cell? ⟨b, off + i * 2, none⟩ = some (V0 i) := by
          by_cases hi0 : i * 2 = 0
          · simpa [Addr.add, hi0] using e0
          · simpa [Addr.add, hi0] using e0
        have e1' : W.cell? ⟨b, off + i * 2 + 1, none⟩ = some (V1 i) := by simpa [Addr.add, Nat.add_assoc] using e1
        show W.cell? ⟨b, off + i * 2, none⟩ = some (.int .i64 (intOf (V0 i))) ∧ W.cell? ⟨b, off + i * 2 + 1, none⟩ = some (.int .i64 (intOf (V1 i)))
        rw [e0', e1', hb0, hn0]
        exact ⟨rfl, rfl⟩
  clear hA0 hval0
  refine (rankPlays_walk a0 len0 cap0 O0 V0 W w0 y0).mono fun e W' ⟨he, bel⟩ => ?_
  subst he
  exact ⟨_, rfl, _, _, _, [], _, [], hW', trodAll_mk1 (shut_bool Try.underlying4 _), (trodAll_cons_mk (Below.trod laidOut (by kernel_rfl) (of_decide_eq_true (by kernel_rfl)) k0 bel lt0) trodAll_mk0), rfl, bel.frame _, fun h => by cases h⟩

theorem over : Rows.rankPlaysRow.holds Try.pinned (OpenSpec.ofChange Rows.rankPlaysSpec) :=
  OpenClaim.holds_of_wide 3 Try.f3 rfl rfl rfl rfl rfl rfl rfl ⟨rfl, rfl, rfl, rfl, rfl⟩ rfl rfl rfl rfl rfl (by kernel_rfl) Try.func3 (by kernel_rfl)
    (of_decide_eq_true (by kernel_rfl)) (by unfold Func.isWrapper; rw [if_neg (of_decide_eq_false (by kernel_rfl))]; exact ⟨rfl, rfl⟩)
    (fun os started H enc _ => lifted os started H enc)
end Go.Proofs.Ytgljcaebgcmahaa.rankPlays

namespace Go.Proofs.Ytgljcaebgcmahaa
/-- The statement. -/
theorem rankPlays_holds : Rows.RankPlaysSaid := rankPlays.over
#print axioms rankPlays_holds
end Go.Proofs.Ytgljcaebgcmahaa
