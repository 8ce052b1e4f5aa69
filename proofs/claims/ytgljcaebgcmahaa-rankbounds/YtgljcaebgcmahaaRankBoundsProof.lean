/- For every slice of int64 and every int64 the Go function RankBounds answers true: at least so many percent of the numbers are as low as the one of a rank, and fewer are lower; no condition is asked beyond the given bound of a slice's bytes. -/
import Derived.Test.YtgljcaebgcmahaaRows
import Derived.Test.YtgljcaebgcmahaaRBoK
import Derived.WalkKit
import Derived.ProofKit
import Derived.OpenShut
import Derived.ChangeOld
import Derived.ChangeSlices
import Derived.Below
import Derived.SizedLaws
import Derived.JoinedCond
import Derived.Deep.SlicePairs
namespace Go.Proofs.Ytgljcaebgcmahaa.rankBounds
open Go.ChangeShapes Go.WideShapes Go.ChangeAt Go.RowKit Go.Deep

theorem own : ownKnob Try.prog.godebug = none := by kernel_rfl
theorem laidOut : laidOutB Try.prog = true := by kernel_rfl

set_option maxRecDepth 100000 in
theorem lifted (os : Os) (started : os.Started) (H : Type) (enc : TypeId × Value → H) :
    ReturnsInHanded {} Try.checked os 4 .any (Rows.rankBoundsSpec.pre6 enc Try.prog Try.f4 Rows.rankBoundsRow.domain false) (Rows.rankBoundsSpec.post enc Try.prog Try.f4 false true false false) := by
  refine returnsInHanded_of_change_sized (C := Try.checked) own started (by kernel_rfl) Try.func4
    (ChangeSpec.witness6 (enc := enc) (C := Try.checked) false ⟨#[], #[.slice none 0 0, .int .i64 0], []⟩ 8 (by kernel_rfl) (by kernel_rfl) (by kernel_rfl) (by kernel_rfl)) ?_
  intro W base args ds gs before hval0 hW _ hsz _
  have hval : ∀ (j : Nat) t v, Try.f4.params[j]? = some t → args[j]? = some v → Value.okWide Try.prog W .any base t v := hval0
  have hW' := hW
  obtain ⟨p, q, hA0, hV, rfl, hfz, hnd⟩ := hW
  have hA : DataW.TrodAll enc Try.prog W 0 (fun _ => true) true Try.f4.params.toList args.toList ds p := hA0
  rw [Try.params4] at hA hval
  obtain ⟨v0, vs0, d0, ds0, p0, q0, hargs, rfl, rfl, h0, r0⟩ := trodAll_cons hA
  obtain ⟨v1, vs1, d1, ds1, p1, q1, rfl, rfl, rfl, h1, r1⟩ := trodAll_cons r0
  obtain ⟨rfl, rfl, rfl⟩ := trodAll_nil r1
  obtain rfl : args = #[v0, v1] := by cases args; simp_all
  obtain ⟨rfl, rfl⟩ := trodVars_none hV
  obtain ⟨a0, len0, cap0, rfl⟩ := okWide_slice Try.underlying26 (hval 0 26 v0 rfl rfl)
  have k0 := h0
  have lt0 : ∀ x ∈ p0, x.block < W.heap.size := by obtain ⟨m, hm⟩ := k0; exact DataW.trod_lt m _ _ _ hm
  have by0 : Try.checked.prog.bytesOf 2 = 8 := by kernel_rfl
  obtain ⟨Z0, w0, z0, g0, y0⟩ : ∃ Z, Rd W (.slice a0 len0 cap0) Z ∧ len0 ≤ cap0 ∧ (∀ x, x ∈ Z → (Lit.int .i64 x).wf = true) ∧ len0 * 8 ≤ reachBytes := by
    obtain ⟨fuel, hf⟩ := h0
    rcases open_ints Try.underlying26 Try.underlying2 (by kernel_rfl) hf with ⟨hcs, _⟩ | ⟨x, l, c, zs, hcs, _, hl, hm, hmm, hx, hcell, hwf⟩
    · simp [Value.cells] at hcs
      obtain ⟨rfl, rfl, rfl⟩ := hcs
      exact ⟨[], ⟨none, 0, rfl, .inl rfl⟩, by simp, by simp, by simp⟩
    · simp [Value.cells] at hcs
      obtain ⟨rfl, rfl, rfl⟩ := hcs
      have hmc : len0 ≤ zs.length := by rw [hmm]; split <;> omega
      have hzl : (zs.take len0).length = len0 := by simp; omega
      have hd0 := (Prod.mk.inj hx).1
      have hy : len0 * 8 ≤ reachBytes := by have hsl := sized_slice hsz (j := 0) (t := 26) rfl (by rw [hd0]; rfl) Try.underlying26; rw [by0] at hsl; simp [lits] at hsl; omega
      refine ⟨zs.take len0, ⟨_, cap0, by rw [hzl], ?_⟩, hl, fun x hx => hwf x (List.mem_of_mem_take hx), hy⟩
      by_cases hz : len0 = 0
      · exact .inl (by simp [hz])
      · obtain ⟨b, off, spot⟩ := x
        have hs : spot = none := by
          have h := hcell 0 (by omega)
          simpa [Addr.add] using World.cell?_spot h
        subst hs
        have hbl : b < W.heap.size := by
          have h := hcell 0 (by omega)
          exact World.block_lt_of_cell? W _ h
        refine .inr ⟨b, off, rfl, hbl, fun i x hx => ?_⟩
        have hi : i < (zs.take len0).length := (List.getElem?_eq_some_iff.1 hx).1
        rw [List.getElem?_take_of_lt (by omega)] at hx
        have e := hcell i (by omega)
        rw [add_plain] at e
        rw [e]
        simp [hx]
  obtain ⟨a1, rfl, rfl, rfl, w1⟩ := open_int Try.underlying2 (hval 1 2 v1 rfl rfl) h1
  clear hA0 hval0
  refine (rankBounds_walk a0 len0 cap0 Z0 a1 W w0 z0 g0 y0 w1).mono fun e W' ⟨he, bel⟩ => ?_
  subst he
  exact ⟨_, rfl, _, _, _, [], _, [], hW', trodAll_mk1 (shut_bool Try.underlying4 _), (trodAll_cons_mk (Below.trod laidOut (by kernel_rfl) (of_decide_eq_true (by kernel_rfl)) k0 bel lt0) (trodAll_cons_mk (shut_int Try.underlying2 w1) trodAll_mk0)), rfl, bel.frame _, fun h => by cases h⟩

theorem over : Rows.rankBoundsRow.holds Try.pinned (OpenSpec.ofChange Rows.rankBoundsSpec) :=
  OpenClaim.holds_of_wide 4 Try.f4 rfl rfl rfl rfl rfl rfl rfl ⟨rfl, rfl, rfl, rfl, rfl⟩ rfl rfl rfl rfl rfl (by kernel_rfl) Try.func4 (by kernel_rfl)
    (of_decide_eq_true (by kernel_rfl)) (by unfold Func.isWrapper; rw [if_neg (of_decide_eq_false (by kernel_rfl))]; exact ⟨rfl, rfl⟩)
    (fun os started H enc _ => lifted os started H enc)
end Go.Proofs.Ytgljcaebgcmahaa.rankBounds

namespace Go.Proofs.Ytgljcaebgcmahaa
/-- The statement. -/
theorem rankBounds_holds : Rows.RankBoundsSaid := rankBounds.over
#print axioms rankBounds_holds
end Go.Proofs.Ytgljcaebgcmahaa
