/- For every list of puts and every int64 number the Go function FixWide answers true: after every step Fit and Mean of a wide sum tell the exact sum and mean, or that they are no int64, and a copy goes its own way; no condition is asked. -/
import Derived.Test.YtbmdocdcinfbfaaRows
import Derived.Test.YtbmdocdcinfbfaaWideL
import Derived.WalkKit
import Derived.ProofKit
import Derived.OpenShut
import Derived.ChangeOld
import Derived.Below
import Derived.Deep.SlicePairs
namespace Go.Proofs.Ytbmdocdcinfbfaa.fixWide
open Go.ChangeShapes Go.WideShapes Go.ChangeAt Go.RowKit Go.Deep

/-- The bool that a value is. -/
def boolOf : Value → Bool
  | .bool b => b
  | _ => false
theorem own : ownKnob Try.prog.godebug = none := by kernel_rfl
theorem laidOut : laidOutB Try.prog = true := by kernel_rfl

set_option maxRecDepth 100000 in
theorem lifted (os : Os) (started : os.Started) (H : Type) (enc : TypeId × Value → H) :
    ReturnsInHanded {} Try.checked os 6 .any (Rows.fixWideSpec.pre6 enc Try.prog Try.f6 Rows.fixWideRow.domain false) (Rows.fixWideSpec.post enc Try.prog Try.f6 false true false false) := by
  refine returnsInHanded_of_change (C := Try.checked) own started (by kernel_rfl) Try.func6
    (ChangeSpec.witness6 (enc := enc) (C := Try.checked) false ⟨#[], #[.slice none 0 0, .int .i64 0], []⟩ 8 (by kernel_rfl) (by kernel_rfl) (by kernel_rfl) (by kernel_rfl)) ?_
  intro W base args ds gs before hval0 hW hcnd _
  have hval : ∀ (j : Nat) t v, Try.f6.params[j]? = some t → args[j]? = some v → Value.okWide Try.prog W .any base t v := hval0
  have hW' := hW
  obtain ⟨p, q, hA0, hV, rfl, hfz, hnd⟩ := hW
  have hA : DataW.TrodAll enc Try.prog W 0 (fun _ => true) true Try.f6.params.toList args.toList ds p := hA0
  rw [Try.params6] at hA hval
  obtain ⟨v0, vs0, d0, ds0, p0, q0, hargs, rfl, rfl, h0, r0⟩ := trodAll_cons hA
  obtain ⟨v1, vs1, d1, ds1, p1, q1, rfl, rfl, rfl, h1, r1⟩ := trodAll_cons r0
  obtain ⟨rfl, rfl, rfl⟩ := trodAll_nil r1
  obtain rfl : args = #[v0, v1] := by cases args; simp_all
  obtain ⟨rfl, rfl⟩ := trodVars_none hV
  obtain ⟨a0, len0, cap0, rfl⟩ := okWide_slice Try.underlying31 (hval 0 31 v0 rfl rfl)
  have k0 := h0
  have lt0 : ∀ x ∈ p0, x.block < W.heap.size := by obtain ⟨m, hm⟩ := k0; exact DataW.trod_lt m _ _ _ hm
  obtain ⟨O, V, w0⟩ : ∃ O V, IsPuts W a0 len0 O V := by
    obtain ⟨fuel, hf⟩ := h0
    rcases open_slice_pairs Try.underlying31 Try.underlying41 (by kernel_rfl) rfl rfl (by kernel_rfl) (by kernel_rfl) hf with ⟨hcs, _⟩ | ⟨x, l, c, m, n, V0, V1, D0, D1, P0, P1, hcs, _, hl, hm, hmm, hx, hcell⟩
    · simp [Value.cells] at hcs
      obtain ⟨rfl, rfl, rfl⟩ := hcs
      exact ⟨fun _ => false, fun _ => 0, .inl rfl⟩
    · simp [Value.cells] at hcs
      obtain ⟨rfl, rfl, rfl⟩ := hcs
      by_cases hz : len0 = 0
      · exact ⟨fun _ => false, fun _ => 0, .inl hz⟩
      · have hmc : len0 ≤ m := by rw [hmm]; split <;> omega
        obtain ⟨b, off, spot⟩ := x
        have hs : spot = none := by
          have h := (hcell 0 (by omega)).1
          simpa [Addr.add] using World.cell?_spot h
        subst hs
        have hbl : b < W.heap.size := by
          have h := (hcell 0 (by omega)).1
          exact World.block_lt_of_cell? W _ h
        refine ⟨fun i => boolOf (V0 i), fun i => intOf (V1 i), .inr ⟨b, off, rfl, hbl, by omega, fun i hi => ?_⟩⟩
        obtain ⟨e0, e1, t0, t1⟩ := hcell i (by omega)
        obtain ⟨bb, hb0, _⟩ := DataW.trod_bool Try.underlying4 t0
        obtain ⟨nn, hn0, _, wn⟩ := DataW.trod_int Try.underlying2 t1
        simp at hb0 hn0
        have bd := bounds_i64 wn
        have e0' : W.cell? ⟨b, off + i * 2, none⟩ = some (V0 i) := by
          by_cases hi0 : i * 2 = 0
          · simpa [Addr.add, hi0] using e0
          · simpa [Addr.add, hi0] using e0
        have e1' : W.cell? ⟨b, off + i * 2 + 1, none⟩ = some (V1 i) := by simpa [Addr.add, Nat.add_assoc] using e1
        show W.cell? ⟨b, off + i * 2, none⟩ = some (.bool (boolOf (V0 i))) ∧ W.cell? ⟨b, off + i * 2 + 1, none⟩ = some (.int .i64 (intOf (V1 i))) ∧ -9223372036854775808 ≤ intOf (V1 i) ∧ intOf (V1 i) < 9223372036854775808
        rw [e0', e1', hb0, hn0]
        refine ⟨rfl, rfl, ?_, ?_⟩
        · show _ ≤ nn; omega
        · show nn < _; omega
  obtain ⟨a1, rfl, rfl, rfl, w1⟩ := open_int Try.underlying2 (hval 1 2 v1 rfl rfl) h1
  clear hA0 hval0
  refine (fixWide_walk a0 len0 cap0 O V a1 W w0 w1).mono fun e W' ⟨he, bel⟩ => ?_
  subst he
  exact ⟨_, rfl, _, _, _, [], _, [], hW', trodAll_mk1 (shut_bool Try.underlying4 _), (trodAll_cons_mk (Below.trod laidOut (by kernel_rfl) (of_decide_eq_true (by kernel_rfl)) k0 bel lt0) (trodAll_cons_mk (shut_int Try.underlying2 w1) trodAll_mk0)), rfl, bel.frame _, fun h => by cases h⟩

theorem over : Rows.fixWideRow.holds Try.pinned (OpenSpec.ofChange Rows.fixWideSpec) :=
  OpenClaim.holds_of_wide 6 Try.f6 rfl rfl rfl rfl rfl rfl rfl ⟨rfl, rfl, rfl, rfl, rfl⟩ rfl rfl rfl rfl rfl (by kernel_rfl) Try.func6 (by kernel_rfl)
    (of_decide_eq_true (by kernel_rfl)) (by unfold Func.isWrapper; rw [if_neg (of_decide_eq_false (by kernel_rfl))]; exact ⟨rfl, rfl⟩)
    (fun os started H enc _ => lifted os started H enc)
end Go.Proofs.Ytbmdocdcinfbfaa.fixWide

namespace Go.Proofs.Ytbmdocdcinfbfaa
/-- The statement. -/
theorem fixWide_holds : Rows.FixWideSaid := fixWide.over
#print axioms fixWide_holds
end Go.Proofs.Ytbmdocdcinfbfaa
