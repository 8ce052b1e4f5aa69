/- For every bool and every list of int64, together of bulk at most 1048576, the Go function MonoKeeps answers true: the lists of kept numbers that are answered are new memory; the condition asked is the bulk alone. -/
import Derived.Test.YtelcaldenjgnkaaRows
import Derived.Test.YtelcaldenjgnkaaMKeeps
import Derived.WalkKit
import Derived.ProofKit
import Derived.OpenShut
import Derived.ChangeOld
import Derived.ChangeSlices
import Derived.Below
import Derived.SizedLaws
import Derived.JoinedCond
import Derived.Deep.SlicePairs
namespace Go.Proofs.Ytelcaldenjgnkaa.monoKeeps
open Go.ChangeShapes Go.WideShapes Go.ChangeAt Go.RowKit Go.Deep

theorem own : ownKnob Try.prog.godebug = none := by kernel_rfl
theorem laidOut : laidOutB Try.prog = true := by kernel_rfl
theorem bulk_one {H : Type} (d : DataW H) : 1 ≤ Rows.uptoBulk d := by
  cases d with
  | lit x => cases x <;> simp [Rows.uptoBulk]
  | nil => simp [Rows.uptoBulk]
  | ptr d => simp [Rows.uptoBulk]
  | slice e s => simp [Rows.uptoBulk]
  | agg p => simp [Rows.uptoBulk]
  | iface t d => simp [Rows.uptoBulk]
  | map e => simp [Rows.uptoBulk]
  | held x => simp [Rows.uptoBulk]
theorem bulk_length {H : Type} (q : List (DataW H)) : q.length ≤ Rows.uptoBulkAll q := by
  induction q with
  | nil => simp
  | cons x r ih => have := bulk_one x; simp only [Rows.uptoBulkAll, List.length_cons]; omega
theorem bulk_slice {H : Type} {ds : List (DataW H)} {d : DataW H} {e s : List (DataW H)} (hk : Rows.uptoSmall H ds = true) (hd : d = DataW.slice e s) (hm : d ∈ ds) : e.length ≤ 1048576 := by
  subst hd
  have h : Rows.uptoBulkAll ds ≤ 1048576 := of_decide_eq_true hk
  have h1 : ∀ (q : List (DataW H)) (d : DataW H), d ∈ q → Rows.uptoBulk d ≤ Rows.uptoBulkAll q := fun q d => by
    induction q with
    | nil => intro h; cases h
    | cons x r ih =>
      intro h
      simp only [Rows.uptoBulkAll]
      rcases List.mem_cons.1 h with rfl | h
      · omega
      · have := ih h; omega
  have h2 := h1 ds _ hm
  have h3 := bulk_length e
  simp only [Rows.uptoBulk] at h2
  omega

set_option maxRecDepth 100000 in
theorem lifted (os : Os) (started : os.Started) (H : Type) (enc : TypeId × Value → H) (F : Stop.Interp) :
    ReturnsInHanded {} Try.checked os 5 .any ((Rows.OpenSpec.upto Rows.monoKeepsSpec).pre6 enc Try.prog Try.f5 Rows.monoKeepsUptoRow.domain false) (((Rows.OpenSpec.upto Rows.monoKeepsSpec).at F).post enc Try.prog Try.f5 false true false false) := by
  refine returnsInHanded_of_cond (C := Try.checked) (s := Rows.OpenSpec.upto Rows.monoKeepsSpec) (k := Rows.uptoSmall) rfl own started (by kernel_rfl) Try.func5
    (OpenSpec.witness (enc := enc) (C := Try.checked) (s := Rows.OpenSpec.upto Rows.monoKeepsSpec) (k := Rows.uptoSmall) rfl false ⟨#[], #[.bool false, .slice none 0 0], []⟩ 8 (by kernel_rfl) (by kernel_rfl) (by kernel_rfl)
      (x := ([.lit (.bool false), .nil], [], [])) (by kernel_rfl) rfl (by kernel_rfl)) ?_
  intro W base args ds gs before hval0 hW _ hk _
  have hval : ∀ (j : Nat) t v, Try.f5.params[j]? = some t → args[j]? = some v → Value.okWide Try.prog W .any base t v := hval0
  have hW' := hW
  obtain ⟨p, q, hA0, hV, rfl, hfz, hnd⟩ := hW
  have hA : DataW.TrodAll enc Try.prog W 0 (fun _ => true) true Try.f5.params.toList args.toList ds p := hA0
  rw [Try.params5] at hA hval
  obtain ⟨v0, vs0, d0, ds0, p0, q0, hargs, rfl, rfl, h0, r0⟩ := trodAll_cons hA
  obtain ⟨v1, vs1, d1, ds1, p1, q1, rfl, rfl, rfl, h1, r1⟩ := trodAll_cons r0
  obtain ⟨rfl, rfl, rfl⟩ := trodAll_nil r1
  obtain rfl : args = #[v0, v1] := by cases args; simp_all
  obtain ⟨rfl, rfl⟩ := trodVars_none hV
  obtain ⟨a0, rfl, rfl, rfl⟩ := open_bool Try.underlying4 (hval 0 4 v0 rfl rfl) h0
  obtain ⟨a1, len1, cap1, rfl⟩ := okWide_slice Try.underlying26 (hval 1 26 v1 rfl rfl)
  have k1 := h1
  have lt1 : ∀ x ∈ p1, x.block < W.heap.size := by obtain ⟨m, hm⟩ := k1; exact DataW.trod_lt m _ _ _ hm
  obtain ⟨Z1, w1, z1, g1, y1⟩ : ∃ Z, Rd W (.slice a1 len1 cap1) Z ∧ len1 ≤ cap1 ∧ (∀ x, x ∈ Z → (Lit.int .i64 x).wf = true) ∧ len1 ≤ 1048576 := by
    obtain ⟨fuel, hf⟩ := h1
    rcases open_ints Try.underlying26 Try.underlying2 (by kernel_rfl) hf with ⟨hcs, _⟩ | ⟨x, l, c, zs, hcs, _, hl, hm, hmm, hx, hcell, hwf⟩
    · simp [Value.cells] at hcs
      obtain ⟨rfl, rfl, rfl⟩ := hcs
      exact ⟨[], ⟨none, 0, rfl, .inl rfl⟩, by simp, by simp, by simp⟩
    · simp [Value.cells] at hcs
      obtain ⟨rfl, rfl, rfl⟩ := hcs
      have hmc : len1 ≤ zs.length := by rw [hmm]; split <;> omega
      have hzl : (zs.take len1).length = len1 := by simp; omega
      have hd1 := (Prod.mk.inj hx).1
      have hy : len1 ≤ 1048576 := by have hsl := bulk_slice hk hd1 (by simp); simp [lits] at hsl; omega
      refine ⟨zs.take len1, ⟨_, cap1, by rw [hzl], ?_⟩, hl, fun x hx => hwf x (List.mem_of_mem_take hx), hy⟩
      by_cases hz : len1 = 0
      · exact .inl (by simp [hz])
      · obtain ⟨b, off, spot⟩ := x
        have hs : spot = none := by
          have h := hcell 0 (by omega)
          simpa [Addr.add] using World.cell?_spot h
        subst hs
        have hbl : b < W.heap.size := by
          have h := hcell 0 (by omega)
          exact World.block_lt_of_cell? W _ h
        refine .inr ⟨b, off, rfl, hbl, fun i x hx => ?_⟩
        have hi : i < (zs.take len1).length := (List.getElem?_eq_some_iff.1 hx).1
        rw [List.getElem?_take_of_lt (by omega)] at hx
        have e := hcell i (by omega)
        rw [add_plain] at e
        rw [e]
        simp [hx]
  clear hA0 hval0
  refine (monoKeeps_walk a0 a1 len1 cap1 Z1 W w1 z1 g1 y1).mono fun e W' ⟨he, bel⟩ => ?_
  subst he
  exact ⟨_, rfl, _, _, _, [], _, [], hW', trodAll_mk1 (shut_bool Try.underlying4 _), (trodAll_cons_mk (shut_bool Try.underlying4 a0) (trodAll_cons_mk (Below.trod laidOut (by kernel_rfl) (of_decide_eq_true (by kernel_rfl)) k1 bel lt1) trodAll_mk0)), rfl, bel.frame _, fun h => by cases h⟩

theorem over : Rows.monoKeepsUptoRow.holds Try.pinned (Rows.OpenSpec.upto Rows.monoKeepsSpec) :=
  OpenClaim.holds_of_cond 5 Try.f5 rfl rfl rfl rfl rfl rfl rfl ⟨rfl, rfl, rfl, rfl, rfl⟩ rfl rfl rfl rfl rfl (by kernel_rfl) Try.func5 (by kernel_rfl)
    (of_decide_eq_true (by kernel_rfl)) (by unfold Func.isWrapper; rw [if_neg (of_decide_eq_false (by kernel_rfl))]; exact ⟨rfl, rfl⟩)
    (fun os started H enc _ F => lifted os started H enc F)
end Go.Proofs.Ytelcaldenjgnkaa.monoKeeps

namespace Go.Proofs.Ytelcaldenjgnkaa
/-- The statement. -/
theorem monoKeeps_holds : Rows.MonoKeepsUptoSaid := monoKeeps.over
#print axioms monoKeeps_holds
end Go.Proofs.Ytelcaldenjgnkaa
