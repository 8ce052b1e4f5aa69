/- The document's reader in memory: an item, whole; rows of items that grow. -/
import Derived.Test.YtecdfnpbcabdnaaGreatDoorPsG
import Derived.Test.YtecdfnpbcabdnaaGreatDoorPsH
import Derived.Test.YtecdfnpbcabdnaaGreatDoorPsI
import Derived.Test.YtecdfnpbcabdnaaGreatDoorPsJ
import Derived.Test.YtecdfnpbcabdnaaGreatDoorPxX
namespace Go.Proofs.YtecdfnpbcabdnaaGreatDoor
open Go.RowKit Go.Lib

theorem qItem_c {z rb tb : Nat} {LL : List Tk} {c : Int} {o : Nat} (hz : z ≤ 9223372036854775807) {E A : Rdf} (HE : RdC z rb tb LL c o 22 E) (HA : RdC z rb tb LL c o 34 A) (S : Sr) (w : World) (hr : Rr z w rb tb LL c S o) :
    Calls Tryz.prog 18 #[.pointer (some ⟨rb, 0, none⟩)] w (IqP z w rb tb LL c o (itemE c E A S)) := by
  unfold itemE itemR
  cases h0 : isR k_metric S with
  | true =>
    rw [if_pos rfl]
    cases u : (takeR c 1 (adv S)).2.good with
    | false => exact qItem_metricB hz h0 u w hr
    | true =>
      by_cases k8 : (hdT (takeR c 1 (adv S)).2.L).kind = 8
      · exact qItem_metricU hz h0 u k8 w hr
      · exact qItem_metricN hz h0 u k8 w hr
  | false =>
    rw [if_neg (by simp)]
    cases h1 : isR k_reps S with
    | true =>
      rw [if_pos rfl]
      cases u : isR k_step (takeR c 2 (mustR c k_dots (takeR c 2 (adv S)).2)).2 with
      | true => exact qItem_repsY hz h0 h1 u w hr
      | false => exact qItem_repsN hz h0 h1 u w hr
    | false =>
      rw [if_neg (by simp)]
      cases h2 : isR k_cooldown S with
      | true =>
        rw [if_pos rfl]
        cases u : isR k_up (adv S) with
        | true => exact qItem_coolU hz h0 h1 h2 u w hr
        | false => exact qItem_coolD hz h0 h1 h2 u w hr
      | false =>
        rw [if_neg (by simp)]
        cases h3 : isR k_let S with
        | true =>
          rw [if_pos rfl]
          cases u : (mustR c k_eq (takeR c 1 (adv S)).2).good with
          | true => exact qItem_letY hz HE h0 h1 h2 h3 u w hr
          | false => exact qItem_letN hz h0 h1 h2 h3 u w hr
        | false =>
          rw [if_neg (by simp)]
          cases h4 : isR k_guard S with
          | true =>
            rw [if_pos rfl]
            cases u : (mustR c k_then (E (adv S)).2).good with
            | true => exact qItem_guardY hz HE HA h0 h1 h2 h3 h4 u w hr
            | false => exact qItem_guardN hz HE h0 h1 h2 h3 h4 u w hr
          | false =>
            rw [if_neg (by simp)]
            cases u : (mustR c k_decide S).good with
            | true => exact qItem_decideY hz HA h0 h1 h2 h3 h4 u w hr
            | false => exact qItem_decideN hz h0 h1 h2 h3 h4 u w hr
theorem step_iq {ops : Array Oper} {op : Oper} {a : Act} {w : World} {K : Act → World → Prop} {Q : Exit → Act → World → Prop} {Ee : Prop} {z rb tb : Nat} {LL : List Tk} {c : Int} {o : Nat} {y : It × Sr} (hgd : op.guard = none) {f : FuncId} {args : Array Value}
    (C : Calls Tryz.prog f args w (IqP z w rb tb LL c o y)) (he : (execOp a.eval op).run Tryz.prog w = .ok (.enter f args) w)
    (hK : ∀ Y vx vy w', Y = (itC y.1 vx vy).toArray → Turn [rb] w w' → ItB w.heap.size z w' y.1 vx vy → Rr z w' rb tb LL c y.2 o → K (a.put op.dst (.agg Y)) w') :
    if Region.wanted op (yielded ops a.tmps) = true then Oper.wp Tryz.prog op a w K Q else Ee := by
  have hwd : Region.wanted op (yielded ops a.tmps) = true := by simp [Region.wanted, hgd]
  rw [if_pos hwd]
  unfold Oper.wp
  rw [he, Oper.upon_enter]
  refine C.mono fun e w' h => ?_
  obtain ⟨ht, ⟨vx, vy, rfl, hv⟩, hr'⟩ := h
  exact hK _ vx vy w' rfl ht hv hr'
theorem step_append_it {ops : Array Oper} {o : Oper} {a : Act} {w : World} {K : Act → World → Prop} {Q : Exit → Act → World → Prop} {E : Prop} {z : Nat} (w0 : World) (B : Nat) (hgd : o.guard = none) (s x : Operand)
    (hop : o.op = Op.call { callee := Callee.builtin Builtin.append, args := #[s, x], argTypes := #[23, 23] }) (v : Value) (l : List It3) (i : It) (vx vy : Value) (Y : Array Value) (hY : Y = (itC i vx vy).toArray) (hw : w = w0.alloc (.cells Y 53)) (hs : a.eval s = v) (h : IaO B z w0 v l)
    (hq : ItQ (fun b => B ≤ b ∧ v.ownBlock ≠ some b) z w0 i vx vy) (hl : l.length + 1 ≤ 1000000) (hB : B ≤ w0.heap.size)
    (hx : a.eval x = .slice (some ⟨w0.heap.size, 0, none⟩) 1 1)
    (hK : ∀ a' c' w' k, IaO B z w' (.slice a' (l.length + 1) c') (l ++ [(i, vx, vy)]) → B ≤ k → Turn [k] w0 w' → K (a.put o.dst (.slice a' (l.length + 1) c')) w') :
    if Region.wanted o (yielded ops a.tmps) = true then Oper.wp Tryz.prog o a w K Q else E := by
  have hwd : Region.wanted o (yielded ops a.tmps) = true := by simp [Region.wanted, hgd]
  rw [if_pos hwd]
  have hYf : Y = (flI [(i, vx, vy)]).toArray := by rw [hY]; simp [flI]
  rw [hYf] at hw
  subst hw
  have h1 : ∀ u ∈ flI [(i, vx, vy)], u.oneCell' = true := by
    have ho : (itC i vx vy).toArray.all (·.oneCell') = true := by
      obtain ⟨a1, c1, rfl, -, -⟩ := hq.sx.parts.shape
      obtain ⟨a2, c2, rfl, -, -⟩ := hq.sy.parts.shape
      kernel_rfl
    exact fun u hu => Array.all_eq_true_iff_forall_mem.1 ho u (by simpa [flI] using hu)
  obtain ⟨i0, hi, hz0, hz1, hz2⟩ := info_parts info_it2
  obtain ⟨v', w', hrun, ho, hg, _, hb⟩ := run_append_own_at (P := Tryz.prog) (w0.alloc (.cells (flI [(i, vx, vy)]).toArray 53)) B 23 o.type 53 i0 _ 19 216 Tryz.underlying23 hi hz0 hz1 hz2 rfl (by decide) v l.length (flI l) (h.own.alloc _) ⟨w0.heap.size, 0, none⟩ 1 1 (flI [(i, vx, vy)]) (flI_len _)
    (fun j u hj => by
      have hadd : (⟨w0.heap.size, 0, none⟩ : Addr).add j = ⟨w0.heap.size, j, none⟩ := by unfold Addr.add; split <;> simp_all
      rw [hadd]
      exact (Box.new w0 (flI [(i, vx, vy)]) 53).cell j u hj)
    h1 (by unfold maxLen; omega) (by omega) (by simp; omega)
  obtain ⟨a', c', rfl⟩ := own_val ho
  unfold Oper.wp
  simp [execOp, hop, resolve, invoke, builtin, hs, hx, hrun, Result.andThen]
  obtain ⟨k, hk1, hk3⟩ : ∃ k, B ≤ k ∧ ∀ q, v.ownBlock = some q → q ∈ [k] := by
    rcases hv : v.ownBlock with _ | q
    · exact ⟨w0.heap.size, hB, fun q hq => by cases hq⟩
    · exact ⟨q, (h.own.lt q hv).1, fun q' hq' => by cases hq'; simp⟩
  exact hK a' c' w' k (h.grows (qs := [(i, vx, vy)]) (fun p hp => by obtain rfl := List.mem_singleton.1 hp; exact hq) _ ho hg hb) hk1 (own_turnG rfl hg [k] hk3)
/-- The kind of the last item of a row. -/
theorem IaO.last {B z : Nat} {w : World} {a : Option Addr} {n c : Nat} {l : List It3} {p : It3} (h : IaO B z w (.slice a n c) (l ++ [p])) : n = l.length + 1 ∧ n ≤ c ∧ c ≤ 9223372036854775807 ∧ ∃ q, a = some ⟨q, 0, none⟩ ∧ q < w.heap.size ∧ B ≤ q ∧ w.cell? ⟨q, l.length * 19, none⟩ = some (.int .i64 p.1.kind) := by
  obtain ⟨h1, h2⟩ := h.own
  rcases h2 with ⟨h2, h3⟩ | ⟨g, cap, cur, h2, h3, h4, h5, h6, h7, h8⟩
  · simp at h3
  · cases h2
    have hg := (Array.getElem?_eq_some_iff.1 h4).1
    refine ⟨by simp, h5, by unfold maxLen at h6; omega, g, rfl, hg, h3, ?_⟩
    have h9 : (flI (l ++ [p]))[l.length * 19 + 0]? = some (.int .i64 p.1.kind) := (flI_get (l ++ [p]) l.length 0 (by omega) (by simp)).trans (by simp)
    rw [← h8, List.getElem?_take] at h9
    split at h9
    · rw [Array.getElem?_toList] at h9
      unfold World.cell?
      simp only [h4]
      simpa using h9
    · cases h9
end Go.Proofs.YtecdfnpbcabdnaaGreatDoor
