/- What bounds the texts of a term among the arguments. -/
import Derived.Test.YtdikeicnefgjcaaDoorRows
import Derived.Test.YtdikeicnefgjcaaDoorTrO
import Derived.SizedLaws
namespace Go.Proofs.YtdikeicnefgjcaaDoor
open Go.RowKit

theorem bulk_mem {H : Type} : ∀ (q : List (DataW H)) (d : DataW H), d ∈ q → Rows.uptoBulk d ≤ Rows.uptoBulkAll q
  | [], d, h => by cases h
  | x :: r, d, h => by
    simp only [Rows.uptoBulkAll]
    rcases List.mem_cons.1 h with rfl | h
    · omega
    · have := bulk_mem r d h; omega
theorem down_upto {H : Type} : Down (H := H) 1048576 (fun _ d => Rows.uptoBulk d ≤ 1048576) where
  str := fun l h => by simp only [Rows.uptoBulk] at h; omega
  agg := fun d0 d1 d2 d3 d4 d5 h => by simp only [Rows.uptoBulk, Rows.uptoBulkAll] at h; exact ⟨by omega, by omega⟩
  sli := fun e s h x hx => by
    simp only [Rows.uptoBulk] at h
    have := bulk_mem e x hx
    show Rows.uptoBulk x ≤ _
    omega
theorem weights_all {H : Type} {P : Program} {e : TypeId} : ∀ (q : List (DataW H)) (d : DataW H), d ∈ q → ∀ n, n ∈ d.weights P e → n ∈ DataW.weightsAll P e q
  | [], d, h, _, _ => by cases h
  | x :: r, d, h, n, hn => by
    simp only [DataW.weightsAll, List.mem_append]
    rcases List.mem_cons.1 h with rfl | h
    · exact .inl hn
    · exact .inr (weights_all r d h n hn)
theorem down_said {H : Type} : Down (H := H) 140737488351232 (fun t d => ∀ n, n ∈ d.weights Tryd.prog t → n ≤ 140737488351232) where
  str := fun l h => h _ (by simp [DataW.weights])
  agg := fun d0 d1 d2 d3 d4 d5 h => by
    simp only [DataW.weights, Tryd.underlying24] at h
    exact ⟨fun n hn => h n (by simp [DataW.weightsEach, hn]), fun n hn => h n (by simp [DataW.weightsEach, hn])⟩
  sli := fun e s h x hx n hn => by
    simp only [DataW.weights, Tryd.underlying22] at h
    exact h n (List.mem_cons_of_mem _ (List.mem_append_left _ (weights_all e x hx n hn)))
theorem said_arg {H : Type} {ts : List TypeId} {ds : List (DataW H)} (h : (DataW.weightsEach Tryd.prog ts ds).all (· ≤ reachBytes) = true) {j : Nat} {t : TypeId} {d : DataW H} (ht : ts[j]? = some t) (hd : ds[j]? = some d) : ∀ n, n ∈ d.weights Tryd.prog t → n ≤ 140737488351232 := fun n hn => by
  have := List.all_eq_true.1 h n (DataW.weights_mem_each ht hd n hn)
  have e : reachBytes = 140737488351232 := rfl
  rw [← e]
  simpa using this
theorem laidOut : laidOutB Tryd.prog = true := by kernel_rfl
end Go.Proofs.YtdikeicnefgjcaaDoor
