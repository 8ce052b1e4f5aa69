/- Package core: walk, with any visitor. -/
import Derived.Test.YtigldebdljfnbaaDoorMgC
namespace Go.Proofs.YtigldebdljfnbaaDoor
open Go.RowKit

theorem cpord_self (t : Co) : t ∈ cpord t := by rw [cpord_eq]; simp
theorem cpord_part {t x y : Co} (hx : x ∈ t.parts) (hy : y ∈ cpord x) : y ∈ cpord t := by
  rw [cpord_eq]
  exact List.mem_cons_of_mem _ (List.mem_flatten.2 ⟨_, List.mem_map.2 ⟨x, hx, rfl⟩, hy⟩)
section
variable {σ : Type} {W : World} {R : σ → List Nat → World → Prop} {vs : σ → Co → σ × Bool} {G : σ → Prop} {D : Co → Prop} {f : Nat} {q : Array Value}
end
end Go.Proofs.YtigldebdljfnbaaDoor
