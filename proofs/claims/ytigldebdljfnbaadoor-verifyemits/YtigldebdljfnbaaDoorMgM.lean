import Derived.Test.YtigldebdljfnbaaDoorMgP
import Derived.Test.YtigldebdljfnbaaDoorMgB
import Derived.Maps.OwnSet
import Derived.Maps.Views
import Derived.Test.YtigldebdljfnbaaDoorMhN
section
namespace Go.Proofs.YtigldebdljfnbaaDoor
open Go.RowKit

section
variable {σ : Type} {W : World} {R : σ → List Nat → World → Prop} {vs : σ → Co → σ × Bool} {G : σ → Prop} {D : Co → Prop} {f : Nat} {q : Array Value}
end
end Go.Proofs.YtigldebdljfnbaaDoor
end
section
namespace Go.Proofs.YtigldebdljfnbaaDoor
open Go.RowKit Go.ChangeMaps

end Go.Proofs.YtigldebdljfnbaaDoor
end
section
namespace Go.Proofs.YtigldebdljfnbaaDoor
open Go.RowKit

theorem PlAt.shapes {w : World} {p : PlP} {v : PlV} (h : PlAt w p v) : ∃ a1 c1 a2 c2 a3 c3 a4 c4 a5 c5, v = ⟨.slice a1 p.mets.length c1, .slice a2 p.wins.length c2, .slice a3 p.crons.length c3, .slice a4 p.gs.length c4, .slice a5 p.fin.parts.length c5⟩ ∧ p.mets.length ≤ 9223372036854775807 ∧ p.wins.length ≤ 9223372036854775807 ∧ p.crons.length ≤ 9223372036854775807 ∧ p.gs.length ≤ 9223372036854775807 := by
  obtain ⟨a1, c1, e1, u1, t1⟩ := RowsK.shape h.me
  obtain ⟨a2, c2, e2, u2, t2⟩ := RowsK.shape h.wi
  obtain ⟨a3, c3, e3, u3, t3⟩ := RowsK.shape h.cr
  obtain ⟨a4, c4, e4, u4, t4⟩ := h.gs.shape
  obtain ⟨a5, c5, e5, u5, t5⟩ := h.fi.parts.shape
  obtain ⟨me, wi, cr, gs, fi⟩ := v
  dsimp only at *
  exact ⟨a1, c1, a2, c2, a3, c3, a4, c4, a5, c5, by rw [e1, e2, e3, e4, e5], by omega, by omega, by omega, by omega⟩
end Go.Proofs.YtigldebdljfnbaaDoor
end
