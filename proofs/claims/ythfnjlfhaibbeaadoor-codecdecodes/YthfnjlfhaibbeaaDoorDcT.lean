/- Package codec: laws walked. -/
import Derived.Test.YthfnjlfhaibbeaaDoorDcR
namespace Go.Proofs.YthfnjlfhaibbeaaDoor
open Go.RowKit

theorem bel3 {w a b : World} (h : Below w.heap.size w a) (k : Below a.heap.size a b) : Below w.heap.size w b := cbelow_on h k h.size
/-- What an encoded program's bytes are behind the call. -/
theorem enc_at {g : PgP} {w : World} {e : Ending} {w' : World} (h : EncP g w e w') : Below w.heap.size w w' ∧ ∃ v n, e = .returned (.tuple #[v, .int .i64 n]) ∧ ByAt w' v (if toldB g then encF g else []) ∧ n = (if toldB g then 0 else 1) := by
  obtain ⟨hb, h⟩ := h
  rcases h with ⟨ht, rfl⟩ | ⟨ht, v, rfl, hv⟩
  · exact ⟨hb, _, _, rfl, by rw [ht]; exact nil_rows _ _ _, by rw [ht]; rfl⟩
  · exact ⟨hb, v, _, rfl, by rw [ht]; exact hv.at, by rw [ht]; rfl⟩
end Go.Proofs.YthfnjlfhaibbeaaDoor
