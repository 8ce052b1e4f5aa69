import Derived.Test.YtigldebdljfnbaaDoorMgB
import Derived.Test.YtigldebdljfnbaaDoorMoM
import Derived.Test.YtigldebdljfnbaaDoorMjB
import Derived.Test.YtigldebdljfnbaaDoorMgC
import Derived.Lib.LazyBuf
import Derived.Test.YtigldebdljfnbaaDoorMgM
import Derived.Test.YtigldebdljfnbaaDoorMgP
import Derived.Deep.AppendLies
import Derived.Deep.RegionLaw
namespace Go.Proofs.YtigldebdljfnbaaDoor
open Go.RowKit

theorem turn_tr {S : List Nat} {w w' w'' : World} (h : Turn S w w') (k : Turn S w' w'') : Turn S w w'' := h.trans k (fun _ hi => .inl hi)
def CWt : Co → Prop
  | ⟨_, _, _, ps⟩ => ps.length * 48 ≤ 140737488355328 ∧ ∀ x (h : x ∈ ps), (have : SizeOf.sizeOf x < SizeOf.sizeOf ps := List.sizeOf_lt_of_mem h; CWt x)
theorem cwt_iff {t : Co} : CWt t ↔ t.parts.length * 48 ≤ 140737488355328 ∧ ∀ x, x ∈ t.parts → CWt x := by
  cases t
  rw [CWt]




def rowsF (cs : Nat → List Value) (n : Nat) : List Value := ((List.range n).map cs).flatten
theorem rowsF_succ (cs : Nat → List Value) (n : Nat) : rowsF cs (n + 1) = rowsF cs n ++ cs n := by simp [rowsF, List.range_succ]
theorem rowsF_len {cs : Nat → List Value} {k : Nat} (h : ∀ i, (cs i).length = k) (n : Nat) : (rowsF cs n).length = n * k := by
  induction n with
  | zero => simp [rowsF]
  | succ n ih => rw [rowsF_succ, List.length_append, ih, h, Nat.succ_mul]
theorem rowsF_at {cs : Nat → List Value} {k : Nat} (h : ∀ i, (cs i).length = k) (n : Nat) : ∀ i j u, i < n → (cs i)[j]? = some u → (rowsF cs n)[i * k + j]? = some u := by
  induction n with
  | zero => intro i j u hi; omega
  | succ n ih =>
    intro i j u hi hu
    have hj : j < k := by have := (List.getElem?_eq_some_iff.1 hu).1; rw [h] at this; exact this
    rw [rowsF_succ]
    by_cases e : i < n
    · have hb : i * k + j < n * k := by
        have : (i + 1) * k ≤ n * k := Nat.mul_le_mul_right k e
        rw [Nat.succ_mul] at this
        omega
      rw [List.getElem?_append_left (by rw [rowsF_len h]; exact hb)]
      exact ih i j u e hu
    · have e2 : i = n := by omega
      subst e2
      rw [List.getElem?_append_right (by rw [rowsF_len h]; omega), rowsF_len h]
      rw [show i * k + j - i * k = j by omega]
      exact hu
theorem rows_of_own {w : World} {B n k : Nat} {e : TypeId} {v : Value} {cs : Nat → List Value} (hl : ∀ i, (cs i).length = k) (h : w.ownsRow B e k v n (rowsF cs n)) : RowsK w v n k cs := by
  obtain ⟨h1, ⟨h2, h3⟩ | ⟨g, cap, cur, h2, h3, h4, h5, h6, h7, h8⟩⟩ := h
  · exact ⟨none, 0, by rw [h2, h3], by omega, by omega, .inl h3⟩
  · have BX : Box w g (rowsF cs n) := (Box.ofBlock h4).part (by rw [← h8]; exact List.take_prefix _ _)
    refine ⟨_, cap, h2, h5, h6, .inr ⟨g, 0, rfl, BX.lt, fun i hi j x hx => ?_⟩⟩
    have := BX.cell (i * k + j) x (rowsF_at hl n i j x hi hx)
    simpa using this


theorem own_shape {w : World} {B : Nat} {e : TypeId} {size n : Nat} {v : Value} {xs : List Value} (h : w.ownsRow B e size v n xs) : ∃ a c, v = .slice a n c := by
  obtain ⟨-, ⟨h2, h3⟩ | ⟨g, cap, cur, h2, -⟩⟩ := h
  · exact ⟨none, 0, by rw [h2, h3]⟩
  · exact ⟨_, _, h2⟩
theorem own_low {w : World} {B : Nat} {e : TypeId} {size n : Nat} {v : Value} {xs : List Value} (B' : Nat) (h : w.ownsRow B e size v n xs) (hb : B' ≤ B) : w.ownsRow B' e size v n xs := by
  obtain ⟨h1, h2 | ⟨g, cap, cur, h2, h3, h4⟩⟩ := h
  · exact ⟨h1, .inl h2⟩
  · exact ⟨h1, .inr ⟨g, cap, cur, h2, Nat.le_trans hb h3, h4⟩⟩
structure PWt (p : PlP) : Prop where
  me : p.mets.length * 16 ≤ 140737488355328
  st : ∀ x, x ∈ p.mets → x.size ≤ 140737488355328
  wi : p.wins.length * 32 ≤ 140737488355328
  cr : p.crons.length * 40 ≤ 140737488355328
  gs : p.gs.length * 96 ≤ 140737488355328
  co : ∀ x, x ∈ p.gs → CWt x.1 ∧ CWt x.2
  fi : CWt p.fin
end Go.Proofs.YtigldebdljfnbaaDoor
