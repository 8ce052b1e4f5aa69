/- Items in memory, as the reader makes them: whole rows of cells stored and loaded. -/
import Derived.Test.YtecdfnpbcabdnaaGreatDoorPxI
import Derived.Test.YtecdfnpbcabdnaaGreatDoorPyP
import Derived.Test.YtecdfnpbcabdnaaGreatDoorTqM
import Derived.Laws.Tables
import Derived.Deep.WholeRow
namespace Go.Proofs.YtecdfnpbcabdnaaGreatDoor
open Go.RowKit Go.Lib

/-- A row of cells is written, one behind the other. -/
def putRow (w : World) (g : Nat) : Nat → List Value → World
  | _, [] => w
  | i, v :: r => putRow (w.setCell ⟨g, i, none⟩ v) g (i + 1) r
theorem putRow_turn (g : Nat) : ∀ (vs : List Value) (i : Nat) (w : World), Turn [g] w (putRow w g i vs)
  | [], _, w => Turn.refl _ w
  | v :: r, i, w => turn_one (turn_set w g i v) (putRow_turn g r (i + 1) _)
theorem putRow_box (g : Nat) : ∀ (vs : List Value) (i : Nat) (w : World) (L : List Value), Box w g L → i + vs.length = L.length → Box (putRow w g i vs) g (L.take i ++ vs)
  | [], i, w, L, h, hl => by
    have : L.take i ++ [] = L := by rw [List.append_nil, List.take_of_length_le (by simp at hl; omega)]
    rw [this]
    exact h
  | v :: r, i, w, L, h, hl => by
    have hi : i < L.length := by simp at hl; omega
    have h1 := putRow_box g r (i + 1) _ _ (h.set i hi v) (by simp at hl ⊢; omega)
    have h2 : (L.set i v).take (i + 1) ++ r = L.take i ++ v :: r := by
      rw [List.take_succ_eq_append_getElem (by simpa using hi), List.take_set_of_le (Nat.le_refl _)]
      simp
    rw [h2] at h1
    exact h1
theorem putRow_whole {w : World} {g : Nat} {L X : List Value} (h : Box w g L) (hl : X.length = L.length) : Box (putRow w g 0 X) g X := by
  have := putRow_box g X 0 w L h (by omega)
  simpa using this
theorem st_at (g : Nat) : ∀ (vs : List Value) (i : Nat) (w : World) (L : List Value), Box w g L → i + vs.length ≤ L.length → (∀ v ∈ vs, v.oneCell' = true) → (storeCells ⟨g, 0, none⟩ vs i).run Tryz.prog w = .ok () (putRow w g i vs)
  | [], _, w, _, _, _, _ => rfl
  | v :: r, i, w, L, h, hl, h1 => by
    have hi : i < L.length := by simp at hl; omega
    have hadd : (⟨g, 0, none⟩ : Addr).add i = ⟨g, i, none⟩ := by unfold Addr.add; split <;> simp_all
    have hst : (store ((⟨g, 0, none⟩ : Addr).add i) v).run Tryz.prog w = .ok () (w.setCell ⟨g, i, none⟩ v) := by
      rw [hadd, run_store Tryz.prog w _ v _ (h1 v (by simp)), h.cell i _ (List.getElem?_eq_getElem hi)]
      simp [h.free i hi]
    have ih := st_at g r (i + 1) (w.setCell ⟨g, i, none⟩ v) _ (h.set i hi v) (by simp at hl ⊢; omega) (fun x hx => h1 x (by simp [hx]))
    simp only [storeCells, Sem.run_bind, hst, Result.andThen_ok, ih]
    rfl
theorem ld_row {w : World} {g : Nat} {L : List Value} {X : Array Value} (h : Box w g L) (hX : X.toList = L) {n : Nat} (hn : n = L.length) : (loadCellsFrom ⟨g, 0, none⟩ 0 n #[]).run Tryz.prog w = .ok X w := by
  subst hn
  subst hX
  have := run_loadCells_list (P := Tryz.prog) w ⟨g, 0, none⟩ X.toList (fun j v hv => by
    have hadd : (⟨g, 0, none⟩ : Addr).add j = ⟨g, j, none⟩ := by unfold Addr.add; split <;> simp_all
    rw [hadd]
    exact h.cell j v hv)
  simpa [loadCells] using this
abbrev zs19 : List Value := [.int .i64 0, .string ⟨#[]⟩, .string ⟨#[]⟩, .int .i64 0, .int .i64 0, .int .i64 0, .int .i64 0, .string ⟨#[]⟩, .int .i64 0, .int .i64 0, .int .i64 0, .slice none 0 0, .int .i64 0, .string ⟨#[]⟩, .int .i64 0, .int .i64 0, .int .i64 0, .slice none 0 0, .int .i64 0]
/-- What an item's terms hold lies in memory, in blocks from B on; no text is longer than z. -/
structure ItB (B z : Nat) (w : World) (i : It) (vx vy : Value) : Prop where
  sx : SitB B z w i.x vx
  sy : SitB B z w i.y vy
  nm : i.name.size ≤ z
  un : i.unit.size ≤ z
abbrev VIt (B z : Nat) : It → Value → World → Prop := fun i v w' => ∃ vx vy, v = itA i vx vy ∧ ItB B z w' i vx vy
theorem turn_six_at (w : World) (g k : Nat) (v0 v1 v2 v3 v4 v5 : Value) : Turn [g] w ((((((w.setCell ⟨g, k, none⟩ v0).setCell ⟨g, k + 1, none⟩ v1).setCell ⟨g, k + 2, none⟩ v2).setCell ⟨g, k + 3, none⟩ v3).setCell ⟨g, k + 4, none⟩ v4).setCell ⟨g, k + 5, none⟩ v5) :=
  turn_one (turn_one (turn_one (turn_one (turn_one (turn_set _ _ _ _) (turn_set _ _ _ _)) (turn_set _ _ _ _)) (turn_set _ _ _ _)) (turn_set _ _ _ _)) (turn_set _ _ _ _)
theorem Box.six_at {w : World} {g : Nat} {L : List Value} (h : Box w g L) (k : Nat) (hk : k + 5 < L.length) (v0 v1 v2 v3 v4 v5 : Value) : Box ((((((w.setCell ⟨g, k, none⟩ v0).setCell ⟨g, k + 1, none⟩ v1).setCell ⟨g, k + 2, none⟩ v2).setCell ⟨g, k + 3, none⟩ v3).setCell ⟨g, k + 4, none⟩ v4).setCell ⟨g, k + 5, none⟩ v5) g ((((((L.set k v0).set (k + 1) v1).set (k + 2) v2).set (k + 3) v3).set (k + 4) v4).set (k + 5) v5) :=
  (((((h.set k (by omega) v0).set (k + 1) (by simp; omega) v1).set (k + 2) (by simp; omega) v2).set (k + 3) (by simp; omega) v3).set (k + 4) (by simp; omega) v4).set (k + 5) (by simp; omega) v5
theorem Box.cells_at {w : World} {g : Nat} {L : List Value} (h : Box w g L) (k : Nat) (v0 v1 v2 v3 v4 v5 : Value) (h0 : L[k]? = some v0) (h1 : L[k + 1]? = some v1) (h2 : L[k + 2]? = some v2) (h3 : L[k + 3]? = some v3) (h4 : L[k + 4]? = some v4) (h5 : L[k + 5]? = some v5) :
    w.cell? ⟨g, k, none⟩ = some v0 ∧ w.cell? ⟨g, k + 1, none⟩ = some v1 ∧ w.cell? ⟨g, k + 2, none⟩ = some v2 ∧ w.cell? ⟨g, k + 3, none⟩ = some v3 ∧ w.cell? ⟨g, k + 4, none⟩ = some v4 ∧ w.cell? ⟨g, k + 5, none⟩ = some v5 ∧ w.frozen? ⟨g, k, none⟩ = false ∧ w.frozen? ⟨g, k + 1, none⟩ = false ∧ w.frozen? ⟨g, k + 2, none⟩ = false ∧ w.frozen? ⟨g, k + 3, none⟩ = false ∧ w.frozen? ⟨g, k + 4, none⟩ = false ∧ w.frozen? ⟨g, k + 5, none⟩ = false := by
  have hl : ∀ i v, L[i]? = some v → i < L.length := fun i v hv => (List.getElem?_eq_some_iff.1 hv).1
  exact ⟨h.cell _ _ h0, h.cell _ _ h1, h.cell _ _ h2, h.cell _ _ h3, h.cell _ _ h4, h.cell _ _ h5, h.free _ (hl _ _ h0), h.free _ (hl _ _ h1), h.free _ (hl _ _ h2), h.free _ (hl _ _ h3), h.free _ (hl _ _ h4), h.free _ (hl _ _ h5)⟩
theorem nil_sits {Q : Nat → Prop} (z : Nat) (w : World) : SitQ Q z w nilM (.slice none 0 0) := sitb_leaf ⟨zero64, zero64, zero64, zero64, Nat.zero_le _⟩ rfl
theorem putRow_size (w : World) (g i : Nat) (vs : List Value) : w.heap.size ≤ (putRow w g i vs).heap.size := (putRow_turn g vs i w).size
/-- An item of its kind and its place alone. -/
abbrev it0 (k a : Int) : It := ⟨k, ⟨#[]⟩, ⟨#[]⟩, 0, 0, 0, ⟨0, ⟨#[]⟩, 0, 0, 0, []⟩, ⟨0, ⟨#[]⟩, 0, 0, 0, []⟩, a⟩
theorem build_it (k a : Int) (w : World) : (Instr.build 53 #[(0, .int .i64 k), (8, .int .i64 a)]).run Tryz.prog w = .ok (.agg (itC (it0 k a) (.slice none 0 0) (.slice none 0 0)).toArray) w :=
  run_build w _ _ _ (by kernel_rfl)
theorem wpList_it {ops : Array Oper} {rest : List Oper} {o : Oper} {a : Act} {Q : Exit → Act → World → Prop} {w : World} (hgd : o.guard = none) (x y : Operand) (ho : o.op = .build 53 #[(0, x), (8, y)]) (k p : Int) (hx : a.eval x = .int .i64 k) (hy : a.eval y = .int .i64 p)
    (X : Array Value) (hX : X = (itC (it0 k p) (.slice none 0 0) (.slice none 0 0)).toArray) (h : wpList Tryz.prog ops Q rest (a.put o.dst (.agg X)) w) : wpList Tryz.prog ops Q (o :: rest) a w := by
  refine wpList_plain hgd fun K hK => ?_
  subst hX
  unfold Oper.wp execOp
  have hb := build_it k p w
  simp only [ho, Sem.run_bind, List.map_toArray, List.map_cons, List.map_nil, hx, hy, hb, Result.andThen_ok]
  exact hK _ _ h
end Go.Proofs.YtecdfnpbcabdnaaGreatDoor
