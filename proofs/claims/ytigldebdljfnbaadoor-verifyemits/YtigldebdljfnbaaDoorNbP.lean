import Derived.Test.YtigldebdljfnbaaDoorNbN
import Derived.Test.YtigldebdljfnbaaDoorMgK
import Derived.Test.YtigldebdljfnbaaDoorMhL
import Derived.Test.YtigldebdljfnbaaDoorNbO
import Derived.Laws.IdiomCopy
import Derived.Deep.WholeRow
namespace Go.Proofs.YtigldebdljfnbaaDoor
open Go.RowKit

structure PgP where
  met : Int
  ru : RuP
  K : List Int
  wins : List WiP
  crons : List Cr
  loc : Int
  h : Int
  C : List Ins
structure PgV where
  k : Value
  wi : Value
  cr : Value
  c : Value
def pg0 : PgP := ⟨0, ⟨0, 0, 0, 0, 0⟩, [], [], [], 0, 0, []⟩
abbrev pgL (g : PgP) (v : PgV) : List Value := [.int .i64 g.met, .int .i64 g.ru.mn, .int .i64 g.ru.mx, .int .i64 g.ru.st, .int .i64 g.ru.up, .int .i64 g.ru.dn, v.k, v.wi, v.cr, .int .i64 g.loc, .int .i64 g.h, v.c]
abbrev pgV (g : PgP) (v : PgV) : Value := .agg (pgL g v).toArray
structure PgAt (w : World) (lo : Nat) (g : PgP) (v : PgV) : Prop where
  k : w.ownsRow lo 2 1 v.k g.K.length (flK g.K)
  wi : w.ownsRow lo 71 4 v.wi g.wins.length (rowsF (fun i => wiL (g.wins.getD i wi0)) g.wins.length)
  cr : w.ownsRow lo 75 5 v.cr g.crons.length (rowsF (fun i => crL (g.crons.getD i cr0)) g.crons.length)
  c : w.ownsRow lo 49 2 v.c g.C.length (flI g.C)
def progF (p : PlP) : PgP := ⟨p.mets.length, p.ru, (planM p.gs p.fin []).2, p.wins, p.crons, p.loc, (plHgt p : Nat), (planM p.gs p.fin []).1⟩
def largeB (g : PgP) : Bool := decide (16384 < g.C.length) || decide (16384 < g.K.length) || decide (4096 < g.h)
def emitF (q : Co → Co → Bool) (p : PlP) : PgP × Int := if formedP q p = false then (pg0, 1) else if largeB (progF p) = true then (pg0, 14) else (progF p, 0)
theorem pg0_at (w : World) (lo : Nat) : PgAt w lo pg0 ⟨.slice none 0 0, .slice none 0 0, .slice none 0 0, .slice none 0 0⟩ :=
  ⟨World.ownsRow_nil _ _ _ _, World.ownsRow_nil _ _ _ _, World.ownsRow_nil _ _ _ _, World.ownsRow_nil _ _ _ _⟩
theorem set12_turn (w : World) (g : Nat) (v0 v1 v2 v3 v4 v5 v6 v7 v8 v9 v10 v11 : Value) : Turn [g] w ((((((((((((w.setCell ⟨g, 0, none⟩ v0).setCell ⟨g, 1, none⟩ v1).setCell ⟨g, 2, none⟩ v2).setCell ⟨g, 3, none⟩ v3).setCell ⟨g, 4, none⟩ v4).setCell ⟨g, 5, none⟩ v5).setCell ⟨g, 6, none⟩ v6).setCell ⟨g, 7, none⟩ v7).setCell ⟨g, 8, none⟩ v8).setCell ⟨g, 9, none⟩ v9).setCell ⟨g, 10, none⟩ v10).setCell ⟨g, 11, none⟩ v11) :=
  cturn_one (cturn_one (cturn_one (cturn_one (cturn_one (cturn_one (cturn_one (cturn_one (cturn_one (cturn_one (cturn_one (cturn_set w g 0 v0) (cturn_set _ g 1 v1)) (cturn_set _ g 2 v2)) (cturn_set _ g 3 v3)) (cturn_set _ g 4 v4)) (cturn_set _ g 5 v5)) (cturn_set _ g 6 v6)) (cturn_set _ g 7 v7)) (cturn_set _ g 8 v8)) (cturn_set _ g 9 v9)) (cturn_set _ g 10 v10)) (cturn_set _ g 11 v11)
theorem below_one {w a b : World} {g : Nat} (h : Below w.heap.size w a) (t : Turn [g] a b) (hg : w.heap.size ≤ g) : Below w.heap.size w b := h.trans (t.below (fun k hk => by rw [List.mem_singleton.1 hk]; exact hg) h.size)
theorem bel_alloc (w : World) (o : Obj) : Below w.heap.size w (w.alloc o) := (Below.refl _ _).alloc (Nat.le_refl _) _
theorem plord_gN (p : PlP) : (plord p).length = gN p.gs + cnodes p.fin := by unfold plord gN cnodes; rw [List.length_append]

def in0 : Ins := (0, 0)
structure PgRd (w : World) (g : PgP) (v : PgV) : Prop where
  k : RowsK w v.k g.K.length 1 (fun i => [.int .i64 (g.K.getD i 0)])
  wi : WisAt w v.wi g.wins
  cr : CrsAt w v.cr g.crons
  c : RowsK w v.c g.C.length 2 (fun i => [.int .i64 (g.C.getD i in0).1, .int .i64 (g.C.getD i in0).2])
theorem PgRd.next {w w' : World} {g : PgP} {v : PgV} (h : PgRd w g v) (k : Below w.heap.size w w') : PgRd w' g v := ⟨h.k.next k, RowsK.next h.wi k, RowsK.next h.cr k, h.c.next k⟩
theorem rows_of_box {w : World} {lo n k : Nat} {e : TypeId} {v : Value} {xs : List Value} {cs : Nat → List Value} (h : w.ownsRow lo e k v n xs) (hx : ∀ i, i < n → ∀ j x, (cs i)[j]? = some x → xs[i * k + j]? = some x) : RowsK w v n k cs := by
  obtain ⟨-, ⟨h2, h3⟩ | ⟨g, cap, cur, h2, h3, h4, h5, h6, h7, h8⟩⟩ := h
  · exact ⟨none, 0, by rw [h2, h3], by omega, by omega, .inl h3⟩
  · have BX : Box w g xs := (Box.ofBlock h4).part (by rw [← h8]; exact List.take_prefix _ _)
    exact ⟨some ⟨g, 0, none⟩, cap, h2, h5, h6, .inr ⟨g, 0, rfl, BX.lt, fun i hi j x hj => by rw [Nat.zero_add]; exact BX.cell _ _ (hx i hi j x hj)⟩⟩
theorem PgAt.rd {w : World} {lo : Nat} {g : PgP} {v : PgV} (h : PgAt w lo g v) : PgRd w g v := by
  refine ⟨rows_of_box h.k (fun i hi j x hj => ?_), rows_of_own (fun _ => rfl) h.wi, rows_of_own (fun _ => rfl) h.cr, rows_of_box h.c (fun i hi j x hj => ?_)⟩
  · have hj0 : j = 0 := by have := (List.getElem?_eq_some_iff.1 hj).1; simp at this; omega
    subst hj0
    simp only [List.getElem?_cons_zero, Option.some.injEq] at hj
    subst hj
    simp [flK, hi, List.getD]
  · have hj2 : j = 0 ∨ j = 1 := by have := (List.getElem?_eq_some_iff.1 hj).1; simp at this; omega
    have hg : g.C[i]? = some (g.C.getD i in0) := by simp [List.getD, hi]
    rcases hj2 with rfl | rfl
    · simp only [List.getElem?_cons_zero, Option.some.injEq] at hj
      subst hj
      exact (flI_at g.C i _ hg).1
    · simp only [List.getElem?_cons_succ, List.getElem?_cons_zero, Option.some.injEq] at hj
      subst hj
      exact (flI_at g.C i _ hg).2
end Go.Proofs.YtigldebdljfnbaaDoor
