/- Maps from numbers that a call has made: what they hold, told by a list. -/
import Derived.Test.YtaombbbblgfgdaaGreatDoorMgB
import Derived.Maps.OwnSet
import Derived.Maps.Views
namespace Go.Proofs.YtaombbbblgfgdaaGreatDoor
open Go.RowKit Go.ChangeMaps

abbrev heldR (v : Value) : Option (DataW Value × List MemPlace) := some (.held v, [])
/-- The block b is a map that holds what the list says, the newest first. -/
def MpAt (k : TypeId) (w : World) (b : Nat) (l : List (Int × Value)) : Prop := ∃ D : DataW Value, w.ownsMap Tryz.prog k heldR b l.length D ∧ ∀ n : Int, C64 n → Maps.has D (.int .i64 n) = (l.lookup n).isSome ∧ ∀ z : Value, D.atKey (.int .i64 n) (.held z) = .held ((l.lookup n).getD z)
theorem MpAt.made (k : TypeId) (w : World) : MpAt k (w.alloc (.map #[] 0)) w.heap.size [] :=
  ⟨_, World.ownsMap_made w Tryz.prog k heldR, fun _ _ => ⟨rfl, fun _ => rfl⟩⟩
theorem MpAt.lt {k : TypeId} {w : World} {b : Nat} {l : List (Int × Value)} (h : MpAt k w b l) : b < w.heap.size := by
  obtain ⟨D, hD, _⟩ := h
  exact hD.lt
theorem MpAt.same {k : TypeId} {w w' : World} {b : Nat} {l : List (Int × Value)} (h : MpAt k w b l) (hb : w'.heap[b]? = w.heap[b]?) : MpAt k w' b l := by
  obtain ⟨D, ⟨es, c, h1, h2⟩, h3⟩ := h
  exact ⟨D, ⟨es, c, hb.trans h1, h2⟩, h3⟩
theorem MpAt.next {k : TypeId} {w w' : World} {b : Nat} {l : List (Int × Value)} (h : MpAt k w b l) (hb : Below w.heap.size w w') : MpAt k w' b l := h.same (hb.block b h.lt)
theorem wf64 {n : Int} (h : C64 n) : (Lit.int .i64 n).wf = true := WalkArith.wf_i64 ⟨h.1, h.2⟩
theorem MpAt.look {k t e : TypeId} {w : World} {b : Nat} {l : List (Int × Value)} (h : MpAt k w b l) (hk : Tryz.prog.underlying k = some (.int .i64)) (ht : Tryz.prog.underlying t = some (.map k e)) {z : Value} (hz : (zeroValue e).run Tryz.prog w = .ok z w) {n : Int} (hn : C64 n) :
    (Instr.lookup t (.map (some b)) (.int .i64 n) true).run Tryz.prog w = .ok (.tuple #[(l.lookup n).getD z, .bool (l.lookup n).isSome]) w := by
  obtain ⟨D, hD, hl⟩ := h
  obtain ⟨v, ps, hr, hv⟩ := hD.look_ok (Maps.int_keyed hk) ht hz (zd := .held z) (zp := []) rfl (Maps.keyOf_int_mk hk (wf64 hn))
  obtain ⟨h1, h2⟩ := hl n hn
  rw [h2 z] at hv
  simp only [heldR, Option.some.injEq, Prod.mk.injEq, DataW.held.injEq] at hv
  rw [hr, h1, hv.1]
theorem MpAt.store {k t e : TypeId} {w : World} {b : Nat} {l : List (Int × Value)} (h : MpAt k w b l) (hk : Tryz.prog.underlying k = some (.int .i64)) (ht : Tryz.prog.underlying t = some (.map k e)) (hn : l.length < 9223372036854775807) {n : Int} (h64 : C64 n) (x : Value) :
    ∃ w', (Instr.mapUpdate t (.map (some b)) (.int .i64 n) x).run Tryz.prog w = .ok () w' ∧ MpAt k w' b ((n, x) :: l) ∧ Turn [b] w w' := by
  obtain ⟨D, hD, hl⟩ := h
  obtain ⟨w', hr, hD', hg⟩ := hD.update (Maps.int_keyed hk) ht hn (Maps.keyOf_int_mk hk (wf64 h64)) (d := .held x) (ps := []) rfl
  refine ⟨w', hr, ⟨_, hD', fun m hm => ?_⟩, ⟨hg.os, hg.tape, hg.output, hg.size, fun i hi hn => hg.block i hi (fun e => hn (by simp at e; simp [e]))⟩⟩
  by_cases he : m = n
  · subst he
    refine ⟨?_, fun z => ?_⟩
    · rw [Maps.has_put_same hD.isMap (show WideAt.IsKeyLit (.int .i64 m) from trivial)]; simp [List.lookup]
    · rw [Maps.atKey_put_same hD.isMap (show WideAt.IsKeyLit (.int .i64 m) from trivial)]; simp [List.lookup]
  · have hne : (Lit.int .i64 m) ≠ .int .i64 n := fun e => he (by cases e; rfl)
    have hb : (m == n) = false := by simpa using he
    obtain ⟨h1, h2⟩ := hl m hm
    refine ⟨?_, fun z => ?_⟩
    · rw [Maps.has_put_other hne, h1]; simp [List.lookup, hb]
    · rw [Maps.atKey_put_other hne, h2 z]; simp [List.lookup, hb]
end Go.Proofs.YtaombbbblgfgdaaGreatDoor
