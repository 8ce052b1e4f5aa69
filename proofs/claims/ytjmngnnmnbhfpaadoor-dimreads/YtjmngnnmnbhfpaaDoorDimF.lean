/- Package dim: the table of the units' names, and find, which looks a name up in it. -/
import Derived.Test.YtjmngnnmnbhfpaaDoorDimQ
import Derived.Test.YtjmngnnmnbhfpaaDoorDimG
import Derived.Deep.MidRow
namespace Go.Proofs.YtjmngnnmnbhfpaaDoor
open Go.RowKit

/-- A unit. -/
structure U5 where
  num : Int
  den : Int
  dim : D5
/-- As a Go value (flat). -/
abbrev unitV (u : U5) : Value := .agg #[.int .i64 u.num, .int .i64 u.den, .int .i64 u.dim.a, .int .i64 u.dim.b, .int .i64 u.dim.c, .int .i64 u.dim.d, .int .i64 u.dim.e]
def unit0 : U5 := ⟨0, 0, dim0⟩
/-- The table. -/
def tab : List (List UInt8 × U5) := [
  ([111, 110, 101], ⟨1, 1, ⟨0, 0, 0, 0, 0⟩⟩),
  ([112, 99, 116], ⟨1, 100, ⟨0, 0, 0, 0, 0⟩⟩),
  ([115], ⟨1, 1, ⟨1, 0, 0, 0, 0⟩⟩),
  ([109, 115], ⟨1, 1000, ⟨1, 0, 0, 0, 0⟩⟩),
  ([109, 105, 110], ⟨60, 1, ⟨1, 0, 0, 0, 0⟩⟩),
  ([104], ⟨3600, 1, ⟨1, 0, 0, 0, 0⟩⟩),
  ([100], ⟨86400, 1, ⟨1, 0, 0, 0, 0⟩⟩),
  ([114, 101, 113], ⟨1, 1, ⟨0, 1, 0, 0, 0⟩⟩),
  ([107, 114, 101, 113], ⟨1000, 1, ⟨0, 1, 0, 0, 0⟩⟩),
  ([66], ⟨1, 1, ⟨0, 0, 1, 0, 0⟩⟩),
  ([107, 66], ⟨1000, 1, ⟨0, 0, 1, 0, 0⟩⟩),
  ([77, 66], ⟨1000000, 1, ⟨0, 0, 1, 0, 0⟩⟩),
  ([75, 105, 66], ⟨1024, 1, ⟨0, 0, 1, 0, 0⟩⟩),
  ([77, 105, 66], ⟨1048576, 1, ⟨0, 0, 1, 0, 0⟩⟩),
  ([71, 105, 66], ⟨1073741824, 1, ⟨0, 0, 1, 0, 0⟩⟩),
  ([114, 101, 112], ⟨1, 1, ⟨0, 0, 0, 1, 0⟩⟩),
  ([99, 111, 114, 101], ⟨1, 1, ⟨0, 0, 0, 0, 1⟩⟩),
  ([109, 99, 111, 114, 101], ⟨1, 1000, ⟨0, 0, 0, 0, 1⟩⟩)]
def rowCells (r : List UInt8 × U5) : List Value := [.string ⟨r.1.toArray⟩, .int .i64 r.2.num, .int .i64 r.2.den, .int .i64 r.2.dim.a, .int .i64 r.2.dim.b, .int .i64 r.2.dim.c, .int .i64 r.2.dim.d, .int .i64 r.2.dim.e]
def tabCells : List Value := tab.flatMap rowCells
/-- The table as a Go value. -/
def namesV : Value := .agg tabCells.toArray
/-- The table lies where the program's text lays it. -/
def NamesAt (w : World) : Prop := w.rangeAt 1 0 tabCells ∧ 1 < w.heap.size
theorem NamesAt.later {w w' : World} (h : NamesAt w) (hb : Below w.heap.size w w') : NamesAt w' :=
  ⟨fun j v hv => (hb.cell (p := ⟨1, 0 + j, none⟩) h.2).trans (h.1 j v hv), Nat.lt_of_lt_of_le h.2 hb.size⟩
theorem NamesAt.load {w : World} (h : NamesAt w) : (Instr.loadAt 105 (.pointer (some ⟨1, 0, none⟩))).run Tryd.prog w = .ok namesV w :=
  run_loadAt_mid w 1 0 105 tabCells _ h.1 Tryd.underlying105 rfl (by kernel_rfl)

/-- The row k of the table. -/
def nameOf (k : Nat) : List UInt8 := (tab.getD k ([], unit0)).1
def unitOf (k : Nat) : U5 := (tab.getD k ([], unit0)).2

def nameS (k : Nat) : ByteArray := ⟨(nameOf k).toArray⟩
set_option maxRecDepth 10000 in
theorem idx_names (k : Nat) (h : k < 18) (w : World) : (Instr.index 105 (.agg tabCells.toArray) (.int .i64 k)).run Tryd.prog w =
    .ok (.agg #[.string (nameS k), .int .i64 (unitOf k).num, .int .i64 (unitOf k).den, .int .i64 (unitOf k).dim.a, .int .i64 (unitOf k).dim.b, .int .i64 (unitOf k).dim.c, .int .i64 (unitOf k).dim.d, .int .i64 (unitOf k).dim.e]) w := by
  rcases (show k = 0 ∨ k = 1 ∨ k = 2 ∨ k = 3 ∨ k = 4 ∨ k = 5 ∨ k = 6 ∨ k = 7 ∨ k = 8 ∨ k = 9 ∨ k = 10 ∨ k = 11 ∨ k = 12 ∨ k = 13 ∨ k = 14 ∨ k = 15 ∨ k = 16 ∨ k = 17 by omega) with rfl | rfl | rfl | rfl | rfl | rfl | rfl | rfl | rfl | rfl | rfl | rfl | rfl | rfl | rfl | rfl | rfl | rfl
  all_goals kernel_rfl

def findS (l : List UInt8) : Option U5 := (tab.find? fun r => r.1 == l).map (·.2)
def findV (o : Option U5) : Value := .tuple #[unitV (o.getD unit0), .bool o.isSome]
theorem find_hit (l : List UInt8) (k : Nat) (hk : k < 18) (h : (tab.drop k).find? (fun r => r.1 == l) = tab.find? fun r => r.1 == l) (e : nameOf k = l) : findS l = some (unitOf k) := by
  unfold findS
  have hl : k < tab.length := hk
  rw [← h, List.drop_eq_getElem_cons hl, List.find?_cons]
  have e1 : tab[k] = tab.getD k ([], unit0) := by rw [List.getD_eq_getElem?_getD, List.getElem?_eq_getElem hl]; rfl
  unfold nameOf at e
  rw [e1, e, beq_self_eq_true]
  rfl
theorem find_miss (l : List UInt8) (k : Nat) (hk : k < 18) (h : (tab.drop k).find? (fun r => r.1 == l) = tab.find? fun r => r.1 == l) (e : nameOf k ≠ l) : (tab.drop (k + 1)).find? (fun r => r.1 == l) = tab.find? fun r => r.1 == l := by
  have hl : k < tab.length := hk
  rw [← h, List.drop_eq_getElem_cons hl, List.find?_cons]
  have e1 : tab[k] = tab.getD k ([], unit0) := by rw [List.getD_eq_getElem?_getD, List.getElem?_eq_getElem hl]; rfl
  unfold nameOf at e
  rw [e1, beq_eq_false_iff_ne.2 e]
theorem find_none (l : List UInt8) (h : (tab.drop 18).find? (fun r => r.1 == l) = tab.find? fun r => r.1 == l) : findS l = none := by
  unfold findS
  rw [← h]
  rfl

set_option maxHeartbeats 1000000 in
theorem find_any (s : ByteArray) (w : World) (hN : NamesAt w) :
    Calls Tryd.prog 39 #[.string s] w fun e w' => e = .returned (findV (findS s.data.toList)) ∧ Below w.heap.size w w' := by
  have hr := (hN.later ((Below.refl _ _).alloc (Nat.le_refl _) (.cells #[.int .i64 0, .int .i64 0, .int .i64 0, .int .i64 0, .int .i64 0, .int .i64 0, .int .i64 0] 26))).1
  have bl0 : Below w.heap.size w (w.alloc (.cells #[.int .i64 0, .int .i64 0, .int .i64 0, .int .i64 0, .int .i64 0, .int .i64 0, .int .i64 0] 26)) := (Below.refl _ _).alloc (Nat.le_refl _) _
  go_enter Tryd.func39, Tryd.ntmps39
  go_wp2_with (first | (refine wpList_load_mid rfl 105 _ rfl 1 0 rfl tabCells _ hr Tryd.underlying105 rfl (by kernel_rfl) ?_))
  go_loopw [7] (fun i wr => ∃ k : Nat, i = .int .i64 k ∧ k ≤ 18 ∧ (tab.drop k).find? (fun r => r.1 == s.data.toList) = tab.find? (fun r => r.1 == s.data.toList) ∧ Below (w.heap.size + 1) (w.alloc (.cells #[.int .i64 0, .int .i64 0, .int .i64 0, .int .i64 0, .int .i64 0, .int .i64 0, .int .i64 0] 26)) wr) (fun i _ => 18 - (intOf i).toNat)
  case atStart => exact ⟨0, rfl, by decide, rfl, by simpa using Below.refl _ _⟩
  case round =>
    obtain ⟨k, rfl, hk, he, bl⟩ := hrel
    by_cases hlt : k < 18
    · have hi := idx_names k hlt
      have hn : (nameS k).toList = nameOf k := by unfold nameS; rw [ByteArray.toList_mk]
      have k1 : (k : Int) < 18 := by omega
      by_cases hq : nameOf k = s.data.toList
      · have F : Hid _ := find_hit _ k hlt he hq
        have e1 : ((nameS k).toList == s.toList) = true := by rw [hn, hq, ByteArray.toList_eq]; exact beq_self_eq_true _
        have HE : Hid _ := he
        clear he hn
        generalize unitOf k = u at *
        generalize nameS k = nm at *
        have bx := ((Box.new w [.int .i64 0, .int .i64 0, .int .i64 0, .int .i64 0, .int .i64 0, .int .i64 0, .int .i64 0] 26).later bl (by omega)).next ((Below.refl _ _).alloc (Nat.le_refl _) (.cells #[.string nm, .int .i64 u.num, .int .i64 u.den, .int .i64 u.dim.a, .int .i64 u.dim.b, .int .i64 u.dim.c, .int .i64 u.dim.d, .int .i64 u.dim.e] 104))
        obtain ⟨o0, o1, o2, o3, o4, o5, o6, g0, g1, g2, g3, g4, g5, g6⟩ := bx.seven
        clear bx
        go_wp2_with fail
        refine bodyPost_ret (v := .tuple #[unitV u, .bool true]) (by simp [results, Tryd.results39, go_sem, o0, o1, o2, o3, o4, o5, o6]) rfl ⟨by rw [F.out]; rfl, ?_⟩
        have b0 := bl.size
        exact below_seven ((bl0.trans (bl.mono (by simp))).alloc (by have := b0; simp at this; omega) _) (Nat.le_refl _) _ _ _ _ _ _ _
      · have F := find_miss _ k hlt he hq
        have e1 : ((nameS k).toList == s.toList) = false := by rw [hn, ByteArray.toList_eq]; exact beq_eq_false_iff_ne.2 hq
        have HF : Hid _ := F
        clear he hn F
        generalize unitOf k = u at *
        generalize nameS k = nm at *
        go_wp2_with fail
        go_roundw
        case rel => exact ⟨k + 1, by go_num, by omega, HF.out, bl.alloc (by have := bl.size; simp at this; omega) _⟩
        case measure => simp [intOf]; omega
    · obtain rfl : k = 18 := by omega
      have F : Hid _ := find_none _ he
      clear he
      have bx := (Box.new w [.int .i64 0, .int .i64 0, .int .i64 0, .int .i64 0, .int .i64 0, .int .i64 0, .int .i64 0] 26).later bl (by omega)
      obtain ⟨o0, o1, o2, o3, o4, o5, o6, g0, g1, g2, g3, g4, g5, g6⟩ := bx.seven
      clear bx
      go_wp2_with fail
      refine bodyPost_ret (v := .tuple #[unitV unit0, .bool false]) (by simp [results, Tryd.results39, go_sem, unit0, dim0, o0, o1, o2, o3, o4, o5, o6]) rfl ⟨by rw [F.out]; rfl, ?_⟩
      exact below_seven (bl0.trans (bl.mono (by simp))) (Nat.le_refl _) _ _ _ _ _ _ _
end Go.Proofs.YtjmngnnmnbhfpaaDoor
