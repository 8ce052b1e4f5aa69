/- LexBack: a row of bytes; two lists of tokens side by side. -/
import Derived.Test.YtecdfnpbcabdnaaGreatDoorLxX
import Derived.Lib.AppendStr
import Derived.Laws.IdiomStrings
import Derived.Laws.BytesArg
import Derived.Deep.RegionHeld3
namespace Go.Proofs.YtecdfnpbcabdnaaGreatDoor
open Go.RowKit Go.Lib

/-- A row of bytes. -/
abbrev Bys (w : World) (B : Nat) (v : Value) (l : List UInt8) : Prop := w.ownsRow B 5 1 v l.length (strCells ⟨l.toArray⟩)
theorem info_u8 : (Tryz.prog.info? 5).map (fun i => (i.zero, i.size, i.bytes)) = some (some (.int .u8 0), 1, 1) := by kernel_rfl
theorem bys_str {w : World} {B : Nat} {v : Value} {l : List UInt8} (h : Bys w B v l) : (convert 200 9 v).run Tryz.prog w = .ok (.string ⟨l.toArray⟩) w := by
  obtain ⟨h1, ⟨h2, h3⟩ | ⟨g, cap, cur, h2, h3, h4, h5, h6, h7, h8⟩⟩ := h
  · have : l = [] := List.eq_nil_of_length_eq_zero h3
    subst this
    subst h2
    exact run_convert_bytes_nil (P := Tryz.prog) (w := w) 200 5 Tryz.underlying200 Tryz.underlying5 0 0 9 Tryz.underlying9
  · subst h2
    refine run_convert_bytes_back (P := Tryz.prog) w 200 9 5 ⟨g, 0, none⟩ cap l Tryz.underlying200 Tryz.underlying5 Tryz.underlying9 (fun j hj => ?_)
    have hb : Box w g (strCells ⟨l.toArray⟩) := (Box.ofBlock h4).part (by rw [← h8]; exact List.take_prefix _ _)
    have := hb.cell j (.int .u8 (l[j].toNat : Int)) (by simp [strCells, List.getElem?_eq_getElem hj])
    rw [Addr.add]
    split
    · rename_i h0
      subst h0
      exact this
    · simpa using this
theorem bys_add {w : World} {B : Nat} {v : Value} {l : List UInt8} {x : ByteArray} (h : w.ownsRow B 5 1 v (l.length + x.size) (strCells ⟨l.toArray⟩ ++ strCells x)) : Bys w B v (l ++ x.data.toList) := by
  have e1 : (l ++ x.data.toList).length = l.length + x.size := by rw [List.length_append, ← Lib.size_eq]
  have e2 : strCells ⟨(l ++ x.data.toList).toArray⟩ = strCells ⟨l.toArray⟩ ++ strCells x := by simp [strCells]
  show w.ownsRow _ _ _ _ (l ++ x.data.toList).length _
  rw [e1, e2]
  exact h
theorem tks_get : ∀ (L : List Tk) (j : Nat) (t : Tk), L[j]? = some t → (tks L)[j * 4]? = some (.int .i64 t.kind) ∧ (tks L)[j * 4 + 1]? = some (.string t.text) ∧ (tks L)[j * 4 + 2]? = some (.int .i64 t.n) ∧ (tks L)[j * 4 + 3]? = some (.int .i64 (t.at_ : Nat))
  | [], _, _, h => by simp at h
  | q :: L, 0, t, h => by
    simp at h
    subst h
    exact ⟨rfl, rfl, rfl, rfl⟩
  | q :: L, j + 1, t, h => by
    have := tks_get L j t (by simpa using h)
    rw [show (j + 1) * 4 = j * 4 + 4 by omega]
    exact this
/-- The fields of a token in a list. -/
theorem toks_at {w : World} {g : Nat} {L : List Tk} (h : Box w g (tks L)) {j : Nat} {t : Tk} (hj : L[j]? = some t) : w.cell? ⟨g, j * 4, none⟩ = some (.int .i64 t.kind) ∧ w.cell? ⟨g, j * 4 + 1, none⟩ = some (.string t.text) ∧ w.cell? ⟨g, j * 4 + 2, none⟩ = some (.int .i64 t.n) ∧ w.cell? ⟨g, j * 4 + 3, none⟩ = some (.int .i64 (t.at_ : Nat)) := by
  obtain ⟨h0, h1, h2, h3⟩ := tks_get L j t hj
  exact ⟨h.cell _ _ h0, h.cell _ _ h1, h.cell _ _ h2, h.cell _ _ h3⟩
theorem toks_lt {w : World} {B : Nat} {v : Value} {L : List Tk} (h : Toks w B v L) : L.length ≤ 9223372036854775807 := by
  rcases h.2 with ⟨_, h3⟩ | ⟨g, cap, cur, h2, h3, h4, h5, h6, h7, h8⟩
  · rw [h3]; omega
  · unfold maxLen at h6; omega
set_option maxHeartbeats 4000000 in
/-- Cut, of a text of any size. -/
theorem cut_all (s : ByteArray) (w : World) (hT : TabsAt w) : Calls Tryz.prog 41 #[.string s] w (CutP s w) := by
  by_cases hlong : 1048576 < s.size
  · have hl : (1048576 : Int) < (s.size : Int) := by omega
    have hr : Hid (cutS s = ([], 0, 2)) := if_pos hlong
    have FIN : Hid (CutP s w (.returned (.tuple #[.slice none 0 0, .int .i64 0, .int .i64 2])) w) := by
      show CutP s w _ w
      unfold CutP
      rw [hr.out]
      exact ⟨_, rfl, rfl, Below.refl _ _⟩
    clear hT hr
    generalize CutP s w = Post at *
    go_enter Tryz.func41, Tryz.ntmps41
    go_wp2_with fail
    go_ret3
    exact FIN.out
  · exact cut_c s (by omega) w hT
end Go.Proofs.YtecdfnpbcabdnaaGreatDoor
