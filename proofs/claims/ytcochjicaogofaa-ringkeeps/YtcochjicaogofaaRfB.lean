/- The document's ring: New, Push, Drop, At; two lists held against each other. -/
import Derived.Test.YtcochjicaogofaaRfA
namespace Go.Proofs.Ytcochjicaogofaa
open Go.RowKit

/-- The block rb is the document's ring, its list in the block g. -/
structure RefIs (w : World) (rb g room : Nat) (lv : Value) (L : List Int) : Prop where
  box : Box w rb [.int .i64 (room : Nat), lv]
  sl : Sl w g lv L
  apart : g = rb → lv = .slice none 0 0
def Ref (w : World) (rb g room : Nat) (L : List Int) : Prop := ∃ lv, RefIs w rb g room lv L
theorem Ref.turn {S : List Nat} {w w' : World} {rb g room : Nat} {L : List Int} (h : Ref w rb g room L) (t : Turn S w w') (h1 : rb ∉ S) (h2 : g ∉ S) : Ref w' rb g room L := by
  obtain ⟨lv, h⟩ := h
  exact ⟨lv, h.box.turn t h1, h.sl.turn t h2, h.apart⟩
theorem Ref.next {w w' : World} {rb g room : Nat} {L : List Int} (h : Ref w rb g room L) (t : Below w.heap.size w w') : Ref w' rb g room L := h.turn (S := []) (Turn.of_below t) (by simp) (by simp)
theorem Ref.lt {w : World} {rb g room : Nat} {L : List Int} (h : Ref w rb g room L) : rb < w.heap.size := by obtain ⟨lv, h⟩ := h; exact h.box.lt
theorem Ref.glt {w : World} {rb g room : Nat} {L : List Int} (h : Ref w rb g room L) : g < w.heap.size := by obtain ⟨lv, h⟩ := h; exact h.sl.lt
/-- What is answered, and what the document's ring holds behind it. -/
def RLeaves (w : World) (rb g room : Nat) (L : List Int) (x : Int) (ok : Bool) (e : Ending) (w' : World) : Prop := ∃ g', e = .returned (.tuple #[.int .i64 x, .bool ok]) ∧ Ref w' rb g' room L ∧ Turn [rb, g] w w' ∧ (g' = g ∨ w.heap.size ≤ g')
def NewRef (w : World) (room : Nat) (e : Ending) (w' : World) : Prop := e = .returned (.tuple #[.pointer (some ⟨w.heap.size, 0, none⟩), .int .i64 0]) ∧ Ref w' w.heap.size w.heap.size room [] ∧ Below w.heap.size w w'
theorem fNew_yes (room : Nat) (w : World) (h1 : 1 ≤ room) (h2 : room ≤ 4096) :
    Calls Try.prog 9 #[.int .i64 (room : Nat)] w (NewRef w room) := by
  have a1 : ¬ (room : Int) < 1 := by omega
  have a2 : ¬ (4096 : Int) < (room : Int) := by omega
  go_enter Try.func9, Try.ntmps9
  go_wp2_with fail
  go_ret2
  exact ⟨rfl, ⟨.slice none 0 0, Box.new w [.int .i64 (room : Nat), .slice none 0 0] _, .inl ⟨rfl, rfl, by simp⟩, fun _ => rfl⟩, (Below.refl _ _).alloc (Nat.le_refl _) _⟩
theorem fNew_no (room : Int) (w : World) (h : room < 1 ∨ 4096 < room) :
    Calls Try.prog 9 #[.int .i64 room] w fun e w' => e = .returned (.tuple #[.pointer none, .int .i64 3]) ∧ w = w' := by
  by_cases a1 : room < 1
  · go_enter Try.func9, Try.ntmps9
    go_wp2_with fail
    go_ret2
    exact ⟨rfl, rfl⟩
  · have a2 : (4096 : Int) < room := by omega
    go_enter Try.func9, Try.ntmps9
    go_wp2_with fail
    go_ret2
    exact ⟨rfl, rfl⟩
theorem Sl.shape {w : World} {g : Nat} {lv : Value} {L : List Int} (h : Sl w g lv L) : ∃ a c, lv = .slice a L.length c := by
  rcases h with ⟨rfl, rfl, _⟩ | ⟨off, cap, e, _⟩
  · exact ⟨none, 0, rfl⟩
  · exact ⟨_, _, e⟩
theorem fDrop_no (rb g room : Nat) (w : World) (h : Ref w rb g room []) :
    Calls Try.prog 26 #[.pointer (some ⟨rb, 0, none⟩)] w fun e w' => e = .returned (.tuple #[.int .i64 0, .bool false]) ∧ w = w' := by
  obtain ⟨lv, h⟩ := h
  obtain ⟨a, c, rfl⟩ := h.sl.shape
  obtain ⟨c0, c1, f0, f1⟩ := h.box.two
  have hlt := h.box.lt
  simp only [List.length_nil] at c1
  go_enter Try.func26, Try.ntmps26
  go_wp2_with fail
  go_ret2
  exact ⟨rfl, rfl⟩
set_option maxRecDepth 20000 in
theorem fDrop_yes (rb g room : Nat) (x : Int) (L : List Int) (w : World) (h : Ref w rb g room (x :: L)) (hr : room ≤ 4096) (hl : (x :: L).length ≤ room) :
    Calls Try.prog 26 #[.pointer (some ⟨rb, 0, none⟩)] w (RLeaves w rb g room L x true) := by
  obtain ⟨lv, h⟩ := h
  rcases h.sl with ⟨_, e, _⟩ | ⟨off, cap, rfl, hs⟩
  · cases e
  have hgr : g ≠ rb := fun e => by have := h.apart e; cases this
  obtain ⟨c0, c1, f0, f1⟩ := h.box.two
  have hlt := h.box.lt
  have hx := hs.cell 0 x rfl
  rw [Nat.add_zero] at hx
  have hcap := hs.le
  obtain ⟨k, hk⟩ : ∃ k, k = (x :: L).length := ⟨_, rfl⟩
  have hk1 : k = L.length + 1 := by rw [hk]; simp
  rw [← hk] at c1 hcap
  have hk2 : ¬ (k : Int) = 0 := by omega
  have hk3 : 1 ≤ k := by omega
  have hk4 : (0 : Int) < (k : Int) := by omega
  have hkb : k ≤ 4096 := by omega
  have HH := hid h
  have HS := hid hs
  have HK1 := hid hk1
  have HK := hid hk
  clear h hs hk hk1
  by_cases hc1 : cap = 1
  · subst hc1
    have hk5 : k = 1 := by omega
    subst hk5
    go_enter Try.func26, Try.ntmps26
    go_wp2_with fail
    go_ret2
    have e0 : L = [] := List.eq_nil_of_length_eq_zero (by have := HK1.out; omega)
    subst e0
    refine ⟨g, rfl, ⟨.slice (some ⟨g, off, none⟩) 0 0, ?_, ?_, fun e => absurd e hgr⟩, Turn.set _ _ _ (by simp), .inl rfl⟩
    · simpa using HH.out.box.set 1 (by simp) (.slice (some ⟨g, off, none⟩) 0 0)
    · exact .inr ⟨off, 0, rfl, by simpa [World.setCell] using HS.out.lt, by simp, by simp, by simp, by simp, by simp [maxLen]⟩
  · have hc2 : ¬ (1 : Nat) = cap := fun e => hc1 e.symm
    go_enter Try.func26, Try.ntmps26
    go_wp2_with fail
    go_ret2
    have hkk := HK1.out
    subst hkk
    refine ⟨g, rfl, ⟨.slice (some ⟨g, off + 1, none⟩) L.length (cap - 1), ?_, ?_, fun e => absurd e hgr⟩, Turn.set _ _ _ (by simp), .inl rfl⟩
    · have := HH.out.box.set 1 (by simp) (.slice (some ⟨g, off + 1, none⟩) L.length (cap - 1))
      simpa using this
    · refine .inr ⟨off + 1, cap - 1, rfl, ?_⟩
      have hh := HS.out.turn (S := [rb]) (Turn.set w ⟨rb, 1, none⟩ (.slice (some ⟨g, off + 1, none⟩) L.length (cap - 1)) (by simp)) (by simpa using hgr)
      exact ⟨hh.lt, fun i y hy => by have := hh.cell (i + 1) y (by simpa using hy); rwa [show off + (i + 1) = off + 1 + i by omega] at this, fun i hi => by have := hh.spare (i + 1) (by omega); rwa [show off + (i + 1) = off + 1 + i by omega] at this, fun i hi => by have := hh.free (i + 1) (by omega); rwa [show off + (i + 1) = off + 1 + i by omega] at this, by omega, by have := hh.most; omega⟩
end Go.Proofs.Ytcochjicaogofaa
