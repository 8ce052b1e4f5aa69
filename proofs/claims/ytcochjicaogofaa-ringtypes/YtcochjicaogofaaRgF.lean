/- Rings of numbers: New, and what shows that the program is awake. -/
import Derived.Test.YtcochjicaogofaaRgE
namespace Go.Proofs.Ytcochjicaogofaa
open Go.RowKit

/-- A new ring, empty. -/
def NewRing (w : World) (room : Nat) (e : Ending) (w' : World) : Prop := e = .returned (.tuple #[.pointer (some ⟨w.heap.size, 0, none⟩), .int .i64 0]) ∧ Rg w' w.heap.size w.heap.size room [] ∧ Below w.heap.size w w'
theorem rg_new (w : World) (room : Nat) (t : TypeId) : Rg (w.alloc (.cells #[.int .i64 (room : Nat), .int .i64 0, .int .i64 0, .slice none 0 0] t)) w.heap.size w.heap.size room [] :=
  ⟨0, .slice none 0 0, [], Box.new w [.int .i64 (room : Nat), .int .i64 0, .int .i64 0, .slice none 0 0] t, .inl ⟨rfl, rfl, rfl⟩, by simp, by simp, .inr ⟨rfl, rfl⟩, by simp⟩
theorem rNew_yes (room : Nat) (w : World) (h1 : 1 ≤ room) (h2 : room ≤ 4096) :
    Calls Try.prog 8 #[.int .i64 (room : Nat)] w (NewRing w room) := by
  have a1 : ¬ (room : Int) < 1 := by omega
  have a2 : ¬ (4096 : Int) < (room : Int) := by omega
  go_enter Try.func8, Try.ntmps8
  go_wp2_with fail
  go_ret2
  exact ⟨rfl, rg_new w room _, (Below.refl _ _).alloc (Nat.le_refl _) _⟩
theorem rNew_no (room : Int) (w : World) (h : room < 1 ∨ 4096 < room) :
    Calls Try.prog 8 #[.int .i64 room] w fun e w' => e = .returned (.tuple #[.pointer none, .int .i64 3]) ∧ w = w' := by
  by_cases a1 : room < 1
  · go_enter Try.func8, Try.ntmps8
    go_wp2_with fail
    go_ret2
    exact ⟨rfl, rfl⟩
  · have a2 : (4096 : Int) < room := by omega
    go_enter Try.func8, Try.ntmps8
    go_wp2_with fail
    go_ret2
    exact ⟨rfl, rfl⟩
theorem Rg.start {w : World} {b q room : Nat} {L : List Int} {x : Int} {ok : Bool} {e : Ending} {w' : World} (h : Leaves w b q room L x ok e w') : ∃ q', e = .returned (.tuple #[.int .i64 x, .bool ok]) ∧ Rg w' b q' room L ∧ Turn [b, q] w w' ∧ (q' = q ∨ w.heap.size ≤ q') := h
set_option maxRecDepth 20000 in
theorem awake_any (w : World) : Calls Try.prog 7 #[] w fun e w' => e = .returned (.bool true) ∧ Below w.heap.size w w' := by
  go_enter Try.func7, Try.ntmps7
  go_wp2_with fail
  refine Calls.mono (rNew_yes 1 w (by decide) (by decide)) ?_
  rintro e w1 ⟨rfl, h1, hb1⟩
  have H1 := hid h1
  clear h1
  go_wp2_with fail
  refine Calls.mono (rPush_room _ _ 1 [] 5 w1 H1.out (by decide) (by decide)) ?_
  rintro e w2 ⟨q2, rfl, h2, t2, o2⟩
  have H2 := hid h2
  clear h2
  go_wp2_with fail
  refine Calls.mono (rPush_full _ _ 1 5 [] 6 w2 H2.out (by decide) (by decide)) ?_
  rintro e w3 ⟨q3, rfl, h3, t3, o3⟩
  have H3 := hid h3
  clear h3
  go_wp2_with fail
  refine Calls.mono (rLen _ _ 1 [6] w3 H3.out) ?_
  rintro e w4 ⟨rfl, rfl⟩
  go_wp2_with fail
  go_ret
  refine ⟨rfl, hb1.trans ((t2.below (B := w.heap.size) (by simp) hb1.size).trans (t3.below ?_ (Nat.le_trans hb1.size t2.size)))⟩
  intro k hk
  have := hb1.size
  simp at hk
  omega
end Go.Proofs.Ytcochjicaogofaa
