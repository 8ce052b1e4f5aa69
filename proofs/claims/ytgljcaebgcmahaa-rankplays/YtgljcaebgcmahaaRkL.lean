/- A rank of the call's own; what shows that the program is awake. -/
import Derived.Test.YtgljcaebgcmahaaRkX
namespace Go.Proofs.Ytgljcaebgcmahaa
open Go.RowKit

/-- A rank whose numbers rise, in memory from the block B on. -/
structure Own (B : Nat) (w : World) (b g : Nat) (S : List Int) : Prop where
  rk : Rk w b g S
  asc : Asc S
  own : B ≤ b ∧ B ≤ g
  start : B ≤ w.heap.size
theorem Own.next {B : Nat} {w w' : World} {b g : Nat} {S : List Int} (x : Own B w b g S) (t : Below w.heap.size w w') : Own B w' b g S := ⟨x.rk.next t, x.asc, x.own, Nat.le_trans x.start t.size⟩
theorem Own.turns {B : Nat} {w w' : World} {b g : Nat} {S S' : List Int} (x : Own B w b g S) (ha : Asc S') (t : Turns w b g S' w') : ∃ g', Own B w' b g' S' ∧ Below B w w' := by
  obtain ⟨g', h1, h2, h3⟩ := t
  have o := x.own
  have s := x.start
  have z := h2.size
  exact ⟨g', ⟨h1, ha, by omega, by omega⟩, h2.below (by simp; omega) s⟩
theorem oNew (w : World) (B : Nat) (hB : B ≤ w.heap.size) : Calls Try.prog 8 #[] w fun e w' => e = .returned (.pointer (some ⟨w.heap.size, 0, none⟩)) ∧ Own B w' w.heap.size w.heap.size [] ∧ Below w.heap.size w w' := by
  refine Calls.mono (rNew w) ?_
  rintro e w' ⟨rfl, h1, h2⟩
  exact ⟨rfl, ⟨h1, List.Pairwise.nil, ⟨hB, hB⟩, Nat.le_trans hB h2.size⟩, h2⟩
theorem oPut (B b g : Nat) (S : List Int) (v : Int) (w : World) (x : Own B w b g S) (hl : S.length < 17592186044415) :
    Calls Try.prog 9 #[.pointer (some ⟨b, 0, none⟩), .int .i64 v] w fun e w' => e = .returned (.tuple #[]) ∧ ∃ g', Own B w' b g' (ins v S) ∧ Below B w w' := by
  refine Calls.mono (rPut b g S v w x.rk x.asc hl) ?_
  rintro e w' ⟨rfl, h⟩
  exact ⟨rfl, x.turns (ins_asc x.asc v) h⟩
theorem oTake (B b g : Nat) (S : List Int) (v : Int) (w : World) (x : Own B w b g S) (hl : S.length < 17592186044415) (hv : v ∈ S) :
    Calls Try.prog 10 #[.pointer (some ⟨b, 0, none⟩), .int .i64 v] w fun e w' => e = .returned (.bool true) ∧ ∃ g', Own B w' b g' (rem v S) ∧ Below B w w' := by
  refine Calls.mono (rTake_yes b g S v w x.rk x.asc hl hv) ?_
  rintro e w' ⟨rfl, h⟩
  exact ⟨rfl, x.turns (rem_asc x.asc v) h⟩
set_option maxRecDepth 20000 in
set_option maxHeartbeats 1000000 in
theorem awake_any (w : World) : Calls Try.prog 7 #[] w fun e w' => e = .returned (.bool true) ∧ Below w.heap.size w w' := by
  go_enter Try.func7, Try.ntmps7
  go_wp2_with fail
  refine Calls.mono (oNew w w.heap.size (Nat.le_refl _)) ?_
  rintro e w1 ⟨rfl, h1, hb1⟩
  have H1 := hid h1
  clear h1
  go_wp2_with fail
  refine Calls.mono (oPut _ _ _ [] 5 w1 H1.out (by decide)) ?_
  rintro e w2 ⟨rfl, g2, h2, t2⟩
  have H2 := hid (show Own w.heap.size w2 w.heap.size g2 [5] from h2)
  clear h2
  go_wp2_with fail
  refine Calls.mono (oPut _ _ _ [5] 1 w2 H2.out (by decide)) ?_
  rintro e w3 ⟨rfl, g3, h3, t3⟩
  have H3 := hid (show Own w.heap.size w3 w.heap.size g3 [1, 5] from h3)
  clear h3
  go_wp2_with fail
  refine Calls.mono (rBy_yes _ _ [1, 5] 50000001 5 w3 H3.out.rk (by decide) (by decide) (by decide) (by decide)) ?_
  rintro e w4 ⟨rfl, rfl⟩
  go_wp2_with fail
  refine Calls.mono (rLen _ _ [1, 5] w3 H3.out.rk) ?_
  rintro e w4 ⟨rfl, rfl⟩
  go_wp2_with fail
  go_ret
  exact ⟨rfl, hb1.trans (t2.trans t3)⟩
end Go.Proofs.Ytgljcaebgcmahaa
