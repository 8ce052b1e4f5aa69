/- A queue of numbers as the heap holds it. -/
import Derived.Test.YtccgbkafcbfcgaaMoW
import Derived.Test.YtccgbkafcbfcgaaMoP
namespace Go.Proofs.Ytccgbkafcbfcgaa
open Go.RowKit

/-- The block g holds K from off on, two cells each, and has room for cap of them there. -/
structure KAt (w : World) (g off cap : Nat) (K : List (Int × Nat)) : Prop where
  lt : g < w.heap.size
  num : ∀ i k, K[i]? = some k → w.cell? ⟨g, off + i * 2, none⟩ = some (.int .i64 k.1)
  ahd : ∀ i k, K[i]? = some k → w.cell? ⟨g, off + i * 2 + 1, none⟩ = some (.int .i64 (k.2 : Nat))
  spare : ∀ i, i < cap * 2 → (w.cell? ⟨g, off + i, none⟩).isSome = true
  free : ∀ i, i < cap * 2 → w.frozen? ⟨g, off + i, none⟩ = false
  le : K.length ≤ cap
  most : cap ≤ maxLen
theorem KAt.turn {S : List Nat} {w w' : World} {g off cap : Nat} {K : List (Int × Nat)} (h : KAt w g off cap K) (t : Turn S w w') (hn : g ∉ S) : KAt w' g off cap K :=
  ⟨Nat.lt_of_lt_of_le h.lt t.size, fun i k hk => (t.cell (p := ⟨g, off + i * 2, none⟩) h.lt hn).trans (h.num i k hk), fun i k hk => (t.cell (p := ⟨g, off + i * 2 + 1, none⟩) h.lt hn).trans (h.ahd i k hk), fun i hi => by rw [t.cell (p := ⟨g, off + i, none⟩) h.lt hn]; exact h.spare i hi, fun i hi => (t.frozen (p := ⟨g, off + i, none⟩) h.lt hn).trans (h.free i hi), h.le, h.most⟩
theorem KAt.part {w : World} {g off cap : Nat} {K : List (Int × Nat)} (h : KAt w g off cap K) (n : Nat) : KAt w g off cap (K.take n) := by
  have hp : ∀ i k, (K.take n)[i]? = some k → K[i]? = some k := fun i k hk => by
    have hi : i < (K.take n).length := (List.getElem?_eq_some_iff.1 hk).1
    rw [List.getElem?_take_of_lt (by simp at hi; omega)] at hk
    exact hk
  exact ⟨h.lt, fun i k hk => h.num i k (hp i k hk), fun i k hk => h.ahd i k (hp i k hk), h.spare, h.free, by have := h.le; simp; omega, h.most⟩
/-- The value lv is a slice of K: none yet, or in the block g, which isn't b. -/
def KSl (w : World) (b g : Nat) (lv : Value) (K : List (Int × Nat)) : Prop := (lv = .slice none 0 0 ∧ K = [] ∧ g = b) ∨ (g ≠ b ∧ ∃ off cap, lv = .slice (some ⟨g, off, none⟩) K.length cap ∧ KAt w g off cap K)
theorem KSl.turn {S : List Nat} {w w' : World} {b g : Nat} {lv : Value} {K : List (Int × Nat)} (h : KSl w b g lv K) (t : Turn S w w') (hn : g ≠ b → g ∉ S) : KSl w' b g lv K := by
  rcases h with h | ⟨hg, off, cap, e, h⟩
  · exact .inl h
  · exact .inr ⟨hg, off, cap, e, h.turn t (hn hg)⟩
theorem KSl.shape {w : World} {b g : Nat} {lv : Value} {K : List (Int × Nat)} (h : KSl w b g lv K) : ∃ a c, lv = .slice a K.length c := by
  rcases h with ⟨rfl, rfl, _⟩ | ⟨_, off, cap, e, _⟩
  · exact ⟨none, 0, rfl⟩
  · exact ⟨_, _, e⟩
/-- The block b is a queue that holds L; what is kept of it lies in the block g. -/
structure MoIs (w : World) (b g : Nat) (h : Bool) (lv : Value) (L : List Int) : Prop where
  box : Box w b [.bool h, .int .i64 (L.length : Nat), lv]
  sl : KSl w b g lv (rep h L)
def Mo (w : World) (b g : Nat) (h : Bool) (L : List Int) : Prop := ∃ lv, MoIs w b g h lv L
theorem Box.three {w : World} {g : Nat} {v0 v1 v2 : Value} (h : Box w g [v0, v1, v2]) : w.cell? ⟨g, 0, none⟩ = some v0 ∧ w.cell? ⟨g, 1, none⟩ = some v1 ∧ w.cell? ⟨g, 2, none⟩ = some v2 ∧ w.frozen? ⟨g, 0, none⟩ = false ∧ w.frozen? ⟨g, 1, none⟩ = false ∧ w.frozen? ⟨g, 2, none⟩ = false :=
  ⟨h.cell 0 _ rfl, h.cell 1 _ rfl, h.cell 2 _ rfl, h.free 0 (by simp), h.free 1 (by simp), h.free 2 (by simp)⟩
theorem Mo.turn {S : List Nat} {w w' : World} {b g : Nat} {h : Bool} {L : List Int} (x : Mo w b g h L) (t : Turn S w w') (hb : b ∉ S) (hg : g ∉ S) : Mo w' b g h L := by
  obtain ⟨lv, x⟩ := x
  exact ⟨lv, x.box.turn t hb, x.sl.turn t (fun _ => hg)⟩
theorem Mo.next {w w' : World} {b g : Nat} {h : Bool} {L : List Int} (x : Mo w b g h L) (t : Below w.heap.size w w') : Mo w' b g h L := x.turn (S := []) (Turn.of_below t) (by simp) (by simp)
theorem Mo.lt {w : World} {b g : Nat} {h : Bool} {L : List Int} (x : Mo w b g h L) : b < w.heap.size := by obtain ⟨lv, x⟩ := x; exact x.box.lt
theorem Mo.glt {w : World} {b g : Nat} {h : Bool} {L : List Int} (x : Mo w b g h L) : g < w.heap.size := by
  obtain ⟨lv, x⟩ := x
  rcases x.sl with ⟨_, _, e⟩ | ⟨_, _, _, _, e⟩
  · rw [e]; exact x.box.lt
  · exact e.lt
theorem Mo.alike {w w' : World} {b g : Nat} {h : Bool} {L : List Int} (x : Mo w b g h L) (e : w'.heap = w.heap) : Mo w' b g h L := x.turn (S := []) (w' := { w' with os := w.os, tape := w.tape, output := w.output }) ⟨rfl, rfl, rfl, Nat.le_of_eq (by rw [e]), fun k _ _ => by rw [e]⟩ (by simp) (by simp) |> fun y => by
  obtain ⟨lv, y⟩ := y
  exact ⟨lv, y.box.alike rfl, by
    rcases y.sl with y | ⟨n, o, c, e1, y⟩
    · exact .inl y
    · exact .inr ⟨n, o, c, e1, y.lt, y.num, y.ahd, y.spare, y.free, y.le, y.most⟩⟩
theorem Mo.fits {w : World} {b g : Nat} {h : Bool} {L : List Int} (_x : Mo w b g h L) : (rep h L).length ≤ L.length := by have := kept_length h L; simpa [kept] using this

theorem mLen (b g : Nat) (h : Bool) (L : List Int) (w : World) (x : Mo w b g h L) :
    Calls Try.prog 62 #[.pointer (some ⟨b, 0, none⟩)] w fun e w' => e = .returned (.int .i64 (L.length : Nat)) ∧ w = w' := by
  obtain ⟨lv, x⟩ := x
  obtain ⟨c0, c1, c2, f0, f1, f2⟩ := x.box.three
  have hlt := x.box.lt
  go_enter Try.func62, Try.ntmps62
  go_wp2_with fail
  go_ret
  exact ⟨rfl, rfl⟩
theorem mLen_nil (w : World) : Calls Try.prog 62 #[.pointer none] w fun e w' => e = .returned (.int .i64 0) ∧ w = w' := by
  go_enter Try.func62, Try.ntmps62
  go_wp2_with fail
  go_ret
  exact ⟨rfl, rfl⟩
theorem mBest_nil (w : World) : Calls Try.prog 48 #[.pointer none] w fun e w' => e = .returned (.tuple #[.int .i64 0, .bool false]) ∧ w = w' := by
  go_enter Try.func48, Try.ntmps48
  go_wp2_with fail
  refine (mLen_nil w).mono ?_
  rintro e w1 ⟨rfl, rfl⟩
  go_wp2_with fail
  go_ret2
  exact ⟨rfl, rfl⟩
theorem mBest_no (b g : Nat) (h : Bool) (w : World) (x : Mo w b g h []) : Calls Try.prog 48 #[.pointer (some ⟨b, 0, none⟩)] w fun e w' => e = .returned (.tuple #[.int .i64 0, .bool false]) ∧ w = w' := by
  have HX := hid x
  clear x
  go_enter Try.func48, Try.ntmps48
  go_wp2_with fail
  refine (mLen b g h [] w HX.out).mono ?_
  rintro e w1 ⟨rfl, rfl⟩
  simp only [List.length_nil]
  go_wp2_with fail
  go_ret2
  exact ⟨rfl, rfl⟩
theorem mBest_yes (b g : Nat) (h : Bool) (L : List Int) (y : Int) (K : List Int) (w : World) (x : Mo w b g h L) (hy : kept h L = y :: K) :
    Calls Try.prog 48 #[.pointer (some ⟨b, 0, none⟩)] w fun e w' => e = .returned (.tuple #[.int .i64 y, .bool true]) ∧ w = w' := by
  have HX := hid x
  have hn : ¬ (L.length : Int) = 0 := by
    intro e
    have : L = [] := List.eq_nil_of_length_eq_zero (by omega)
    rw [this] at hy; cases hy
  obtain ⟨k, J, hk⟩ : ∃ k J, rep h L = k :: J := by
    cases hr : rep h L with
    | nil => rw [kept, hr] at hy; cases hy
    | cons k J => exact ⟨k, J, rfl⟩
  have hy1 : k.1 = y := by rw [kept, hk] at hy; exact (List.cons.inj hy).1
  obtain ⟨lv, x⟩ := x
  obtain ⟨c0, c1, c2, f0, f1, f2⟩ := x.box.three
  have hlt := x.box.lt
  rcases x.sl with ⟨_, e, _⟩ | ⟨hgb, off, cap, rfl, hs⟩
  · rw [hk] at e; cases e
  have d0 := hs.num 0 k (by rw [hk]; rfl)
  rw [Nat.zero_mul, Nat.add_zero, hy1] at d0
  have hpos : 0 < (rep h L).length := by rw [hk]; simp
  obtain ⟨n, hnn⟩ : ∃ n, n = (rep h L).length := ⟨_, rfl⟩
  rw [← hnn] at c2 hpos
  have hpos' : (0 : Int) < (n : Int) := by omega
  clear x hs hk hy hy1 hnn
  go_enter Try.func48, Try.ntmps48
  go_wp2_with fail
  refine (mLen b g h L w HX.out).mono ?_
  rintro e w1 ⟨rfl, rfl⟩
  go_wp2_with fail
  go_ret2
  exact ⟨rfl, rfl⟩
theorem mo_new (w : World) (h : Bool) (t : TypeId) : Mo (w.alloc (.cells #[.bool h, .int .i64 0, .slice none 0 0] t)) w.heap.size w.heap.size h [] := ⟨.slice none 0 0, Box.new w [.bool h, .int .i64 0, .slice none 0 0] t, .inl ⟨rfl, rfl, rfl⟩⟩
theorem mNew (h : Bool) (w : World) : Calls Try.prog 21 #[.bool h] w fun e w' => e = .returned (.pointer (some ⟨w.heap.size, 0, none⟩)) ∧ Mo w' w.heap.size w.heap.size h [] ∧ Below w.heap.size w w' := by
  go_enter Try.func21, Try.ntmps21
  go_wp2_with fail
  go_ret
  exact ⟨rfl, mo_new w h _, (Below.refl _ _).alloc (Nat.le_refl _) _⟩
end Go.Proofs.Ytccgbkafcbfcgaa
