/- Rings of numbers: what fill lays. -/
import Derived.Test.YtcochjicaogofaaRgA
namespace Go.Proofs.Ytcochjicaogofaa
open Go.RowKit

/-- A list of numbers as cells. -/
def ints (l : List Int) : List Value := l.map (Value.int .i64)
theorem box_cell {w : World} {g : Nat} {l : List Int} (h : Box w g (ints l)) {i : Nat} {x : Int} (hx : l[i]? = some x) : w.cell? ⟨g, i, none⟩ = some (.int .i64 x) := h.cell i _ (by simp [ints, hx])
theorem box_free {w : World} {g : Nat} {l : List Int} (h : Box w g (ints l)) {i : Nat} (hi : i < l.length) : w.frozen? ⟨g, i, none⟩ = false := h.free i (by simpa [ints] using hi)
theorem box_put {w : World} {g : Nat} {l : List Int} (h : Box w g (ints l)) {i : Nat} (hi : i < l.length) (x : Int) : Box (w.setCell ⟨g, i, none⟩ (.int .i64 x)) g (ints (l.set i x)) := by
  have := h.set i (by simpa [ints] using hi) (.int .i64 x)
  simpa [ints, List.map_set] using this
/-- The block g is this list of numbers, no more and no less. -/
def Blk (w : World) (g : Nat) (l : List Int) : Prop := w.heap[g]? = some (.cells (ints l).toArray 2 (0, 0))
theorem Blk.box {w : World} {g : Nat} {l : List Int} (h : Blk w g l) : Box w g (ints l) := by simpa using Box.ofBlock h
theorem Blk.lt {w : World} {g : Nat} {l : List Int} (h : Blk w g l) : g < w.heap.size := (Array.getElem?_eq_some_iff.1 h).1
theorem Blk.put {w : World} {g : Nat} {l : List Int} (h : Blk w g l) (i : Nat) (x : Int) : Blk (w.setCell ⟨g, i, none⟩ (.int .i64 x)) g (l.set i x) := by
  obtain ⟨hlt, hk⟩ := Array.getElem?_eq_some_iff.1 h
  show (w.heap.modify g _)[g]? = _
  rw [Array.getElem?_eq_getElem (by rw [Array.size_modify]; exact hlt), Array.getElem_modify_self, hk]
  simp [ints, List.map_set]
theorem Blk.turn {S : List Nat} {w w' : World} {g : Nat} {l : List Int} (h : Blk w g l) (t : Turn S w w') (hn : g ∉ S) : Blk w' g l := (t.block g h.lt hn).trans h
theorem Blk.next {w w' : World} {g : Nat} {l : List Int} (h : Blk w g l) (t : Below w.heap.size w w') : Blk w' g l := (t.block g h.lt).trans h
theorem Blk.alike {w w' : World} {g : Nat} {l : List Int} (h : Blk w g l) (e : w'.heap = w.heap) : Blk w' g l := by unfold Blk; rw [e]; exact h
theorem Box.alike {w w' : World} {g : Nat} {vs : List Value} (h : Box w g vs) (e : w'.heap = w.heap) : Box w' g vs :=
  ⟨fun i v hv => (World.cell?_of_block (by rw [e])).trans (h.cell i v hv), fun i hi => (World.frozen?_of_block (by rw [e])).trans (h.free i hi), by rw [e]; exact h.lt⟩
theorem drewN_turn (S : List Nat) (w : World) (k : Nat) : Turn S w (w.drewN k) := ⟨rfl, rfl, rfl, Nat.le_refl _, fun _ _ _ => rfl⟩
theorem take_set {L xs : List Int} {k : Nat} {x : Int} (hx : L[k]? = some x) (hk : k < xs.length) : (L.take k ++ xs.drop k).set k x = L.take (k + 1) ++ xs.drop (k + 1) := by
  have hkl : k < L.length := (List.getElem?_eq_some_iff.1 hx).1
  have h1 : (L.take k).length = k := by simp; omega
  rw [List.drop_eq_getElem_cons hk, List.set_append_right _ _ (by omega), h1, Nat.sub_self, List.set_cons_zero, List.take_add_one, hx]
  simp

set_option maxRecDepth 20000 in
set_option maxHeartbeats 1000000 in
theorem rFill (b q room : Nat) (L : List Int) (w : World) (h : Rg w b q room L) (hr : room ≤ 4096) (g m c : Nat) (xs : List Int) (hg : Blk w g xs) (hgb : g ≠ b) (hgq : g ≠ q) (hm : L.length ≤ m) (hm2 : m ≤ xs.length) (hm3 : m ≤ 4096) :
    Calls Try.prog 28 #[.pointer (some ⟨b, 0, none⟩), .slice (some ⟨g, 0, none⟩) m c] w fun e w' => e = .returned (.tuple #[]) ∧ Turn [g] w w' ∧ Blk w' g (L ++ xs.drop L.length) := by
  have hlen := h.len
  obtain ⟨first, sv, cs, h⟩ := h
  go_enter Try.func28, Try.ntmps28
  go_wp2_with fail
  refine (rLen b q room L w ⟨first, sv, cs, h⟩).mono ?_
  rintro e w1 ⟨rfl, rfl⟩
  go_wp2_with fail
  go_loopw [7] (fun p wr => ∃ k : Nat, p = .int .i64 k ∧ k ≤ L.length ∧ Turn [g] w wr ∧ Blk wr g (L.take k ++ xs.drop k)) (fun p _ => L.length - (intOf p).toNat)
  case atStart => exact ⟨0, rfl, by omega, Turn.refl _ _, by simpa using hg⟩
  case round =>
    obtain ⟨k, rfl, hk, ht, hbx⟩ := hrel
    by_cases hlt : k < L.length
    · obtain ⟨x, hx⟩ : ∃ x, L[k]? = some x := ⟨_, List.getElem?_eq_getElem hlt⟩
      have h1 := h.turn ht (by simpa using Ne.symm hgb) (by simpa using Ne.symm hgq)
      have hn : 0 < cs.length := by have := h.fits; omega
      have hc4 : cs.length ≤ 4096 := by have := h.roomy; omega
      obtain ⟨n, hnn⟩ : ∃ n, n = cs.length := ⟨_, rfl⟩
      rcases h1.slots with ⟨_, e, _⟩ | ⟨rfl, hqb, _, hq⟩
      · rw [e] at hn; simp at hn
      obtain ⟨s, hs⟩ : ∃ s, s = (first + k) % cs.length := ⟨_, rfl⟩
      have hsn : s < cs.length := by rw [hs]; exact slot_lt _ hn
      have hf : first < cs.length := by rcases h.inside with h | ⟨h, _⟩; (· exact h); (· rw [h] at hn; simp at hn)
      have hcell := box_cell (i := s) hq (by rw [hs]; exact h.holds k x hx)
      have hfree := box_free (i := k) hbx.box (by simp; omega)
      obtain ⟨y, hy⟩ : ∃ y, (L.take k ++ xs.drop k)[k]? = some y := ⟨_, List.getElem?_eq_getElem (by simp; omega)⟩
      have hold := box_cell hbx.box hy
      clear hy
      have hc := fun (wx : World) (hbx : Box wx b [.int .i64 (room : Nat), .int .i64 (first : Nat), .int .i64 (L.length : Nat), .slice (some ⟨q, 0, none⟩) cs.length cs.length]) => rSlot b q room first cs.length k s _ wx hbx hn hc4 hf (by omega) hs
      obtain ⟨c0, c1, c2, c3, f0, f1, f2, f3⟩ := h1.box.four
      have hb0 := h1.box
      rw [← hnn] at hsn c3 hb0 hc
      have hkm : k < m := by omega
      have hkm' : (k : Int) < (m : Int) := by omega
      have hsn' : (s : Int) < (n : Int) := by omega
      have HC := hid hc
      have HN := hid hnn
      have HS := hid hs
      have HB := hid hb0
      have HX := hid hbx
      have HT := hid ht
      have hblt := h1.box.lt
      clear hc hnn hs hb0 h1 h hq hbx hg ht
      go_wp2_with fail
      go_region_with (go_at_call 33; refine (HC.out _ (HB.out.alike (by rfl))).mono ?_; rintro e w1 ⟨rfl, kk, rfl⟩)
      all_goals (go_wp2_with fail; go_roundw)
      all_goals first
        | exact ⟨k + 1, by simp, by omega, (HT.out.trans (drewN_turn [] _ _) (by simp)).andSet ⟨g, k, none⟩ _ (.inl (by simp)), by rw [← take_set hx (by omega)]; exact Blk.put (HX.out.alike (by rfl)) k x⟩
        | (simp [intOf]; omega)
    · obtain rfl : k = L.length := by omega
      go_wp2_with fail
      go_end0
      exact ⟨rfl, ht, by simpa using hbx⟩
theorem rFill_nil (v : Value) (w : World) :
    Calls Try.prog 28 #[.pointer none, v] w fun e w' => e = .returned (.tuple #[]) ∧ w = w' := by
  go_enter Try.func28, Try.ntmps28
  go_wp2_with fail
  refine (rLen_p none 0 [] w (.inl ⟨rfl, rfl, rfl⟩)).mono ?_
  rintro e w1 ⟨rfl, rfl⟩
  go_wp2_with fail
  go_loopw [7] (fun p wr => p = .int .i64 0 ∧ w = wr) (fun p _ => 0)
  case atStart => exact ⟨rfl, rfl⟩
  case round =>
    obtain ⟨rfl, rfl⟩ := hrel
    go_wp2_with fail
    go_end0
    exact ⟨rfl, rfl⟩
/-- What a list is that was made for the call's answer: new memory, with these numbers. -/
def NewList (w : World) (L : List Int) (e : Ending) (w' : World) : Prop := ∃ g, e = .returned (.slice (some ⟨g, 0, none⟩) L.length L.length) ∧ w.heap.size ≤ g ∧ Blk w' g L ∧ Below w.heap.size w w'
theorem info_i64 : (Try.prog.info? 2).map (fun i => (i.zero, i.size, i.bytes)) = some (some (.int .i64 0), 1, 8) := by kernel_rfl
theorem madeCells_one (z : Value) (n : Nat) (hz : z.cells = #[z]) : (madeCells z.cells (n * 1)).toList = List.replicate n z := by
  apply List.ext_getElem
  · simp [madeCells]
  · intro i h1 h2
    simp [madeCells, hz, Nat.mod_one]
theorem blk_made {w w' : World} {n : Nat} {base : Nat} (h : w'.ownsRow base 2 1 (.slice (some ⟨w.heap.size, 0, none⟩) n n) n (madeCells (Value.int .i64 0).cells (n * 1)).toList) : Blk w' w.heap.size (List.replicate n 0) := by
  obtain ⟨hl, ⟨e, _⟩ | ⟨g, cap, cur, e, hb, hg, _, _, hs, ht⟩⟩ := h
  · cases e
  · cases e
    rw [madeCells_one _ _ (by rfl)] at ht
    rw [List.take_of_length_le (by simp [hs])] at ht
    show _ = some (Obj.cells (ints (List.replicate n 0)).toArray _ _)
    obtain rfl : cur = (List.replicate n (Value.int .i64 0)).toArray := by rw [← ht]
    rw [hg]
    simp [ints]

set_option maxRecDepth 20000 in
theorem rList_p (p : Option Addr) (room : Nat) (L : List Int) (w : World) (h : RgP w p room L) (hr : room ≤ 4096) :
    Calls Try.prog 12 #[.pointer p] w (NewList w L) := by
  obtain ⟨i0, hi, hz0, hz1, hz2⟩ := info_parts info_i64
  have hlen : L.length ≤ 4096 := by
    rcases h with ⟨_, _, e⟩ | ⟨b, q, e, h⟩
    · simp [e]
    · have := h.len; omega
  have HP := hid h
  go_enter Try.func12, Try.ntmps12
  go_wp2_with fail
  refine (rLen_p p room L w HP.out).mono ?_
  rintro e w1 ⟨rfl, rfl⟩
  go_wp2_with (at_make; refine wpList_make_full _ rfl _ _ 35 rfl w.heap.size 2 i0 (.int .i64 0) 1 Try.underlying35 hi hz0 hz1 _ _ _ _ L.length rfl rfl rfl rfl (by rw [hz2]; omega) (by simp only [maxLen]; omega) (Nat.le_refl _) ?_; intro w1 hown hgrow)
  have hk := blk_made hown
  have hb1 : Below w.heap.size w w1 := (Below.refl _ _).grown hgrow (Nat.le_refl _) (by simp)
  rcases HP.out with ⟨rfl, rfl, rfl⟩ | ⟨b, q, rfl, hh⟩
  · refine (rFill_nil _ w1).mono ?_
    rintro e w2 ⟨rfl, rfl⟩
    go_wp2_with fail
    go_ret
    exact ⟨_, rfl, Nat.le_refl _, hk, hb1⟩
  · have hlt := hh.lt
    have hql := hh.qlt
    refine (rFill b q room L w1 (hh.next hb1) hr w.heap.size L.length L.length _ hk (by omega) (by omega) (Nat.le_refl _) (by simp) hlen).mono ?_
    rintro e w2 ⟨rfl, ht, hk2⟩
    go_wp2_with fail
    go_ret
    refine ⟨_, rfl, Nat.le_refl _, by simpa using hk2, hb1.trans (ht.below (by simp) hb1.size)⟩
end Go.Proofs.Ytcochjicaogofaa
