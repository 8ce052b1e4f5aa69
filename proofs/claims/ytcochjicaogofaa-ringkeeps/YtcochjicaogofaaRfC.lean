/- The document's ring: Push, At; two lists held against each other. -/
import Derived.Test.YtcochjicaogofaaRfB
import Derived.BigQuiet
namespace Go.Proofs.Ytcochjicaogofaa
open Go.RowKit

theorem RefIs.put {w w1 w2 : World} {rb g room g' off' cap' : Nat} {lv : Value} {L : List Int} {v : Int} (h : RefIs w rb g room lv L) (t0 : Below w.heap.size w w1) (hs : Sl w2 g' (.slice (some ⟨g', off', none⟩) (L.length + 1) cap') (L ++ [v])) (ht : Turn [g] w1 w2) (hn : lv = .slice none 0 0 → Turn [] w1 w2 ∧ w1.heap.size ≤ g') (ho : g' = g ∨ w1.heap.size ≤ g') :
    Box w2 rb [.int .i64 (room : Nat), lv] ∧ Ref (w2.setCell ⟨rb, 1, none⟩ (.slice (some ⟨g', off', none⟩) (L.length + 1) cap')) rb g' room (L ++ [v]) ∧ Turn [rb, g] w (w2.setCell ⟨rb, 1, none⟩ (.slice (some ⟨g', off', none⟩) (L.length + 1) cap')) ∧ (g' = g ∨ w.heap.size ≤ g') := by
  have hsz := t0.size
  have hlt := h.box.lt
  have hbox : Box w2 rb [.int .i64 (room : Nat), lv] := by
    by_cases e : g = rb
    · exact (h.box.next t0).turn (hn (h.apart e)).1 (by simp)
    · exact (h.box.next t0).turn ht (by simpa using Ne.symm e)
  have hne : g' ≠ rb := by
    intro e
    by_cases e2 : g = rb
    · have := (hn (h.apart e2)).2; omega
    · rcases ho with e3 | e3
      · exact e2 (e3 ▸ e)
      · omega
  refine ⟨hbox, ⟨.slice (some ⟨g', off', none⟩) (L.length + 1) cap', ?_, ?_, fun e => absurd e hne⟩, ?_, ?_⟩
  · simpa using hbox.set 1 (by simp) (.slice (some ⟨g', off', none⟩) (L.length + 1) cap')
  · exact hs.turn (S := [rb]) (Turn.set _ _ _ (by simp)) (by simpa using hne)
  · exact ((Turn.of_below t0).trans ht (by simp)).andSet _ _ (.inl (by simp))
  · rcases ho with e | e
    · exact .inl e
    · exact .inr (by omega)
theorem drewN_below (w : World) (k : Nat) : Below w.heap.size w (w.drewN k) := ⟨rfl, rfl, rfl, Nat.le_refl _, fun _ _ => rfl⟩
set_option maxRecDepth 20000 in
set_option maxHeartbeats 1000000 in
theorem fPush_room (rb g room : Nat) (L : List Int) (v : Int) (w : World) (h : Ref w rb g room L) (hr : room ≤ 4096) (hl : L.length < room) :
    Calls Try.prog 25 #[.pointer (some ⟨rb, 0, none⟩), .int .i64 v] w (RLeaves w rb g room (L ++ [v]) 0 false) := by
  obtain ⟨lv, h⟩ := h
  obtain ⟨a, c, hlv⟩ := h.sl.shape
  subst hlv
  obtain ⟨c0, c1, f0, f1⟩ := h.box.two
  have hlt := h.box.lt
  obtain ⟨k, hk⟩ : ∃ k, k = L.length := ⟨_, rfl⟩
  rw [← hk] at c1
  have hkr : ¬ (k : Int) = (room : Int) := by omega
  have hkr' : ((k : Int) == (room : Int)) = false := by simpa using hkr
  have hwn := fun n => cell_one_new (w.drewN n) (.int .i64 v) 2
  have HH := hid h
  have HK := hid hk
  have HN := hid hwn
  clear h hwn
  go_enter Try.func25, Try.ntmps25
  go_wp2_with fail
  go_quiet (fail)
  rw [hk] at c1
  clear hk hkr hkr'
  go_wp2_with (at_builtin; refine wpList_append_sl _ rfl _ _ rfl g (.slice a L.length c) L (by rw [← HK.out]; rfl) (HH.out.sl.next ((drewN_below w nq).alloc (Nat.le_refl _) _)) (by omega) ⟨w.heap.size, 0, none⟩ v rfl (HN.out nq) ?_; intro g' off' cap' w2 hs' ht hn ho; obtain ⟨hbx, hrf, htt, hoo⟩ := HH.out.put ((drewN_below w nq).alloc (Nat.le_refl _) _) hs' ht hn ho; obtain ⟨d0, d1, e0, e1⟩ := hbx.two; have hlt2 := hbx.lt)
  go_ret2
  exact ⟨g', rfl, hrf, htt, hoo⟩
set_option maxRecDepth 20000 in
set_option maxHeartbeats 1000000 in
theorem fPush_full (rb g room : Nat) (x : Int) (L : List Int) (v : Int) (w : World) (h : Ref w rb g room (x :: L)) (hr : room ≤ 4096) (hl : (x :: L).length = room) :
    Calls Try.prog 25 #[.pointer (some ⟨rb, 0, none⟩), .int .i64 v] w (RLeaves w rb g room (L ++ [v]) x true) := by
  have HF := hid h
  obtain ⟨lv, h⟩ := h
  obtain ⟨a, c, hlv⟩ := h.sl.shape
  subst hlv
  obtain ⟨c0, c1, f0, f1⟩ := h.box.two
  have hlt := h.box.lt
  rw [hl] at c1
  have hll : L.length < room := by rw [← hl]; simp
  have HL := hid hl
  clear h hl
  go_enter Try.func25, Try.ntmps25
  go_wp2_with fail
  go_quiet (fail)
  go_wp2_with fail
  refine Calls.mono (fDrop_yes rb g room x L _ (HF.out.next (drewN_below _ _)) hr (Nat.le_of_eq HL.out)) ?_
  rintro e w1 ⟨g1, rfl, ⟨lv1, h1⟩, t1, o1⟩
  obtain ⟨a1, cc1, hlv⟩ := h1.sl.shape
  subst hlv
  clear c0 c1 f0 f1 hlt
  obtain ⟨c0, c1, f0, f1⟩ := h1.box.two
  have hlt := h1.box.lt
  have hwn := cell_one_new w1 (.int .i64 v) 2
  have H1 := hid h1
  have HT := hid t1
  have HO := hid o1
  have HN := hid hwn
  clear h1 t1 o1 hwn
  go_wp2_with (at_builtin; refine wpList_append_sl _ rfl _ _ rfl g1 (.slice a1 L.length cc1) L rfl (H1.out.sl.next ((Below.refl _ _).alloc (Nat.le_refl _) _)) (by omega) ⟨w1.heap.size, 0, none⟩ v rfl HN.out ?_; intro g' off' cap' w2 hs' ht hn ho; obtain ⟨hbx, hrf, htt, hoo⟩ := H1.out.put ((Below.refl _ _).alloc (Nat.le_refl _) _) hs' ht hn ho; obtain ⟨d0, d1, e0, e1⟩ := hbx.two; have hlt2 := hbx.lt; have HRF := hid hrf; have HTT := hid htt; have HOO := hid hoo; clear hrf htt hoo hs' ht hn ho)
  go_ret2
  have o1 : g1 = g ∨ w.heap.size ≤ g1 := HO.out
  have s1 : w.heap.size ≤ w1.heap.size := HT.out.size
  have o2 := HOO.out
  have tt : Turn [rb, g] w w1 := (drewN_turn _ _ _).trans HT.out (fun _ hi => .inl hi)
  refine ⟨g', rfl, HRF.out, tt.trans HTT.out (fun i hi => ?_), ?_⟩
  · simp at hi ⊢; omega
  · omega
theorem fAt_no (rb g room : Nat) (L : List Int) (i : Int) (w : World) (h : Ref w rb g room L) (hi : i < 0 ∨ (L.length : Int) ≤ i) :
    Calls Try.prog 27 #[.pointer (some ⟨rb, 0, none⟩), .int .i64 i] w fun e w' => e = .returned (.tuple #[.int .i64 0, .bool false]) ∧ w = w' := by
  obtain ⟨lv, h⟩ := h
  obtain ⟨a, c, hlv⟩ := h.sl.shape
  subst hlv
  obtain ⟨c0, c1, f0, f1⟩ := h.box.two
  have hlt := h.box.lt
  clear h
  by_cases h0 : i < 0
  · go_enter Try.func27, Try.ntmps27
    go_wp2_with fail
    go_ret2
    exact ⟨rfl, rfl⟩
  · have h1 : (L.length : Int) ≤ i := by omega
    go_enter Try.func27, Try.ntmps27
    go_wp2_with fail
    go_ret2
    exact ⟨rfl, rfl⟩
theorem fAt_yes (rb g room : Nat) (L : List Int) (j : Nat) (x : Int) (w : World) (h : Ref w rb g room L) (hx : L[j]? = some x) :
    Calls Try.prog 27 #[.pointer (some ⟨rb, 0, none⟩), .int .i64 (j : Nat)] w fun e w' => e = .returned (.tuple #[.int .i64 x, .bool true]) ∧ w = w' := by
  obtain ⟨lv, h⟩ := h
  have hj : j < L.length := (List.getElem?_eq_some_iff.1 hx).1
  rcases h.sl with ⟨_, e, _⟩ | ⟨off, cap, rfl, hs⟩
  · subst e; simp at hj
  obtain ⟨c0, c1, f0, f1⟩ := h.box.two
  have hlt := h.box.lt
  have hc := hs.cell j x hx
  have h1 : ¬ (j : Int) < 0 := by omega
  have h2 : ¬ (L.length : Int) ≤ (j : Int) := by omega
  have h3 : (j : Int) < (L.length : Int) := by omega
  clear h hs hx
  go_enter Try.func27, Try.ntmps27
  go_wp2_with fail
  go_ret2
  exact ⟨rfl, rfl⟩

/-- The value v is a slice that reads as the list A. -/
def Rd (w : World) (v : Value) (A : List Int) : Prop := ∃ (a : Option Addr) (c : Nat), v = .slice a A.length c ∧ (A = [] ∨ ∃ g off, a = some ⟨g, off, none⟩ ∧ g < w.heap.size ∧ ∀ i x, A[i]? = some x → w.cell? ⟨g, off + i, none⟩ = some (.int .i64 x))
theorem Rd.next {w w' : World} {v : Value} {A : List Int} (h : Rd w v A) (t : Below w.heap.size w w') : Rd w' v A := by
  obtain ⟨a, c, e, h | ⟨g, off, e2, hg, h⟩⟩ := h
  · exact ⟨a, c, e, .inl h⟩
  · exact ⟨a, c, e, .inr ⟨g, off, e2, Nat.lt_of_lt_of_le hg t.size, fun i x hx => (t.cell (p := ⟨g, off + i, none⟩) hg).trans (h i x hx)⟩⟩
theorem Sl.rd {w : World} {g : Nat} {lv : Value} {L : List Int} (h : Sl w g lv L) : Rd w lv L := by
  rcases h with ⟨rfl, rfl, _⟩ | ⟨off, cap, rfl, h⟩
  · exact ⟨none, 0, rfl, .inl rfl⟩
  · exact ⟨_, cap, rfl, .inr ⟨g, off, rfl, h.lt, h.cell⟩⟩
theorem Blk.rd {w : World} {g : Nat} {L : List Int} (h : Blk w g L) (c : Nat) : Rd w (.slice (some ⟨g, 0, none⟩) L.length c) L := ⟨_, c, rfl, .inr ⟨g, 0, rfl, h.lt, fun i x hx => by rw [Nat.zero_add]; exact box_cell h.box hx⟩⟩
theorem ownsRow_rd {w : World} {base : Nat} {v : Value} {L : List Int} (h : w.ownsRow base 2 1 v L.length (ints L)) : Rd w v L := by
  obtain ⟨hl, ⟨rfl, h0⟩ | ⟨g, cap, cur, rfl, hb, hg, h1, h2, h3, h4⟩⟩ := h
  · have e : L = [] := List.eq_nil_of_length_eq_zero h0
    exact ⟨none, 0, by rw [h0], .inl e⟩
  · refine ⟨_, cap, rfl, .inr ⟨g, 0, rfl, (Array.getElem?_eq_some_iff.1 hg).1, fun i x hx => ?_⟩⟩
    have hi : i < L.length := (List.getElem?_eq_some_iff.1 hx).1
    rw [Nat.zero_add]
    refine (Box.ofBlock hg).cell i _ ?_
    have h5 : (cur.toList.take (L.length * 1))[i]? = some (.int .i64 x) := by rw [h4]; simp [ints, hx]
    rw [List.getElem?_take_of_lt (by omega)] at h5
    exact h5
set_option maxRecDepth 20000 in
set_option maxHeartbeats 1000000 in
theorem same_yes (va vb : Value) (A : List Int) (w : World) (ha : Rd w va A) (hb : Rd w vb A) (hl : A.length < 4611686018427387904) :
    Calls Try.prog 11 #[va, vb] w fun e w' => e = .returned (.bool true) ∧ ∃ k, w' = w.drewN k := by
  obtain ⟨aa, ca, rfl, ha⟩ := ha
  obtain ⟨ab, cb, rfl, hb⟩ := hb
  have HA := hid ha
  have HB := hid hb
  clear ha hb
  obtain ⟨n, hn⟩ : ∃ n, n = A.length := ⟨_, rfl⟩
  rw [← hn] at hl ⊢
  have HN := hid hn
  clear hn
  go_enter Try.func11, Try.ntmps11
  go_wp2_with fail
  go_loopw [5] (fun p wr => ∃ k : Nat, p = .int .i64 k ∧ k ≤ n ∧ ∃ m, wr = w.drewN m) (fun p _ => n - (intOf p).toNat)
  case atStart => exact ⟨0, rfl, by omega, 0, rfl⟩
  case round =>
    obtain ⟨k, rfl, hk, m, rfl⟩ := hrel
    by_cases hlt : k < n
    · have hkA : k < A.length := by have := HN.out; omega
      obtain ⟨x, hx⟩ : ∃ x, A[k]? = some x := ⟨_, List.getElem?_eq_getElem hkA⟩
      rcases HA.out with e | ⟨g, off, rfl, _, h1⟩
      · rw [e] at hkA; simp at hkA
      rcases HB.out with e | ⟨g', off', rfl, _, h2⟩
      · rw [e] at hkA; simp at hkA
      have c1 := h1 k x hx
      have c2 := h2 k x hx
      have hlt' : (k : Int) < (n : Int) := by omega
      clear h1 h2 hx
      go_wp2_with fail
      go_quiet (fail)
      go_wp2_with fail
      go_roundw
      case rel => exact ⟨k + 1, by simp, by omega, _, rfl⟩
      case measure => simp [intOf]; omega
    · obtain rfl : k = n := by omega
      go_wp2_with fail
      go_ret
      exact ⟨rfl, _, rfl⟩
end Go.Proofs.Ytcochjicaogofaa
