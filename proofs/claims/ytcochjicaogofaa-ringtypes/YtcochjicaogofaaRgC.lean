/- Rings of numbers: At, Drop, grow, Push, New. -/
import Derived.Test.YtcochjicaogofaaRgB
namespace Go.Proofs.Ytcochjicaogofaa
open Go.RowKit

theorem RingIs.drewN {w : World} {b q room first : Nat} {sv : Value} {cs L : List Int} (h : RingIs w b q room first sv cs L) (k : Nat) : RingIs (w.drewN k) b q room first sv cs L := h.turn (drewN_turn [] w k) (by simp) (by simp)
theorem i64_nat {i : Int} (h : 0 ≤ i) : ∃ k : Nat, i = (k : Nat) := ⟨i.toNat, by omega⟩
set_option maxRecDepth 20000 in
theorem rAt_no (p : Option Addr) (room : Nat) (L : List Int) (i : Int) (w : World) (h : RgP w p room L) (hi : i < 0 ∨ (L.length : Int) ≤ i) :
    Calls Try.prog 21 #[.pointer p, .int .i64 i] w fun e w' => e = .returned (.tuple #[.int .i64 0, .bool false]) ∧ w = w' := by
  have HP := hid h
  by_cases h0 : i < 0
  · go_enter Try.func21, Try.ntmps21
    go_wp2_with fail
    go_ret2
    exact ⟨rfl, rfl⟩
  · have h1 : (L.length : Int) ≤ i := by omega
    go_enter Try.func21, Try.ntmps21
    go_wp2_with fail
    refine (rLen_p p room L w HP.out).mono ?_
    rintro e w1 ⟨rfl, rfl⟩
    go_wp2_with fail
    go_ret2
    exact ⟨rfl, rfl⟩
set_option maxRecDepth 20000 in
theorem rAt_yes (b q room : Nat) (L : List Int) (j : Nat) (x : Int) (w : World) (h : Rg w b q room L) (hr : room ≤ 4096) (hx : L[j]? = some x) :
    Calls Try.prog 21 #[.pointer (some ⟨b, 0, none⟩), .int .i64 (j : Nat)] w fun e w' => e = .returned (.tuple #[.int .i64 x, .bool true]) ∧ ∃ k, w' = w.drewN k := by
  have hjl : j < L.length := (List.getElem?_eq_some_iff.1 hx).1
  have hlen := h.len
  have hP : RgP w (some ⟨b, 0, none⟩) room L := .inr ⟨b, q, rfl, h⟩
  have HP := hid hP
  obtain ⟨first, sv, cs, h⟩ := h
  have hn : 0 < cs.length := by have := h.fits; omega
  have hc4 : cs.length ≤ 4096 := by have := h.roomy; omega
  have hf : first < cs.length := by rcases h.inside with h | ⟨h, _⟩; (· exact h); (· rw [h] at hn; simp at hn)
  rcases h.slots with ⟨_, e, _⟩ | ⟨rfl, hqb, _, hq⟩
  · rw [e] at hn; simp at hn
  obtain ⟨n, hnn⟩ : ∃ n, n = cs.length := ⟨_, rfl⟩
  obtain ⟨s, hs⟩ : ∃ s, s = (first + j) % cs.length := ⟨_, rfl⟩
  have hsn : s < cs.length := by rw [hs]; exact slot_lt _ hn
  have hcell := box_cell (i := s) hq (by rw [hs]; exact h.holds j x hx)
  obtain ⟨c0, c1, c2, c3, f0, f1, f2, f3⟩ := h.box.four
  have hc := fun (wx : World) (hbx : Box wx b [.int .i64 (room : Nat), .int .i64 (first : Nat), .int .i64 (L.length : Nat), .slice (some ⟨q, 0, none⟩) cs.length cs.length]) => rSlot b q room first cs.length j s _ wx hbx hn hc4 hf (by omega) hs
  have hb0 := h.box
  have hblt := h.box.lt
  rw [← hnn] at hsn c3 hb0 hc
  have hsn' : (s : Int) < (n : Int) := by omega
  have hj1 : ¬ (j : Int) < 0 := by omega
  have hj2 : ¬ (L.length : Int) ≤ (j : Int) := by omega
  have HC := hid hc
  have HN := hid hnn
  have HS := hid hs
  have HB := hid hb0
  clear hc hnn hs hb0 h hq hP hx
  go_enter Try.func21, Try.ntmps21
  go_wp2_with fail
  refine (rLen_p _ room L w HP.out).mono ?_
  rintro e w1 ⟨rfl, rfl⟩
  go_wp2_with fail
  go_quiet ((go_at_call 33; exact Calls.quiet_of (HC.out _ (HB.out.alike (by rfl)))))
  go_wp2_with fail
  go_ret2
  exact ⟨rfl, _, rfl⟩
theorem rDrop_no (p : Option Addr) (room : Nat) (w : World) (h : RgP w p room []) :
    Calls Try.prog 20 #[.pointer p] w fun e w' => e = .returned (.tuple #[.int .i64 0, .bool false]) ∧ w = w' := by
  have HP := hid h
  go_enter Try.func20, Try.ntmps20
  go_wp2_with fail
  refine (rLen_p p room [] w HP.out).mono ?_
  rintro e w1 ⟨rfl, rfl⟩
  go_wp2_with fail
  go_ret2
  exact ⟨rfl, rfl⟩
/-- What is answered, and what the ring holds behind it. -/
def Leaves (w : World) (b q room : Nat) (L : List Int) (x : Int) (ok : Bool) (e : Ending) (w' : World) : Prop := ∃ q', e = .returned (.tuple #[.int .i64 x, .bool ok]) ∧ Rg w' b q' room L ∧ Turn [b, q] w w' ∧ (q' = q ∨ w.heap.size ≤ q')
/-- What Drop leaves of a ring that is not empty. -/
def Dropped (w : World) (b q room : Nat) (L : List Int) (x : Int) (e : Ending) (w' : World) : Prop := e = .returned (.tuple #[.int .i64 x, .bool true]) ∧ (∃ first cs, RingIs w' b q room first (.slice (some ⟨q, 0, none⟩) cs.length cs.length) cs L ∧ L.length < cs.length) ∧ Turn [b, q] w w'
set_option maxRecDepth 20000 in
set_option maxHeartbeats 1000000 in
theorem rDrop_is (b q room : Nat) (L : List Int) (x : Int) (w : World) (h : Rg w b q room (x :: L)) (hr : room ≤ 4096) :
    Calls Try.prog 20 #[.pointer (some ⟨b, 0, none⟩)] w (Dropped w b q room L x) := by
  have hlen := h.len
  have hP : RgP w (some ⟨b, 0, none⟩) room (x :: L) := .inr ⟨b, q, rfl, h⟩
  have HP := hid hP
  obtain ⟨first, sv, cs, h⟩ := h
  have hn : 0 < cs.length := by have := h.fits; simp at this; omega
  have hc4 : cs.length ≤ 4096 := by have := h.roomy; omega
  have hf : first < cs.length := by rcases h.inside with h | ⟨h, _⟩; (· exact h); (· rw [h] at hn; simp at hn)
  rcases h.slots with ⟨_, e, _⟩ | ⟨rfl, hqb, _, hq⟩
  · rw [e] at hn; simp at hn
  obtain ⟨n, hnn⟩ : ∃ n, n = cs.length := ⟨_, rfl⟩
  obtain ⟨s, hs⟩ : ∃ s, s = (first + 1) % cs.length := ⟨_, rfl⟩
  obtain ⟨k, hk⟩ : ∃ k, k = (x :: L).length := ⟨_, rfl⟩
  have hk1 : k = L.length + 1 := by rw [hk]; simp
  have hcell := box_cell (i := first) hq (by have := h.holds 0 x rfl; rw [Nat.add_zero, Nat.mod_eq_of_lt hf] at this; exact this)
  have hfree := box_free (i := first) hq hf
  obtain ⟨c0, c1, c2, c3, f0, f1, f2, f3⟩ := h.box.four
  have hb0 := h.box
  have hblt := h.box.lt
  have hh := h
  have hc := fun (wx : World) (hbx : Box wx b [.int .i64 (room : Nat), .int .i64 (first : Nat), .int .i64 ((x :: L).length : Nat), .slice (some ⟨q, 0, none⟩) cs.length cs.length]) => rSlot b q room first cs.length 1 s _ wx hbx hn hc4 hf (by omega) hs
  rw [← hnn] at c3 hb0 hc hf
  rw [← hk] at hb0 hc c2
  have hsn' : (first : Int) < (n : Int) := by omega
  have hk0 : ¬ (k : Int) = 0 := by omega
  have hkb : k ≤ 4096 := by omega
  have hkc : 1 ≤ k := by omega
  have HC := hid hc
  have HN := hid hnn
  have HS := hid hs
  have HB := hid hb0
  have HH := hid hh
  have HK := hid hk
  have HK1 := hid hk1
  clear hc hnn hs hb0 h hq hP hh hk1
  go_enter Try.func20, Try.ntmps20
  go_wp2_with fail
  refine (rLen_p _ room (x :: L) w HP.out).mono ?_
  rintro e w1 ⟨rfl, rfl⟩
  rw [← hk]
  clear hk
  go_wp2_with fail
  go_quiet (fail)
  go_wp2_with fail
  go_region
  all_goals go_wp2_with fail
  obtain ⟨W1, hW1⟩ : ∃ W1, W1 = (w.drewN (nq + 1)).setCell ⟨q, first, none⟩ (.int .i64 0) := ⟨_, rfl⟩
  rw [← hW1]
  have hb1 := (HB.out.alike (w' := w.drewN (nq + 1)) (by rfl)).other (q := q) (j := first) (v := .int .i64 0) (Ne.symm hqb)
  rw [← hW1] at hb1
  obtain ⟨d0, d1, d2, d3, g0, g1, g2, g3⟩ := hb1.four
  have HB1 := hid hb1
  have HW := hid hW1
  clear hW1 hb1 c0 c1 c2 c3 f0 f1 f2 f3 hcell hfree
  refine Calls.mono (HC.out W1 HB1.out) ?_
  rintro e w2 ⟨rfl, kk, rfl⟩
  go_wp2_with fail
  go_ret2
  have hw1 := HW.out
  subst hw1
  have e1 : ((k : Int) - 1) = (L.length : Nat) := by have := HK1.out; omega
  have hS := HS.out
  subst hS
  have hr2 := RingIs.drop (w' := ((((w.drewN (nq + 1)).drewN kk).setCell ⟨q, first, none⟩ (.int .i64 0)).setCell ⟨b, 1, none⟩ (.int .i64 (((first + 1) % cs.length : Nat) : Int))).setCell ⟨b, 2, none⟩ (.int .i64 (L.length : Nat))) ((HH.out.drewN (nq + 1)).drewN kk) 0 rfl
  refine ⟨rfl, ⟨(first + 1) % cs.length, cs.set first 0, ?_, by have := HH.out.fits; simp at this ⊢; omega⟩, ?_⟩
  · rw [e1]
    simp only [List.length_set]
    exact hr2
  · exact ((((drewN_turn _ _ _).andSet ⟨q, first, none⟩ _ (.inl (by simp))).trans (drewN_turn [] _ _) (by simp)).andSet ⟨b, 1, none⟩ _ (.inl (by simp))).andSet ⟨b, 2, none⟩ _ (.inl (by simp))

theorem rDrop_yes (b q room : Nat) (L : List Int) (x : Int) (w : World) (h : Rg w b q room (x :: L)) (hr : room ≤ 4096) :
    Calls Try.prog 20 #[.pointer (some ⟨b, 0, none⟩)] w (Leaves w b q room L x true) :=
  (rDrop_is b q room L x w h hr).mono fun _ _ ⟨he, ⟨first, cs, hi, _⟩, ht⟩ => ⟨q, he, ⟨first, _, cs, hi⟩, ht, .inl rfl⟩
end Go.Proofs.Ytcochjicaogofaa
