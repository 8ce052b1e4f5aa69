/- Rings of samples: Drop. -/
import Derived.Test.YtccgbkafcbfcgaaSaC
namespace Go.Proofs.Ytccgbkafcbfcgaa
open Go.RowKit

set_option maxRecDepth 20000 in
set_option maxHeartbeats 1000000 in
theorem qDrop_no (b q room : Nat) (w : World) (h : Rq w b q room []) :
    Calls Try.prog 36 #[.pointer (some ⟨b, 0, none⟩)] w fun e w' => e = .returned (.tuple #[pv pz, .bool false]) ∧ Below w.heap.size w w' := by
  have hb2 := two_boxes w 45 45 [.int .i64 0, .int .i64 0] [.int .i64 0, .int .i64 0]
  have hR := h.next hb2.2.2
  have HR := hid hR
  have HB := hid hb2.2.2
  clear h hR hb2
  go_enter Try.func36, Try.ntmps36
  go_wp2_with fail
  refine (qLen _ q room [] _ HR.out).mono ?_
  rintro e w1 ⟨rfl, rfl⟩
  go_wp2_with fail
  exact bodyPost_ret (v := .tuple #[pv pz, .bool false]) (by simp [results, Try.results36, go_sem, pv, pz]) rfl ⟨rfl, HB.out⟩
/-- What Drop leaves of a ring that is not empty. -/
def QDropped (w : World) (b q room : Nat) (L : List Pr) (x : Pr) (e : Ending) (w' : World) : Prop := e = .returned (.tuple #[pv x, .bool true]) ∧ (∃ first cs, RqIs w' b q room first (.slice (some ⟨q, 0, none⟩) cs.length cs.length) cs L ∧ L.length < cs.length) ∧ Turn [b, q] w w'
set_option maxRecDepth 20000 in
set_option maxHeartbeats 1000000 in
theorem qDrop_is (b q room : Nat) (L : List Pr) (x : Pr) (w : World) (h : Rq w b q room (x :: L)) (hr : room ≤ 4096) :
    Calls Try.prog 36 #[.pointer (some ⟨b, 0, none⟩)] w (QDropped w b q room L x) := by
  have hlen := h.len
  have lb := h.lt
  have lq := h.qlt
  obtain ⟨hx0, hx1, hbl⟩ := two_boxes w 45 45 [.int .i64 0, .int .i64 0] [.int .i64 0, .int .i64 0]
  replace h := h.next hbl
  have hP := h
  obtain ⟨W1, hW1⟩ : ∃ W1, W1 = (w.alloc (.cells #[.int .i64 0, .int .i64 0] 45)).alloc (.cells #[.int .i64 0, .int .i64 0] 45) := ⟨_, rfl⟩
  have hs1 : W1.heap.size = w.heap.size + 1 + 1 := by rw [hW1]; simp
  rw [← hW1] at hx0 hx1 hbl h hP
  obtain ⟨first, sv, cs, h⟩ := h
  have hn : 0 < cs.length := by have := h.fits; simp at this; omega
  have hc4 : cs.length ≤ 4096 := by have := h.roomy; omega
  have hf : first < cs.length := by rcases h.inside with h | ⟨h, _⟩; (· exact h); (· rw [h] at hn; simp at hn)
  rcases h.slots with ⟨_, e, _⟩ | ⟨rfl, hqb, _, hq⟩
  · rw [e] at hn; simp at hn
  obtain ⟨n, hnn⟩ : ∃ n, n = cs.length := ⟨_, rfl⟩
  obtain ⟨s, hs⟩ : ∃ s, s = (first + 1) % cs.length := ⟨_, rfl⟩
  obtain ⟨k, hk⟩ : ∃ k, k = (x :: L).length := ⟨_, rfl⟩
  have hk1 : k = L.length + 1 := by rw [hk]; simp
  obtain ⟨s0, s1, t0, t1⟩ := boxq_cell (k := first) hq (by have := h.holds 0 x rfl; rw [Nat.add_zero, Nat.mod_eq_of_lt hf] at this; exact this)
  obtain ⟨c0, c1, c2, c3, f0, f1, f2, f3⟩ := h.box.four
  obtain ⟨x0, x1, y0, y1⟩ := hx0.two
  obtain ⟨u0, u1, v0, v1⟩ := hx1.two
  have hb0 := h.box
  have hblt := h.box.lt
  have hc := fun (wx : World) (hbx : Box wx b [.int .i64 (room : Nat), .int .i64 (first : Nat), .int .i64 ((x :: L).length : Nat), .slice (some ⟨q, 0, none⟩) cs.length cs.length]) => qSlot b q room first cs.length 1 s _ wx hbx hn hc4 hf (by omega) hs
  rw [← hnn] at c3 hb0 hc hf
  rw [← hk] at hb0 hc c2
  have hsn' : (first : Int) < (n : Int) := by omega
  have hk0 : ¬ (k : Int) = 0 := by omega
  have hkb : k ≤ 4096 := by omega
  have hkc : 1 ≤ k := by omega
  have ba : Below W1.heap.size W1 (W1.alloc (.cells #[.int .i64 0, .int .i64 0] 45)) := (Below.refl _ _).alloc (Nat.le_refl _) _
  have lq1 : q < W1.heap.size := by omega
  have a1 := (ba.cell (p := ⟨b, 1, none⟩) hblt).trans c1
  have a3 := (ba.cell (p := ⟨b, 3, none⟩) hblt).trans c3
  have as0 := (ba.cell (p := ⟨q, first * 2, none⟩) lq1).trans s0
  have as1 := (ba.cell (p := ⟨q, first * 2 + 1, none⟩) lq1).trans s1
  have HP := hid hP
  have HC := hid hc
  have HN := hid hnn
  have HS := hid hs
  have HB := hid hb0
  have HH := hid h
  have HK := hid hk
  have HK1 := hid hk1
  have HX := hid hx0
  have HZ := hid hx1
  have HBL := hid hbl
  clear hc hnn hs hb0 h hq hP hk1 hx0 hx1 hbl
  go_enter Try.func36, Try.ntmps36
  go_wp2_with fail
  rw [← hW1]
  clear hW1
  refine (qLen _ q room (x :: L) W1 HP.out).mono ?_
  rintro e w1 ⟨rfl, rfl⟩
  rw [← hk]
  clear hk
  go_wp2_with fail
  go_region
  all_goals go_wp2_with fail
  have b2 : Below W1.heap.size W1 (W1.alloc (.cells #[.int .i64 x.1, .int .i64 x.2] 45)).drew := ((Below.refl _ _).alloc (Nat.le_refl _) _).drew
  have hO : Box (W1.alloc (.cells #[.int .i64 x.1, .int .i64 x.2] 45)).drew (w.heap.size + 1 + 1) [.int .i64 x.1, .int .i64 x.2] := by
    have := (Box.new W1 [.int .i64 x.1, .int .i64 x.2] 45).alike (w' := (W1.alloc (.cells #[.int .i64 x.1, .int .i64 x.2] 45)).drew) (by rfl)
    rwa [hs1] at this
  obtain ⟨W2, hW2⟩ : ∃ W2, W2 = (W1.alloc (.cells #[.int .i64 x.1, .int .i64 x.2] 45)).drew := ⟨_, rfl⟩
  rw [← hW2] at b2 hO ⊢
  have H2 := HH.out.next b2
  have hR0 := HX.out.next b2
  have hZ0 := HZ.out.next b2
  have hb1 := HB.out.next b2
  clear c0 c1 c2 c3 f0 f1 f2 f3 x0 x1 y0 y1 u0 u1 v0 v1 s0 s1 t0 t1 a1 a3 as0 as1 ba hW2
  obtain ⟨c0, c1, c2, c3, f0, f1, f2, f3⟩ := hb1.four
  obtain ⟨u0, u1, v0, v1⟩ := hZ0.two
  have hblt := hb1.lt
  rcases H2.slots with ⟨e, _, _⟩ | ⟨_, _, _, hq⟩
  · cases e
  obtain ⟨s0, s1, t0, t1⟩ := boxq_cell (k := first) hq (by have := H2.holds 0 x rfl; have hff : first < cs.length := by (have := HN.out; omega)
                                                           rw [Nat.add_zero, Nat.mod_eq_of_lt hff] at this; exact this)
  have H2' := hid H2
  have HR0 := hid hR0
  have HO := hid hO
  have HB1 := hid hb1
  have HBL2 := hid b2
  clear H2 hR0 hO hb1 hq hZ0 b2
  go_region
  all_goals go_wp2_with fail
  obtain ⟨W3, hW3⟩ : ∃ W3, W3 = ((W2.setCell ⟨q, first * 2, none⟩ (.int .i64 0)).setCell ⟨q, first * 2 + 1, none⟩ (.int .i64 0)).drew := ⟨_, rfl⟩
  have t3 : Turn [q] W2 W3 := by rw [hW3]; exact (((Turn.refl _ _).andSet ⟨q, first * 2, none⟩ _ (.inl (by simp))).andSet ⟨q, first * 2 + 1, none⟩ _ (.inl (by simp))).trans (drewN_turn [] _ 1) (by simp)
  have hb3 := HB1.out.turn t3 (by simpa using Ne.symm hqb)
  have hO3 := HO.out.turn t3 (by simp; omega)
  have hR3 := HR0.out.turn t3 (by simp; omega)
  rw [← hW3]
  clear c0 c1 c2 c3 f0 f1 f2 f3 u0 u1 v0 v1 s0 s1 t0 t1 hblt
  obtain ⟨c0, c1, c2, c3, f0, f1, f2, f3⟩ := hb3.four
  have bo := fun kk (u v : Value) => (((hO3.alike (w' := W3.drewN kk) (by rfl)).other (q := b) (j := 1) (v := u) (by omega)).other (q := b) (j := 2) (v := v) (by omega)).two
  have br := fun kk (u v : Value) => ((hR3.alike (w' := W3.drewN kk) (by rfl)).other (q := b) (j := 1) (v := u) (by omega)).other (q := b) (j := 2) (v := v) (by omega)
  have bo0 := fun kk u v => (bo kk u v).1
  have bo1 := fun kk u v => (bo kk u v).2.1
  have br0 := fun kk u v => (br kk u v).two.1
  have br1 := fun kk u v => (br kk u v).two.2.1
  have br2 := fun kk u v => (br kk u v).two.2.2.1
  have br3 := fun kk u v => (br kk u v).two.2.2.2
  have o := fun kk u v => (((br kk u v).set 0 (by simp) (.int .i64 x.1)).set 1 (by simp) (.int .i64 x.2)).two
  have o0 := fun kk u v => (o kk u v).1
  have o1 := fun kk u v => (o kk u v).2.1
  have HB3 := hid hb3
  have HW3 := hid hW3
  have HT3 := hid t3
  clear bo br o hb3 hO3 hR3 hW3 t3
  refine Calls.mono (HC.out W3 HB3.out) ?_
  rintro e w2 ⟨rfl, kk, rfl⟩
  go_wp2_with fail
  have e1 : ((k : Int) - 1) = (L.length : Nat) := by have := HK1.out; omega
  rw [e1]
  have hS := HS.out
  subst hS
  refine bodyPost_ret (v := .tuple #[pv x, .bool true]) (by simp [results, Try.results36, go_sem, o0, o1, pv]) rfl ?_
  have hw3 := HW3.out
  subst hw3
  have hr2 := RqIs.drop (w' := (((((W2.drew.drewN kk).setCell ⟨q, first * 2, none⟩ (.int .i64 0)).setCell ⟨q, first * 2 + 1, none⟩ (.int .i64 0))).setCell ⟨b, 1, none⟩ (.int .i64 (((first + 1) % cs.length : Nat) : Int))).setCell ⟨b, 2, none⟩ (.int .i64 (L.length : Nat))) (H2'.out.turn (S := []) (w' := W2.drew.drewN kk) ⟨rfl, rfl, rfl, Nat.le_refl _, fun _ _ _ => rfl⟩ (by simp) (by simp)) pz rfl
  refine ⟨rfl, ⟨(first + 1) % cs.length, cs.set first pz, ?_, by have := H2'.out.fits; simp at this ⊢; omega⟩, ?_⟩
  · simp only [List.length_set]
    exact hr2.turn (S := [w.heap.size]) ((Turn.set _ ⟨w.heap.size, 0, none⟩ (.int .i64 x.1) (by simp)).andSet ⟨w.heap.size, 1, none⟩ (.int .i64 x.2) (.inl (by simp))) (by simp; omega) (by simp; omega)
  · have q1 : Turn [b, q] w W2 := (Turn.of_below HBL.out).trans (Turn.of_below (S := []) HBL2.out) (by simp)
    exact (((((q1.trans HT3.out (by simp)).trans (drewN_turn [] _ _) (by simp)).andSet ⟨b, 1, none⟩ _ (.inl (by simp))).andSet ⟨b, 2, none⟩ _ (.inl (by simp))).andSet ⟨w.heap.size, 0, none⟩ _ (.inr (by simp))).andSet ⟨w.heap.size, 1, none⟩ _ (.inr (by simp))
end Go.Proofs.Ytccgbkafcbfcgaa
