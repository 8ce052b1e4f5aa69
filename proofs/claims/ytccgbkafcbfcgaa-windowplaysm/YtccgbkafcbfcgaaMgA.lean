/- Rings of samples: Len, Room, the slot of a number. Rings of samples: what fill lays. Rings of samples: At, Drop. Rings of samples: Drop. Rings of samples: grow. Rings of samples: Push. Rings of samples: Push that grows. Rings of samples: Push onto a full one. Rings of samples: New; the newest of a list. -/
import Derived.Test.YtccgbkafcbfcgaaSaM
import Derived.Deep.RegionWith
import Derived.BigQuiet
import Derived.OwnWalk
section
namespace Go.Proofs.Ytccgbkafcbfcgaa
open Go.RowKit

theorem qLen (b q room : Nat) (L : List Pr) (w : World) (h : Rq w b q room L) :
    Calls Try.prog 47 #[.pointer (some ⟨b, 0, none⟩)] w fun e w' => e = .returned (.int .i64 (L.length : Nat)) ∧ w = w' := by
  obtain ⟨first, sv, cs, h⟩ := h
  obtain ⟨c0, c1, c2, c3, f0, f1, f2, f3⟩ := h.box.four
  have hlt := h.box.lt
  go_enter Try.func47, Try.ntmps47
  go_wp2_with fail
  go_ret
  exact ⟨rfl, rfl⟩
theorem qRoom (b q room : Nat) (L : List Pr) (w : World) (h : Rq w b q room L) :
    Calls Try.prog 34 #[.pointer (some ⟨b, 0, none⟩)] w fun e w' => e = .returned (.int .i64 (room : Nat)) ∧ w = w' := by
  obtain ⟨first, sv, cs, h⟩ := h
  obtain ⟨c0, c1, c2, c3, f0, f1, f2, f3⟩ := h.box.four
  have hlt := h.box.lt
  go_enter Try.func34, Try.ntmps34
  go_wp2_with fail
  go_ret
  exact ⟨rfl, rfl⟩

/-- The slot of the number j. -/
theorem qSlot (b q room first n j s : Nat) (v2 : Value) (w : World) (hbox : Box w b [.int .i64 (room : Nat), .int .i64 (first : Nat), v2, .slice (some ⟨q, 0, none⟩) n n]) (hn : 0 < n) (hm : n ≤ 4096) (hf : first < n) (hj : j ≤ 4096) (hs : s = (first + j) % n) :
    Calls Try.prog 38 #[.pointer (some ⟨b, 0, none⟩), .int .i64 (j : Nat)] w fun e w' => e = .returned (.int .i64 (s : Nat)) ∧ ∃ k, w' = w.drewN k := by
  obtain ⟨c0, c1, c2, c3, f0, f1, f2, f3⟩ := hbox.four
  have hlt := hbox.lt
  have hz : ¬ (n : Int) = 0 := by omega
  have hk : (((first : Nat) : Int) + (j : Nat)) % (n : Nat) = (s : Nat) := by rw [hs, Int.natCast_emod, Int.natCast_add]
  have HK : Hid _ := hk
  clear hk hs
  go_enter Try.func38, Try.ntmps38
  go_wp2_with fail
  go_quiet (fail)
  go_wp2_with fail
  go_ret
  exact ⟨by rw [HK.out]; rfl, _, rfl⟩
end Go.Proofs.Ytccgbkafcbfcgaa
end
section
namespace Go.Proofs.Ytccgbkafcbfcgaa
open Go.RowKit

theorem takeq_set {L xs : List Pr} {k : Nat} {x : Pr} (hx : L[k]? = some x) (hk : k < xs.length) : (L.take k ++ xs.drop k).set k x = L.take (k + 1) ++ xs.drop (k + 1) := by
  have hkl : k < L.length := (List.getElem?_eq_some_iff.1 hx).1
  have h1 : (L.take k).length = k := by simp; omega
  rw [List.drop_eq_getElem_cons hk, List.set_append_right _ _ (by omega), h1, Nat.sub_self, List.set_cons_zero, List.take_add_one, hx]
  simp
set_option maxRecDepth 20000 in
set_option maxHeartbeats 1000000 in
theorem qFill (b q room : Nat) (L : List Pr) (w : World) (h : Rq w b q room L) (hr : room ≤ 4096) (g m c : Nat) (xs : List Pr) (hg : Box w g (prs xs)) (hgb : g ≠ b) (hgq : g ≠ q) (hm : L.length ≤ m) (hm2 : m ≤ xs.length) (hm3 : m ≤ 4096) :
    Calls Try.prog 57 #[.pointer (some ⟨b, 0, none⟩), .slice (some ⟨g, 0, none⟩) m c] w fun e w' => e = .returned (.tuple #[]) ∧ Turn [g] w w' ∧ Box w' g (prs (L ++ xs.drop L.length)) := by
  have hlen := h.len
  obtain ⟨first, sv, cs, h⟩ := h
  go_enter Try.func57, Try.ntmps57
  go_wp2_with fail
  refine (qLen b q room L w ⟨first, sv, cs, h⟩).mono ?_
  rintro e w1 ⟨rfl, rfl⟩
  go_wp2_with fail
  go_loopw [7] (fun p wr => ∃ k : Nat, p = .int .i64 k ∧ k ≤ L.length ∧ Turn [g] w wr ∧ Box wr g (prs (L.take k ++ xs.drop k))) (fun p _ => L.length - (intOf p).toNat)
  case atStart => exact ⟨0, rfl, by omega, Turn.refl _ _, by simpa using hg⟩
  case round =>
    obtain ⟨k, rfl, hk, ht, hbx⟩ := hrel
    by_cases hlt : k < L.length
    · obtain ⟨x, hx⟩ : ∃ x, L[k]? = some x := ⟨_, List.getElem?_eq_getElem hlt⟩
      have h1 := h.turn ht (by simpa using Ne.symm hgb) (by simpa using Ne.symm hgq)
      have hn : 0 < cs.length := by have := h.fits; omega
      have hc4 : cs.length ≤ 4096 := by have := h.roomy; omega
      obtain ⟨n, hnn⟩ : ∃ n, n = cs.length := ⟨_, rfl⟩
      rcases h1.slots with ⟨_, e, _⟩ | ⟨rfl, hqb, _, hq⟩
      · rw [e] at hn; simp at hn
      obtain ⟨s, hs⟩ : ∃ s, s = (first + k) % cs.length := ⟨_, rfl⟩
      have hsn : s < cs.length := by rw [hs]; exact slot_lt _ hn
      have hf : first < cs.length := by rcases h.inside with h | ⟨h, _⟩; (· exact h); (· rw [h] at hn; simp at hn)
      obtain ⟨s0, s1, _, _⟩ := boxq_cell (k := s) hq (by rw [hs]; exact h.holds k x hx)
      obtain ⟨y, hy⟩ : ∃ y, (L.take k ++ xs.drop k)[k]? = some y := ⟨_, List.getElem?_eq_getElem (by simp; omega)⟩
      obtain ⟨y0, y1, z0, z1⟩ := boxq_cell hbx hy
      have z1' : (wr.setCell ⟨g, k * 2, none⟩ (.int .i64 x.1)).frozen? ⟨g, k * 2 + 1, none⟩ = false := (World.frozen?_setCell _ _ _ _).trans z1
      clear hy
      have hc := fun (wx : World) (hbx : Box wx b [.int .i64 (room : Nat), .int .i64 (first : Nat), .int .i64 (L.length : Nat), .slice (some ⟨q, 0, none⟩) cs.length cs.length]) => qSlot b q room first cs.length k s _ wx hbx hn hc4 hf (by omega) hs
      obtain ⟨c0, c1, c2, c3, f0, f1, f2, f3⟩ := h1.box.four
      have hb0 := h1.box
      rw [← hnn] at hsn c3 hb0 hc
      have hkm : k < m := by omega
      have hkm' : (k : Int) < (m : Int) := by omega
      have hsn' : (s : Int) < (n : Int) := by omega
      have HC := hid hc
      have HN := hid hnn
      have HS := hid hs
      have HB := hid hb0
      have HX := hid hbx
      have HT := hid ht
      have hblt := h1.box.lt
      clear hc hnn hs hb0 h1 h hq hbx hg ht
      go_wp2_with fail
      go_region_with (go_at_call 38; refine (HC.out _ (HB.out.alike (by rfl))).mono ?_; rintro e w1 ⟨rfl, kk, rfl⟩)
      all_goals (go_wp2_with fail; go_roundw)
      all_goals first
        | exact ⟨k + 1, by simp, by omega, ((HT.out.trans (drewN_turn [] _ _) (by simp)).andSet ⟨g, k * 2, none⟩ _ (.inl (by simp))).andSet ⟨g, k * 2 + 1, none⟩ _ (.inl (by simp)), by rw [← takeq_set hx (by omega)]; exact boxq_put (HX.out.alike (by rfl)) (by simp; omega) x⟩
        | (simp [intOf]; omega)
    · obtain rfl : k = L.length := by omega
      go_wp2_with fail
      go_end0
      exact ⟨rfl, ht, by simpa using hbx⟩
end Go.Proofs.Ytccgbkafcbfcgaa
end
section
namespace Go.Proofs.Ytccgbkafcbfcgaa
open Go.RowKit

theorem below_drewQ {B : Nat} {a w : World} (h : Below B a w) (n : Nat) : Below B a (w.drewN n) := ⟨h.os, h.tape, h.output, h.size, h.block⟩
/-- A pair as a value. -/
def pv (p : Pr) : Value := .agg #[.int .i64 p.1, .int .i64 p.2]
theorem RqIs.drewN {w : World} {b q room first : Nat} {sv : Value} {cs L : List Pr} (h : RqIs w b q room first sv cs L) (k : Nat) : RqIs (w.drewN k) b q room first sv cs L := h.turn (drewN_turn [] w k) (by simp) (by simp)
set_option maxRecDepth 20000 in
set_option maxHeartbeats 1000000 in
theorem qAt_yes (b q room : Nat) (L : List Pr) (j : Nat) (x : Pr) (w : World) (h : Rq w b q room L) (hr : room ≤ 4096) (hx : L[j]? = some x) :
    Calls Try.prog 58 #[.pointer (some ⟨b, 0, none⟩), .int .i64 (j : Nat)] w fun e w' => e = .returned (.tuple #[pv x, .bool true]) ∧ Below w.heap.size w w' := by
  have hjl : j < L.length := (List.getElem?_eq_some_iff.1 hx).1
  have hlen := h.len
  have hb1 : Below w.heap.size w (w.alloc (.cells #[.int .i64 0, .int .i64 0] 45)) := (Below.refl _ _).alloc (Nat.le_refl _) _
  replace h := h.next hb1
  have hbx := (one_box w 45 [.int .i64 0, .int .i64 0]).1
  have hP := h
  obtain ⟨first, sv, cs, h⟩ := h
  have hn : 0 < cs.length := by have := h.fits; omega
  have hc4 : cs.length ≤ 4096 := by have := h.roomy; omega
  have hf : first < cs.length := by rcases h.inside with h | ⟨h, _⟩; (· exact h); (· rw [h] at hn; simp at hn)
  rcases h.slots with ⟨_, e, _⟩ | ⟨rfl, hqb, _, hq⟩
  · rw [e] at hn; simp at hn
  obtain ⟨n, hnn⟩ : ∃ n, n = cs.length := ⟨_, rfl⟩
  obtain ⟨s, hs⟩ : ∃ s, s = (first + j) % cs.length := ⟨_, rfl⟩
  have hsn : s < cs.length := by rw [hs]; exact slot_lt _ hn
  obtain ⟨s0, s1, _, _⟩ := boxq_cell (k := s) hq (by rw [hs]; exact h.holds j x hx)
  obtain ⟨c0, c1, c2, c3, f0, f1, f2, f3⟩ := h.box.four
  obtain ⟨x0, x1, y0, y1⟩ := hbx.two
  have hc := fun (wx : World) (hbx : Box wx b [.int .i64 (room : Nat), .int .i64 (first : Nat), .int .i64 (L.length : Nat), .slice (some ⟨q, 0, none⟩) cs.length cs.length]) => qSlot b q room first cs.length j s _ wx hbx hn hc4 hf (by omega) hs
  have hb0 := h.box
  have hblt := h.box.lt
  rw [← hnn] at hsn c3 hb0 hc
  have hsn' : (s : Int) < (n : Int) := by omega
  have hj1 : ¬ (j : Int) < 0 := by omega
  have hj2 : ¬ (L.length : Int) ≤ (j : Int) := by omega
  obtain ⟨W1, hW1⟩ : ∃ W1, W1 = w.alloc (.cells #[.int .i64 0, .int .i64 0] 45) := ⟨_, rfl⟩
  rw [← hW1] at c0 c1 c2 c3 f0 f1 f2 f3 x0 x1 y0 y1 hP hb0 hb1 s0 s1 hblt
  have y1' : ∀ n, ((W1.drewN n).setCell ⟨w.heap.size, 0, none⟩ (.int .i64 x.1)).frozen? ⟨w.heap.size, 1, none⟩ = false := fun n => (World.frozen?_setCell _ _ _ _).trans y1
  have hbx1 : Box W1 w.heap.size [.int .i64 0, .int .i64 0] := by rw [hW1]; exact hbx
  have o := fun n => (((hbx1.alike (w' := W1.drewN n) (by rfl)).set 0 (by simp) (.int .i64 x.1)).set 1 (by simp) (.int .i64 x.2)).two
  have o0 := fun n => (o n).1
  have o1 := fun n => (o n).2.1
  have HP := hid hP
  have HC := hid hc
  have HN := hid hnn
  have HS := hid hs
  have HB := hid hb0
  have HB1 := hid hb1
  clear hc hnn hs hb0 h hq hP hx hb1 hbx hbx1 o
  go_enter Try.func58, Try.ntmps58
  go_wp2_with fail
  rw [← hW1]
  clear hW1
  refine (qLen _ q room L _ HP.out).mono ?_
  rintro e w1 ⟨rfl, rfl⟩
  go_wp2_with fail
  go_region_with (go_at_call 38; refine (HC.out _ (HB.out.alike (by rfl))).mono ?_; rintro e w1 ⟨rfl, kk, rfl⟩)
  all_goals go_wp2_with fail
  all_goals (
    refine bodyPost_ret (v := .tuple #[pv x, .bool true]) (by simp [results, Try.results58, go_sem, Act.put, o0, o1, pv]) rfl ⟨rfl, ?_⟩
    exact ((below_drewQ HB1.out _).setCell (by simp) _).setCell (by simp) _)
end Go.Proofs.Ytccgbkafcbfcgaa
end
section
namespace Go.Proofs.Ytccgbkafcbfcgaa
open Go.RowKit

set_option maxRecDepth 20000 in
set_option maxHeartbeats 1000000 in
theorem qDrop_no (b q room : Nat) (w : World) (h : Rq w b q room []) :
    Calls Try.prog 36 #[.pointer (some ⟨b, 0, none⟩)] w fun e w' => e = .returned (.tuple #[pv pz, .bool false]) ∧ Below w.heap.size w w' := by
  have hb2 := two_boxes w 45 45 [.int .i64 0, .int .i64 0] [.int .i64 0, .int .i64 0]
  have hR := h.next hb2.2.2
  have HR := hid hR
  have HB := hid hb2.2.2
  clear h hR hb2
  go_enter Try.func36, Try.ntmps36
  go_wp2_with fail
  refine (qLen _ q room [] _ HR.out).mono ?_
  rintro e w1 ⟨rfl, rfl⟩
  go_wp2_with fail
  exact bodyPost_ret (v := .tuple #[pv pz, .bool false]) (by simp [results, Try.results36, go_sem, pv, pz]) rfl ⟨rfl, HB.out⟩
/-- What Drop leaves of a ring that is not empty. -/
def QDropped (w : World) (b q room : Nat) (L : List Pr) (x : Pr) (e : Ending) (w' : World) : Prop := e = .returned (.tuple #[pv x, .bool true]) ∧ (∃ first cs, RqIs w' b q room first (.slice (some ⟨q, 0, none⟩) cs.length cs.length) cs L ∧ L.length < cs.length) ∧ Turn [b, q] w w'
set_option maxRecDepth 20000 in
set_option maxHeartbeats 1000000 in
theorem qDrop_is (b q room : Nat) (L : List Pr) (x : Pr) (w : World) (h : Rq w b q room (x :: L)) (hr : room ≤ 4096) :
    Calls Try.prog 36 #[.pointer (some ⟨b, 0, none⟩)] w (QDropped w b q room L x) := by
  have hlen := h.len
  have lb := h.lt
  have lq := h.qlt
  obtain ⟨hx0, hx1, hbl⟩ := two_boxes w 45 45 [.int .i64 0, .int .i64 0] [.int .i64 0, .int .i64 0]
  replace h := h.next hbl
  have hP := h
  obtain ⟨W1, hW1⟩ : ∃ W1, W1 = (w.alloc (.cells #[.int .i64 0, .int .i64 0] 45)).alloc (.cells #[.int .i64 0, .int .i64 0] 45) := ⟨_, rfl⟩
  have hs1 : W1.heap.size = w.heap.size + 1 + 1 := by rw [hW1]; simp
  rw [← hW1] at hx0 hx1 hbl h hP
  obtain ⟨first, sv, cs, h⟩ := h
  have hn : 0 < cs.length := by have := h.fits; simp at this; omega
  have hc4 : cs.length ≤ 4096 := by have := h.roomy; omega
  have hf : first < cs.length := by rcases h.inside with h | ⟨h, _⟩; (· exact h); (· rw [h] at hn; simp at hn)
  rcases h.slots with ⟨_, e, _⟩ | ⟨rfl, hqb, _, hq⟩
  · rw [e] at hn; simp at hn
  obtain ⟨n, hnn⟩ : ∃ n, n = cs.length := ⟨_, rfl⟩
  obtain ⟨s, hs⟩ : ∃ s, s = (first + 1) % cs.length := ⟨_, rfl⟩
  obtain ⟨k, hk⟩ : ∃ k, k = (x :: L).length := ⟨_, rfl⟩
  have hk1 : k = L.length + 1 := by rw [hk]; simp
  obtain ⟨s0, s1, t0, t1⟩ := boxq_cell (k := first) hq (by have := h.holds 0 x rfl; rw [Nat.add_zero, Nat.mod_eq_of_lt hf] at this; exact this)
  obtain ⟨c0, c1, c2, c3, f0, f1, f2, f3⟩ := h.box.four
  obtain ⟨x0, x1, y0, y1⟩ := hx0.two
  obtain ⟨u0, u1, v0, v1⟩ := hx1.two
  have hb0 := h.box
  have hblt := h.box.lt
  have hc := fun (wx : World) (hbx : Box wx b [.int .i64 (room : Nat), .int .i64 (first : Nat), .int .i64 ((x :: L).length : Nat), .slice (some ⟨q, 0, none⟩) cs.length cs.length]) => qSlot b q room first cs.length 1 s _ wx hbx hn hc4 hf (by omega) hs
  rw [← hnn] at c3 hb0 hc hf
  rw [← hk] at hb0 hc c2
  have hsn' : (first : Int) < (n : Int) := by omega
  have hk0 : ¬ (k : Int) = 0 := by omega
  have hkb : k ≤ 4096 := by omega
  have hkc : 1 ≤ k := by omega
  have ba : Below W1.heap.size W1 (W1.alloc (.cells #[.int .i64 0, .int .i64 0] 45)) := (Below.refl _ _).alloc (Nat.le_refl _) _
  have lq1 : q < W1.heap.size := by omega
  have a1 := (ba.cell (p := ⟨b, 1, none⟩) hblt).trans c1
  have a3 := (ba.cell (p := ⟨b, 3, none⟩) hblt).trans c3
  have as0 := (ba.cell (p := ⟨q, first * 2, none⟩) lq1).trans s0
  have as1 := (ba.cell (p := ⟨q, first * 2 + 1, none⟩) lq1).trans s1
  have HP := hid hP
  have HC := hid hc
  have HN := hid hnn
  have HS := hid hs
  have HB := hid hb0
  have HH := hid h
  have HK := hid hk
  have HK1 := hid hk1
  have HX := hid hx0
  have HZ := hid hx1
  have HBL := hid hbl
  clear hc hnn hs hb0 h hq hP hk1 hx0 hx1 hbl
  go_enter Try.func36, Try.ntmps36
  go_wp2_with fail
  rw [← hW1]
  clear hW1
  refine (qLen _ q room (x :: L) W1 HP.out).mono ?_
  rintro e w1 ⟨rfl, rfl⟩
  rw [← hk]
  clear hk
  go_wp2_with fail
  go_region
  all_goals go_wp2_with fail
  have b2 : Below W1.heap.size W1 (W1.alloc (.cells #[.int .i64 x.1, .int .i64 x.2] 45)).drew := ((Below.refl _ _).alloc (Nat.le_refl _) _).drew
  have hO : Box (W1.alloc (.cells #[.int .i64 x.1, .int .i64 x.2] 45)).drew (w.heap.size + 1 + 1) [.int .i64 x.1, .int .i64 x.2] := by
    have := (Box.new W1 [.int .i64 x.1, .int .i64 x.2] 45).alike (w' := (W1.alloc (.cells #[.int .i64 x.1, .int .i64 x.2] 45)).drew) (by rfl)
    rwa [hs1] at this
  obtain ⟨W2, hW2⟩ : ∃ W2, W2 = (W1.alloc (.cells #[.int .i64 x.1, .int .i64 x.2] 45)).drew := ⟨_, rfl⟩
  rw [← hW2] at b2 hO ⊢
  have H2 := HH.out.next b2
  have hR0 := HX.out.next b2
  have hZ0 := HZ.out.next b2
  have hb1 := HB.out.next b2
  clear c0 c1 c2 c3 f0 f1 f2 f3 x0 x1 y0 y1 u0 u1 v0 v1 s0 s1 t0 t1 a1 a3 as0 as1 ba hW2
  obtain ⟨c0, c1, c2, c3, f0, f1, f2, f3⟩ := hb1.four
  obtain ⟨u0, u1, v0, v1⟩ := hZ0.two
  have hblt := hb1.lt
  rcases H2.slots with ⟨e, _, _⟩ | ⟨_, _, _, hq⟩
  · cases e
  obtain ⟨s0, s1, t0, t1⟩ := boxq_cell (k := first) hq (by have := H2.holds 0 x rfl; have hff : first < cs.length := by (have := HN.out; omega)
                                                           rw [Nat.add_zero, Nat.mod_eq_of_lt hff] at this; exact this)
  have H2' := hid H2
  have HR0 := hid hR0
  have HO := hid hO
  have HB1 := hid hb1
  have HBL2 := hid b2
  clear H2 hR0 hO hb1 hq hZ0 b2
  go_region
  all_goals go_wp2_with fail
  obtain ⟨W3, hW3⟩ : ∃ W3, W3 = ((W2.setCell ⟨q, first * 2, none⟩ (.int .i64 0)).setCell ⟨q, first * 2 + 1, none⟩ (.int .i64 0)).drew := ⟨_, rfl⟩
  have t3 : Turn [q] W2 W3 := by rw [hW3]; exact (((Turn.refl _ _).andSet ⟨q, first * 2, none⟩ _ (.inl (by simp))).andSet ⟨q, first * 2 + 1, none⟩ _ (.inl (by simp))).trans (drewN_turn [] _ 1) (by simp)
  have hb3 := HB1.out.turn t3 (by simpa using Ne.symm hqb)
  have hO3 := HO.out.turn t3 (by simp; omega)
  have hR3 := HR0.out.turn t3 (by simp; omega)
  rw [← hW3]
  clear c0 c1 c2 c3 f0 f1 f2 f3 u0 u1 v0 v1 s0 s1 t0 t1 hblt
  obtain ⟨c0, c1, c2, c3, f0, f1, f2, f3⟩ := hb3.four
  have bo := fun kk (u v : Value) => (((hO3.alike (w' := W3.drewN kk) (by rfl)).other (q := b) (j := 1) (v := u) (by omega)).other (q := b) (j := 2) (v := v) (by omega)).two
  have br := fun kk (u v : Value) => ((hR3.alike (w' := W3.drewN kk) (by rfl)).other (q := b) (j := 1) (v := u) (by omega)).other (q := b) (j := 2) (v := v) (by omega)
  have bo0 := fun kk u v => (bo kk u v).1
  have bo1 := fun kk u v => (bo kk u v).2.1
  have br0 := fun kk u v => (br kk u v).two.1
  have br1 := fun kk u v => (br kk u v).two.2.1
  have br2 := fun kk u v => (br kk u v).two.2.2.1
  have br3 := fun kk u v => (br kk u v).two.2.2.2
  have o := fun kk u v => (((br kk u v).set 0 (by simp) (.int .i64 x.1)).set 1 (by simp) (.int .i64 x.2)).two
  have o0 := fun kk u v => (o kk u v).1
  have o1 := fun kk u v => (o kk u v).2.1
  have HB3 := hid hb3
  have HW3 := hid hW3
  have HT3 := hid t3
  clear bo br o hb3 hO3 hR3 hW3 t3
  refine Calls.mono (HC.out W3 HB3.out) ?_
  rintro e w2 ⟨rfl, kk, rfl⟩
  go_wp2_with fail
  have e1 : ((k : Int) - 1) = (L.length : Nat) := by have := HK1.out; omega
  rw [e1]
  have hS := HS.out
  subst hS
  refine bodyPost_ret (v := .tuple #[pv x, .bool true]) (by simp [results, Try.results36, go_sem, o0, o1, pv]) rfl ?_
  have hw3 := HW3.out
  subst hw3
  have hr2 := RqIs.drop (w' := (((((W2.drew.drewN kk).setCell ⟨q, first * 2, none⟩ (.int .i64 0)).setCell ⟨q, first * 2 + 1, none⟩ (.int .i64 0))).setCell ⟨b, 1, none⟩ (.int .i64 (((first + 1) % cs.length : Nat) : Int))).setCell ⟨b, 2, none⟩ (.int .i64 (L.length : Nat))) (H2'.out.turn (S := []) (w' := W2.drew.drewN kk) ⟨rfl, rfl, rfl, Nat.le_refl _, fun _ _ _ => rfl⟩ (by simp) (by simp)) pz rfl
  refine ⟨rfl, ⟨(first + 1) % cs.length, cs.set first pz, ?_, by have := H2'.out.fits; simp at this ⊢; omega⟩, ?_⟩
  · simp only [List.length_set]
    exact hr2.turn (S := [w.heap.size]) ((Turn.set _ ⟨w.heap.size, 0, none⟩ (.int .i64 x.1) (by simp)).andSet ⟨w.heap.size, 1, none⟩ (.int .i64 x.2) (.inl (by simp))) (by simp; omega) (by simp; omega)
  · have q1 : Turn [b, q] w W2 := (Turn.of_below HBL.out).trans (Turn.of_below (S := []) HBL2.out) (by simp)
    exact (((((q1.trans HT3.out (by simp)).trans (drewN_turn [] _ _) (by simp)).andSet ⟨b, 1, none⟩ _ (.inl (by simp))).andSet ⟨b, 2, none⟩ _ (.inl (by simp))).andSet ⟨w.heap.size, 0, none⟩ _ (.inr (by simp))).andSet ⟨w.heap.size, 1, none⟩ _ (.inr (by simp))
end Go.Proofs.Ytccgbkafcbfcgaa
end
section
namespace Go.Proofs.Ytccgbkafcbfcgaa
open Go.RowKit

theorem info_pair : (Try.prog.info? 45).map (fun i => (i.zero, i.size, i.bytes)) = some (some (.agg #[.int .i64 0, .int .i64 0]), 2, 16) := by kernel_rfl
theorem boxq_made {w w' : World} {n base : Nat} (h : w'.ownsRow base 45 2 (.slice (some ⟨w.heap.size, 0, none⟩) n n) n (madeCells (Value.agg #[.int .i64 0, .int .i64 0]).cells (n * 2)).toList) : Box w' w.heap.size (prs (List.replicate n pz)) := by
  obtain ⟨hl, ⟨e, _⟩ | ⟨g, cap, cur, e, hb, hg, _, _, hs, ht⟩⟩ := h
  · cases e
  · cases e
    rw [List.take_of_length_le (by simp [hs])] at ht
    rw [prs_replicate, ← ht]
    exact Box.ofBlock hg
set_option maxRecDepth 20000 in
set_option maxHeartbeats 1000000 in
/-- grow: new slots, and more of them. -/
theorem qGrow (b q room : Nat) (L : List Pr) (w : World) (h : Rq w b q room L) (hr : room ≤ 4096) (hl : L.length < room) :
    Calls Try.prog 37 #[.pointer (some ⟨b, 0, none⟩)] w fun e w' => e = .returned (.tuple #[]) ∧ Turn [b] w w' ∧ ∃ g first cs, w.heap.size ≤ g ∧ RqIs w' b g room first (.slice (some ⟨g, 0, none⟩) cs.length cs.length) cs L ∧ L.length < cs.length := by
  obtain ⟨i0, hi, hz0, hz1, hz2⟩ := info_parts info_pair
  have hh := h
  obtain ⟨first, sv, cs, h⟩ := h
  obtain ⟨c0, c1, c2, c3, f0, f1, f2, f3⟩ := h.box.four
  have hblt := h.box.lt
  obtain ⟨k, hk⟩ : ∃ k, k = L.length := ⟨_, rfl⟩
  rw [← hk] at c2
  have hk1 : k < room := by omega
  have HH := hid hh
  have H1 := hid h
  have HK := hid hk
  clear hh h hk
  obtain ⟨m, hm⟩ : ∃ m : Nat, m = min (2 * k + 1) room := ⟨_, rfl⟩
  have hif : (if (room : Int) < 2 * (k : Int) + 1 then (room : Int) else 2 * (k : Int) + 1) = (m : Nat) := by split <;> omega
  have hm2 : k < m := by omega
  have hm3 : m ≤ room := by omega
  have hw1 : IntKind.i64.wrap (2 * (k : Int)) = 2 * (k : Int) := by rw [IntKind.wrap_i64]; omega
  have hw2 : IntKind.i64.wrap (2 * (k : Int) + 1) = 2 * (k : Int) + 1 := by rw [IntKind.wrap_i64]; omega
  obtain ⟨w1, hrun, hown, hgrow⟩ := run_make_full (P := Try.prog) w.drew w.heap.size 32 45 i0 (.agg #[.int .i64 0, .int .i64 0]) 2 Try.underlying32 hi hz0 hz1 .i64 .i64 m (by rw [hz2]; omega) (by simp only [maxLen]; omega) (Nat.le_refl _)
  have HM := hid hm
  have HO := hid hown
  have HG := hid hgrow
  clear hm hown hgrow
  go_enter Try.func37, Try.ntmps37
  go_wp2_with fail
  go_region
  --GROW
  have hk2 := boxq_made (w := w.drew) HO.out
  have hb1 : Below w.heap.size w w1 := ((Below.refl _ w).drew).grown HG.out (Nat.le_refl _) (by simp)
  have hR := HH.out.next hb1
  have hI := H1.out.next hb1
  have hlt := HH.out.lt
  have hql := HH.out.qlt
  have hHK := HK.out
  clear c0 c1 c2 c3 f0 f1 f2 f3 hrun
  go_wp2_with fail
  refine (qFill b q room L w1 hR hr w.heap.size m m _ hk2 (by omega) (by omega) (by omega) (by simp) (by omega)).mono ?_
  rintro e w2 ⟨rfl, ht, hk3⟩
  have hI2 := hI.box.turn ht (by simp; omega)
  obtain ⟨c0, c1, c2, c3, f0, f1, f2, f3⟩ := hI2.four
  have HI := hid hI
  have HT := hid ht
  have HK3 := hid hk3
  have HH1 := hid hHK
  clear hI hI2 ht hk3 hR hk2 hHK
  go_wp2_with fail
  go_end0
  have hl' : (L ++ (List.replicate m pz).drop L.length).length = m := by have := HH1.out; simp; omega
  have tt : Turn [w.heap.size] w w2 := (Turn.of_below hb1).trans HT.out (by simp)
  refine ⟨rfl, ?_, w.heap.size, 0, L ++ (List.replicate m pz).drop L.length, Nat.le_refl _, RqIs.grown H1.out tt (Nat.le_refl _) HK3.out (by omega) (by omega) (by rw [hl']), by have := HH1.out; omega⟩
  exact (((Turn.of_below hb1).trans HT.out (by simp)).andSet ⟨b, 3, none⟩ _ (.inl (by simp))).andSet ⟨b, 1, none⟩ _ (.inl (by simp))

end Go.Proofs.Ytccgbkafcbfcgaa
end
section
namespace Go.Proofs.Ytccgbkafcbfcgaa
open Go.RowKit

/-- What is answered, and what the ring holds behind it. -/
def QLeaves (w : World) (b q room : Nat) (L : List Pr) (x : Pr) (ok : Bool) (e : Ending) (w' : World) : Prop := ∃ q', e = .returned (.tuple #[pv x, .bool ok]) ∧ Rq w' b q' room L ∧ Turn [b, q] w w' ∧ (q' = q ∨ w.heap.size ≤ q')
/-- The end of Push: v goes behind the newest, where there is a slot for it. -/
def QPushEnd (W w : World) (b q r first : Nat) (cs L : List Pr) (v o : Pr) : Prop := ∃ kk : Nat, w = (((((W.drewN kk).setCell ⟨q, (first + L.length) % cs.length * 2, none⟩ (.int .i64 v.1)).setCell ⟨q, (first + L.length) % cs.length * 2 + 1, none⟩ (.int .i64 v.2)).setCell ⟨b, 2, none⟩ (.int .i64 ((L.length + 1 : Nat) : Int))).setCell ⟨r, 0, none⟩ (.int .i64 o.1)).setCell ⟨r, 1, none⟩ (.int .i64 o.2)
theorem QPushEnd.is {W w : World} {b q r room first : Nat} {cs L : List Pr} {v o : Pr} (e : QPushEnd W w b q r first cs L v o) (h : RqIs W b q room first (.slice (some ⟨q, 0, none⟩) cs.length cs.length) cs L) (hl : L.length < cs.length) (h1 : r ≠ b) (h2 : r ≠ q) : Rq w b q room (L ++ [v]) ∧ Turn [b, q, r] W w := by
  obtain ⟨kk, rfl⟩ := e
  have h3 := RqIs.put (w' := (((W.drewN kk).setCell ⟨q, (first + L.length) % cs.length * 2, none⟩ (.int .i64 v.1)).setCell ⟨q, (first + L.length) % cs.length * 2 + 1, none⟩ (.int .i64 v.2)).setCell ⟨b, 2, none⟩ (.int .i64 ((L.length + 1 : Nat) : Int))) (h.drewN kk) hl v rfl
  refine ⟨⟨_, _, _, h3.turn (S := [r]) ((Turn.set _ ⟨r, 0, none⟩ (.int .i64 o.1) (by simp)).andSet ⟨r, 1, none⟩ (.int .i64 o.2) (.inl (by simp))) (by simpa using Ne.symm h1) (by simpa using Ne.symm h2)⟩, ?_⟩
  exact (((((drewN_turn _ _ _).andSet _ _ (.inl (by simp))).andSet _ _ (.inl (by simp))).andSet _ _ (.inl (by simp))).andSet _ _ (.inl (by simp))).andSet _ _ (.inl (by simp))
set_option maxRecDepth 20000 in
set_option maxHeartbeats 4000000 in
theorem qPush_slot (b q room first : Nat) (cs L : List Pr) (v : Pr) (w : World) (h : RqIs w b q room first (.slice (some ⟨q, 0, none⟩) cs.length cs.length) cs L) (hr : room ≤ 4096) (hroom : L.length < room) (hl : L.length < cs.length) :
    Calls Try.prog 26 #[.pointer (some ⟨b, 0, none⟩), .agg #[.int .i64 v.1, .int .i64 v.2]] w (QLeaves w b q room (L ++ [v]) pz false) := by
  have hR : Rq w b q room L := ⟨_, _, _, h⟩
  have lb := hR.lt
  have lq := hR.qlt
  obtain ⟨_, _, hbl1⟩ := two_boxes w 45 45 [.int .i64 v.1, .int .i64 v.2] [.int .i64 0, .int .i64 0]
  have hR1 := hR.next hbl1
  obtain ⟨hV, hRr, hOo, hbl⟩ := three_boxes w 45 45 45 [.int .i64 v.1, .int .i64 v.2] [.int .i64 0, .int .i64 0] [.int .i64 0, .int .i64 0]
  obtain ⟨W2, hW2⟩ : ∃ W2, W2 = ((w.alloc (.cells #[.int .i64 v.1, .int .i64 v.2] 45)).alloc (.cells #[.int .i64 0, .int .i64 0] 45)).alloc (.cells #[.int .i64 0, .int .i64 0] 45) := ⟨_, rfl⟩
  have hs2 : W2.heap.size = w.heap.size + 1 + 1 + 1 := by rw [hW2]; simp
  rw [← hW2] at hV hRr hOo hbl
  have hR2 := hR.next hbl
  replace h := h.next hbl
  have hn : 0 < cs.length := by omega
  have hc4 : cs.length ≤ 4096 := by have := h.roomy; omega
  have hf : first < cs.length := by rcases h.inside with h | ⟨h, _⟩; (· exact h); (· rw [h] at hn; simp at hn)
  rcases h.slots with ⟨e, _, _⟩ | ⟨_, hqb, _, hq⟩
  · cases e
  obtain ⟨n, hnn⟩ : ∃ n, n = cs.length := ⟨_, rfl⟩
  obtain ⟨k, hk⟩ : ∃ k, k = L.length := ⟨_, rfl⟩
  obtain ⟨s, hs⟩ : ∃ s, s = (first + k) % cs.length := ⟨_, rfl⟩
  have hsn : s < cs.length := by rw [hs]; exact slot_lt _ hn
  have hkb : k ≤ 4096 := by omega
  obtain ⟨y, hy⟩ : ∃ y, cs[s]? = some y := ⟨_, List.getElem?_eq_getElem hsn⟩
  obtain ⟨t0, t1, t2, t3⟩ := boxq_cell (k := s) hq hy
  obtain ⟨c0, c1, c2, c3, f0, f1, f2, f3⟩ := h.box.four
  obtain ⟨x0, x1, _, _⟩ := hV.two
  have hc := fun (wx : World) (hbx : Box wx b [.int .i64 (room : Nat), .int .i64 (first : Nat), .int .i64 (L.length : Nat), .slice (some ⟨q, 0, none⟩) cs.length cs.length]) => qSlot b q room first cs.length k s _ wx hbx hn hc4 hf (by omega) hs
  have hb0 := h.box
  have hblt := h.box.lt
  rw [← hnn] at hsn c3 hb0 hc
  rw [← hk] at hb0 hc c2
  have hsn' : (s : Int) < (n : Int) := by omega
  have dd := fun kk (u u' : Value) => ((hb0.alike (w' := W2.drewN kk) (by rfl)).other (q := q) (j := s * 2) (v := u) (Ne.symm hqb)).other (q := q) (j := s * 2 + 1) (v := u') (Ne.symm hqb)
  have d2 := fun kk u u' => (dd kk u u').cell 2 _ rfl
  have d3 := fun kk u u' => (dd kk u u').free 2 (by simp)
  have bo := fun kk (u u' u2 : Value) => ((((hOo.alike (w' := W2.drewN kk) (by rfl)).other (q := q) (j := s * 2) (v := u) (by omega)).other (q := q) (j := s * 2 + 1) (v := u') (by omega)).other (q := b) (j := 2) (v := u2) (by omega)).two
  have br := fun kk (u u' u2 : Value) => (((hRr.alike (w' := W2.drewN kk) (by rfl)).other (q := q) (j := s * 2) (v := u) (by omega)).other (q := q) (j := s * 2 + 1) (v := u') (by omega)).other (q := b) (j := 2) (v := u2) (by omega)
  have bo0 := fun kk u u' u2 => (bo kk u u' u2).1
  have bo1 := fun kk u u' u2 => (bo kk u u' u2).2.1
  have br0 := fun kk u u' u2 => (br kk u u' u2).two.1
  have br1 := fun kk u u' u2 => (br kk u u' u2).two.2.1
  have br2 := fun kk u u' u2 => (br kk u u' u2).two.2.2.1
  have br3 := fun kk u u' u2 => (br kk u u' u2).two.2.2.2
  have oo := fun kk u u' u2 => (((br kk u u' u2).set 0 (by simp) (.int .i64 0)).set 1 (by simp) (.int .i64 0)).two
  have o0 := fun kk u u' u2 => (oo kk u u' u2).1
  have o1 := fun kk u u' u2 => (oo kk u u' u2).2.1
  have HC := hid hc
  have HN := hid hnn
  have HS := hid hs
  have HB := hid hb0
  have HH := hid h
  have HK := hid hk
  have HL := hid hl
  clear hc hnn hs hb0 h hq hy hk hl dd bo br oo hV hRr hOo
  have HR1 := hid hR1
  have HBL := hid hbl
  clear hR hR1 hR2 hbl hbl1
  have e1 : ¬ (room : Int) = 0 := by omega
  have e2 : ¬ (k : Int) = (room : Int) := by have := HK.out; omega
  have e3 : ¬ (k : Int) = (n : Int) := by have := HK.out; have := HN.out; have := HL.out; omega
  have e2' : ((k : Int) == (room : Int)) = false := by simpa using e2
  have e3' : ((k : Int) == (n : Int)) = false := by simpa using e3
  go_enter Try.func26, Try.ntmps26
  go_wp2_with fail
  refine (qRoom b q room L _ HR1.out).mono ?_
  rintro e w1 ⟨rfl, rfl⟩
  go_wp2_with fail
  rw [← hW2]
  clear hW2
  go_quiet (fail)
  go_wp2_with fail
  go_quiet (fail)
  go_wp2_with fail
  go_region_with (go_at_call 38; refine (HC.out _ (HB.out.alike (by rfl))).mono ?_; rintro e w9 ⟨rfl, kk, rfl⟩)
  all_goals go_wp2_with fail
  all_goals (
    refine bodyPost_ret (v := .tuple #[pv pz, .bool false]) (by simp [results, Try.results26, go_sem, o0, o1, pv, pz]) rfl ?_
    have a1 := HK.out
    have a2 := HS.out
    subst a1
    subst a2
    exact ⟨q, rfl, (QPushEnd.is (W := W2) (v := v) (o := pz) ⟨_, rfl⟩ HH.out HL.out (by omega) (by omega)).1, (Turn.of_below HBL.out).trans (QPushEnd.is (W := W2) (v := v) (o := pz) ⟨_, rfl⟩ HH.out HL.out (by omega) (by omega)).2 (fun i hi => (by simp at hi ⊢; omega)), .inl rfl⟩)
end Go.Proofs.Ytccgbkafcbfcgaa
end
section
namespace Go.Proofs.Ytccgbkafcbfcgaa
open Go.RowKit

set_option maxRecDepth 20000 in
set_option maxHeartbeats 4000000 in
theorem qPush_grow (b q room : Nat) (L : List Pr) (v : Pr) (w : World) (first0 : Nat) (sv0 : Value) (cs0 : List Pr) (h0 : RqIs w b q room first0 sv0 cs0 L) (hr : room ≤ 4096) (hroom : L.length < room) (hl0 : L.length = cs0.length) :
    Calls Try.prog 26 #[.pointer (some ⟨b, 0, none⟩), .agg #[.int .i64 v.1, .int .i64 v.2]] w (QLeaves w b q room (L ++ [v]) pz false) := by
  have hR : Rq w b q room L := ⟨_, _, _, h0⟩
  have lb := hR.lt
  have lq := hR.qlt
  obtain ⟨_, _, hbl1⟩ := two_boxes w 45 45 [.int .i64 v.1, .int .i64 v.2] [.int .i64 0, .int .i64 0]
  have hR1 := hR.next hbl1
  obtain ⟨hV, hRr, hOo, hbl⟩ := three_boxes w 45 45 45 [.int .i64 v.1, .int .i64 v.2] [.int .i64 0, .int .i64 0] [.int .i64 0, .int .i64 0]
  obtain ⟨W2, hW2⟩ : ∃ W2, W2 = ((w.alloc (.cells #[.int .i64 v.1, .int .i64 v.2] 45)).alloc (.cells #[.int .i64 0, .int .i64 0] 45)).alloc (.cells #[.int .i64 0, .int .i64 0] 45) := ⟨_, rfl⟩
  have hs2 : W2.heap.size = w.heap.size + 1 + 1 + 1 := by rw [hW2]; simp
  rw [← hW2] at hV hRr hOo hbl
  have hR2 := hR.next hbl
  replace h0 := h0.next hbl
  obtain ⟨n1, a1, hn1, hsv⟩ : ∃ (n1 : Nat) (a1 : Option Addr), n1 = L.length ∧ sv0 = .slice a1 n1 n1 := by
    rcases h0.slots with ⟨e, e2, _⟩ | ⟨e, _⟩
    · exact ⟨0, none, by rw [hl0, e2]; rfl, e⟩
    · exact ⟨L.length, some ⟨q, 0, none⟩, rfl, by rw [e, hl0]⟩
  obtain ⟨c0, c1, c2, c3, f0, f1, f2, f3⟩ := h0.box.four
  have hblt := h0.box.lt
  rw [hsv] at c3
  rw [← hn1] at c2
  have HN1 := hid hn1
  have e1 : ¬ (room : Int) = 0 := by omega
  have e2 : ¬ (n1 : Int) = (room : Int) := by omega
  have e2' : ((n1 : Int) == (room : Int)) = false := by simpa using e2
  have HR1 := hid hR1
  have HR2 := hid hR2
  have HBL := hid hbl
  have HV := hid hV
  have HRr := hid hRr
  have HOo := hid hOo
  clear h0 hR hR1 hR2 hn1 hsv hl0 hbl hbl1 hV hRr hOo
  go_enter Try.func26, Try.ntmps26
  go_wp2_with fail
  refine (qRoom b q room L _ HR1.out).mono ?_
  rintro e w1 ⟨rfl, rfl⟩
  go_wp2_with fail
  rw [← hW2]
  clear hW2
  go_quiet (fail)
  go_wp2_with fail
  go_quiet (fail)
  go_wp2_with fail
  refine Calls.mono (qGrow b q room L _ (HR2.out.turn (S := []) (drewN_turn [] _ _) (by simp) (by simp)) hr hroom) ?_
  rintro e W ⟨rfl, hT, g, first, cs, hgq, h, hl⟩
  clear c0 c1 c2 c3 f0 f1 f2 f3 hblt
  have hT' : Turn [b] W2 W := ⟨hT.os, hT.tape, hT.output, hT.size, hT.block⟩
  have hgq' : W2.heap.size ≤ g := hgq
  have hV := HV.out.turn hT' (by simp; omega)
  have hRr := HRr.out.turn hT' (by simp; omega)
  have hOo := HOo.out.turn hT' (by simp; omega)
  have HT := hid hT'
  clear hgq hT hT'
  have hn : 0 < cs.length := by omega
  have hc4 : cs.length ≤ 4096 := by have := h.roomy; omega
  have hf : first < cs.length := by rcases h.inside with h | ⟨h, _⟩; (· exact h); (· rw [h] at hn; simp at hn)
  rcases h.slots with ⟨e, _, _⟩ | ⟨_, hqb, _, hq⟩
  · cases e
  obtain ⟨n, hnn⟩ : ∃ n, n = cs.length := ⟨_, rfl⟩
  obtain ⟨k, hk⟩ : ∃ k, k = L.length := ⟨_, rfl⟩
  obtain ⟨s, hs⟩ : ∃ s, s = (first + k) % cs.length := ⟨_, rfl⟩
  have hsn : s < cs.length := by rw [hs]; exact slot_lt _ hn
  have hkb : k ≤ 4096 := by omega
  obtain ⟨y, hy⟩ : ∃ y, cs[s]? = some y := ⟨_, List.getElem?_eq_getElem hsn⟩
  obtain ⟨t0, t1, t2, t3⟩ := boxq_cell (k := s) hq hy
  obtain ⟨c0, c1, c2, c3, f0, f1, f2, f3⟩ := h.box.four
  obtain ⟨x0, x1, _, _⟩ := hV.two
  have hc := fun (wx : World) (hbx : Box wx b [.int .i64 (room : Nat), .int .i64 (first : Nat), .int .i64 (L.length : Nat), .slice (some ⟨g, 0, none⟩) cs.length cs.length]) => qSlot b g room first cs.length k s _ wx hbx hn hc4 hf (by omega) hs
  have hb0 := h.box
  have hblt := h.box.lt
  rw [← hnn] at hsn c3 hb0 hc
  rw [← hk] at hb0 hc c2
  have hsn' : (s : Int) < (n : Int) := by omega
  have dd := fun kk (u u' : Value) => ((hb0.alike (w' := W.drewN kk) (by rfl)).other (q := g) (j := s * 2) (v := u) (Ne.symm hqb)).other (q := g) (j := s * 2 + 1) (v := u') (Ne.symm hqb)
  have d2 := fun kk u u' => (dd kk u u').cell 2 _ rfl
  have d3 := fun kk u u' => (dd kk u u').free 2 (by simp)
  have bo := fun kk (u u' u2 : Value) => ((((hOo.alike (w' := W.drewN kk) (by rfl)).other (q := g) (j := s * 2) (v := u) (by omega)).other (q := g) (j := s * 2 + 1) (v := u') (by omega)).other (q := b) (j := 2) (v := u2) (by omega)).two
  have br := fun kk (u u' u2 : Value) => (((hRr.alike (w' := W.drewN kk) (by rfl)).other (q := g) (j := s * 2) (v := u) (by omega)).other (q := g) (j := s * 2 + 1) (v := u') (by omega)).other (q := b) (j := 2) (v := u2) (by omega)
  have bo0 := fun kk u u' u2 => (bo kk u u' u2).1
  have bo1 := fun kk u u' u2 => (bo kk u u' u2).2.1
  have br0 := fun kk u u' u2 => (br kk u u' u2).two.1
  have br1 := fun kk u u' u2 => (br kk u u' u2).two.2.1
  have br2 := fun kk u u' u2 => (br kk u u' u2).two.2.2.1
  have br3 := fun kk u u' u2 => (br kk u u' u2).two.2.2.2
  have oo := fun kk u u' u2 => (((br kk u u' u2).set 0 (by simp) (.int .i64 0)).set 1 (by simp) (.int .i64 0)).two
  have o0 := fun kk u u' u2 => (oo kk u u' u2).1
  have o1 := fun kk u u' u2 => (oo kk u u' u2).2.1
  have HC := hid hc
  have HN := hid hnn
  have HS := hid hs
  have HB := hid hb0
  have HH := hid h
  have HK := hid hk
  have HL := hid hl
  clear hc hnn hs hb0 h hq hy hk hl dd bo br oo hV hRr hOo
  go_wp2_with fail
  go_region_with (go_at_call 38; refine (HC.out _ (HB.out.alike (by rfl))).mono ?_; rintro e w9 ⟨rfl, kk, rfl⟩)
  all_goals go_wp2_with fail
  all_goals (
    refine bodyPost_ret (v := .tuple #[pv pz, .bool false]) (by simp [results, Try.results26, go_sem, o0, o1, pv, pz]) rfl ?_
    have a1 := HK.out
    have a2 := HS.out
    subst a1
    subst a2
    exact ⟨g, rfl, (QPushEnd.is (W := W) (v := v) (o := pz) ⟨_, rfl⟩ HH.out HL.out (by omega) (by omega)).1, ((Turn.of_below HBL.out).trans HT.out (by simp)).trans (QPushEnd.is (W := W) (v := v) (o := pz) ⟨_, rfl⟩ HH.out HL.out (by omega) (by omega)).2 (fun i hi => (by simp at hi ⊢; omega)), .inr (by omega)⟩)
end Go.Proofs.Ytccgbkafcbfcgaa
end
section
namespace Go.Proofs.Ytccgbkafcbfcgaa
open Go.RowKit

set_option maxRecDepth 20000 in
set_option maxHeartbeats 4000000 in
theorem qPush_full (b q room : Nat) (x : Pr) (L : List Pr) (v : Pr) (w : World) (hR : Rq w b q room (x :: L)) (hr : room ≤ 4096) (hroom : (x :: L).length = room) :
    Calls Try.prog 26 #[.pointer (some ⟨b, 0, none⟩), .agg #[.int .i64 v.1, .int .i64 v.2]] w (QLeaves w b q room (L ++ [v]) x true) := by
  have lb := hR.lt
  have lq := hR.qlt
  obtain ⟨_, _, hbl1⟩ := two_boxes w 45 45 [.int .i64 v.1, .int .i64 v.2] [.int .i64 0, .int .i64 0]
  have hR1 := hR.next hbl1
  obtain ⟨hV, hRr, hOo, hbl⟩ := three_boxes w 45 45 45 [.int .i64 v.1, .int .i64 v.2] [.int .i64 0, .int .i64 0] [.int .i64 0, .int .i64 0]
  obtain ⟨W2, hW2⟩ : ∃ W2, W2 = ((w.alloc (.cells #[.int .i64 v.1, .int .i64 v.2] 45)).alloc (.cells #[.int .i64 0, .int .i64 0] 45)).alloc (.cells #[.int .i64 0, .int .i64 0] 45) := ⟨_, rfl⟩
  have hs2 : W2.heap.size = w.heap.size + 1 + 1 + 1 := by rw [hW2]; simp
  rw [← hW2] at hV hRr hOo hbl
  have hR2 := hR.next hbl
  have hP := hR2
  obtain ⟨first0, sv0, cs0, h0⟩ := hR2
  obtain ⟨c0, c1, c2, c3, f0, f1, f2, f3⟩ := h0.box.four
  have hblt := h0.box.lt
  rw [hroom] at c2
  have hr1 : room = L.length + 1 := by rw [← hroom]; simp
  have HRM := hid hr1
  have e1 : ¬ (room : Int) = 0 := by omega
  have HR1 := hid hR1
  have HR2 := hid hP
  have HBL := hid hbl
  have HV := hid hV
  have HRr := hid hRr
  have HOo := hid hOo
  clear h0 hR hR1 hP hbl hbl1 hV hRr hOo hr1 hroom
  go_enter Try.func26, Try.ntmps26
  go_wp2_with fail
  refine (qRoom b q room (x :: L) _ HR1.out).mono ?_
  rintro e w1 ⟨rfl, rfl⟩
  go_wp2_with fail
  rw [← hW2]
  clear hW2
  go_quiet (fail)
  go_wp2_with fail
  refine Calls.mono (qDrop_is b q room L x _ (HR2.out.turn (S := []) (drewN_turn [] _ _) (by simp) (by simp)) hr) ?_
  rintro e W3 ⟨rfl, ⟨first, cs, h3, hl⟩, hT⟩
  clear c0 c1 c2 c3 f0 f1 f2 f3 hblt
  have hT' : Turn [b, q] W2 W3 := ⟨hT.os, hT.tape, hT.output, hT.size, hT.block⟩
  have hV3 := HV.out.turn hT' (by simp; omega)
  have hRr3 := HRr.out.turn hT' (by simp; omega)
  have hOo3 := HOo.out.turn hT' (by simp; omega)
  obtain ⟨w0, w1, z0, z1⟩ := hOo3.two
  have z1' : (W3.setCell ⟨w.heap.size + 1 + 1, 0, none⟩ (.int .i64 x.1)).frozen? ⟨w.heap.size + 1 + 1, 1, none⟩ = false := (World.frozen?_setCell _ _ _ _).trans z1
  have HT := hid hT'
  have H3 := hid h3
  have HV3 := hid hV3
  have HR3 := hid hRr3
  have HO3 := hid hOo3
  clear hT hT' h3 hV3 hRr3 hOo3
  simp only [pv]
  go_wp2_with fail
  obtain ⟨W, hW⟩ : ∃ W, W = (W3.setCell ⟨w.heap.size + 1 + 1, 0, none⟩ (.int .i64 x.1)).setCell ⟨w.heap.size + 1 + 1, 1, none⟩ (.int .i64 x.2) := ⟨_, rfl⟩
  rw [← hW]
  have tW : Turn [w.heap.size + 1 + 1] W3 W := by rw [hW]; exact (Turn.set _ _ _ (by simp)).andSet _ _ (.inl (by simp))
  have h := H3.out.turn tW (by simp; omega) (by simp; omega)
  have hV := HV3.out.turn tW (fun hm => by have := List.mem_singleton.1 hm; omega)
  have hRr := HR3.out.turn tW (fun hm => by have := List.mem_singleton.1 hm; omega)
  have hOo : Box W (w.heap.size + 1 + 1) [.int .i64 x.1, .int .i64 x.2] := by rw [hW]; exact (HO3.out.set 0 (by simp) (.int .i64 x.1)).set 1 (by simp) (.int .i64 x.2)
  have HTW := hid tW
  have hroom := HRM.out
  clear hW tW w0 w1 z0 z1 z1' H3 HV3 HR3 HO3
  have hn : 0 < cs.length := by omega
  have hc4 : cs.length ≤ 4096 := by have := h.roomy; omega
  have hf : first < cs.length := by rcases h.inside with h | ⟨h, _⟩; (· exact h); (· rw [h] at hn; simp at hn)
  rcases h.slots with ⟨e, _, _⟩ | ⟨_, hqb, _, hq⟩
  · cases e
  obtain ⟨n, hnn⟩ : ∃ n, n = cs.length := ⟨_, rfl⟩
  obtain ⟨k, hk⟩ : ∃ k, k = L.length := ⟨_, rfl⟩
  obtain ⟨s, hs⟩ : ∃ s, s = (first + k) % cs.length := ⟨_, rfl⟩
  have hsn : s < cs.length := by rw [hs]; exact slot_lt _ hn
  have hkb : k ≤ 4096 := by omega
  obtain ⟨y, hy⟩ : ∃ y, cs[s]? = some y := ⟨_, List.getElem?_eq_getElem hsn⟩
  obtain ⟨t0, t1, t2, t3⟩ := boxq_cell (k := s) hq hy
  obtain ⟨c0, c1, c2, c3, f0, f1, f2, f3⟩ := h.box.four
  obtain ⟨x0, x1, _, _⟩ := hV.two
  have hc := fun (wx : World) (hbx : Box wx b [.int .i64 (room : Nat), .int .i64 (first : Nat), .int .i64 (L.length : Nat), .slice (some ⟨q, 0, none⟩) cs.length cs.length]) => qSlot b q room first cs.length k s _ wx hbx hn hc4 hf (by omega) hs
  have hb0 := h.box
  have hblt := h.box.lt
  rw [← hnn] at hsn c3 hb0 hc
  rw [← hk] at hb0 hc c2
  have hsn' : (s : Int) < (n : Int) := by omega
  have dd := fun kk (u u' : Value) => ((hb0.alike (w' := W.drewN kk) (by rfl)).other (q := q) (j := s * 2) (v := u) (Ne.symm hqb)).other (q := q) (j := s * 2 + 1) (v := u') (Ne.symm hqb)
  have d2 := fun kk u u' => (dd kk u u').cell 2 _ rfl
  have d3 := fun kk u u' => (dd kk u u').free 2 (by simp)
  have bo := fun kk (u u' u2 : Value) => ((((hOo.alike (w' := W.drewN kk) (by rfl)).other (q := q) (j := s * 2) (v := u) (by omega)).other (q := q) (j := s * 2 + 1) (v := u') (by omega)).other (q := b) (j := 2) (v := u2) (by omega)).two
  have br := fun kk (u u' u2 : Value) => (((hRr.alike (w' := W.drewN kk) (by rfl)).other (q := q) (j := s * 2) (v := u) (by omega)).other (q := q) (j := s * 2 + 1) (v := u') (by omega)).other (q := b) (j := 2) (v := u2) (by omega)
  have bo0 := fun kk u u' u2 => (bo kk u u' u2).1
  have bo1 := fun kk u u' u2 => (bo kk u u' u2).2.1
  have br0 := fun kk u u' u2 => (br kk u u' u2).two.1
  have br1 := fun kk u u' u2 => (br kk u u' u2).two.2.1
  have br2 := fun kk u u' u2 => (br kk u u' u2).two.2.2.1
  have br3 := fun kk u u' u2 => (br kk u u' u2).two.2.2.2
  have oo := fun kk u u' u2 => (((br kk u u' u2).set 0 (by simp) (.int .i64 x.1)).set 1 (by simp) (.int .i64 x.2)).two
  have o0 := fun kk u u' u2 => (oo kk u u' u2).1
  have o1 := fun kk u u' u2 => (oo kk u u' u2).2.1
  have HC := hid hc
  have HN := hid hnn
  have HS := hid hs
  have HB := hid hb0
  have HH := hid h
  have HK := hid hk
  have HL := hid hl
  clear hc hnn hs hb0 h hq hy hk hl dd bo br oo hV hRr hOo
  clear hroom
  go_wp2_with fail
  go_region_with (go_at_call 38; refine (HC.out _ (HB.out.alike (by rfl))).mono ?_; rintro e w9 ⟨rfl, kk, rfl⟩)
  all_goals go_wp2_with fail
  all_goals (
    refine bodyPost_ret (v := .tuple #[pv x, .bool true]) (by simp [results, Try.results26, go_sem, o0, o1, pv]) rfl ?_
    have a1 := HK.out
    have a2 := HS.out
    subst a1
    subst a2
    exact ⟨q, rfl, (QPushEnd.is (W := W) (v := v) (o := x) ⟨_, rfl⟩ HH.out HL.out (by omega) (by omega)).1, (((Turn.of_below HBL.out).trans HT.out (fun i hi => .inl hi)).trans HTW.out (fun i hi => (by simp at hi ⊢; omega))).trans (QPushEnd.is (W := W) (v := v) (o := x) ⟨_, rfl⟩ HH.out HL.out (by omega) (by omega)).2 (fun i hi => (by simp at hi ⊢; omega)), .inl rfl⟩)
end Go.Proofs.Ytccgbkafcbfcgaa
end
section
namespace Go.Proofs.Ytccgbkafcbfcgaa
open Go.RowKit

/-- A new ring of pairs, empty. -/
def NewRq (w : World) (room : Nat) (e : Ending) (w' : World) : Prop := e = .returned (.tuple #[.pointer (some ⟨w.heap.size, 0, none⟩), .int .i64 0]) ∧ Rq w' w.heap.size w.heap.size room [] ∧ Below w.heap.size w w'
theorem rq_new (w : World) (room : Nat) (t : TypeId) : Rq (w.alloc (.cells #[.int .i64 (room : Nat), .int .i64 0, .int .i64 0, .slice none 0 0] t)) w.heap.size w.heap.size room [] :=
  ⟨0, .slice none 0 0, [], Box.new w [.int .i64 (room : Nat), .int .i64 0, .int .i64 0, .slice none 0 0] t, .inl ⟨rfl, rfl, rfl⟩, by simp, by simp, .inr ⟨rfl, rfl⟩, by simp⟩
theorem qNew_yes (room : Nat) (w : World) (h1 : 1 ≤ room) (h2 : room ≤ 4096) :
    Calls Try.prog 20 #[.int .i64 (room : Nat)] w (NewRq w room) := by
  have a1 : ¬ (room : Int) < 1 := by omega
  have a2 : ¬ (4096 : Int) < (room : Int) := by omega
  go_enter Try.func20, Try.ntmps20
  go_wp2_with fail
  go_ret2
  exact ⟨rfl, rq_new w room _, (Below.refl _ _).alloc (Nat.le_refl _) _⟩
theorem qPush_room (b q room : Nat) (L : List Pr) (v : Pr) (w : World) (h : Rq w b q room L) (hr : room ≤ 4096) (hroom : L.length < room) :
    Calls Try.prog 26 #[.pointer (some ⟨b, 0, none⟩), .agg #[.int .i64 v.1, .int .i64 v.2]] w (QLeaves w b q room (L ++ [v]) pz false) := by
  obtain ⟨first, sv, cs, h⟩ := h
  by_cases hl : L.length < cs.length
  · rcases h.slots with ⟨_, e, _⟩ | ⟨rfl, _⟩
    · rw [e] at hl; simp at hl
    · exact qPush_slot b q room first cs L v w h hr hroom hl
  · exact qPush_grow b q room L v w first sv cs h hr hroom (by have := h.fits; omega)
theorem qDrop_yes (b q room : Nat) (L : List Pr) (x : Pr) (w : World) (h : Rq w b q room (x :: L)) (hr : room ≤ 4096) :
    Calls Try.prog 36 #[.pointer (some ⟨b, 0, none⟩)] w (QLeaves w b q room L x true) :=
  (qDrop_is b q room L x w h hr).mono fun _ _ ⟨he, ⟨first, cs, hi, _⟩, ht⟩ => ⟨q, he, ⟨first, _, cs, hi⟩, ht, .inl rfl⟩
/-- The newest n. -/
def newq (n : Nat) (A : List Pr) : List Pr := A.drop (A.length - n)
theorem newq_length (n : Nat) (A : List Pr) : (newq n A).length = min A.length n := by simp [newq]; omega
theorem newq_last (n : Nat) (A : List Pr) (v : Pr) (h : 1 ≤ n) : (newq n (A ++ [v]))[(newq n (A ++ [v])).length - 1]? = some v := by
  rw [newq_length, newq, List.getElem?_drop]
  have e : (A ++ [v]).length - n + (min (A ++ [v]).length n - 1) = A.length := by simp; omega
  rw [e]
  simp
theorem qPush_few (b q n : Nat) (A : List Pr) (v : Pr) (w : World) (h : Rq w b q n (newq n A)) (hn : n ≤ 4096) (hl : A.length < n) :
    Calls Try.prog 26 #[.pointer (some ⟨b, 0, none⟩), .agg #[.int .i64 v.1, .int .i64 v.2]] w (QLeaves w b q n (newq n (A ++ [v])) pz false) := by
  have e : newq n (A ++ [v]) = newq n A ++ [v] := by simp [newq, show A.length - n = 0 by omega, show A.length + 1 - n = 0 by omega]
  rw [e]
  exact qPush_room b q n _ v w h hn (by rw [newq_length]; omega)
theorem qPush_many (b q n : Nat) (A : List Pr) (x v : Pr) (w : World) (h : Rq w b q n (newq n A)) (hn : n ≤ 4096) (h1 : 1 ≤ n) (hl : n ≤ A.length) (hx : A[A.length - n]? = some x) :
    Calls Try.prog 26 #[.pointer (some ⟨b, 0, none⟩), .agg #[.int .i64 v.1, .int .i64 v.2]] w (QLeaves w b q n (newq n (A ++ [v])) x true) := by
  have e : newq n (A ++ [v]) = A.drop (A.length - n + 1) ++ [v] := by
    unfold newq
    rw [List.drop_append_of_le_length (by simp <;> omega)]
    congr 2
    simp; omega
  have e2 : newq n A = x :: A.drop (A.length - n + 1) := by
    rw [newq, List.drop_eq_getElem_cons (by omega)]
    congr 1
    rw [List.getElem?_eq_getElem (by omega)] at hx
    exact Option.some.inj hx
  have e3 : (newq n A).length = n := by rw [newq_length]; omega
  rw [e]
  rw [e2] at h e3
  exact qPush_full b q n x _ v w h hn e3
end Go.Proofs.Ytccgbkafcbfcgaa
end
