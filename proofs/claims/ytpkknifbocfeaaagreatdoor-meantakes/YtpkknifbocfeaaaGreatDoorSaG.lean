/- Rings of samples: Push that grows. -/
import Derived.Test.YtpkknifbocfeaaaGreatDoorSaF
namespace Go.Proofs.YtpkknifbocfeaaaGreatDoor
open Go.RowKit

set_option maxRecDepth 20000 in
set_option maxHeartbeats 4000000 in
theorem qPush_grow (b q room : Nat) (L : List Pr) (v : Pr) (w : World) (first0 : Nat) (sv0 : Value) (cs0 : List Pr) (h0 : RqIs w b q room first0 sv0 cs0 L) (hr : room ≤ 4096) (hroom : L.length < room) (hl0 : L.length = cs0.length) :
    Calls Tryz.prog 197 #[.pointer (some ⟨b, 0, none⟩), .agg #[.int .i64 v.1, .int .i64 v.2]] w (QLeaves w b q room (L ++ [v]) pz false) := by
  have hR : Rq w b q room L := ⟨_, _, _, h0⟩
  have lb := hR.lt
  have lq := hR.qlt
  obtain ⟨_, _, hbl1⟩ := two_boxes w 99 99 [.int .i64 v.1, .int .i64 v.2] [.int .i64 0, .int .i64 0]
  have hR1 := hR.next hbl1
  obtain ⟨hV, hRr, hOo, hbl⟩ := three_boxes w 99 99 99 [.int .i64 v.1, .int .i64 v.2] [.int .i64 0, .int .i64 0] [.int .i64 0, .int .i64 0]
  obtain ⟨W2, hW2⟩ : ∃ W2, W2 = ((w.alloc (.cells #[.int .i64 v.1, .int .i64 v.2] 99)).alloc (.cells #[.int .i64 0, .int .i64 0] 99)).alloc (.cells #[.int .i64 0, .int .i64 0] 99) := ⟨_, rfl⟩
  have hs2 : W2.heap.size = w.heap.size + 1 + 1 + 1 := by rw [hW2]; simp
  rw [← hW2] at hV hRr hOo hbl
  have hR2 := hR.next hbl
  replace h0 := h0.next hbl
  obtain ⟨n1, a1, hn1, hsv⟩ : ∃ (n1 : Nat) (a1 : Option Addr), n1 = L.length ∧ sv0 = .slice a1 n1 n1 := by
    rcases h0.slots with ⟨e, e2, _⟩ | ⟨e, _⟩
    · exact ⟨0, none, by rw [hl0, e2]; rfl, e⟩
    · exact ⟨L.length, some ⟨q, 0, none⟩, rfl, by rw [e, hl0]⟩
  obtain ⟨c0, c1, c2, c3, f0, f1, f2, f3⟩ := h0.box.four
  have hblt := h0.box.lt
  rw [hsv] at c3
  rw [← hn1] at c2
  have HN1 := hid hn1
  have e1 : ¬ (room : Int) = 0 := by omega
  have e2 : ¬ (n1 : Int) = (room : Int) := by omega
  have e2' : ((n1 : Int) == (room : Int)) = false := by simpa using e2
  have HR1 := hid hR1
  have HR2 := hid hR2
  have HBL := hid hbl
  have HV := hid hV
  have HRr := hid hRr
  have HOo := hid hOo
  clear h0 hR hR1 hR2 hn1 hsv hl0 hbl hbl1 hV hRr hOo
  go_enter Tryz.func197, Tryz.ntmps197
  go_wp2_with fail
  refine (qRoom b q room L _ HR1.out).mono ?_
  rintro e w1 ⟨rfl, rfl⟩
  go_wp2_with fail
  rw [← hW2]
  clear hW2
  go_quiet (fail)
  go_wp2_with fail
  go_quiet (fail)
  go_wp2_with fail
  refine Calls.mono (qGrow b q room L _ (HR2.out.turn (S := []) (drewN_turn [] _ _) (by simp) (by simp)) hr hroom) ?_
  rintro e W ⟨rfl, hT, g, first, cs, hgq, h, hl⟩
  clear c0 c1 c2 c3 f0 f1 f2 f3 hblt
  have hT' : Turn [b] W2 W := ⟨hT.os, hT.tape, hT.output, hT.size, hT.block⟩
  have hgq' : W2.heap.size ≤ g := hgq
  have hV := HV.out.turn hT' (by simp; omega)
  have hRr := HRr.out.turn hT' (by simp; omega)
  have hOo := HOo.out.turn hT' (by simp; omega)
  have HT := hid hT'
  clear hgq hT hT'
  have hn : 0 < cs.length := by omega
  have hc4 : cs.length ≤ 4096 := by have := h.roomy; omega
  have hf : first < cs.length := by rcases h.inside with h | ⟨h, _⟩; (· exact h); (· rw [h] at hn; simp at hn)
  rcases h.slots with ⟨e, _, _⟩ | ⟨_, hqb, _, hq⟩
  · cases e
  obtain ⟨n, hnn⟩ : ∃ n, n = cs.length := ⟨_, rfl⟩
  obtain ⟨k, hk⟩ : ∃ k, k = L.length := ⟨_, rfl⟩
  obtain ⟨s, hs⟩ : ∃ s, s = (first + k) % cs.length := ⟨_, rfl⟩
  have hsn : s < cs.length := by rw [hs]; exact slot_lt _ hn
  have hkb : k ≤ 4096 := by omega
  obtain ⟨y, hy⟩ : ∃ y, cs[s]? = some y := ⟨_, List.getElem?_eq_getElem hsn⟩
  obtain ⟨t0, t1, t2, t3⟩ := boxq_cell (k := s) hq hy
  obtain ⟨c0, c1, c2, c3, f0, f1, f2, f3⟩ := h.box.four
  obtain ⟨x0, x1, _, _⟩ := hV.two
  have hc := fun (wx : World) (hbx : Box wx b [.int .i64 (room : Nat), .int .i64 (first : Nat), .int .i64 (L.length : Nat), .slice (some ⟨g, 0, none⟩) cs.length cs.length]) => qSlot b g room first cs.length k s _ wx hbx hn hc4 hf (by omega) hs
  have hb0 := h.box
  have hblt := h.box.lt
  rw [← hnn] at hsn c3 hb0 hc
  rw [← hk] at hb0 hc c2
  have hsn' : (s : Int) < (n : Int) := by omega
  have dd := fun kk (u u' : Value) => ((hb0.alike (w' := W.drewN kk) (by rfl)).other (q := g) (j := s * 2) (v := u) (Ne.symm hqb)).other (q := g) (j := s * 2 + 1) (v := u') (Ne.symm hqb)
  have d2 := fun kk u u' => (dd kk u u').cell 2 _ rfl
  have d3 := fun kk u u' => (dd kk u u').free 2 (by simp)
  have bo := fun kk (u u' u2 : Value) => ((((hOo.alike (w' := W.drewN kk) (by rfl)).other (q := g) (j := s * 2) (v := u) (by omega)).other (q := g) (j := s * 2 + 1) (v := u') (by omega)).other (q := b) (j := 2) (v := u2) (by omega)).two
  have br := fun kk (u u' u2 : Value) => (((hRr.alike (w' := W.drewN kk) (by rfl)).other (q := g) (j := s * 2) (v := u) (by omega)).other (q := g) (j := s * 2 + 1) (v := u') (by omega)).other (q := b) (j := 2) (v := u2) (by omega)
  have bo0 := fun kk u u' u2 => (bo kk u u' u2).1
  have bo1 := fun kk u u' u2 => (bo kk u u' u2).2.1
  have br0 := fun kk u u' u2 => (br kk u u' u2).two.1
  have br1 := fun kk u u' u2 => (br kk u u' u2).two.2.1
  have br2 := fun kk u u' u2 => (br kk u u' u2).two.2.2.1
  have br3 := fun kk u u' u2 => (br kk u u' u2).two.2.2.2
  have oo := fun kk u u' u2 => (((br kk u u' u2).set 0 (by simp) (.int .i64 0)).set 1 (by simp) (.int .i64 0)).two
  have o0 := fun kk u u' u2 => (oo kk u u' u2).1
  have o1 := fun kk u u' u2 => (oo kk u u' u2).2.1
  have HC := hid hc
  have HN := hid hnn
  have HS := hid hs
  have HB := hid hb0
  have HH := hid h
  have HK := hid hk
  have HL := hid hl
  clear hc hnn hs hb0 h hq hy hk hl dd bo br oo hV hRr hOo
  go_wp2_with fail
  go_region_with (go_at_call 240; refine (HC.out _ (HB.out.alike (by rfl))).mono ?_; rintro e w9 ⟨rfl, kk, rfl⟩)
  all_goals go_wp2_with fail
  all_goals (
    refine bodyPost_ret (v := .tuple #[pv pz, .bool false]) (by simp [results, Tryz.results197, go_sem, o0, o1, pv, pz]) rfl ?_
    have a1 := HK.out
    have a2 := HS.out
    subst a1
    subst a2
    exact ⟨g, rfl, (QPushEnd.is (W := W) (v := v) (o := pz) ⟨_, rfl⟩ HH.out HL.out (by omega) (by omega)).1, ((Turn.of_below HBL.out).trans HT.out (by simp)).trans (QPushEnd.is (W := W) (v := v) (o := pz) ⟨_, rfl⟩ HH.out HL.out (by omega) (by omega)).2 (fun i hi => (by simp at hi ⊢; omega)), .inr (by omega)⟩)
end Go.Proofs.YtpkknifbocfeaaaGreatDoor
