/- Rings of numbers: Push. -/
import Derived.Test.YtcochjicaogofaaRgD
namespace Go.Proofs.Ytcochjicaogofaa
open Go.RowKit

/-- The end of Push: v goes behind the newest, where there is a slot for it. -/
def PushEnd (W w : World) (b q first : Nat) (cs L : List Int) (v : Int) : Prop := ∃ kk : Nat, w = ((W.drewN kk).setCell ⟨q, (first + L.length) % cs.length, none⟩ (.int .i64 v)).setCell ⟨b, 2, none⟩ (.int .i64 ((L.length + 1 : Nat) : Int))
theorem PushEnd.is {W w : World} {b q room first : Nat} {cs L : List Int} {v : Int} (e : PushEnd W w b q first cs L v) (h : RingIs W b q room first (.slice (some ⟨q, 0, none⟩) cs.length cs.length) cs L) (hl : L.length < cs.length) : Rg w b q room (L ++ [v]) ∧ Turn [b, q] W w := by
  obtain ⟨kk, rfl⟩ := e
  exact ⟨⟨_, _, _, RingIs.put (h.drewN kk) hl v rfl⟩, ((drewN_turn _ _ _).andSet _ _ (.inl (by simp))).andSet _ _ (.inl (by simp))⟩
set_option maxRecDepth 20000 in
set_option maxHeartbeats 2000000 in
theorem rPush_slot (b q room first : Nat) (cs L : List Int) (v : Int) (w : World) (h : RingIs w b q room first (.slice (some ⟨q, 0, none⟩) cs.length cs.length) cs L) (hr : room ≤ 4096) (hroom : L.length < room) (hl : L.length < cs.length) :
    Calls Try.prog 18 #[.pointer (some ⟨b, 0, none⟩), .int .i64 v] w (Leaves w b q room (L ++ [v]) 0 false) := by
  have hP : RgP w (some ⟨b, 0, none⟩) room L := .inr ⟨b, q, rfl, _, _, _, h⟩
  have HP := hid hP
  clear hP
  have hn : 0 < cs.length := by omega
  have hc4 : cs.length ≤ 4096 := by have := h.roomy; omega
  have hf : first < cs.length := by rcases h.inside with h | ⟨h, _⟩; (· exact h); (· rw [h] at hn; simp at hn)
  rcases h.slots with ⟨e, _, _⟩ | ⟨_, hqb, _, hq⟩
  · cases e
  obtain ⟨n, hnn⟩ : ∃ n, n = cs.length := ⟨_, rfl⟩
  obtain ⟨k, hk⟩ : ∃ k, k = L.length := ⟨_, rfl⟩
  obtain ⟨s, hs⟩ : ∃ s, s = (first + k) % cs.length := ⟨_, rfl⟩
  have hsn : s < cs.length := by rw [hs]; exact slot_lt _ hn
  have hkb : k ≤ 4096 := by omega
  obtain ⟨y, hy⟩ : ∃ y, cs[s]? = some y := ⟨_, List.getElem?_eq_getElem hsn⟩
  have hcell := box_cell (i := s) hq hy
  have hfree := box_free (i := s) hq hsn
  obtain ⟨c0, c1, c2, c3, f0, f1, f2, f3⟩ := h.box.four
  have hc := fun (wx : World) (hbx : Box wx b [.int .i64 (room : Nat), .int .i64 (first : Nat), .int .i64 (L.length : Nat), .slice (some ⟨q, 0, none⟩) cs.length cs.length]) => rSlot b q room first cs.length k s _ wx hbx hn hc4 hf (by omega) hs
  have hb0 := h.box
  have hblt := h.box.lt
  rw [← hnn] at hsn c3 hb0 hc
  rw [← hk] at hb0 hc c2
  have hsn' : (s : Int) < (n : Int) := by omega
  have d2 : ∀ kk (u : Value), ((w.drewN kk).setCell ⟨q, s, none⟩ u).cell? ⟨b, 2, none⟩ = some (.int .i64 (k : Nat)) := fun kk u => ((hb0.alike (w' := w.drewN kk) (by rfl)).other (j := s) (v := u) (Ne.symm hqb)).cell 2 _ rfl
  have d3 : ∀ kk (u : Value), ((w.drewN kk).setCell ⟨q, s, none⟩ u).frozen? ⟨b, 2, none⟩ = false := fun kk u => ((hb0.alike (w' := w.drewN kk) (by rfl)).other (j := s) (v := u) (Ne.symm hqb)).free 2 (by simp)
  have HC := hid hc
  have HN := hid hnn
  have HS := hid hs
  have HB := hid hb0
  have HH := hid h
  have HK := hid hk
  have HL := hid hl
  clear hc hnn hs hb0 h hq hy hk hl
  have e1 : ¬ (room : Int) = 0 := by omega
  have e2 : ¬ (k : Int) = (room : Int) := by have := HK.out; omega
  have e3 : ¬ (k : Int) = (n : Int) := by have := HK.out; have := HN.out; have := HL.out; omega
  have e2' : ((k : Int) == (room : Int)) = false := by simpa using e2
  have e3' : ((k : Int) == (n : Int)) = false := by simpa using e3
  go_enter Try.func18, Try.ntmps18
  go_wp2_with fail
  refine (rRoom_p _ room L w HP.out).mono ?_
  rintro e w1 ⟨rfl, rfl⟩
  go_wp2_with fail
  go_quiet (fail)
  go_wp2_with fail
  go_quiet (fail)
  go_wp2_with fail
  go_region_with (go_at_call 33; refine (HC.out _ (HB.out.alike (by rfl))).mono ?_; rintro e w9 ⟨rfl, kk, rfl⟩)
  all_goals go_wp2_with fail
  all_goals go_ret2
  all_goals (
    have a1 := HK.out
    have a2 := HS.out
    subst a1
    subst a2
    exact ⟨q, rfl, (PushEnd.is (W := w) (v := v) ⟨_, rfl⟩ HH.out HL.out).1, (PushEnd.is (W := w) (v := v) ⟨_, rfl⟩ HH.out HL.out).2, .inl rfl⟩)
set_option maxRecDepth 20000 in
set_option maxHeartbeats 2000000 in
theorem rPush_grow (b q room : Nat) (L : List Int) (v : Int) (w : World) (first0 : Nat) (sv0 : Value) (cs0 : List Int) (h0 : RingIs w b q room first0 sv0 cs0 L) (hr : room ≤ 4096) (hroom : L.length < room) (hl0 : L.length = cs0.length) :
    Calls Try.prog 18 #[.pointer (some ⟨b, 0, none⟩), .int .i64 v] w (Leaves w b q room (L ++ [v]) 0 false) := by
  have hR : Rg w b q room L := ⟨_, _, _, h0⟩
  have HR := hid hR
  obtain ⟨n1, a1, hn1, hsv⟩ : ∃ (n1 : Nat) (a1 : Option Addr), n1 = L.length ∧ sv0 = .slice a1 n1 n1 := by
    rcases h0.slots with ⟨e, e2, _⟩ | ⟨e, _⟩
    · exact ⟨0, none, by rw [hl0, e2]; rfl, e⟩
    · exact ⟨L.length, some ⟨q, 0, none⟩, rfl, by rw [e, hl0]⟩
  obtain ⟨c0, c1, c2, c3, f0, f1, f2, f3⟩ := h0.box.four
  have hblt := h0.box.lt
  rw [hsv] at c3
  rw [← hn1] at c2
  have HN1 := hid hn1
  have e1 : ¬ (room : Int) = 0 := by omega
  have e2 : ¬ (n1 : Int) = (room : Int) := by omega
  have e2' : ((n1 : Int) == (room : Int)) = false := by simpa using e2
  clear h0 hR hn1 hsv hl0
  go_enter Try.func18, Try.ntmps18
  go_wp2_with fail
  refine (rRoom_p _ room L w (.inr ⟨b, q, rfl, HR.out⟩)).mono ?_
  rintro e w1 ⟨rfl, rfl⟩
  go_wp2_with fail
  go_quiet (fail)
  go_wp2_with fail
  go_quiet (fail)
  go_wp2_with fail
  refine Calls.mono (rGrow b q room L _ (HR.out.turn (S := []) (drewN_turn [] _ _) (by simp) (by simp)) hr hroom) ?_
  rintro e W ⟨rfl, hT, g, first, cs, hgq, h, hl⟩
  clear c0 c1 c2 c3 f0 f1 f2 f3 hblt
  have HG := hid (show w.heap.size ≤ g from hgq)
  have HT := hid hT
  clear hgq hT
  have hn : 0 < cs.length := by omega
  have hc4 : cs.length ≤ 4096 := by have := h.roomy; omega
  have hf : first < cs.length := by rcases h.inside with h | ⟨h, _⟩; (· exact h); (· rw [h] at hn; simp at hn)
  rcases h.slots with ⟨e, _, _⟩ | ⟨_, hqb, _, hq⟩
  · cases e
  obtain ⟨n, hnn⟩ : ∃ n, n = cs.length := ⟨_, rfl⟩
  obtain ⟨k, hk⟩ : ∃ k, k = L.length := ⟨_, rfl⟩
  obtain ⟨s, hs⟩ : ∃ s, s = (first + k) % cs.length := ⟨_, rfl⟩
  have hsn : s < cs.length := by rw [hs]; exact slot_lt _ hn
  have hkb : k ≤ 4096 := by omega
  obtain ⟨y, hy⟩ : ∃ y, cs[s]? = some y := ⟨_, List.getElem?_eq_getElem hsn⟩
  have hcell := box_cell (i := s) hq hy
  have hfree := box_free (i := s) hq hsn
  obtain ⟨c0, c1, c2, c3, f0, f1, f2, f3⟩ := h.box.four
  have hc := fun (wx : World) (hbx : Box wx b [.int .i64 (room : Nat), .int .i64 (first : Nat), .int .i64 (L.length : Nat), .slice (some ⟨g, 0, none⟩) cs.length cs.length]) => rSlot b g room first cs.length k s _ wx hbx hn hc4 hf (by omega) hs
  have hb0 := h.box
  have hblt := h.box.lt
  rw [← hnn] at hsn c3 hb0 hc
  rw [← hk] at hb0 hc c2
  have hsn' : (s : Int) < (n : Int) := by omega
  have d2 : ∀ kk (u : Value), ((W.drewN kk).setCell ⟨g, s, none⟩ u).cell? ⟨b, 2, none⟩ = some (.int .i64 (k : Nat)) := fun kk u => ((hb0.alike (w' := W.drewN kk) (by rfl)).other (j := s) (v := u) (Ne.symm hqb)).cell 2 _ rfl
  have d3 : ∀ kk (u : Value), ((W.drewN kk).setCell ⟨g, s, none⟩ u).frozen? ⟨b, 2, none⟩ = false := fun kk u => ((hb0.alike (w' := W.drewN kk) (by rfl)).other (j := s) (v := u) (Ne.symm hqb)).free 2 (by simp)
  have HC := hid hc
  have HN := hid hnn
  have HS := hid hs
  have HB := hid hb0
  have HH := hid h
  have HK := hid hk
  have HL := hid hl
  clear hc hnn hs hb0 h hq hy hk hl
  go_wp2_with fail
  go_region_with (go_at_call 33; refine (HC.out _ (HB.out.alike (by rfl))).mono ?_; rintro e w9 ⟨rfl, kk, rfl⟩)
  all_goals go_wp2_with fail
  all_goals go_ret2
  all_goals (
    have a1 := HK.out
    have a2 := HS.out
    subst a1
    subst a2
    exact ⟨g, rfl, (PushEnd.is (W := W) (v := v) ⟨_, rfl⟩ HH.out HL.out).1, ((drewN_turn _ _ _).trans (HT.out.trans (PushEnd.is (W := W) (v := v) ⟨_, rfl⟩ HH.out HL.out).2 (fun i hi => (by simp at hi; exact hi.elim (fun h => .inl (by simp [h])) (fun h => .inr (h ▸ HG.out))))) (fun i hi => .inl (by simp at hi; simp [hi]))), .inr HG.out⟩)
set_option maxRecDepth 20000 in
set_option maxHeartbeats 2000000 in
theorem rPush_full (b q room : Nat) (x : Int) (L : List Int) (v : Int) (w : World) (h0 : Rg w b q room (x :: L)) (hr : room ≤ 4096) (hroom : (x :: L).length = room) :
    Calls Try.prog 18 #[.pointer (some ⟨b, 0, none⟩), .int .i64 v] w (Leaves w b q room (L ++ [v]) x true) := by
  have HR := hid h0
  obtain ⟨first0, sv0, cs0, h0⟩ := h0
  obtain ⟨c0, c1, c2, c3, f0, f1, f2, f3⟩ := h0.box.four
  have hblt := h0.box.lt
  rw [hroom] at c2
  have hr1 : room = L.length + 1 := by rw [← hroom]; simp
  have HR1 := hid hr1
  have e1 : ¬ (room : Int) = 0 := by omega
  clear h0 hr1 hroom
  go_enter Try.func18, Try.ntmps18
  go_wp2_with fail
  refine (rRoom_p _ room (x :: L) w (.inr ⟨b, q, rfl, HR.out⟩)).mono ?_
  rintro e w1 ⟨rfl, rfl⟩
  go_wp2_with fail
  go_quiet (fail)
  go_wp2_with fail
  refine Calls.mono (rDrop_is b q room L x _ (HR.out.turn (S := []) (drewN_turn [] _ _) (by simp) (by simp)) hr) ?_
  rintro e W ⟨rfl, ⟨first, cs, h, hl⟩, hT⟩
  clear c0 c1 c2 c3 f0 f1 f2 f3 hblt
  have HT := hid hT
  have hroom := HR1.out
  clear hT
  have hn : 0 < cs.length := by omega
  have hc4 : cs.length ≤ 4096 := by have := h.roomy; omega
  have hf : first < cs.length := by rcases h.inside with h | ⟨h, _⟩; (· exact h); (· rw [h] at hn; simp at hn)
  rcases h.slots with ⟨e, _, _⟩ | ⟨_, hqb, _, hq⟩
  · cases e
  obtain ⟨n, hnn⟩ : ∃ n, n = cs.length := ⟨_, rfl⟩
  obtain ⟨k, hk⟩ : ∃ k, k = L.length := ⟨_, rfl⟩
  obtain ⟨s, hs⟩ : ∃ s, s = (first + k) % cs.length := ⟨_, rfl⟩
  have hsn : s < cs.length := by rw [hs]; exact slot_lt _ hn
  have hkb : k ≤ 4096 := by omega
  obtain ⟨y, hy⟩ : ∃ y, cs[s]? = some y := ⟨_, List.getElem?_eq_getElem hsn⟩
  have hcell := box_cell (i := s) hq hy
  have hfree := box_free (i := s) hq hsn
  obtain ⟨c0, c1, c2, c3, f0, f1, f2, f3⟩ := h.box.four
  have hc := fun (wx : World) (hbx : Box wx b [.int .i64 (room : Nat), .int .i64 (first : Nat), .int .i64 (L.length : Nat), .slice (some ⟨q, 0, none⟩) cs.length cs.length]) => rSlot b q room first cs.length k s _ wx hbx hn hc4 hf (by omega) hs
  have hb0 := h.box
  have hblt := h.box.lt
  rw [← hnn] at hsn c3 hb0 hc
  rw [← hk] at hb0 hc c2
  have hsn' : (s : Int) < (n : Int) := by omega
  have d2 : ∀ kk (u : Value), ((W.drewN kk).setCell ⟨q, s, none⟩ u).cell? ⟨b, 2, none⟩ = some (.int .i64 (k : Nat)) := fun kk u => ((hb0.alike (w' := W.drewN kk) (by rfl)).other (j := s) (v := u) (Ne.symm hqb)).cell 2 _ rfl
  have d3 : ∀ kk (u : Value), ((W.drewN kk).setCell ⟨q, s, none⟩ u).frozen? ⟨b, 2, none⟩ = false := fun kk u => ((hb0.alike (w' := W.drewN kk) (by rfl)).other (j := s) (v := u) (Ne.symm hqb)).free 2 (by simp)
  have HC := hid hc
  have HN := hid hnn
  have HS := hid hs
  have HB := hid hb0
  have HH := hid h
  have HK := hid hk
  have HL := hid hl
  clear hc hnn hs hb0 h hq hy hk hl
  clear hroom
  go_wp2_with fail
  go_region_with (go_at_call 33; refine (HC.out _ (HB.out.alike (by rfl))).mono ?_; rintro e w9 ⟨rfl, kk, rfl⟩)
  all_goals go_wp2_with fail
  all_goals go_ret2
  all_goals (
    have a1 := HK.out
    have a2 := HS.out
    subst a1
    subst a2
    exact ⟨q, rfl, (PushEnd.is (W := W) (v := v) ⟨_, rfl⟩ HH.out HL.out).1, ((drewN_turn _ _ _).trans (HT.out.trans (PushEnd.is (W := W) (v := v) ⟨_, rfl⟩ HH.out HL.out).2 (fun i hi => .inl hi)) (fun i hi => .inl hi)), .inl rfl⟩)
/-- Push where there is room. -/
theorem rPush_room (b q room : Nat) (L : List Int) (v : Int) (w : World) (h : Rg w b q room L) (hr : room ≤ 4096) (hroom : L.length < room) :
    Calls Try.prog 18 #[.pointer (some ⟨b, 0, none⟩), .int .i64 v] w (Leaves w b q room (L ++ [v]) 0 false) := by
  obtain ⟨first, sv, cs, h⟩ := h
  by_cases hl : L.length < cs.length
  · rcases h.slots with ⟨_, e, _⟩ | ⟨rfl, _⟩
    · rw [e] at hl; simp at hl
    · exact rPush_slot b q room first cs L v w h hr hroom hl
  · exact rPush_grow b q room L v w first sv cs h hr hroom (by have := h.fits; omega)
theorem rPush_no (p : Option Addr) (L : List Int) (v : Int) (w : World) (h : RgP w p 0 L) :
    Calls Try.prog 18 #[.pointer p, .int .i64 v] w fun e w' => e = .returned (.tuple #[.int .i64 0, .bool false]) ∧ w = w' := by
  have HP := hid h
  go_enter Try.func18, Try.ntmps18
  go_wp2_with fail
  refine (rRoom_p p 0 L w HP.out).mono ?_
  rintro e w1 ⟨rfl, rfl⟩
  go_wp2_with fail
  go_ret2
  exact ⟨rfl, rfl⟩
end Go.Proofs.Ytcochjicaogofaa
