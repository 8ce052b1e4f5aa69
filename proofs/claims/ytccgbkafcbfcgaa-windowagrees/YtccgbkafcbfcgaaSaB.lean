/- Rings of samples: what fill lays. -/
import Derived.Test.YtccgbkafcbfcgaaSaA
namespace Go.Proofs.Ytccgbkafcbfcgaa
open Go.RowKit

theorem takeq_set {L xs : List Pr} {k : Nat} {x : Pr} (hx : L[k]? = some x) (hk : k < xs.length) : (L.take k ++ xs.drop k).set k x = L.take (k + 1) ++ xs.drop (k + 1) := by
  have hkl : k < L.length := (List.getElem?_eq_some_iff.1 hx).1
  have h1 : (L.take k).length = k := by simp; omega
  rw [List.drop_eq_getElem_cons hk, List.set_append_right _ _ (by omega), h1, Nat.sub_self, List.set_cons_zero, List.take_add_one, hx]
  simp
set_option maxRecDepth 20000 in
set_option maxHeartbeats 1000000 in
theorem qFill (b q room : Nat) (L : List Pr) (w : World) (h : Rq w b q room L) (hr : room ≤ 4096) (g m c : Nat) (xs : List Pr) (hg : Box w g (prs xs)) (hgb : g ≠ b) (hgq : g ≠ q) (hm : L.length ≤ m) (hm2 : m ≤ xs.length) (hm3 : m ≤ 4096) :
    Calls Try.prog 57 #[.pointer (some ⟨b, 0, none⟩), .slice (some ⟨g, 0, none⟩) m c] w fun e w' => e = .returned (.tuple #[]) ∧ Turn [g] w w' ∧ Box w' g (prs (L ++ xs.drop L.length)) := by
  have hlen := h.len
  obtain ⟨first, sv, cs, h⟩ := h
  go_enter Try.func57, Try.ntmps57
  go_wp2_with fail
  refine (qLen b q room L w ⟨first, sv, cs, h⟩).mono ?_
  rintro e w1 ⟨rfl, rfl⟩
  go_wp2_with fail
  go_loopw [7] (fun p wr => ∃ k : Nat, p = .int .i64 k ∧ k ≤ L.length ∧ Turn [g] w wr ∧ Box wr g (prs (L.take k ++ xs.drop k))) (fun p _ => L.length - (intOf p).toNat)
  case atStart => exact ⟨0, rfl, by omega, Turn.refl _ _, by simpa using hg⟩
  case round =>
    obtain ⟨k, rfl, hk, ht, hbx⟩ := hrel
    by_cases hlt : k < L.length
    · obtain ⟨x, hx⟩ : ∃ x, L[k]? = some x := ⟨_, List.getElem?_eq_getElem hlt⟩
      have h1 := h.turn ht (by simpa using Ne.symm hgb) (by simpa using Ne.symm hgq)
      have hn : 0 < cs.length := by have := h.fits; omega
      have hc4 : cs.length ≤ 4096 := by have := h.roomy; omega
      obtain ⟨n, hnn⟩ : ∃ n, n = cs.length := ⟨_, rfl⟩
      rcases h1.slots with ⟨_, e, _⟩ | ⟨rfl, hqb, _, hq⟩
      · rw [e] at hn; simp at hn
      obtain ⟨s, hs⟩ : ∃ s, s = (first + k) % cs.length := ⟨_, rfl⟩
      have hsn : s < cs.length := by rw [hs]; exact slot_lt _ hn
      have hf : first < cs.length := by rcases h.inside with h | ⟨h, _⟩; (· exact h); (· rw [h] at hn; simp at hn)
      obtain ⟨s0, s1, _, _⟩ := boxq_cell (k := s) hq (by rw [hs]; exact h.holds k x hx)
      obtain ⟨y, hy⟩ : ∃ y, (L.take k ++ xs.drop k)[k]? = some y := ⟨_, List.getElem?_eq_getElem (by simp; omega)⟩
      obtain ⟨y0, y1, z0, z1⟩ := boxq_cell hbx hy
      have z1' : (wr.setCell ⟨g, k * 2, none⟩ (.int .i64 x.1)).frozen? ⟨g, k * 2 + 1, none⟩ = false := (World.frozen?_setCell _ _ _ _).trans z1
      clear hy
      have hc := fun (wx : World) (hbx : Box wx b [.int .i64 (room : Nat), .int .i64 (first : Nat), .int .i64 (L.length : Nat), .slice (some ⟨q, 0, none⟩) cs.length cs.length]) => qSlot b q room first cs.length k s _ wx hbx hn hc4 hf (by omega) hs
      obtain ⟨c0, c1, c2, c3, f0, f1, f2, f3⟩ := h1.box.four
      have hb0 := h1.box
      rw [← hnn] at hsn c3 hb0 hc
      have hkm : k < m := by omega
      have hkm' : (k : Int) < (m : Int) := by omega
      have hsn' : (s : Int) < (n : Int) := by omega
      have HC := hid hc
      have HN := hid hnn
      have HS := hid hs
      have HB := hid hb0
      have HX := hid hbx
      have HT := hid ht
      have hblt := h1.box.lt
      clear hc hnn hs hb0 h1 h hq hbx hg ht
      go_wp2_with fail
      go_region_with (go_at_call 38; refine (HC.out _ (HB.out.alike (by rfl))).mono ?_; rintro e w1 ⟨rfl, kk, rfl⟩)
      all_goals (go_wp2_with fail; go_roundw)
      all_goals first
        | exact ⟨k + 1, by simp, by omega, ((HT.out.trans (drewN_turn [] _ _) (by simp)).andSet ⟨g, k * 2, none⟩ _ (.inl (by simp))).andSet ⟨g, k * 2 + 1, none⟩ _ (.inl (by simp)), by rw [← takeq_set hx (by omega)]; exact boxq_put (HX.out.alike (by rfl)) (by simp; omega) x⟩
        | (simp [intOf]; omega)
    · obtain rfl : k = L.length := by omega
      go_wp2_with fail
      go_end0
      exact ⟨rfl, ht, by simpa using hbx⟩
end Go.Proofs.Ytccgbkafcbfcgaa
