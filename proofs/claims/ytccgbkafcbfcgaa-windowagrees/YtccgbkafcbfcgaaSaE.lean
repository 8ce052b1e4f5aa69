/- Rings of samples: grow. -/
import Derived.Test.YtccgbkafcbfcgaaSaD
namespace Go.Proofs.Ytccgbkafcbfcgaa
open Go.RowKit

theorem info_pair : (Try.prog.info? 45).map (fun i => (i.zero, i.size, i.bytes)) = some (some (.agg #[.int .i64 0, .int .i64 0]), 2, 16) := by kernel_rfl
theorem boxq_made {w w' : World} {n base : Nat} (h : w'.ownsRow base 45 2 (.slice (some ⟨w.heap.size, 0, none⟩) n n) n (madeCells (Value.agg #[.int .i64 0, .int .i64 0]).cells (n * 2)).toList) : Box w' w.heap.size (prs (List.replicate n pz)) := by
  obtain ⟨hl, ⟨e, _⟩ | ⟨g, cap, cur, e, hb, hg, _, _, hs, ht⟩⟩ := h
  · cases e
  · cases e
    rw [List.take_of_length_le (by simp [hs])] at ht
    rw [prs_replicate, ← ht]
    exact Box.ofBlock hg
set_option maxRecDepth 20000 in
set_option maxHeartbeats 1000000 in
/-- grow: new slots, and more of them. -/
theorem qGrow (b q room : Nat) (L : List Pr) (w : World) (h : Rq w b q room L) (hr : room ≤ 4096) (hl : L.length < room) :
    Calls Try.prog 37 #[.pointer (some ⟨b, 0, none⟩)] w fun e w' => e = .returned (.tuple #[]) ∧ Turn [b] w w' ∧ ∃ g first cs, w.heap.size ≤ g ∧ RqIs w' b g room first (.slice (some ⟨g, 0, none⟩) cs.length cs.length) cs L ∧ L.length < cs.length := by
  obtain ⟨i0, hi, hz0, hz1, hz2⟩ := info_parts info_pair
  have hh := h
  obtain ⟨first, sv, cs, h⟩ := h
  obtain ⟨c0, c1, c2, c3, f0, f1, f2, f3⟩ := h.box.four
  have hblt := h.box.lt
  obtain ⟨k, hk⟩ : ∃ k, k = L.length := ⟨_, rfl⟩
  rw [← hk] at c2
  have hk1 : k < room := by omega
  have HH := hid hh
  have H1 := hid h
  have HK := hid hk
  clear hh h hk
  obtain ⟨m, hm⟩ : ∃ m : Nat, m = min (2 * k + 1) room := ⟨_, rfl⟩
  have hif : (if (room : Int) < 2 * (k : Int) + 1 then (room : Int) else 2 * (k : Int) + 1) = (m : Nat) := by split <;> omega
  have hm2 : k < m := by omega
  have hm3 : m ≤ room := by omega
  have hw1 : IntKind.i64.wrap (2 * (k : Int)) = 2 * (k : Int) := by rw [IntKind.wrap_i64]; omega
  have hw2 : IntKind.i64.wrap (2 * (k : Int) + 1) = 2 * (k : Int) + 1 := by rw [IntKind.wrap_i64]; omega
  obtain ⟨w1, hrun, hown, hgrow⟩ := run_make_full (P := Try.prog) w.drew w.heap.size 32 45 i0 (.agg #[.int .i64 0, .int .i64 0]) 2 Try.underlying32 hi hz0 hz1 .i64 .i64 m (by rw [hz2]; omega) (by simp only [maxLen]; omega) (Nat.le_refl _)
  have HM := hid hm
  have HO := hid hown
  have HG := hid hgrow
  clear hm hown hgrow
  go_enter Try.func37, Try.ntmps37
  go_wp2_with fail
  go_region
  --GROW
  have hk2 := boxq_made (w := w.drew) HO.out
  have hb1 : Below w.heap.size w w1 := ((Below.refl _ w).drew).grown HG.out (Nat.le_refl _) (by simp)
  have hR := HH.out.next hb1
  have hI := H1.out.next hb1
  have hlt := HH.out.lt
  have hql := HH.out.qlt
  have hHK := HK.out
  clear c0 c1 c2 c3 f0 f1 f2 f3 hrun
  go_wp2_with fail
  refine (qFill b q room L w1 hR hr w.heap.size m m _ hk2 (by omega) (by omega) (by omega) (by simp) (by omega)).mono ?_
  rintro e w2 ⟨rfl, ht, hk3⟩
  have hI2 := hI.box.turn ht (by simp; omega)
  obtain ⟨c0, c1, c2, c3, f0, f1, f2, f3⟩ := hI2.four
  have HI := hid hI
  have HT := hid ht
  have HK3 := hid hk3
  have HH1 := hid hHK
  clear hI hI2 ht hk3 hR hk2 hHK
  go_wp2_with fail
  go_end0
  have hl' : (L ++ (List.replicate m pz).drop L.length).length = m := by have := HH1.out; simp; omega
  have tt : Turn [w.heap.size] w w2 := (Turn.of_below hb1).trans HT.out (by simp)
  refine ⟨rfl, ?_, w.heap.size, 0, L ++ (List.replicate m pz).drop L.length, Nat.le_refl _, RqIs.grown H1.out tt (Nat.le_refl _) HK3.out (by omega) (by omega) (by rw [hl']), by have := HH1.out; omega⟩
  exact (((Turn.of_below hb1).trans HT.out (by simp)).andSet ⟨b, 3, none⟩ _ (.inl (by simp))).andSet ⟨b, 1, none⟩ _ (.inl (by simp))

end Go.Proofs.Ytccgbkafcbfcgaa
