/- Windows: what is told; Read, Held, Clock. -/
import Derived.Test.YtccgbkafcbfcgaaWnC
import Derived.Test.YtccgbkafcbfcgaaFix2
import Derived.Deep.CutRange
namespace Go.Proofs.Ytccgbkafcbfcgaa
open Go.RowKit

/-- What is told of the values V: the reason (0: there is a number), and the number. -/
def toldOf (agg per : Int) (V : List Int) : Int × Int :=
  if agg = 1 then (if -9223372036854775808 ≤ V.sum ∧ V.sum < 9223372036854775808 then (0, V.sum) else (3, 0))
  else if agg = 5 then (0, (V.length : Int) * 1000000)
  else if V = [] then (1, 0)
  else if agg = 2 then (0, V.sum / (V.length : Int))
  else if agg = 3 then (0, (kept false V).headD 0)
  else if agg = 4 then (0, (kept true V).headD 0)
  else (0, ((srt V)[nearest per V.length - 1]?).getD 0)
theorem mean_in {V : List Int} (h : ∀ x, x ∈ V → In64 x) (hn : V ≠ []) : In64 (V.sum / (V.length : Int)) := by
  obtain ⟨h1, h2⟩ := sum_bounds h
  have hp : 0 < (V.length : Int) := by have := List.length_pos_iff.2 hn; omega
  refine ⟨?_, ?_⟩
  · exact (Int.le_ediv_iff_mul_le hp).2 (by have := Int.mul_comm (-9223372036854775808) (V.length : Int); omega)
  · exact (Int.ediv_lt_iff_lt_mul hp).2 (by have := Int.mul_comm 9223372036854775808 (V.length : Int); omega)
/-- A Result as a value. -/
def rv (x : Int × Int) : Value := .agg #[.int .i64 x.1, .int .i64 x.2]
set_option maxRecDepth 20000 in
set_option maxHeartbeats 4000000 in
theorem wTold (b r q : Nat) (A : List Nat) (sp mp op : Option Addr) (agg span per ck : Int) (on : Bool) (L : List Pr) (w : World) (h : WinIs w b r q A sp mp op agg span per ck on L) :
    Calls Try.prog 30 #[.pointer (some ⟨b, 0, none⟩)] w fun e w' => e = .returned (rv (toldOf agg per (vals L))) ∧ Below w.heap.size w w' := by
  have hvin := vals_in h.inn
  have hlen := h.ring.len
  have hvl : (vals L).length = L.length := by simp [vals]
  have hB : Below w.heap.size w (w.alloc (.cells #[.int .i64 0, .int .i64 0] 49)) := (Below.refl _ _).alloc (Nat.le_refl _) _
  have hR := Box.new w [.int .i64 0, .int .i64 0] 49
  have hX := h.box.next hB
  have hRg := h.ring.next hB
  have hA := h.aux.next hB
  have hfair := h.fair
  have hlt := hX.lt
  have c0 := hX.cell 0 _ rfl
  have c1 := hX.cell 1 _ rfl
  have c3 := hX.cell 3 _ rfl
  have c6 := hX.cell 6 _ rfl
  have c7 := hX.cell 7 _ rfl
  have c8 := hX.cell 8 _ rfl
  have HB := hid hB
  have HR := hid hR
  clear h hX hB hR
  obtain ⟨W, hW⟩ : ∃ W, W = w.alloc (.cells #[.int .i64 0, .int .i64 0] 49) := ⟨_, rfl⟩
  rw [← hW] at hRg hA hlt c0 c1 c3 c6 c7 c8 HB HR
  rcases hA with ⟨a, lo, hi, ha, hb, hr, rfl, rfl, rfl, rfl⟩ | ⟨a, c, h, ha, hm, rfl, rfl, rfl, rfl⟩ | ⟨ha, rfl, rfl, rfl, rfl⟩ | ⟨a, c, ha, hk, rfl, rfl, rfl, rfl⟩
  · skip
    rcases ha with rfl | rfl
    · have HF := hid (wFit_at a lo hi _ hr W hb.lt hb.two.1 hb.two.2.1)
      by_cases hf : -9223372036854775808 ≤ (vals L).sum ∧ (vals L).sum < 9223372036854775808
      · have ht : toldOf 1 per (vals L) = (0, (vals L).sum) := by rw [toldOf, if_pos rfl, if_pos hf]
        rw [ht]
        rw [if_pos hf, decide_eq_true hf] at HF
        clear ht hf hb hr hvin hvl hlen hfair hRg
        generalize (vals L).sum = S at *
        go_enter Try.func30, Try.ntmps30
        go_upto_region 1 with fail
        rw [← hW]
        clear hW
        go_wp2_with fail
        refine Calls.mono HF.out ?_
        rintro e w2 ⟨rfl, hb2⟩
        have hR2 := HR.out.next hb2
        have z0 := hR2.cell 0 _ rfl
        have z1 := hR2.cell 1 _ rfl
        have z2 := hR2.free 0 (by simp)
        have z3 : ∀ u, (w2.setCell ⟨w.heap.size, 0, none⟩ u).frozen? ⟨w.heap.size, 1, none⟩ = false := fun u => (World.frozen?_setCell _ _ _ _).trans (hR2.free 1 (by simp))
        have o := fun u v => ((hR2.set 0 (by simp) u).set 1 (by simp) v).two
        have o0 := fun u v => (o u v).1
        have o1 := fun u v => (o u v).2.1
        have H2 := hid hb2
        clear hR2 o hb2
        go_wp2_with fail
        refine bodyPost_ret (v := rv _) (by simp [results, Try.results30, go_sem, o0, o1, rv]) rfl ⟨rfl, ?_⟩
        exact ((HB.out.trans (H2.out.mono HB.out.size)).setCell (Nat.le_refl _) _).setCell (Nat.le_refl _) _
      · have ht : toldOf 1 per (vals L) = (3, 0) := by rw [toldOf, if_pos rfl, if_neg hf]
        rw [ht]
        rw [if_neg hf, decide_eq_false hf] at HF
        clear ht hf hb hr hvin hvl hlen hfair hRg
        go_enter Try.func30, Try.ntmps30
        go_upto_region 1 with fail
        rw [← hW]
        clear hW
        go_wp2_with fail
        refine Calls.mono HF.out ?_
        rintro e w2 ⟨rfl, hb2⟩
        have hR2 := HR.out.next hb2
        have z0 := hR2.cell 0 _ rfl
        have z1 := hR2.cell 1 _ rfl
        have z2 := hR2.free 0 (by simp)
        have z3 : ∀ u, (w2.setCell ⟨w.heap.size, 0, none⟩ u).frozen? ⟨w.heap.size, 1, none⟩ = false := fun u => (World.frozen?_setCell _ _ _ _).trans (hR2.free 1 (by simp))
        have o := fun u v => ((hR2.set 0 (by simp) u).set 1 (by simp) v).two
        have o0 := fun u v => (o u v).1
        have o1 := fun u v => (o u v).2.1
        have H2 := hid hb2
        clear hR2 o hb2
        go_wp2_with fail
        refine bodyPost_ret (v := rv _) (by simp [results, Try.results30, go_sem, o0, o1, rv]) rfl ⟨rfl, ?_⟩
        exact ((HB.out.trans (H2.out.mono HB.out.size)).setCell (Nat.le_refl _) _).setCell (Nat.le_refl _) _
    · have HL := hid (fun n => qLen r q 4096 L (W.drewN n) (hRg.turn (S := []) (drewN_turn [] W n) (by simp) (by simp)))
      by_cases hv : vals L = []
      · have ht : toldOf 2 per (vals L) = (1, 0) := by rw [toldOf, if_neg (by decide), if_neg (by decide), if_pos hv]
        rw [ht]
        have hl0 : L.length = 0 := by rw [← hvl, hv]; rfl
        rw [hl0] at HL
        have HM := hid (fun n => wMean_none a 0 (by decide) (W.drewN n))
        clear ht hb hr hvin hvl hlen hfair hRg hv hl0
        go_enter Try.func30, Try.ntmps30
        go_upto_region 1 with fail
        rw [← hW]
        clear hW
        go_wp2_with fail
        go_region_with (first | (go_at_call 47; refine Calls.mono (HL.out 1) ?_; rintro e w9 ⟨rfl, rfl⟩) | (go_at_call 46; refine Calls.mono (HM.out 1) ?_; rintro e w2 ⟨rfl, h9⟩; have hb2 := (drewN_below W 1).trans h9; clear h9))
        all_goals (
          have hR2 := HR.out.next hb2
          have z0 := hR2.cell 0 _ rfl
          have z1 := hR2.cell 1 _ rfl
          have z2 := hR2.free 0 (by simp)
          have z3 : ∀ u, (w2.setCell ⟨w.heap.size, 0, none⟩ u).frozen? ⟨w.heap.size, 1, none⟩ = false := fun u => (World.frozen?_setCell _ _ _ _).trans (hR2.free 1 (by simp))
          have o := fun u v => ((hR2.set 0 (by simp) u).set 1 (by simp) v).two
          have o0 := fun u v => (o u v).1
          have o1 := fun u v => (o u v).2.1
          have H2 := hid hb2
          clear hR2 o hb2
          go_wp2_with fail
          refine bodyPost_ret (v := rv _) (by simp [results, Try.results30, go_sem, o0, o1, rv]) rfl ⟨rfl, ?_⟩
          exact ((HB.out.trans (H2.out.mono HB.out.size)).setCell (Nat.le_refl _) _).setCell (Nat.le_refl _) _)
      · have ht : toldOf 2 per (vals L) = (0, (vals L).sum / ((vals L).length : Int)) := by rw [toldOf, if_neg (by decide), if_neg (by decide), if_neg hv, if_pos rfl]
        rw [ht]
        obtain ⟨s1, s2⟩ := sum_bounds hvin
        have hm := mean_in hvin hv
        have hl1 : 1 ≤ L.length := by rw [← hvl]; exact List.length_pos_iff.2 hv
        have HM := hid (fun n => wMean_at a lo hi (vals L).sum (L.length : Int) hr (by rw [hvl] at s1; omega) (by omega) (by omega) (W.drewN n) hb.lt (hb.alike (w' := W.drewN n) rfl).two.1 (hb.alike (w' := W.drewN n) rfl).two.2.1)
        rw [hvl] at hm ⊢
        obtain ⟨n, hn⟩ : ∃ n, n = L.length := ⟨_, rfl⟩
        rw [← hn] at HL HM hm ⊢
        generalize hS : (vals L).sum / (n : Int) = S at *
        have hmm := hid hm
        clear ht hb hr hvin hvl hlen hfair hRg hv hl1 s1 s2 hn hS hm
        go_enter Try.func30, Try.ntmps30
        go_upto_region 1 with fail
        rw [← hW]
        clear hW
        go_wp2_with fail
        go_region_with (first | (go_at_call 47; refine Calls.mono (HL.out 1) ?_; rintro e w9 ⟨rfl, rfl⟩) | (go_at_call 46; refine Calls.mono (HM.out 1) ?_; rintro e w2 ⟨x, tb, rfl, ht1, ht2, -, h9⟩; obtain rfl : tb = true := ht1.2 hmm.out; obtain rfl : x = S := ht2 rfl; have hb2 := (drewN_below W 1).trans h9; clear ht1 ht2 h9))
        all_goals (
          have hR2 := HR.out.next hb2
          have z0 := hR2.cell 0 _ rfl
          have z1 := hR2.cell 1 _ rfl
          have z2 := hR2.free 0 (by simp)
          have z3 : ∀ u, (w2.setCell ⟨w.heap.size, 0, none⟩ u).frozen? ⟨w.heap.size, 1, none⟩ = false := fun u => (World.frozen?_setCell _ _ _ _).trans (hR2.free 1 (by simp))
          have o := fun u v => ((hR2.set 0 (by simp) u).set 1 (by simp) v).two
          have o0 := fun u v => (o u v).1
          have o1 := fun u v => (o u v).2.1
          have H2 := hid hb2
          clear hR2 o hb2
          go_wp2_with fail
          refine bodyPost_ret (v := rv _) (by simp [results, Try.results30, go_sem, o0, o1, rv]) rfl ⟨rfl, ?_⟩
          exact ((HB.out.trans (H2.out.mono HB.out.size)).setCell (Nat.le_refl _) _).setCell (Nat.le_refl _) _)
  · skip
    by_cases hv : vals L = []
    · have ht : toldOf agg per (vals L) = (1, 0) := by rw [toldOf, if_neg (by omega), if_neg (by omega), if_pos hv]
      rw [ht]
      rw [hv] at hm
      have HM := hid (mBest_no a c h W hm)
      clear ht hm hv hvin hvl hlen hfair hRg
      rcases ha with ⟨rfl, rfl⟩ | ⟨rfl, rfl⟩
      all_goals (
        go_enter Try.func30, Try.ntmps30
        go_upto_region 1 with fail
        rw [← hW]
        clear hW
        go_wp2_with fail
        refine Calls.mono HM.out ?_
        rintro e w2 ⟨rfl, h9⟩
        have hb2 : Below W.heap.size W w2 := h9 ▸ Below.refl _ _
        clear h9
        have hR2 := HR.out.next hb2
        have z0 := hR2.cell 0 _ rfl
        have z1 := hR2.cell 1 _ rfl
        have z2 := hR2.free 0 (by simp)
        have z3 : ∀ u, (w2.setCell ⟨w.heap.size, 0, none⟩ u).frozen? ⟨w.heap.size, 1, none⟩ = false := fun u => (World.frozen?_setCell _ _ _ _).trans (hR2.free 1 (by simp))
        have o := fun u v => ((hR2.set 0 (by simp) u).set 1 (by simp) v).two
        have o0 := fun u v => (o u v).1
        have o1 := fun u v => (o u v).2.1
        have H2 := hid hb2
        clear hR2 o hb2
        go_wp2_with fail
        refine bodyPost_ret (v := rv _) (by simp [results, Try.results30, go_sem, o0, o1, rv]) rfl ⟨rfl, ?_⟩
        exact ((HB.out.trans (H2.out.mono HB.out.size)).setCell (Nat.le_refl _) _).setCell (Nat.le_refl _) _)
    · obtain ⟨y, K, hy⟩ : ∃ y K, kept h (vals L) = y :: K := by
        cases hk : kept h (vals L) with
        | nil => exact absurd hk (kept_ne h hv)
        | cons y K => exact ⟨y, K, rfl⟩
      have ht : toldOf agg per (vals L) = (0, y) := by
        rw [toldOf, if_neg (by omega), if_neg (by omega), if_neg hv, if_neg (by omega)]
        rcases ha with ⟨rfl, rfl⟩ | ⟨rfl, rfl⟩
        · rw [if_pos rfl, hy]; rfl
        · rw [if_neg (by decide), if_pos rfl, hy]; rfl
      rw [ht]
      have HM := hid (mBest_yes a c h (vals L) y K W hm hy)
      clear ht hm hv hvin hvl hlen hfair hRg hy
      rcases ha with ⟨rfl, rfl⟩ | ⟨rfl, rfl⟩
      all_goals (
        go_enter Try.func30, Try.ntmps30
        go_upto_region 1 with fail
        rw [← hW]
        clear hW
        go_wp2_with fail
        refine Calls.mono HM.out ?_
        rintro e w2 ⟨rfl, h9⟩
        have hb2 : Below W.heap.size W w2 := h9 ▸ Below.refl _ _
        clear h9
        have hR2 := HR.out.next hb2
        have z0 := hR2.cell 0 _ rfl
        have z1 := hR2.cell 1 _ rfl
        have z2 := hR2.free 0 (by simp)
        have z3 : ∀ u, (w2.setCell ⟨w.heap.size, 0, none⟩ u).frozen? ⟨w.heap.size, 1, none⟩ = false := fun u => (World.frozen?_setCell _ _ _ _).trans (hR2.free 1 (by simp))
        have o := fun u v => ((hR2.set 0 (by simp) u).set 1 (by simp) v).two
        have o0 := fun u v => (o u v).1
        have o1 := fun u v => (o u v).2.1
        have H2 := hid hb2
        clear hR2 o hb2
        go_wp2_with fail
        refine bodyPost_ret (v := rv _) (by simp [results, Try.results30, go_sem, o0, o1, rv]) rfl ⟨rfl, ?_⟩
        exact ((HB.out.trans (H2.out.mono HB.out.size)).setCell (Nat.le_refl _) _).setCell (Nat.le_refl _) _)
  · skip
    subst ha
    have ht : toldOf 5 per (vals L) = (0, (L.length : Int) * 1000000) := by rw [toldOf, if_neg (by decide), if_pos rfl, hvl]
    rw [ht]
    have HL := hid (qLen r q 4096 L W hRg)
    have HWh := hid (Whole_any (L.length : Int) (by omega) (by omega) W)
    rw [held_in ((L.length : Int) * 1000000) (by omega) (by omega)] at HWh
    obtain ⟨n, hn⟩ : ∃ n, n = L.length := ⟨_, rfl⟩
    rw [← hn] at HL HWh ⊢
    clear ht hvin hvl hlen hfair hRg hn
    go_enter Try.func30, Try.ntmps30
    go_upto_region 1 with fail
    rw [← hW]
    clear hW
    go_wp2_with fail
    refine Calls.mono HL.out ?_
    rintro e w2 ⟨rfl, rfl⟩
    go_wp2_with fail
    refine Calls.mono HWh.out ?_
    rintro e w2 ⟨rfl, hb2⟩
    have hR2 := HR.out.next hb2
    have z0 := hR2.cell 0 _ rfl
    have z1 := hR2.cell 1 _ rfl
    have z2 := hR2.free 0 (by simp)
    have z3 : ∀ u, (w2.setCell ⟨w.heap.size, 0, none⟩ u).frozen? ⟨w.heap.size, 1, none⟩ = false := fun u => (World.frozen?_setCell _ _ _ _).trans (hR2.free 1 (by simp))
    have o := fun u v => ((hR2.set 0 (by simp) u).set 1 (by simp) v).two
    have o0 := fun u v => (o u v).1
    have o1 := fun u v => (o u v).2.1
    have H2 := hid hb2
    clear hR2 o hb2
    go_wp2_with fail
    refine bodyPost_ret (v := rv _) (by simp [results, Try.results30, go_sem, o0, o1, rv]) rfl ⟨rfl, ?_⟩
    exact ((HB.out.trans (H2.out.mono HB.out.size)).setCell (Nat.le_refl _) _).setCell (Nat.le_refl _) _
  · skip
    subst ha
    obtain ⟨-, -, hp, -⟩ := hfair
    obtain ⟨p1, p2⟩ := hp rfl
    by_cases hv : vals L = []
    · have ht : toldOf 6 per (vals L) = (1, 0) := by rw [toldOf, if_neg (by decide), if_neg (by decide), if_pos hv]
      rw [ht]
      rw [hv] at hk
      have HM := hid (fun n => rBy_no a c [] per (W.drewN n) (hk.turn (T := []) (drewN_turn [] W n) (by simp) (by simp)) (.inl rfl))
      clear ht hk hv hvin hvl hlen hRg hp p1 p2
      go_enter Try.func30, Try.ntmps30
      go_upto_region 1 with fail
      rw [← hW]
      clear hW
      go_wp2_with fail
      go_region_with (go_at_call 50; refine Calls.mono (HM.out 1) ?_; rintro e w2 ⟨rfl, h9⟩; have hb2 : Below W.heap.size W w2 := h9 ▸ drewN_below W 1; clear h9)
      all_goals (
        have hR2 := HR.out.next hb2
        have z0 := hR2.cell 0 _ rfl
        have z1 := hR2.cell 1 _ rfl
        have z2 := hR2.free 0 (by simp)
        have z3 : ∀ u, (w2.setCell ⟨w.heap.size, 0, none⟩ u).frozen? ⟨w.heap.size, 1, none⟩ = false := fun u => (World.frozen?_setCell _ _ _ _).trans (hR2.free 1 (by simp))
        have o := fun u v => ((hR2.set 0 (by simp) u).set 1 (by simp) v).two
        have o0 := fun u v => (o u v).1
        have o1 := fun u v => (o u v).2.1
        have H2 := hid hb2
        clear hR2 o hb2
        go_wp2_with fail
        refine bodyPost_ret (v := rv _) (by simp [results, Try.results30, go_sem, o0, o1, rv]) rfl ⟨rfl, ?_⟩
        exact ((HB.out.trans (H2.out.mono HB.out.size)).setCell (Nat.le_refl _) _).setCell (Nat.le_refl _) _)
    · have hl1 : 0 < (vals L).length := List.length_pos_iff.2 hv
      obtain ⟨n1, n2, -⟩ := nearest_bounds p1 p2 hl1
      obtain ⟨y, hy⟩ : ∃ y, (srt (vals L))[nearest per (vals L).length - 1]? = some y := ⟨_, List.getElem?_eq_getElem (by rw [srt_length]; omega)⟩
      have ht : toldOf 6 per (vals L) = (0, y) := by
        rw [toldOf, if_neg (by decide), if_neg (by decide), if_neg hv, if_neg (by decide), if_neg (by decide), if_neg (by decide), hy]; rfl
      rw [ht]
      have HM := hid (fun n => rBy_yes a c (srt (vals L)) per y (W.drewN n) (hk.turn (T := []) (drewN_turn [] W n) (by simp) (by simp)) p1 p2 (by rw [srt_length, hvl]; omega) (by rw [srt_length]; exact hy))
      clear ht hk hv hvin hvl hlen hRg hp p1 p2 hl1 n1 n2 hy
      go_enter Try.func30, Try.ntmps30
      go_upto_region 1 with fail
      rw [← hW]
      clear hW
      go_wp2_with fail
      go_region_with (go_at_call 50; refine Calls.mono (HM.out 1) ?_; rintro e w2 ⟨rfl, h9⟩; have hb2 : Below W.heap.size W w2 := h9 ▸ drewN_below W 1; clear h9)
      all_goals (
        have hR2 := HR.out.next hb2
        have z0 := hR2.cell 0 _ rfl
        have z1 := hR2.cell 1 _ rfl
        have z2 := hR2.free 0 (by simp)
        have z3 : ∀ u, (w2.setCell ⟨w.heap.size, 0, none⟩ u).frozen? ⟨w.heap.size, 1, none⟩ = false := fun u => (World.frozen?_setCell _ _ _ _).trans (hR2.free 1 (by simp))
        have o := fun u v => ((hR2.set 0 (by simp) u).set 1 (by simp) v).two
        have o0 := fun u v => (o u v).1
        have o1 := fun u v => (o u v).2.1
        have H2 := hid hb2
        clear hR2 o hb2
        go_wp2_with fail
        refine bodyPost_ret (v := rv _) (by simp [results, Try.results30, go_sem, o0, o1, rv]) rfl ⟨rfl, ?_⟩
        exact ((HB.out.trans (H2.out.mono HB.out.size)).setCell (Nat.le_refl _) _).setCell (Nat.le_refl _) _)
end Go.Proofs.Ytccgbkafcbfcgaa
