/- The document's Formed. -/
import Derived.Test.YtdikeicnefgjcaaDoorTrR
import Derived.Test.YtdikeicnefgjcaaDoorTrH
import Derived.Deep.RegionHeld3
namespace Go.Proofs.YtdikeicnefgjcaaDoor
open Go.RowKit

theorem head_own (k : Int) (s : ByteArray) (n m : Int) (c : Nat) : headB k s n m c = (decide (1 ≤ k) && (decide (k ≤ 32) && (decide (arI k = c) && ownB k s n m))) := by
  refine Bool.eq_iff_iff.2 ?_
  simp only [Bool.and_eq_true, decide_eq_true_eq]
  have plain : ∀ lo hi, plainB k s n m lo hi = true ↔ lo ≤ k ∧ k ≤ hi ∧ bareB s n m = true := fun lo hi => by simp only [plainB, Bool.and_eq_true, decide_eq_true_eq]
  have own13 : 13 ≤ k → ownB k s n m = bareB s n m := fun h => by
    unfold ownB
    rw [if_neg (by omega), if_neg (by omega), if_neg (by omega), if_neg (by omega), if_neg (by omega)]
  unfold headB
  by_cases c0 : c = 0
  · subst c0
    rw [if_pos rfl]
    have ar : arI k = 0 ↔ k ≤ 12 := by unfold arI; (repeat' split) <;> omega
    rw [ar]
    unfold leafB ownB
    by_cases k1 : k = 1
    · rw [if_pos k1, if_pos k1]; exact ⟨fun h => ⟨by omega, by omega, by omega, h⟩, fun h => h.2.2.2⟩
    rw [if_neg k1, if_neg k1]
    by_cases k2 : k = 2
    · rw [if_pos k2, if_pos k2]; exact ⟨fun h => ⟨by omega, by omega, by omega, h⟩, fun h => h.2.2.2⟩
    rw [if_neg k2, if_neg k2]
    by_cases k6 : k = 6
    · rw [if_pos k6, if_pos k6]; exact ⟨fun h => ⟨by omega, by omega, by omega, h⟩, fun h => h.2.2.2⟩
    rw [if_neg k6, if_neg k6]
    by_cases k7 : 7 ≤ k ∧ k ≤ 11
    · rw [if_pos k7, if_pos k7]; exact ⟨fun h => ⟨by omega, by omega, by omega, h⟩, fun h => h.2.2.2⟩
    rw [if_neg k7, if_neg k7]
    by_cases k12 : k = 12
    · rw [if_pos k12, if_pos k12]; exact ⟨fun h => ⟨by omega, by omega, by omega, h⟩, fun h => h.2.2.2⟩
    rw [if_neg k12, if_neg k12, plain]
    exact ⟨fun h => ⟨by omega, by omega, by omega, h.2.2⟩, fun h => ⟨by omega, by omega, h.2.2.2⟩⟩
  rw [if_neg c0]
  by_cases c1 : c = 1
  · subst c1
    rw [if_pos rfl, plain]
    have ar : arI k = 1 ↔ 13 ≤ k ∧ k ≤ 17 := by unfold arI; (repeat' split) <;> omega
    rw [ar]
    exact ⟨fun h => ⟨by omega, by omega, by omega, by rw [own13 (by omega)]; exact h.2.2⟩, fun h => ⟨by omega, by omega, by rw [← own13 (by omega)]; exact h.2.2.2⟩⟩
  rw [if_neg c1]
  by_cases c2 : c = 2
  · subst c2
    rw [if_pos rfl, plain]
    have ar : arI k = 2 ↔ 18 ≤ k ∧ k ≤ 31 := by unfold arI; (repeat' split) <;> omega
    rw [ar]
    exact ⟨fun h => ⟨by omega, by omega, by omega, by rw [own13 (by omega)]; exact h.2.2⟩, fun h => ⟨by omega, by omega, by rw [← own13 (by omega)]; exact h.2.2.2⟩⟩
  rw [if_neg c2]
  by_cases c3 : c = 3
  · subst c3
    rw [if_pos rfl, plain]
    have ar : arI k = 3 ↔ 32 ≤ k := by unfold arI; (repeat' split) <;> omega
    rw [ar]
    exact ⟨fun h => ⟨by omega, by omega, by omega, by rw [own13 (by omega)]; exact h.2.2⟩, fun h => ⟨by omega, by omega, by rw [← own13 (by omega)]; exact h.2.2.2⟩⟩
  rw [if_neg c3]
  constructor
  · intro h; cases h
  · rintro ⟨_, _, h, _⟩
    unfold arI at h
    split at h
    · omega
    · split at h
      · omega
      · split at h <;> omega
def RForm (z : Nat) (t : Tm) : Prop := ∀ (v : Value) (w : World), Sits z w t v → Calls Tryd.prog 12 #[tmV t v] w fun e w' => e = .returned (.bool (formedB t)) ∧ Below w.heap.size w w'
set_option maxHeartbeats 2000000 in
theorem rForm_step {z : Nat} (hz : z ≤ 1048576) (t : Tm) (ih : ∀ x, x ∈ t.parts → RForm z x) : RForm z t := by
  intro v w hs
  have HP := hid2 hs.parts
  have HI := hid2 ih
  obtain ⟨ad, cap, rfl, hlc, hc⟩ := hs.parts.shape
  have HO := hid2 (fun wx => own_c t (.slice ad t.parts.length cap) ⟨_, _, _, rfl⟩ (Nat.le_trans hs.fit.s hz) wx)
  obtain ⟨r, hr⟩ : ∃ r : Bool, Hid (r = formedB t) := ⟨_, rfl⟩
  rw [← hr.out]
  have hr2 := hr.out
  rw [formedB_eq, head_own] at hr2
  have HR := hid2 hr2
  obtain ⟨N, hN⟩ : ∃ N, Hid (N = t.parts.length) := ⟨_, rfl⟩
  rw [← hN.out] at hlc HP HO HR ⊢
  clear hs ih hr hr2
  by_cases k1 : t.kind < 1
  · have rf : r = false := by rw [HR.out, decide_eq_false (by omega)]; rfl
    subst rf
    have d1 : decide (t.kind < 1) = true := decide_eq_true k1
    clear HR HO HI HP
    go_enter Tryd.func12, Tryd.ntmps12
    go_wp2_with fail
    go_quiet (fail)
    go_wp2_with fail
    go_ret
    exact ⟨rfl, below_drewN ((Below.refl _ _).alloc (Nat.le_refl _) _) _⟩
  have d1 : decide (t.kind < 1) = false := decide_eq_false k1
  by_cases k2 : 32 < t.kind
  · have rf : r = false := by rw [HR.out, decide_eq_false (show ¬ t.kind ≤ 32 by omega)]; simp
    subst rf
    have d2 : decide (32 < t.kind) = true := decide_eq_true k2
    clear HR HO HI HP
    go_enter Tryd.func12, Tryd.ntmps12
    go_wp2_with fail
    go_quiet (fail)
    go_wp2_with fail
    go_ret
    exact ⟨rfl, below_drewN ((Below.refl _ _).alloc (Nat.le_refl _) _) _⟩
  have d2 : decide (32 < t.kind) = false := decide_eq_false k2
  have HAr := hid2 (fun wx => arity_c t.kind (by omega) (by omega) wx)
  obtain ⟨A, hA⟩ : ∃ A, Hid (A = arI t.kind) := ⟨_, hid2 rfl⟩
  rw [← hA.out] at HAr HR
  by_cases k3 : A = N
  · have d3 : ((A : Int) != (N : Int)) = false := by rw [k3]; simp
    obtain ⟨q, hq⟩ : ∃ q : Bool, Hid (q = ownB t.kind t.text t.n t.m) := ⟨_, rfl⟩
    rw [← hq.out] at HO HR
    have HR2 : Hid (r = (q && t.parts.all formedB)) := by
      show _ = _
      rw [HR.out, decide_eq_true (show 1 ≤ t.kind by omega), decide_eq_true (show t.kind ≤ 32 by omega), decide_eq_true k3]; rfl
    clear HR k3 hA
    go_enter Tryd.func12, Tryd.ntmps12
    go_wp2_with fail
    go_region_held3 (fun w' => w'.cell? ⟨w.heap.size, 0, none⟩ = some (.int .i64 t.kind) ∧ w'.cell? ⟨w.heap.size, 1, none⟩ = some (.string t.text) ∧ w'.cell? ⟨w.heap.size, 2, none⟩ = some (.int .i64 t.n) ∧ w'.cell? ⟨w.heap.size, 3, none⟩ = some (.int .i64 t.m) ∧ w'.cell? ⟨w.heap.size, 4, none⟩ = some (.int .i64 t.pl) ∧ w'.cell? ⟨w.heap.size, 5, none⟩ = some (.slice ad N cap)) (simp [go_sem, *]) (first | (go_at_call 34; refine Calls.mono (HAr.out _) ?_; rintro e w1 ⟨rfl, rfl⟩) | (go_at_call 35; refine Calls.mono (HO.out _) ?_; rintro e w1 ⟨rfl, b1⟩; have Y := ((Box.new w (tmL t (.slice ad N cap)) 24).next (below_drewN (Below.refl _ _) _)).next b1; have y0 := Y.cell 0 _ rfl; have y1 := Y.cell 1 _ rfl; have y2 := Y.cell 2 _ rfl; have y3 := Y.cell 3 _ rfl; have y4 := Y.cell 4 _ rfl; have y5 := Y.cell 5 _ rfl; have ly := Y.lt; have B1 : Hid (Below (w.heap.size + 1) (w.alloc (.cells (tmL t (.slice ad N cap)).toArray 24)) w1) := (below_drewN (Below.refl (w.heap.size + 1) _) _).trans (b1.mono (by simp)); clear b1 Y))
    have HA0 : Hid (Below w.heap.size w (w.alloc (.cells (tmL t (.slice ad N cap)).toArray 24))) := (Below.refl _ _).alloc (Nat.le_refl _) _
    cases q
    · have rf : r = false := by rw [HR2.out]; rfl
      subst rf
      go_wp2_with fail
      go_ret
      exact ⟨rfl, by first | exact HA0.out.trans (B1.out.mono (by omega)) | exact below_drewN (HA0.out.trans (B1.out.mono (by omega))) _⟩
    · have HR3 : Hid (r = (t.parts.drop 0).all formedB) := by show _ = _; rw [HR2.out]; rfl
      have BX : Hid (Box (w.alloc (.cells (tmL t (.slice ad N cap)).toArray 24)) w.heap.size (tmL t (.slice ad N cap))) := Box.new _ _ _
      clear HR2 y0 y1 y2 y3 y4 y5 ly HO HAr
      simp only [Bool.not_true]
      go_wp2_with fail
      go_loopw [3] (fun i wr => ∃ k : Nat, i = .int .i64 (k : Nat) ∧ k ≤ N ∧ Hid (r = (t.parts.drop k).all formedB) ∧ Hid (Below (w.heap.size + 1) (w.alloc (.cells (tmL t (.slice ad N cap)).toArray 24)) wr)) (fun i _ => match i with | .int _ p => ((N : Int) - p).toNat | _ => 0)
      case atStart => exact ⟨0, rfl, by omega, HR3, by first | exact B1 | exact below_drewN B1.out _⟩
      case round =>
        obtain ⟨k, rfl, hk, HK, HB⟩ := hrel
        have HBw : Hid (Below w.heap.size w wr) := HA0.out.trans (HB.out.mono (by omega))
        have X := BX.out.later HB.out (by omega)
        have k5 := X.cell 5 _ rfl
        clear HR3
        by_cases hlt : k < N
        · have hlt' : (k : Int) < (N : Int) := by omega
          have hl1 : k < t.parts.length := by rw [← hN.out]; exact hlt
          obtain ⟨b, off, cap', hv, -, -, hbl, hx⟩ := HP.out.open (by omega)
          simp only [Value.slice.injEq] at hv
          obtain ⟨rfl, -, rfl⟩ := hv
          obtain ⟨u, h6, hu⟩ := hx k hl1
          obtain ⟨c0, c1, c2, c3, c4, c5⟩ := h6.keep (w' := wr) (fun q => HBw.out.cell (p := ⟨b, q, none⟩) hbl)
          have HC := hid2 (HI.out _ (List.getElem_mem hl1) u wr (hu.next HBw.out))
          have hS := HK.out
          rw [List.drop_eq_getElem_cons hl1, List.all_cons] at hS
          have HS := hid2 hS
          clear hx h6 hu X hS HK
          generalize t.parts[k] = x at *
          clear hl1
          go_wp2_with fail
          refine Calls.mono HC.out ?_
          rintro e w2 ⟨rfl, b2⟩
          have B2 := hid2 (HB.out.trans (b2.mono (by have := HB.out.size; simp at this; omega)))
          have B3 := hid2 (below_on HBw.out b2 HBw.out.size)
          clear b2 HC
          cases hq : formedB x with
          | false =>
            have rf : r = false := by rw [HS.out, hq]; rfl
            subst rf
            clear hq HS
            go_wp2_with fail
            go_ret
            exact ⟨rfl, B3.out⟩
          | true =>
            have HS2 : Hid (r = (t.parts.drop (k + 1)).all formedB) := by show _ = _; rw [HS.out, hq]; rfl
            clear hq HS
            go_wp2_with fail
            go_roundw
            case rel => exact ⟨k + 1, by go_num, by omega, HS2, B2⟩
            case measure => simp; omega
        · have hlt' : ¬ (k : Int) < (N : Int) := by omega
          have rt : r = true := by rw [HK.out, List.drop_of_length_le (by have := hN.out; omega)]; rfl
          subst rt
          clear HK
          go_wp2_with fail
          go_ret
          exact ⟨rfl, HBw.out⟩
  · have d3 : ((A : Int) != (N : Int)) = true := by simp; omega
    have rf : r = false := by rw [HR.out, decide_eq_false k3]; simp
    subst rf
    clear HR HO HI HP hA
    go_enter Tryd.func12, Tryd.ntmps12
    go_wp2_with fail
    go_quiet ((go_at_call 34; exact Calls.quiet_of_same (HAr.out _)))
    go_wp2_with fail
    go_ret
    exact ⟨rfl, below_drewN ((Below.refl _ _).alloc (Nat.le_refl _) _) _⟩
theorem rForm_all {z : Nat} (hz : z ≤ 1048576) (t : Tm) : RForm z t := by
  induction t using Tm.ind with
  | h t ih => exact rForm_step hz t ih
end Go.Proofs.YtdikeicnefgjcaaDoor
