/- The document's Same. -/
import Derived.Test.YtbhmffgmbabkkaaGreatDoorTsP
import Derived.Deep.RegionHeld3
namespace Go.Proofs.YtbhmffgmbabkkaaGreatDoor
open Go.RowKit

def RSame (z : Nat) (t : Tm) : Prop := ∀ (y : Tm) (v v' : Value) (w : World), Sits z w t v → Sits z w y v' → Calls Tryz.prog 22 #[tmV t v, tmV y v'] w fun e w' => e = .returned (.bool (sameB t y)) ∧ Below w.heap.size w w'
set_option maxHeartbeats 4000000 in
theorem rSame_step {z : Nat} (t : Tm) (ih : ∀ x, x ∈ t.parts → RSame z x) : RSame z t := by
  intro y v v' w hs hs'
  have HL := hid2 hs.parts
  have HK := hid2 hs'.parts
  have HI := hid2 ih
  obtain ⟨ad, cap, rfl, hc1, hc2⟩ := hs.parts.shape
  obtain ⟨ad', cap', rfl, hc1', hc2'⟩ := hs'.parts.shape
  obtain ⟨r, hr⟩ : ∃ r : Bool, Hid (r = sameB t y) := ⟨_, rfl⟩
  rw [← hr.out]
  have hr2 := hr.out
  rw [sameB_eq, sameL] at hr2
  obtain ⟨N, hN⟩ : ∃ N, Hid (N = t.parts.length) := ⟨_, rfl⟩
  obtain ⟨M, hM⟩ : ∃ M, Hid (M = y.parts.length) := ⟨_, rfl⟩
  rw [← hN.out] at hc1 HL hr2 ⊢
  rw [← hM.out] at hc1' HK hr2 ⊢
  have HR := hid2 hr2
  clear hs hs' ih hr hr2
  obtain ⟨X0, X1, XB⟩ := two_boxes w 33 33 (tmL t (.slice ad N cap)) (tmL y (.slice ad' M cap'))
  have BX := hid2 X0
  have BY := hid2 X1
  have BB := hid2 XB
  clear X0 X1 XB
  obtain ⟨h, hh⟩ : ∃ h : Bool, Hid (h = hdEq t y) := ⟨_, rfl⟩
  rw [← hh.out] at HR
  cases h
  · have rf : r = false := by rw [HR.out]; rfl
    subst rf
    have hd := hh.out.symm
    unfold hdEq at hd
    simp only [Bool.and_eq_false_iff, decide_eq_false_iff_not] at hd
    clear HR HL HK HI hh BX BY
    go_enter Tryz.func22, Tryz.ntmps22
    go_wp2_with fail
    all_goals first | (exfalso; simp [*] at hd; done) | (go_ret; exact ⟨rfl, ((Below.refl _ _).alloc (Nat.le_refl _) _).alloc (by simp) _⟩)
  · have hd := hh.out.symm
    unfold hdEq at hd
    simp only [Bool.and_eq_true, decide_eq_true_eq] at hd
    obtain ⟨h1, h2, h3, h4⟩ := hd
    have h2' : t.text = y.text := by
      rw [Lib.toList_data, Lib.toList_data] at h2
      have e := Array.toList_inj.1 h2
      calc t.text = ⟨t.text.data⟩ := rfl
        _ = ⟨y.text.data⟩ := by rw [e]
        _ = y.text := rfl
    clear h2 hh
    obtain ⟨ky, sy, ny, my, py, psy⟩ := y
    simp only at h1 h2' h3 h4 HR HL HK HI BX BY BB hM ⊢
    subst h1 h2' h3 h4
    by_cases hNM : N = M
    · have d5 : ((N : Int) != (M : Int)) = false := by rw [hNM]; simp
      have HR2 : Hid (r = (List.range N).all (samePt t.parts psy)) := by show _ = _; rw [HR.out, decide_eq_true hNM]; rfl
      have HNM := hid2 hNM
      clear HR hNM
      go_enter Tryz.func22, Tryz.ntmps22
      go_wp2_with fail
      go_loopw [5] (fun i wr => ∃ j : Nat, i = .int .i64 (j : Nat) ∧ j ≤ N ∧ Hid ((List.range j).all (samePt t.parts psy) = true) ∧ Hid (Below w.heap.size w wr) ∧ Hid (Box wr w.heap.size (tmL t (.slice ad N cap))) ∧ Hid (Box wr (w.heap.size + 1) (tmL ⟨t.kind, t.text, t.n, t.m, py, psy⟩ (.slice ad' M cap')))) (fun i _ => match i with | .int _ p => ((N : Int) - p).toNat | _ => 0)
      case atStart => exact ⟨0, rfl, by omega, hid2 rfl, BB, BX, BY⟩
      case round =>
        obtain ⟨j, rfl, hj, HJ, HB, HX, HY⟩ := hrel
        have x5 := HX.out.cell 5 _ rfl
        have y5 := HY.out.cell 5 _ rfl
        have lx := HX.out.lt
        have ly := HY.out.lt
        by_cases hlt : j < N
        · have hlt' : (j : Int) < (N : Int) := by omega
          have hlm' : (j : Int) < (M : Int) := by have := HNM.out; omega
          have h1 : j < t.parts.length := by rw [← hN.out]; exact hlt
          have h2 : j < psy.length := by rw [← hM.out]; have := HNM.out; omega
          obtain ⟨b, off, c1, hv, -, -, hbl, hx⟩ := HL.out.open (by omega)
          simp only [Value.slice.injEq] at hv
          obtain ⟨rfl, -, rfl⟩ := hv
          obtain ⟨b', off', c1', hv', -, -, hbl', hx'⟩ := HK.out.open (by omega)
          simp only [Value.slice.injEq] at hv'
          obtain ⟨rfl, -, rfl⟩ := hv'
          obtain ⟨u, h6, hu⟩ := hx j h1
          obtain ⟨u', h6', hu'⟩ := hx' j h2
          obtain ⟨c0, c1, c2, c3, c4, c5⟩ := h6.keep (w' := wr) (fun q => HB.out.cell (p := ⟨b, q, none⟩) hbl)
          obtain ⟨e0, e1, e2, e3, e4, e5⟩ := h6'.keep (w' := wr) (fun q => HB.out.cell (p := ⟨b', q, none⟩) hbl')
          have lb : b < wr.heap.size := Nat.lt_of_lt_of_le hbl HB.out.size
          have lb' : b' < wr.heap.size := Nat.lt_of_lt_of_le hbl' HB.out.size
          have HC : Hid (∀ wx, Below wr.heap.size wr wx → Calls Tryz.prog 22 #[tmV t.parts[j] u, tmV psy[j] u'] wx fun e w' => e = .returned (.bool (samePt t.parts psy j)) ∧ Hid (Below wr.heap.size wr w')) := fun wx hb => by
            have A : Below w.heap.size w wx := below_on HB.out hb HB.out.size
            rw [samePt_at h1 h2]
            exact (HI.out _ (List.getElem_mem h1) _ u u' _ (hu.next A) (hu'.next A)).mono fun e w' h => ⟨h.1, below_on hb h.2 hb.size⟩
          clear h6 h6' hu hu' hx hx'
          generalize t.parts[j] = x at *
          generalize psy[j] = yy at *
          clear h1 h2
          go_wp2_with fail
          go_region_held3 (fun w' => w'.cell? ⟨w.heap.size, 5, none⟩ = some (.slice (some ⟨b, off, none⟩) N cap) ∧ w'.cell? ⟨w.heap.size + 1, 5, none⟩ = some (.slice (some ⟨b', off', none⟩) M cap') ∧ (w'.cell? ⟨b, off + j * 6, none⟩ = some (.int .i64 x.kind) ∧ w'.cell? ⟨b, off + j * 6 + 1, none⟩ = some (.string x.text) ∧ w'.cell? ⟨b, off + j * 6 + 2, none⟩ = some (.int .i64 x.n) ∧ w'.cell? ⟨b, off + j * 6 + 3, none⟩ = some (.int .i64 x.m) ∧ w'.cell? ⟨b, off + j * 6 + 4, none⟩ = some (.int .i64 x.pl) ∧ w'.cell? ⟨b, off + j * 6 + 5, none⟩ = some u) ∧ w'.cell? ⟨b', off' + j * 6, none⟩ = some (.int .i64 yy.kind) ∧ w'.cell? ⟨b', off' + j * 6 + 1, none⟩ = some (.string yy.text) ∧ w'.cell? ⟨b', off' + j * 6 + 2, none⟩ = some (.int .i64 yy.n) ∧ w'.cell? ⟨b', off' + j * 6 + 3, none⟩ = some (.int .i64 yy.m) ∧ w'.cell? ⟨b', off' + j * 6 + 4, none⟩ = some (.int .i64 yy.pl) ∧ w'.cell? ⟨b', off' + j * 6 + 5, none⟩ = some u') (simp [go_sem, *]) (first | (go_at_call 22; refine Calls.mono (HC.out _ (by exact below_drewN (Below.refl _ _) _)) ?_; rintro e w1 ⟨rfl, B1⟩; have g0 := fun p v hp hv => (B1.out.cell (p := p) hp).trans (hv : wr.cell? p = some v); replace x5 := g0 _ _ lx x5; replace y5 := g0 _ _ ly y5; replace c0 := g0 _ _ lb c0; replace c1 := g0 _ _ lb c1; replace c2 := g0 _ _ lb c2; replace c3 := g0 _ _ lb c3; replace c4 := g0 _ _ lb c4; replace c5 := g0 _ _ lb c5; replace e0 := g0 _ _ lb' e0; replace e1 := g0 _ _ lb' e1; replace e2 := g0 _ _ lb' e2; replace e3 := g0 _ _ lb' e3; replace e4 := g0 _ _ lb' e4; replace e5 := g0 _ _ lb' e5; clear g0))
          have HX1 := hid2 (HX.out.next B1.out)
          have HY1 := hid2 (HY.out.next B1.out)
          have HB1 := hid2 (below_on HB.out B1.out HB.out.size)
          clear c0 c1 c2 c3 c4 c5 e0 e1 e2 e3 e4 e5 HC x5 y5
          cases hq : samePt t.parts psy j with
          | false =>
            have rf : r = false := by rw [HR2.out]; exact all_false' hlt hq
            subst rf
            clear hq
            go_wp2_with fail
            go_ret
            exact ⟨rfl, HB1.out⟩
          | true =>
            have HJ2 := hid2 (all_step' HJ.out hq)
            clear hq
            go_wp2_with fail
            go_roundw
            case rel => exact ⟨j + 1, by go_num, by omega, HJ2, HB1, HX1, HY1⟩
            case measure => simp; omega
        · have hlt' : ¬ (j : Int) < (N : Int) := by omega
          have hjN : j = N := by omega
          have rt : r = true := by rw [HR2.out, ← hjN, HJ.out]
          subst rt
          clear HR2
          go_wp2_with fail
          go_ret
          exact ⟨rfl, HB.out⟩
    · have d5 : ((N : Int) != (M : Int)) = true := by simp; omega
      have rf : r = false := by rw [HR.out, decide_eq_false hNM]; rfl
      subst rf
      clear HR
      go_enter Tryz.func22, Tryz.ntmps22
      go_wp2_with fail
      go_ret
      exact ⟨rfl, BB.out⟩
theorem rSame_all {z : Nat} (t : Tm) : RSame z t := by
  induction t using Tm.ind with
  | h t ih => exact rSame_step t ih
end Go.Proofs.YtbhmffgmbabkkaaGreatDoor
