/- The document's Placed, of one term at two places. -/
import Derived.Test.YtecdfnpbcabdnaaGreatDoorPrM
import Derived.Deep.RegionHeld3
namespace Go.Proofs.YtecdfnpbcabdnaaGreatDoor
open Go.RowKit

def PlC (z : Nat) (t : Tm) : Prop := ∀ (v v' : Value) (w : World), Sits z w t v → Sits z w t v' → Calls Tryz.prog 12 #[tmV t v, tmV t v'] w fun e w' => e = .returned (.bool true) ∧ Below w.heap.size w w'
set_option maxHeartbeats 4000000 in
theorem placed_step {z : Nat} (t : Tm) (ih : ∀ x, x ∈ t.parts → PlC z x) : PlC z t := by
  intro v v' w hs hs'
  have HL := hid2 hs.parts
  have HK := hid2 hs'.parts
  have HI := hid2 ih
  obtain ⟨ad, cap, rfl, hc1, hc2⟩ := hs.parts.shape
  obtain ⟨ad', cap', rfl, hc1', hc2'⟩ := hs'.parts.shape
  obtain ⟨N, hN⟩ : ∃ N, Hid (N = t.parts.length) := ⟨_, rfl⟩
  rw [← hN.out] at hc1 hc1' HL HK ⊢
  clear hs hs' ih
  obtain ⟨X0, X1, XB⟩ := two_boxes w 33 33 (tmL t (.slice ad N cap)) (tmL t (.slice ad' N cap'))
  have BX := hid2 X0
  have BY := hid2 X1
  have BB := hid2 XB
  clear X0 X1 XB
  go_enter Tryz.func12, Tryz.ntmps12
  go_wp2_with fail
  go_loopw [5] (fun i wr => ∃ j : Nat, i = .int .i64 (j : Nat) ∧ j ≤ N ∧ Hid (Below w.heap.size w wr) ∧ Hid (Box wr w.heap.size (tmL t (.slice ad N cap))) ∧ Hid (Box wr (w.heap.size + 1) (tmL t (.slice ad' N cap')))) (fun i _ => match i with | .int _ p => ((N : Int) - p).toNat | _ => 0)
  case atStart => exact ⟨0, rfl, by omega, BB, BX, BY⟩
  case round =>
    obtain ⟨j, rfl, hj, HB, HX, HY⟩ := hrel
    have x5 := HX.out.cell 5 _ rfl
    have y5 := HY.out.cell 5 _ rfl
    have lx := HX.out.lt
    have ly := HY.out.lt
    by_cases hlt : j < N
    · have hlt' : (j : Int) < (N : Int) := by omega
      have h1 : j < t.parts.length := by rw [← hN.out]; exact hlt
      obtain ⟨b, off, c1, hv, -, -, hbl, hx⟩ := HL.out.open (by omega)
      simp only [Value.slice.injEq] at hv
      obtain ⟨rfl, -, rfl⟩ := hv
      obtain ⟨b', off', c1', hv', -, -, hbl', hx'⟩ := HK.out.open (by omega)
      simp only [Value.slice.injEq] at hv'
      obtain ⟨rfl, -, rfl⟩ := hv'
      obtain ⟨u, h6, hu⟩ := hx j h1
      obtain ⟨u', h6', hu'⟩ := hx' j h1
      obtain ⟨c0, c1, c2, c3, c4, c5⟩ := h6.keep (w' := wr) (fun q => HB.out.cell (p := ⟨b, q, none⟩) hbl)
      obtain ⟨e0, e1, e2, e3, e4, e5⟩ := h6'.keep (w' := wr) (fun q => HB.out.cell (p := ⟨b', q, none⟩) hbl')
      have lb : b < wr.heap.size := Nat.lt_of_lt_of_le hbl HB.out.size
      have lb' : b' < wr.heap.size := Nat.lt_of_lt_of_le hbl' HB.out.size
      have HC : Hid (∀ wx, Below wr.heap.size wr wx → Calls Tryz.prog 12 #[tmV t.parts[j] u, tmV t.parts[j] u'] wx fun e w' => e = .returned (.bool true) ∧ Hid (Below wr.heap.size wr w')) := fun wx hb => by
        have A : Below w.heap.size w wx := below_on HB.out hb HB.out.size
        exact (HI.out _ (List.getElem_mem h1) u u' _ (hu.next A) (hu'.next A)).mono fun e w' h => ⟨h.1, below_on hb h.2 hb.size⟩
      clear h6 h6' hu hu' hx hx'
      generalize t.parts[j] = x at *
      clear h1
      go_wp2_with fail
      go_region_held3 (fun w' => w'.cell? ⟨w.heap.size, 5, none⟩ = some (.slice (some ⟨b, off, none⟩) N cap) ∧ w'.cell? ⟨w.heap.size + 1, 5, none⟩ = some (.slice (some ⟨b', off', none⟩) N cap') ∧ (w'.cell? ⟨b, off + j * 6, none⟩ = some (.int .i64 x.kind) ∧ w'.cell? ⟨b, off + j * 6 + 1, none⟩ = some (.string x.text) ∧ w'.cell? ⟨b, off + j * 6 + 2, none⟩ = some (.int .i64 x.n) ∧ w'.cell? ⟨b, off + j * 6 + 3, none⟩ = some (.int .i64 x.m) ∧ w'.cell? ⟨b, off + j * 6 + 4, none⟩ = some (.int .i64 x.pl) ∧ w'.cell? ⟨b, off + j * 6 + 5, none⟩ = some u) ∧ w'.cell? ⟨b', off' + j * 6, none⟩ = some (.int .i64 x.kind) ∧ w'.cell? ⟨b', off' + j * 6 + 1, none⟩ = some (.string x.text) ∧ w'.cell? ⟨b', off' + j * 6 + 2, none⟩ = some (.int .i64 x.n) ∧ w'.cell? ⟨b', off' + j * 6 + 3, none⟩ = some (.int .i64 x.m) ∧ w'.cell? ⟨b', off' + j * 6 + 4, none⟩ = some (.int .i64 x.pl) ∧ w'.cell? ⟨b', off' + j * 6 + 5, none⟩ = some u') (simp [go_sem, *]) (first | (go_at_call 12; refine Calls.mono (HC.out _ (by exact below_drewN (Below.refl _ _) _)) ?_; rintro e w1 ⟨rfl, B1⟩; have g0 := fun p v hp hv => (B1.out.cell (p := p) hp).trans (hv : wr.cell? p = some v); replace x5 := g0 _ _ lx x5; replace y5 := g0 _ _ ly y5; replace c0 := g0 _ _ lb c0; replace c1 := g0 _ _ lb c1; replace c2 := g0 _ _ lb c2; replace c3 := g0 _ _ lb c3; replace c4 := g0 _ _ lb c4; replace c5 := g0 _ _ lb c5; replace e0 := g0 _ _ lb' e0; replace e1 := g0 _ _ lb' e1; replace e2 := g0 _ _ lb' e2; replace e3 := g0 _ _ lb' e3; replace e4 := g0 _ _ lb' e4; replace e5 := g0 _ _ lb' e5; clear g0))
      have HX1 := hid2 (HX.out.next B1.out)
      have HY1 := hid2 (HY.out.next B1.out)
      have HB1 := hid2 (below_on HB.out B1.out HB.out.size)
      clear c0 c1 c2 c3 c4 c5 e0 e1 e2 e3 e4 e5 HC x5 y5
      go_wp2_with fail
      go_roundw
      case rel => exact ⟨j + 1, by go_num, by omega, HB1, HX1, HY1⟩
      case measure => simp; omega
    · have hlt' : ¬ (j : Int) < (N : Int) := by omega
      go_wp2_with fail
      go_ret
      exact ⟨rfl, HB.out⟩
theorem placed_all {z : Nat} (t : Tm) : PlC z t := by
  induction t using Tm.ind with
  | h t ih => exact placed_step t ih
end Go.Proofs.YtecdfnpbcabdnaaGreatDoor
