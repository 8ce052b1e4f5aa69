/- The walk of WindowNil. -/
import Derived.Test.YtccgbkafcbfcgaaWnH
import Derived.Deep.RegionHeld3
namespace Go.Proofs.Ytccgbkafcbfcgaa
open Go.RowKit

/-- The zero Window's cells. -/
def zw : List Value := [.pointer none, .int .i64 0, .int .i64 0, .int .i64 0, .int .i64 0, .bool false, .pointer none, .pointer none, .pointer none]
/-- A nil window, or the zero one. -/
def NoWin (w : World) (p : Option Addr) : Prop := p = none ∨ ∃ z, p = some ⟨z, 0, none⟩ ∧ Box w z zw
theorem NoWin.next {w w' : World} {p : Option Addr} (h : NoWin w p) (t : Below w.heap.size w w') : NoWin w' p := h.imp_right fun ⟨z, e, h⟩ => ⟨z, e, h.next t⟩
theorem NoWin.alike {w w' : World} {p : Option Addr} (h : NoWin w p) (t : w'.heap = w.heap) : NoWin w' p := h.imp_right fun ⟨z, e, h⟩ => ⟨z, e, h.alike t⟩
theorem nRead (p : Option Addr) (t : Int) (w : World) (h : NoWin w p) : Calls Try.prog 16 #[.pointer p, .int .i64 t] w fun e w' => e = .returned (.tuple #[rv r0, .int .i64 4]) ∧ Below w.heap.size w w' := by
  rcases h with rfl | ⟨z, rfl, h⟩
  · exact wRead_nil t w
  · exact wRead_zero z _ t w h
theorem nHeld (p : Option Addr) (t : Int) (w : World) (h : NoWin w p) : Calls Try.prog 19 #[.pointer p, .int .i64 t] w fun e w' => e = .returned (.tuple #[.slice none 0 0, .int .i64 4]) ∧ w = w' := by
  rcases h with rfl | ⟨z, rfl, h⟩
  · exact wHeld_nil t w
  · exact wHeld_zero z _ t w h
theorem nPut (p : Option Addr) (s : Pr) (w : World) (h : NoWin w p) : Calls Try.prog 14 #[.pointer p, .agg #[.int .i64 s.1, .int .i64 s.2]] w fun e w' => e = .returned (.int .i64 4) ∧ Below w.heap.size w w' := by
  rcases h with rfl | ⟨z, rfl, h⟩
  · exact wPut_nil s w
  · exact wPut_zero z _ s w h
theorem nClock (p : Option Addr) (w : World) (h : NoWin w p) : Calls Try.prog 13 #[.pointer p] w fun e w' => e = .returned (.tuple #[.int .i64 0, .bool false]) ∧ Below w.heap.size w w' := by
  rcases h with rfl | ⟨z, rfl, h⟩
  · exact (wClock_nil w).mono fun _ _ ⟨a, e⟩ => ⟨a, e ▸ Below.refl _ _⟩
  · exact (wClock_at z _ _ _ _ _ _ _ 0 false w h).mono fun _ _ ⟨a, k, e⟩ => ⟨a, e ▸ drewN_below w k⟩
/-- What stands in the rounds: the sample at g, the windows at l. -/
structure NilMem (w : World) (g l : Nat) (s : Pr) (p : Option Addr) : Prop where
  s : Box w g [.int .i64 s.1, .int .i64 s.2]
  l : Box w l [.pointer none, .pointer p]
  z : NoWin w p
theorem NilMem.next {w w' : World} {g l : Nat} {s : Pr} {p : Option Addr} (h : NilMem w g l s p) (t : Below w.heap.size w w') : NilMem w' g l s p := ⟨h.s.next t, h.l.next t, h.z.next t⟩
theorem NilMem.alike {w w' : World} {g l : Nat} {s : Pr} {p : Option Addr} (h : NilMem w g l s p) (t : w'.heap = w.heap) : NilMem w' g l s p := ⟨h.s.alike t, h.l.alike t, h.z.alike t⟩
/-- An answer of two numbers, laid into memory behind the call, or ahead of it. -/
theorem box_late {w w9 : World} (hb : Below w.drew.heap.size w.drew w9) (u v : Value) (t : TypeId) : Box (w9.alloc (.cells #[u, v] t)) w9.heap.size [u, v] ∧ Below w.heap.size w (w9.alloc (.cells #[u, v] t)) :=
  ⟨Box.new w9 [u, v] t, (((Below.refl _ w).drew).trans hb).alloc (Nat.le_trans (Nat.le_refl _) hb.size) _⟩
theorem box_early {w w9 : World} {o : Obj} {x y : Value} (hb : Below (w.alloc o).drew.heap.size (w.alloc o).drew w9) (hz : Box w9 w.heap.size [x, y]) (u v : Value) : Box ((w9.setCell ⟨w.heap.size, 0, none⟩ u).setCell ⟨w.heap.size, 1, none⟩ v) w.heap.size [u, v] ∧ Below w.heap.size w ((w9.setCell ⟨w.heap.size, 0, none⟩ u).setCell ⟨w.heap.size, 1, none⟩ v) := by
  have h1 : Below w.heap.size w (w.alloc o).drew := ((Below.refl _ w).alloc (Nat.le_refl _) o).drew
  exact ⟨by simpa using (hz.set 0 (by simp) u).set 1 (by simp) v, ((h1.trans (hb.mono h1.size)).setCell (Nat.le_refl _) _).setCell (Nat.le_refl _) _⟩
set_option maxRecDepth 20000 in
set_option maxHeartbeats 4000000 in
theorem windownil_walk (s : Pr) (w : World) :
    Calls Try.prog 7 #[.agg #[.int .i64 s.1, .int .i64 s.2]] w fun e w' => e = .returned (.bool true) ∧ Below w.heap.size w w' := by
  obtain ⟨hS, hB⟩ := one_box w 45 [.int .i64 s.1, .int .i64 s.2]
  obtain ⟨W, hW⟩ : ∃ W, W = w.alloc (.cells #[.int .i64 s.1, .int .i64 s.2] 45) := ⟨_, rfl⟩
  rw [← hW] at hS hB
  have HS := hid hS
  have HB := hid hB
  clear hS hB
  go_enter Try.func7, Try.ntmps7
  go_upto_region 1 with fail
  rw [← hW]
  clear hW
  go_wp2_with fail
  refine Calls.mono (awake_any W) ?_
  rintro e w1 ⟨rfl, hb1⟩
  have hmem : NilMem ((w1.alloc (.cells zw.toArray 65)).alloc (.cells #[.pointer none, .pointer (some ⟨w1.heap.size, 0, none⟩)] 26)) w.heap.size (w1.heap.size + 1) s (some ⟨w1.heap.size, 0, none⟩) := by
    have b2 := two_boxes w1 65 26 zw [.pointer none, .pointer (some ⟨w1.heap.size, 0, none⟩)]
    exact ⟨(HS.out.next hb1).next b2.2.2, b2.2.1, .inr ⟨_, rfl, b2.1⟩⟩
  have hbb : Below w.heap.size w ((w1.alloc (.cells zw.toArray 65)).alloc (.cells #[.pointer none, .pointer (some ⟨w1.heap.size, 0, none⟩)] 26)) := by
    have b2 := (two_boxes w1 65 26 zw [.pointer none, .pointer (some ⟨w1.heap.size, 0, none⟩)]).2.2
    exact (HB.out.trans (hb1.mono HB.out.size)).trans (b2.mono (Nat.le_trans HB.out.size hb1.size))
  have HM := hid hmem
  have HBB := hid hbb
  clear hmem hbb hb1
  go_upto_region 5 with fail
  obtain ⟨W2, hW2⟩ : ∃ W2, W2 = (w1.alloc (.cells zw.toArray 65)).alloc (.cells #[.pointer none, .pointer (some ⟨w1.heap.size, 0, none⟩)] 26) := ⟨_, rfl⟩
  rw [← hW2] at HM HBB
  simp only [zw] at hW2
  rw [← hW2]
  clear hW2
  generalize w1.heap.size + 1 = l at *
  generalize (some ⟨w1.heap.size, 0, none⟩ : Option Addr) = pz at *
  obtain ⟨g, hg⟩ : ∃ g, g = w.heap.size := ⟨_, rfl⟩
  rw [← hg] at HM ⊢
  clear hg
  go_wp2_with fail
  go_loopw [5] (fun i wr => ∃ k : Nat, i = .int .i64 k ∧ k ≤ 2 ∧ NilMem wr g l s pz ∧ Below w.heap.size w wr) (fun i _ => 2 - (intOf i).toNat)
  case atStart => exact ⟨0, rfl, by omega, HM.out, HBB.out⟩
  case round =>
    obtain ⟨k, rfl, hk, hm, hb⟩ := hrel
    by_cases h2 : k = 2
    · subst h2
      have HB2 := hid hb
      clear hb hm
      go_wp2_with fail
      go_ret
      exact ⟨rfl, HB2.out⟩
    · obtain ⟨p, hp, hck⟩ : ∃ p, NoWin wr p ∧ wr.cell? ⟨l, k, none⟩ = some (.pointer p) := by
        obtain rfl | rfl : k = 0 ∨ k = 1 := by omega
        · exact ⟨none, .inl rfl, hm.l.cell 0 _ rfl⟩
        · exact ⟨pz, hm.z, hm.l.cell 1 _ rfl⟩
      have hk2 : k < 2 := by omega
      have hk3 : (k : Int) < 2 := by omega
      have d0 := hm.s.cell 0 _ rfl
      have d1 := hm.s.cell 1 _ rfl
      have lg := hm.s.lt
      have ll := hm.l.lt
      have HM2 := hid hm
      have HB2 := hid hb
      have HP := hid hp
      have HRd := hid (fun W (hb : Below wr.heap.size wr W) => nRead p s.1 W (hp.next hb))
      clear hm hb hp h2
      go_upto_region 8 with fail
      go_cut [6, 7] from 18 to 83 (fun s6 s7 wc => ∃ n : Nat, s6 = .pointer (some ⟨n, 0, none⟩) ∧ s7 = .int .i64 4 ∧ Box wc n [.int .i64 0, .int .i64 0] ∧ Below wr.heap.size wr wc)
      case first =>
        go_region_with (go_at_call 16; refine Calls.mono (HRd.out _ (by repeat (first | exact Below.refl _ _ | apply Below.drew | apply below_drewQ | (refine Below.alloc ?_ (by simp) _)))) ?_; rintro e w9 ⟨rfl, hb9⟩; (try (have hz := ((Box.new wr [.int .i64 0, .int .i64 0] 49).alike (by rfl)).next hb9; have z0 := hz.cell 0 _ rfl; have z1 := hz.cell 1 _ rfl; have z2 := hz.free 0 (by simp); have z3 : ∀ u, (w9.setCell ⟨wr.heap.size, 0, none⟩ u).frozen? ⟨wr.heap.size, 1, none⟩ = false := (fun u => (World.frozen?_setCell _ _ _ _).trans (hz.free 1 (by simp))); have z4 := hz.lt)); simp only [rv, r0])
        all_goals (go_wp2_with fail; go_meet)
        all_goals first
          | exact ⟨_, rfl, rfl, box_late hb9 _ _ _⟩
          | exact ⟨_, rfl, rfl, box_early hb9 hz _ _⟩
      case rest =>
        obtain ⟨n, rfl, rfl, hn, hbc⟩ := hcut
        obtain ⟨wp, rfl⟩ : ∃ wp : World, wp = wc := ⟨_, rfl⟩
        have e0 := (hbc.cell (p := ⟨g, 0, none⟩) lg).trans d0
        have ek := (hbc.cell (p := ⟨l, k, none⟩) ll).trans hck
        have HN := hid hn
        have HBC := hid hbc
        have HHd := hid (fun W (e : W.heap = wp.heap) => nHeld p s.1 W ((HP.out.next hbc).alike e))
        clear hn hbc
        go_upto_region 9 with fail
        go_cut [8, 9] from 18 to 83 (fun s8 s9 wd => s8 = .slice none 0 0 ∧ s9 = .int .i64 4 ∧ Below wp.heap.size wp wd)
        case first =>
          go_region_with (go_at_call 19; refine Calls.mono (HHd.out _ (by rfl)) ?_; rintro e w9 ⟨rfl, rfl⟩)
          all_goals (go_wp2_with fail; go_meet)
          all_goals exact ⟨rfl, rfl, drewN_below wp 1⟩
        case rest =>
          obtain ⟨rfl, rfl, hbd⟩ := hcut
          have ek2 := (hbd.cell (p := ⟨l, k, none⟩) (Nat.lt_of_lt_of_le ll HBC.out.size)).trans ek
          have lc := Nat.lt_of_lt_of_le (Nat.lt_of_lt_of_le ll HBC.out.size) hbd.size
          have hpc := (HP.out.next HBC.out).next hbd
          have HPC := hid hpc
          have HBD := hid hbd
          clear hbd hpc
          go_wp2_with fail
          refine Calls.mono (nClock p wc HPC.out) ?_
          rintro e we ⟨rfl, hbe⟩
          have hall := (HBC.out.trans (HBD.out.mono HBC.out.size)).trans (hbe.mono (Nat.le_trans HBC.out.size HBD.out.size))
          have hne := (HN.out.next HBD.out).next hbe
          have n0 := hne.cell 0 _ rfl
          have n1 := hne.cell 1 _ rfl
          have nl := hne.lt
          have f0 := (hall.cell (p := ⟨g, 0, none⟩) lg).trans d0
          have f1 := (hall.cell (p := ⟨g, 1, none⟩) lg).trans d1
          have fk := (hall.cell (p := ⟨l, k, none⟩) ll).trans hck
          have HPt := hid (fun W (e : W.heap = we.heap) => nPut p s W ((HP.out.next hall).alike e))
          have HAL := hid hall
          have HNE := hid hne
          clear hall hne hbe e0 ek ek2 d0 d1 hck
          go_wp2_with fail
          have lge := Nat.lt_of_lt_of_le lg HAL.out.size
          have lle := Nat.lt_of_lt_of_le ll HAL.out.size
          go_region_held3 (fun w' => w'.cell? ⟨l, k, none⟩ = some (.pointer p) ∧ w'.cell? ⟨g, 0, none⟩ = some (.int .i64 s.1) ∧ w'.cell? ⟨g, 1, none⟩ = some (.int .i64 s.2) ∧ w'.cell? ⟨n, 0, none⟩ = some (.int .i64 0) ∧ w'.cell? ⟨n, 1, none⟩ = some (.int .i64 0)) (simp [go_sem, *]) ((go_at_call 14; refine Calls.mono (HPt.out _ (by rfl)) ?_; rintro e w9 ⟨rfl, h9⟩; have m0 := (h9.cell (p := ⟨n, 0, none⟩) nl).trans n0; have m1 := (h9.cell (p := ⟨n, 1, none⟩) nl).trans n1; have m2 := (h9.cell (p := ⟨g, 0, none⟩) lge).trans f0; have m3 := (h9.cell (p := ⟨g, 1, none⟩) lge).trans f1; have m4 := (h9.cell (p := ⟨l, k, none⟩) lle).trans fk; have H9 := hid h9; clear h9))
          all_goals go_wp2_with fail
          all_goals (
            have hx : Below we.heap.size we w9 := (drewN_below we 1).trans H9.out
            have ha : Below wr.heap.size wr w9 := HAL.out.trans (hx.mono HAL.out.size)
            exact ⟨⟨k + 1, by simp, by omega, HM2.out.next ha, HB2.out.trans (ha.mono HB2.out.size)⟩, by simp [intOf]; omega⟩)
theorem windowNil_walk (s : Pr) (w : World) (_h0 : In64 s.1) (_h1 : In64 s.2) : Calls Try.prog 7 #[.agg #[.int .i64 s.1, .int .i64 s.2]] w fun e w' => e = .returned (.bool true) ∧ Below w.heap.size w w' := windownil_walk s w
end Go.Proofs.Ytccgbkafcbfcgaa
