/- One item a list: EqualFunc, SamePolicy. -/
import Derived.Test.YtdikeicnefgjcaaDoorTsC
import Derived.Deep.WholeRow
namespace Go.Proofs.YtdikeicnefgjcaaDoor
open Go.RowKit

/-- A row of cells read whole. -/
theorem ld_box {w : World} {g : Nat} {L : List Value} {X : Array Value} (h : Box w g L) (hX : X = L.toArray) {n : Nat} (hn : n = L.length) : (loadCellsFrom ⟨g, 0, none⟩ 0 n #[]).run Tryd.prog w = .ok X w := by
  subst hn hX
  have := run_loadCells_list (P := Tryd.prog) w ⟨g, 0, none⟩ L (fun j v hv => by
    have hadd : (⟨g, 0, none⟩ : Addr).add j = ⟨g, j, none⟩ := by unfold Addr.add; split <;> simp_all
    rw [hadd]
    exact h.cell j v hv)
  simpa [loadCells] using this
theorem itL_arr (k : Int) (nm : ByteArray) (x : Tm) (vx : Value) (y : Tm) (vy : Value) (p : Int) : itV k nm x vx y vy p = .agg (itL k nm x vx y vy p).toArray := rfl
def zeroIt : Array Value := #[.int .i64 0, .string ⟨#[]⟩, .string ⟨#[]⟩, .int .i64 0, .int .i64 0, .int .i64 0, .int .i64 0, .string ⟨#[]⟩, .int .i64 0, .int .i64 0, .int .i64 0, .slice none 0 0, .int .i64 0, .string ⟨#[]⟩, .int .i64 0, .int .i64 0, .int .i64 0, .slice none 0 0, .int .i64 0]
theorem info_item : (Tryd.prog.info? 32).map (fun i => (i.zero, i.size)) = some (some (.agg zeroIt), 19) := by kernel_rfl
theorem st_item (w : World) {X : Array Value} (hs : X.size = 19) (h1 : X.all (·.oneCell') = true) : (storeCells ⟨w.heap.size, 0, none⟩ X.toList 0).run Tryd.prog (w.alloc (.cells zeroIt 32)) = .ok () (w.alloc (.cells X 32)) :=
  run_storeCells_new (P := Tryd.prog) w 32 zeroIt X (by rw [hs]; exact (zero_of_info info_item).2) (by rw [hs]; rfl) h1
abbrev itemF : Value := .func (.func 48) #[] #[]
set_option maxRecDepth 20000 in
set_option maxHeartbeats 4000000 in
theorem equalItems {z : Nat} (k : Int) (nm : ByteArray) (x : Tm) (vx : Value) (y : Tm) (vy : Value) (p : Int) (x' : Tm) (vx' : Value) (y' : Tm) (vy' : Value) (p' : Int) (g g' c c' : Nat) (w : World) (hx : Sits z w x vx) (hy : Sits z w y vy) (hx' : Sits z w x' vx') (hy' : Sits z w y' vy')
    (hb : Box w g (itL k nm x vx y vy p)) (hb' : Box w g' (itL k nm x' vx' y' vy' p')) :
    Calls Tryd.prog 47 #[.slice (some ⟨g, 0, none⟩) 1 c, .slice (some ⟨g', 0, none⟩) 1 c', itemF] w fun e w' => e = .returned (.bool (sameB x x' && sameB y y')) ∧ Below w.heap.size w w' := by
  have HC := hid2 (fun wx (hb : Below w.heap.size w wx) => sameItem_c k nm x vx y vy p x' vx' y' vy' p' wx (hx.next hb) (hy.next hb) (hx'.next hb) (hy'.next hb))
  obtain ⟨r, hr⟩ : ∃ r : Bool, Hid (r = (sameB x x' && sameB y y')) := ⟨_, rfl⟩
  rw [← hr.out] at HC ⊢
  obtain ⟨ad1, cp1, rfl, -, -⟩ := hx.parts.shape
  obtain ⟨ad2, cp2, rfl, -, -⟩ := hy.parts.shape
  obtain ⟨ad3, cp3, rfl, -, -⟩ := hx'.parts.shape
  obtain ⟨ad4, cp4, rfl, -, -⟩ := hy'.parts.shape
  obtain ⟨L, hL⟩ : ∃ L, Hid (L = itL k nm x (.slice ad1 x.parts.length cp1) y (.slice ad2 y.parts.length cp2) p) := ⟨_, rfl⟩
  obtain ⟨L', hL'⟩ : ∃ L, Hid (L = itL k nm x' (.slice ad3 x'.parts.length cp3) y' (.slice ad4 y'.parts.length cp4) p') := ⟨_, rfl⟩
  simp only [itL_arr] at HC
  rw [← hL.out] at hb HC
  rw [← hL'.out] at hb' HC
  have n1 : Hid (L.length = 19) := by rw [hL.out]; rfl
  have n2 : Hid (L'.length = 19) := by rw [hL'.out]; rfl
  have o1 : Hid (L.toArray.all (·.oneCell') = true) := by rw [hL.out]; show _ = _; kernel_rfl
  have o2 : Hid (L'.toArray.all (·.oneCell') = true) := by rw [hL'.out]; show _ = _; kernel_rfl
  obtain ⟨X, hX⟩ : ∃ X, Hid (X = L.toArray) := ⟨_, rfl⟩
  obtain ⟨X', hX'⟩ : ∃ X, Hid (X = L'.toArray) := ⟨_, rfl⟩
  rw [← hX.out] at HC o1
  rw [← hX'.out] at HC o2
  have s1 : X.size = 19 := by rw [hX.out]; simpa using n1.out
  have s2 : X'.size = 19 := by rw [hX'.out]; simpa using n2.out
  obtain ⟨m, hm⟩ : ∃ m : Nat, Hid (m = 19) := ⟨_, rfl⟩
  have zs : ∀ w, (sizeOf 32).run Tryd.prog w = .ok m w := by rw [hm.out]; exact Tryd.sizeOf32
  have zm : (19 = m) = True := eq_true hm.out.symm
  have HB1 := hid2 hb
  have HB2 := hid2 hb'
  clear hr hx hy hx' hy' hb hb' hL hL'
  go_enter Tryd.func47, Tryd.ntmps47
  go_wp2_with fail
  go_loopw [17] (fun i wr => ∃ j : Nat, i = .int .i64 (j : Nat) ∧ j ≤ 1 ∧ Hid (j = 1 → r = true) ∧ Hid (Below w.heap.size w wr)) (fun i _ => match i with | .int _ q => ((1 : Int) - q).toNat | _ => 0)
  case atStart => exact ⟨0, rfl, by omega, hid2 (fun h => by omega), Below.refl _ _⟩
  case round =>
    obtain ⟨j, rfl, hj, HJ, HB⟩ := hrel
    by_cases hlt : j = 1
    · subst hlt
      have rt : r = true := HJ.out rfl
      subst rt
      clear HC
      go_wp2_with fail
      go_ret
      exact ⟨rfl, HB.out⟩
    · have e0 : j = 0 := by omega
      subst e0
      have lb : g < wr.heap.size := Nat.lt_of_lt_of_le HB1.out.lt HB.out.size
      have lb' : g' < wr.heap.size := Nat.lt_of_lt_of_le HB2.out.lt HB.out.size
      have ldA := ld_box (HB1.out.next HB.out) hX.out (hm.out.trans n1.out.symm)
      have ldB := ld_box ((HB2.out.next HB.out).next ((Below.refl _ _).alloc (Nat.le_refl _) (.cells X 32))) hX'.out (hm.out.trans n2.out.symm)
      have stA := st_item wr s1 o1.out
      have stB := st_item (wr.alloc (.cells X 32)) s2 o2.out
      obtain ⟨X0, X1, -⟩ := two_boxes wr 32 32 L L'
      rw [← hX.out, ← hX'.out] at X0 X1
      have ldC := ld_box X0 hX.out (hm.out.trans n1.out.symm)
      have ldD := ld_box X1 hX'.out (hm.out.trans n2.out.symm)
      rw [show (wr.alloc (.cells X 32)).heap.size = wr.heap.size + 1 from by simp] at stB
      clear X0 X1
      unfold zeroIt at stA stB
      have HA : Hid (∀ o o', Below w.heap.size w ((wr.alloc o).alloc o')) := fun o o' => (HB.out.alloc HB.out.size _).alloc (by simp; have := HB.out.size; omega) _
      clear HB1 HB2
      go_wp2_with fail
      refine Calls.mono (HC.out _ (HA.out _ _)) ?_
      rintro e w1 ⟨rfl, b1⟩
      have B1 := hid2 (below_on (HA.out _ _) b1 (by simp; have := HB.out.size; omega))
      clear HC HA b1 ldA ldB ldC ldD stA stB
      cases r
      · go_wp2_with fail
        go_ret
        exact ⟨rfl, B1.out⟩
      · go_wp2_with fail
        go_roundw
        case rel => exact ⟨1, by go_num, by omega, hid2 (by simp), B1⟩
        case measure => simp
theorem equalItems_none (g c : Nat) (w : World) :
    Calls Tryd.prog 47 #[.slice (some ⟨g, 0, none⟩) 1 c, .slice none 0 0, itemF] w fun e w' => e = .returned (.bool false) ∧ Below w.heap.size w w' := by
  go_enter Tryd.func47, Tryd.ntmps47
  go_wp2_with fail
  go_ret
  exact ⟨rfl, Below.refl _ _⟩
def polV (nm : ByteArray) (v : Value) : Value := .agg #[.string nm, v]
theorem samePol_c (nm : ByteArray) (ad ad' : Option Addr) (n c n' c' : Nat) (r : Bool) (w : World)
    (h : ∀ wx, Below w.heap.size w wx → Calls Tryd.prog 47 #[.slice ad n c, .slice ad' n' c', itemF] wx fun e w' => e = .returned (.bool r) ∧ Below wx.heap.size wx w') :
    Calls Tryd.prog 21 #[polV nm (.slice ad n c), polV nm (.slice ad' n' c')] w fun e w' => e = .returned (.bool r) ∧ Below w.heap.size w w' := by
  have A : ∀ o o', Below w.heap.size w ((w.alloc o).alloc o') := fun o o' => ((Below.refl _ _).alloc (Nat.le_refl _) _).alloc (by simp) _
  have HA := hid2 A
  have HE := hid2 (fun o o' => h _ (A o o'))
  clear A h
  unfold polV
  go_enter Tryd.func21, Tryd.ntmps21
  go_wp2_with fail
  refine Calls.mono (HE.out _ _) ?_
  rintro e w1 ⟨rfl, b1⟩
  have B1 := hid2 (below_on (HA.out _ _) b1 (by simp; omega))
  clear b1 HE HA
  go_wp2_with fail
  go_ret
  exact ⟨rfl, B1.out⟩
end Go.Proofs.YtdikeicnefgjcaaDoor
