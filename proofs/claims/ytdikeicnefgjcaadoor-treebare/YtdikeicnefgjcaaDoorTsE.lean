/- The document's SamePolicy, one item a list. -/
import Derived.Test.YtdikeicnefgjcaaDoorTsD
import Derived.Deep.RegionHeld3
namespace Go.Proofs.YtdikeicnefgjcaaDoor
open Go.RowKit

theorem it_hd {w : World} {g : Nat} {k : Int} {nm : ByteArray} {x y : Tm} {vx vy : Value} {p : Int} (h : Box w g (itL k nm x vx y vy p)) : w.cell? ⟨g, 0, none⟩ = some (.int .i64 k) ∧ w.cell? ⟨g, 1, none⟩ = some (.string nm) ∧ w.cell? ⟨g, 2, none⟩ = some (.string ⟨#[]⟩) ∧ w.cell? ⟨g, 3, none⟩ = some (.int .i64 0) ∧ w.cell? ⟨g, 4, none⟩ = some (.int .i64 0) ∧ w.cell? ⟨g, 5, none⟩ = some (.int .i64 0) ∧ w.cell? ⟨g, 18, none⟩ = some (.int .i64 p) :=
  ⟨h.cell 0 _ rfl, h.cell 1 _ rfl, h.cell 2 _ rfl, h.cell 3 _ rfl, h.cell 4 _ rfl, h.cell 5 _ rfl, h.cell 18 _ rfl⟩
theorem st_last (w : World) (o : Obj) {X Z : Array Value} (t : TypeId) (hs : Z.size = X.size) (h1 : X.all (·.oneCell') = true) : (storeCells ⟨w.heap.size + 1, 0, none⟩ X.toList 0).run Tryd.prog ((w.alloc o).alloc (.cells Z t)).drew = .ok () ((w.alloc o).alloc (.cells X t)).drew := by
  have hg : ((w.alloc o).alloc (.cells Z t)).drew.heap[w.heap.size + 1]? = some (.cells Z t (0, 0)) := by
    have := heap_alloc_last (w.alloc o) (.cells Z t)
    rwa [show (w.alloc o).heap.size = w.heap.size + 1 from by simp] at this
  have := run_storeCells_from (P := Tryd.prog) (w.heap.size + 1) t X.toList 0 Z _ hg (by simp; omega) (fun v hv => (Array.all_eq_true_iff_forall_mem.1 h1) v (by simpa using hv))
  rw [this]
  have e := World.setRow_alloc_new (w.alloc o) Z X t
  rw [show (w.alloc o).heap.size = w.heap.size + 1 from by simp] at e
  simp only [List.take_zero, List.nil_append, Array.toArray_toList]
  show Result.ok () (((w.alloc o).alloc (.cells Z t)).setRow (w.heap.size + 1) X).drew = _
  rw [e]
theorem st_first (w : World) (o : Obj) {X Z : Array Value} (t : TypeId) (hs : Z.size = X.size) (h1 : X.all (·.oneCell') = true) : (storeCells ⟨w.heap.size, 0, none⟩ X.toList 0).run Tryd.prog ((w.alloc (.cells Z t)).alloc o).drew = .ok () ((w.alloc (.cells X t)).alloc o).drew := by
  have hg : ((w.alloc (.cells Z t)).alloc o).drew.heap[w.heap.size]? = some (.cells Z t (0, 0)) := by
    show ((w.heap.push _).push _)[w.heap.size]? = _
    rw [Array.getElem?_push, if_neg (by simp), Array.getElem?_push, if_pos rfl]
  have := run_storeCells_from (P := Tryd.prog) w.heap.size t X.toList 0 Z _ hg (by simp; omega) (fun v hv => (Array.all_eq_true_iff_forall_mem.1 h1) v (by simpa using hv))
  rw [this]
  simp only [List.take_zero, List.nil_append, Array.toArray_toList]
  congr 1
  simp only [World.setRow, World.alloc, World.drew]
  congr 1
  apply Array.ext_getElem?
  intro i
  rw [Array.getElem?_modify]
  by_cases h : w.heap.size = i
  · subst h
    simp [Array.getElem?_push]
  · have h' : ¬ i = w.heap.size := fun e => h e.symm
    simp [h, h', Array.getElem?_push]
set_option maxRecDepth 20000 in
set_option maxHeartbeats 4000000 in
theorem rSamePol_c {z : Nat} (pn : ByteArray) (k : Int) (nm : ByteArray) (x : Tm) (vx : Value) (y : Tm) (vy : Value) (p : Int) (x' : Tm) (vx' : Value) (y' : Tm) (vy' : Value) (p' : Int) (g g' c c' : Nat) (w : World) (hx : Sits z w x vx) (hy : Sits z w y vy) (hx' : Sits z w x' vx') (hy' : Sits z w y' vy')
    (hb : Box w g (itL k nm x vx y vy p)) (hb' : Box w g' (itL k nm x' vx' y' vy' p')) :
    Calls Tryd.prog 22 #[polV pn (.slice (some ⟨g, 0, none⟩) 1 c), polV pn (.slice (some ⟨g', 0, none⟩) 1 c')] w fun e w' => e = .returned (.bool (sameB x x' && sameB y y')) ∧ Below w.heap.size w w' := by
  obtain ⟨ad1, cp1, rfl, -, -⟩ := hx.parts.shape
  obtain ⟨ad2, cp2, rfl, -, -⟩ := hy.parts.shape
  obtain ⟨ad3, cp3, rfl, -, -⟩ := hx'.parts.shape
  obtain ⟨ad4, cp4, rfl, -, -⟩ := hy'.parts.shape
  have HX := hid2 (fun wx (hb : Below w.heap.size w wx) => rSame_all x x' _ _ wx (hx.next hb) (hx'.next hb))
  have HY := hid2 (fun wx (hb : Below w.heap.size w wx) => rSame_all y y' _ _ wx (hy.next hb) (hy'.next hb))
  generalize sameB x x' = q at *
  generalize sameB y y' = q' at *
  obtain ⟨L, hL⟩ : ∃ L, Hid (L = itL k nm x (.slice ad1 x.parts.length cp1) y (.slice ad2 y.parts.length cp2) p) := ⟨_, rfl⟩
  obtain ⟨L', hL'⟩ : ∃ L, Hid (L = itL k nm x' (.slice ad3 x'.parts.length cp3) y' (.slice ad4 y'.parts.length cp4) p') := ⟨_, rfl⟩
  rw [← hL.out] at hb
  rw [← hL'.out] at hb'
  have n1 : Hid (L.length = 19) := by rw [hL.out]; rfl
  have n2 : Hid (L'.length = 19) := by rw [hL'.out]; rfl
  have o1 : Hid (L.toArray.all (·.oneCell') = true) := by rw [hL.out]; show _ = _; kernel_rfl
  have o2 : Hid (L'.toArray.all (·.oneCell') = true) := by rw [hL'.out]; show _ = _; kernel_rfl
  obtain ⟨X, hX⟩ : ∃ X, Hid (X = L.toArray) := ⟨_, rfl⟩
  obtain ⟨X', hX'⟩ : ∃ X, Hid (X = L'.toArray) := ⟨_, rfl⟩
  rw [← hX.out] at o1
  rw [← hX'.out] at o2
  have s1 : X.size = 19 := by rw [hX.out]; simpa using n1.out
  have s2 : X'.size = 19 := by rw [hX'.out]; simpa using n2.out
  obtain ⟨m, hm⟩ : ∃ m : Nat, Hid (m = 19) := ⟨_, rfl⟩
  have zs : ∀ w, (sizeOf 32).run Tryd.prog w = .ok m w := by rw [hm.out]; exact Tryd.sizeOf32
  have zm : (19 = m) = True := eq_true hm.out.symm
  have HB1 := hid2 hb
  have HB2 := hid2 hb'
  obtain ⟨P0, P1, PB⟩ := two_boxes w 30 30 [.string pn, .slice (some ⟨g, 0, none⟩) 1 c] [.string pn, .slice (some ⟨g', 0, none⟩) 1 c']
  have BX := hid2 P0
  have BY := hid2 P1
  have BB := hid2 PB
  clear hx hy hx' hy' hb hb' P0 P1 PB
  unfold polV
  go_enter Tryd.func22, Tryd.ntmps22
  go_wp2_with fail
  go_loopw [5] (fun i wr => ∃ j : Nat, i = .int .i64 (j : Nat) ∧ j ≤ 1 ∧ Hid (j = 1 → (q && q') = true) ∧ Hid (Below w.heap.size w wr) ∧ Hid (Box wr w.heap.size [.string pn, .slice (some ⟨g, 0, none⟩) 1 c]) ∧ Hid (Box wr (w.heap.size + 1) [.string pn, .slice (some ⟨g', 0, none⟩) 1 c'])) (fun i _ => match i with | .int _ q => ((1 : Int) - q).toNat | _ => 0)
  case atStart => exact ⟨0, rfl, by omega, hid2 (fun h => by omega), BB, BX, BY⟩
  case round =>
    clear BB BX BY
    obtain ⟨j, rfl, hj, HJ, HB, BX, BY⟩ := hrel
    have x1 := BX.out.cell 1 _ rfl
    have y1 := BY.out.cell 1 _ rfl
    have lx := BX.out.lt
    have ly := BY.out.lt
    by_cases hlt : j = 1
    · subst hlt
      have rt := HJ.out rfl
      clear HX HY
      go_wp2_with fail
      go_ret
      exact ⟨by simp at rt; simp, HB.out⟩
    · have e0 : j = 0 := by omega
      subst e0
      have lb : g < wr.heap.size := Nat.lt_of_lt_of_le HB1.out.lt HB.out.size
      have lb' : g' < wr.heap.size := Nat.lt_of_lt_of_le HB2.out.lt HB.out.size
      have HLA := hid2 (fun wx (h : Below wr.heap.size wr wx) => ld_box ((HB1.out.next HB.out).next h) hX.out (hm.out.trans n1.out.symm))
      have HLB := hid2 (fun wx (h : Below wr.heap.size wr wx) => ld_box ((HB2.out.next HB.out).next h) hX'.out (hm.out.trans n2.out.symm))
      have stA := fun o => st_first wr o (X := X) (Z := zeroIt) 32 s1.symm o1.out
      have stB := fun o => st_last wr o (X := X') (Z := zeroIt) 32 s2.symm o2.out
      have stC := fun o => st_last wr o (X := X) (Z := zeroIt) 32 s1.symm o1.out
      have stD := fun o => st_first wr o (X := X') (Z := zeroIt) 32 s2.symm o2.out
      unfold zeroIt at stA stB stC stD
      clear HB1 HB2
      go_wp2_with fail
      go_region_held3 (fun w' => w'.cell? ⟨w.heap.size, 1, none⟩ = some (.slice (some ⟨g, 0, none⟩) 1 c) ∧ w'.cell? ⟨w.heap.size + 1, 1, none⟩ = some (.slice (some ⟨g', 0, none⟩) 1 c') ∧ (loadCellsFrom ⟨g, 0, none⟩ 0 m #[]).run Tryd.prog w' = .ok X w' ∧ (loadCellsFrom ⟨g', 0, none⟩ 0 m #[]).run Tryd.prog w' = .ok X' w') (first | exact ⟨by simp [go_sem, *], by simp [go_sem, *], HLA.out _ (below_drewN (Below.refl _ _) _), HLB.out _ (below_drewN (Below.refl _ _) _)⟩ | exact ⟨by simp [go_sem, *], by simp [go_sem, *], HLA.out _ (below_drewN ((Below.refl _ _).alloc (Nat.le_refl _) _) 1), HLB.out _ (below_drewN ((Below.refl _ _).alloc (Nat.le_refl _) _) 1)⟩ | exact ⟨by simp [go_sem, *], by simp [go_sem, *], HLA.out _ (below_drewN (((Below.refl _ _).alloc (Nat.le_refl _) _).alloc (by simp) _) 1), HLB.out _ (below_drewN (((Below.refl _ _).alloc (Nat.le_refl _) _).alloc (by simp) _) 1)⟩ | simp [go_sem, *]) (fail)
      · obtain ⟨X0, X1, HA⟩ := two_boxes wr 32 32 L L'
        rw [← hX.out, ← hX'.out] at X0 X1 HA
        have BI : Hid (Box ((wr.alloc (.cells X 32)).alloc (.cells X' 32)).drew wr.heap.size L) := X0.next (below_drewN (Below.refl _ _) 1)
        have BJ : Hid (Box ((wr.alloc (.cells X 32)).alloc (.cells X' 32)).drew (wr.heap.size + 1) L') := X1.next (below_drewN (Below.refl _ _) 1)
        have BW : Hid (Below wr.heap.size wr ((wr.alloc (.cells X 32)).alloc (.cells X' 32)).drew) := below_drewN HA 1
        have B1 : Hid (Below w.heap.size w ((wr.alloc (.cells X 32)).alloc (.cells X' 32)).drew) := below_on HB.out (below_drewN HA 1) HB.out.size
        rw [hL.out] at BI
        rw [hL'.out] at BJ
        clear X0 X1 HA HLA HLB stA stB stC stD
        generalize ((wr.alloc (.cells X 32)).alloc (.cells X' 32)).drew = w1 at BI BJ BW B1 ⊢
        obtain ⟨a0, a1, a2, a3, a4, a5, a18⟩ := it_hd BI.out
        obtain ⟨c0, c1, c2, c3, c4, c5, c18⟩ := it_hd BJ.out
        obtain ⟨a6, a7, a8, a9, a10, a11⟩ := it_x BI.out
        obtain ⟨c6, c7, c8, c9, c10, c11⟩ := it_x BJ.out
        have HX1 := hid2 (HX.out w1 B1.out)
        clear HX
        go_wp2_with fail
        refine Calls.mono HX1.out ?_
        rintro e w2 ⟨rfl, b2⟩
        have B2 := hid2 (below_on B1.out b2 B1.out.size)
        obtain ⟨a12, a13, a14, a15, a16, a17⟩ := it_y (BI.out.next b2)
        obtain ⟨c12, c13, c14, c15, c16, c17⟩ := it_y (BJ.out.next b2)
        have PX := hid2 ((BX.out.next BW.out).next b2)
        have PY := hid2 ((BY.out.next BW.out).next b2)
        clear b2 a0 a1 a2 a3 a4 a5 a6 a7 a8 a9 a10 a11 a18 c0 c1 c2 c3 c4 c5 c6 c7 c8 c9 c10 c11 c18 HX1 x1 y1
        have HY1 := hid2 (HY.out w2 B2.out)
        clear HY
        cases q
        · go_wp2_with fail
          go_ret
          exact ⟨by simp, B2.out⟩
        · go_wp2_with fail
          refine Calls.mono HY1.out ?_
          rintro e w3 ⟨rfl, b3⟩
          have B3 := hid2 (below_on B2.out b3 B2.out.size)
          have QX := hid2 (PX.out.next b3)
          have QY := hid2 (PY.out.next b3)
          clear b3 a12 a13 a14 a15 a16 a17 c12 c13 c14 c15 c16 c17
          cases q'
          · go_wp2_with fail
            go_ret
            exact ⟨by simp, B3.out⟩
          · go_wp2_with fail
            go_roundw
            case rel => exact ⟨1, by go_num, by omega, hid2 (by simp), B3, QX, QY⟩
            case measure => simp
      · obtain ⟨X0, X1, HA⟩ := two_boxes wr 32 32 L' L
        rw [← hX.out, ← hX'.out] at X0 X1 HA
        have BI : Hid (Box ((wr.alloc (.cells X' 32)).alloc (.cells X 32)).drew (wr.heap.size + 1) L) := X1.next (below_drewN (Below.refl _ _) 1)
        have BJ : Hid (Box ((wr.alloc (.cells X' 32)).alloc (.cells X 32)).drew wr.heap.size L') := X0.next (below_drewN (Below.refl _ _) 1)
        have BW : Hid (Below wr.heap.size wr ((wr.alloc (.cells X' 32)).alloc (.cells X 32)).drew) := below_drewN HA 1
        have B1 : Hid (Below w.heap.size w ((wr.alloc (.cells X' 32)).alloc (.cells X 32)).drew) := below_on HB.out (below_drewN HA 1) HB.out.size
        rw [hL.out] at BI
        rw [hL'.out] at BJ
        clear X0 X1 HA HLA HLB stA stB stC stD
        generalize ((wr.alloc (.cells X' 32)).alloc (.cells X 32)).drew = w1 at BI BJ BW B1 ⊢
        obtain ⟨a0, a1, a2, a3, a4, a5, a18⟩ := it_hd BI.out
        obtain ⟨c0, c1, c2, c3, c4, c5, c18⟩ := it_hd BJ.out
        obtain ⟨a6, a7, a8, a9, a10, a11⟩ := it_x BI.out
        obtain ⟨c6, c7, c8, c9, c10, c11⟩ := it_x BJ.out
        have HX1 := hid2 (HX.out w1 B1.out)
        clear HX
        go_wp2_with fail
        refine Calls.mono HX1.out ?_
        rintro e w2 ⟨rfl, b2⟩
        have B2 := hid2 (below_on B1.out b2 B1.out.size)
        obtain ⟨a12, a13, a14, a15, a16, a17⟩ := it_y (BI.out.next b2)
        obtain ⟨c12, c13, c14, c15, c16, c17⟩ := it_y (BJ.out.next b2)
        have PX := hid2 ((BX.out.next BW.out).next b2)
        have PY := hid2 ((BY.out.next BW.out).next b2)
        clear b2 a0 a1 a2 a3 a4 a5 a6 a7 a8 a9 a10 a11 a18 c0 c1 c2 c3 c4 c5 c6 c7 c8 c9 c10 c11 c18 HX1 x1 y1
        have HY1 := hid2 (HY.out w2 B2.out)
        clear HY
        cases q
        · go_wp2_with fail
          go_ret
          exact ⟨by simp, B2.out⟩
        · go_wp2_with fail
          refine Calls.mono HY1.out ?_
          rintro e w3 ⟨rfl, b3⟩
          have B3 := hid2 (below_on B2.out b3 B2.out.size)
          have QX := hid2 (PX.out.next b3)
          have QY := hid2 (PY.out.next b3)
          clear b3 a12 a13 a14 a15 a16 a17 c12 c13 c14 c15 c16 c17
          cases q'
          · go_wp2_with fail
            go_ret
            exact ⟨by simp, B3.out⟩
          · go_wp2_with fail
            go_roundw
            case rel => exact ⟨1, by go_num, by omega, hid2 (by simp), B3, QX, QY⟩
            case measure => simp
end Go.Proofs.YtdikeicnefgjcaaDoor
