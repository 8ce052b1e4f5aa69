/- Package tree: formedItem, by kind. -/
import Derived.Test.YtdikeicnefgjcaaDoorTqC
namespace Go.Proofs.YtdikeicnefgjcaaDoor
open Go.RowKit

theorem sits_nilM {z : Nat} (w : World) : Sits z w nilM (.slice none 0 0) :=
  sits_iff.2 ⟨⟨(⟨by decide, by decide⟩ : In64 0), (⟨by decide, by decide⟩ : In64 0), (⟨by decide, by decide⟩ : In64 0), (⟨by decide, by decide⟩ : In64 0), Nat.zero_le _⟩, none, 0, rfl, Nat.le_refl _, by decide, .inl rfl⟩
set_option maxRecDepth 20000 in
set_option maxHeartbeats 4000000 in
theorem fItem_a {z : Nat} (hz : z ≤ 562949953421312) (i : It) (hk : i.kind = 1) (vx vy : Value) (w : World) (h : ItAt z w i vx vy) (hTabs : TabsAt w) : Calls Tryd.prog 43 #[itA i vx vy] w fun e w' => e = .returned (.bool (itemB i)) ∧ Below w.heap.size w w' := by
  obtain ⟨q1, hq1⟩ : ∃ q : Bool, Hid (q = isN i.name) := ⟨_, rfl⟩
  have HN : Hid (∀ wx, Calls Tryd.prog 39 #[.string i.name] wx fun e w' => e = .returned (.bool (isN i.name)) ∧ Below wx.heap.size wx w') := fun wx => isName_c i.name (Nat.le_trans h.nm hz) wx
  rw [← hq1.out] at HN
  obtain ⟨q2, hq2⟩ : ∃ q : Bool, Hid (q = txt brk i.unit) := ⟨_, rfl⟩
  have HT : Hid (∀ wx, Below w.heap.size w wx → Calls Tryd.prog 70 #[.string ⟨#[91, 93, 34, 10]⟩, .string i.unit] wx fun e w' => e = .returned (.bool (txt brk i.unit)) ∧ Below wx.heap.size wx w') := fun wx hb => textWithout_c i.unit brk brk_ok (by decide) (by decide) (Nat.le_trans h.un hz) wx (hTabs.next hb)
  rw [← hq2.out] at HT
  obtain ⟨rr, hrr⟩ : ∃ q : Bool, Hid (q = restB (⟨i.kind, noB, noB, i.a, i.b, i.c, i.x, i.y, i.pl⟩ : It).name (⟨i.kind, noB, noB, i.a, i.b, i.c, i.x, i.y, i.pl⟩ : It).unit (⟨i.kind, noB, noB, i.a, i.b, i.c, i.x, i.y, i.pl⟩ : It).a (⟨i.kind, noB, noB, i.a, i.b, i.c, i.x, i.y, i.pl⟩ : It).b (⟨i.kind, noB, noB, i.a, i.b, i.c, i.x, i.y, i.pl⟩ : It).c (⟨i.kind, noB, noB, i.a, i.b, i.c, i.x, i.y, i.pl⟩ : It).x (⟨i.kind, noB, noB, i.a, i.b, i.c, i.x, i.y, i.pl⟩ : It).y) := ⟨_, rfl⟩
  have HI : itemB i = ((q1 && q2) && rr) := by
    unfold itemB
    rw [hk, hrr.out, hq1.out, hq2.out]
    rfl
  rw [HI]
  have h2 := h
  obtain ⟨a1, c1, rfl, -, -⟩ := h.sx.parts.shape
  obtain ⟨a2, c2, rfl, -, -⟩ := h.sy.parts.shape
  have ho := itC_one h
  obtain ⟨X0, XB⟩ := one_box w 32 [.int .i64 i.kind, .string i.name, .string i.unit, .int .i64 i.a, .int .i64 i.b, .int .i64 i.c, .int .i64 i.x.kind, .string i.x.text, .int .i64 i.x.n, .int .i64 i.x.m, .int .i64 i.x.pl, .slice a1 i.x.parts.length c1, .int .i64 i.y.kind, .string i.y.text, .int .i64 i.y.n, .int .i64 i.y.m, .int .i64 i.y.pl, .slice a2 i.y.parts.length c2, .int .i64 i.pl]
  have BX := hid2 X0
  have BB := hid2 XB
  have BS : Hid ((w.alloc (.cells [.int .i64 i.kind, .string i.name, .string i.unit, .int .i64 i.a, .int .i64 i.b, .int .i64 i.c, .int .i64 i.x.kind, .string i.x.text, .int .i64 i.x.n, .int .i64 i.x.m, .int .i64 i.x.pl, .slice a1 i.x.parts.length c1, .int .i64 i.y.kind, .string i.y.text, .int .i64 i.y.n, .int .i64 i.y.m, .int .i64 i.y.pl, .slice a2 i.y.parts.length c2, .int .i64 i.pl].toArray 32)).heap.size = w.heap.size + 1) := by show _ = _; simp
  obtain ⟨X, hX⟩ : ∃ X : Array Value, Hid (X = [.int .i64 i.kind, .string i.name, .string i.unit, .int .i64 i.a, .int .i64 i.b, .int .i64 i.c, .int .i64 i.x.kind, .string i.x.text, .int .i64 i.x.n, .int .i64 i.x.m, .int .i64 i.x.pl, .slice a1 i.x.parts.length c1, .int .i64 i.y.kind, .string i.y.text, .int .i64 i.y.n, .int .i64 i.y.m, .int .i64 i.y.pl, .slice a2 i.y.parts.length c2, .int .i64 i.pl].toArray) := ⟨_, rfl⟩
  have o1 : Hid (X.all (·.oneCell') = true) := by rw [hX.out]; exact ho
  have s1 : X.size = 19 := by rw [hX.out]; rfl
  obtain ⟨m, hm⟩ : ∃ m : Nat, Hid (m = 19) := ⟨_, rfl⟩
  have zs : ∀ w, (sizeOf 32).run Tryd.prog w = .ok m w := by rw [hm.out]; exact Tryd.sizeOf32
  have zm : (19 = m) = True := eq_true hm.out.symm
  have HK := hid2 hk
  clear h ho X0 XB HI hTabs hk hq1 hq2
  go_enter Tryd.func43, Tryd.ntmps43
  go_wp2_with fail
  generalize hw1 : w.alloc _ = w1 at BX BB BS ⊢
  clear hw1
  have HL := hid2 (fun wx (hb : Below w1.heap.size w1 wx) => ld_bx (BX.out.next hb) hX.out (hm.out.trans (show 19 = _ from rfl)))
  have stA := st_itd w1 s1 o1.out
  unfold zeroI at stA
  rw [BS.out] at stA
  have e1 : w1.heap.size = w.heap.size + 1 := BS.out
  go_region_held3 (fun w' => (loadCellsFrom ⟨w.heap.size, 0, none⟩ 0 m #[]).run Tryd.prog w' = .ok X w') (first | exact HL.out _ (below_drewN (Below.refl _ _) _) | exact HL.out _ (below_drewN ((Below.refl _ _).alloc (Nat.le_refl _) _) 1) | exact HL.out _ ((Below.refl _ _).alloc (Nat.le_refl _) _)) (fail)
  have P : Hid (Box (w1.alloc (.cells X 32)).drew w.heap.size [.int .i64 i.kind, .string i.name, .string i.unit, .int .i64 i.a, .int .i64 i.b, .int .i64 i.c, .int .i64 i.x.kind, .string i.x.text, .int .i64 i.x.n, .int .i64 i.x.m, .int .i64 i.x.pl, .slice a1 i.x.parts.length c1, .int .i64 i.y.kind, .string i.y.text, .int .i64 i.y.n, .int .i64 i.y.m, .int .i64 i.y.pl, .slice a2 i.y.parts.length c2, .int .i64 i.pl]) := (BX.out.next ((Below.refl _ _).alloc (Nat.le_refl _) _)).next (below_drewN (Below.refl _ _) 1)
  have R0 := (Box.new w1 [.int .i64 i.kind, .string i.name, .string i.unit, .int .i64 i.a, .int .i64 i.b, .int .i64 i.c, .int .i64 i.x.kind, .string i.x.text, .int .i64 i.x.n, .int .i64 i.x.m, .int .i64 i.x.pl, .slice a1 i.x.parts.length c1, .int .i64 i.y.kind, .string i.y.text, .int .i64 i.y.n, .int .i64 i.y.m, .int .i64 i.y.pl, .slice a2 i.y.parts.length c2, .int .i64 i.pl] 32).next (below_drewN (Below.refl _ _) 1)
  rw [e1] at R0
  have R : Hid (Box (w1.alloc (.cells X 32)).drew (w.heap.size + 1) [.int .i64 i.kind, .string i.name, .string i.unit, .int .i64 i.a, .int .i64 i.b, .int .i64 i.c, .int .i64 i.x.kind, .string i.x.text, .int .i64 i.x.n, .int .i64 i.x.m, .int .i64 i.x.pl, .slice a1 i.x.parts.length c1, .int .i64 i.y.kind, .string i.y.text, .int .i64 i.y.n, .int .i64 i.y.m, .int .i64 i.y.pl, .slice a2 i.y.parts.length c2, .int .i64 i.pl]) := by rw [hX.out]; exact R0
  have B : Hid (Below w.heap.size w (w1.alloc (.cells X 32)).drew) := below_drewN (BB.out.alloc BB.out.size _) 1
  clear R0 BX BB BS HL stA e1 s1 o1 hX
  generalize (w1.alloc (.cells X 32)).drew = w2 at P R B ⊢
  have hk := HK.out
  have k0 := P.out.cell 0 _ rfl
  have k1 := P.out.cell 1 _ rfl
  have lp := P.out.lt
  go_wp2_with fail
  refine Calls.mono (HN.out _) ?_
  rintro e w2n ⟨rfl, b⟩
  replace B := hid2 (below_on B.out b B.out.size)
  replace P := hid2 (P.out.next b)
  replace R := hid2 (R.out.next b)
  clear b lp k1
  cases q1
  · have r1 := R.out.cell 1 _ rfl
    have f1 := R.out.free 1 (by simp)
    have r2 := R.out.cell 2 _ rfl
    have f2 := R.out.free 2 (by simp)
    have BW := hid2 ((B.out.setCell (p := ⟨w.heap.size + 1, 1, none⟩) (Nat.le_succ _) (.string ⟨#[]⟩)).setCell (p := ⟨w.heap.size + 1, 2, none⟩) (Nat.le_succ _) (.string ⟨#[]⟩))
    have lr := R.out.lt
    clear P R B h2 hrr
    go_wp2_with fail
    go_ret
    exact ⟨by simp, BW.out⟩
  · have k2 := P.out.cell 2 _ rfl
    have lp := P.out.lt
    go_wp2_with fail
    refine Calls.mono (HT.out _ B.out) ?_
    rintro e w2nn ⟨rfl, b⟩
    replace B := hid2 (below_on B.out b B.out.size)
    replace P := hid2 (P.out.next b)
    replace R := hid2 (R.out.next b)
    clear b lp k2
    cases q2
    · have r1 := R.out.cell 1 _ rfl
      have f1 := R.out.free 1 (by simp)
      have r2 := R.out.cell 2 _ rfl
      have f2 := R.out.free 2 (by simp)
      have BW := hid2 ((B.out.setCell (p := ⟨w.heap.size + 1, 1, none⟩) (Nat.le_succ _) (.string ⟨#[]⟩)).setCell (p := ⟨w.heap.size + 1, 2, none⟩) (Nat.le_succ _) (.string ⟨#[]⟩))
      have lr := R.out.lt
      clear P R B h2 hrr
      go_wp2_with fail
      go_ret
      exact ⟨by simp, BW.out⟩
    · have r1 := R.out.cell 1 _ rfl
      have f1 := R.out.free 1 (by simp)
      have r2 := R.out.cell 2 _ rfl
      have f2 := R.out.free 2 (by simp)
      have BW := ((B.out.setCell (p := ⟨w.heap.size + 1, 1, none⟩) (Nat.le_succ _) (.string ⟨#[]⟩)).setCell (p := ⟨w.heap.size + 1, 2, none⟩) (Nat.le_succ _) (.string ⟨#[]⟩))
      have RW : Box ((w2nn.setCell ⟨w.heap.size + 1, 1, none⟩ (.string ⟨#[]⟩)).setCell ⟨w.heap.size + 1, 2, none⟩ (.string ⟨#[]⟩)) (w.heap.size + 1) (itC (⟨i.kind, noB, noB, i.a, i.b, i.c, i.x, i.y, i.pl⟩ : It) (.slice a1 i.x.parts.length c1) (.slice a2 i.y.parts.length c2)) := ((R.out.set 1 (by simp) (.string ⟨#[]⟩)).set 2 (by simp) (.string ⟨#[]⟩))
      have hit : ItAt z ((w2nn.setCell ⟨w.heap.size + 1, 1, none⟩ (.string ⟨#[]⟩)).setCell ⟨w.heap.size + 1, 2, none⟩ (.string ⟨#[]⟩)) (⟨i.kind, noB, noB, i.a, i.b, i.c, i.x, i.y, i.pl⟩ : It) (.slice a1 i.x.parts.length c1) (.slice a2 i.y.parts.length c2) := (⟨h2.sx.next BW, h2.sy.next BW, Nat.zero_le _, Nat.zero_le _⟩ : ItAt z _ (⟨i.kind, noB, noB, i.a, i.b, i.c, i.x, i.y, i.pl⟩ : It) _ _)
      obtain ⟨X2, hX2⟩ : ∃ X : Array Value, Hid (X = (itC (⟨i.kind, noB, noB, i.a, i.b, i.c, i.x, i.y, i.pl⟩ : It) (.slice a1 i.x.parts.length c1) (.slice a2 i.y.parts.length c2)).toArray) := ⟨_, rfl⟩
      have ldB := ld_bx RW hX2.out (hm.out.trans (show 19 = _ from rfl))
      have HZ : Hid (Calls Tryd.prog 72 #[.agg X2] ((w2nn.setCell ⟨w.heap.size + 1, 1, none⟩ (.string ⟨#[]⟩)).setCell ⟨w.heap.size + 1, 2, none⟩ (.string ⟨#[]⟩)) fun e w' => e = .returned (.bool rr) ∧ Hid (Below w.heap.size w w')) := by
        rw [hX2.out, hrr.out]
        exact (zeroItem_c (⟨i.kind, noB, noB, i.a, i.b, i.c, i.x, i.y, i.pl⟩ : It) (.slice a1 i.x.parts.length c1) (.slice a2 i.y.parts.length c2) _ hit).mono fun e w' hh => ⟨hh.1, below_on BW hh.2 BW.size⟩
      have hs2 : X2.size = 19 := by rw [hX2.out]; rfl
      have lr := R.out.lt
      clear RW hit BW h2 hrr hX2 P R B
      go_wp2_with fail
      refine Calls.mono HZ.out ?_
      rintro e w9 ⟨rfl, B9⟩
      go_wp2_with fail
      go_ret
      exact ⟨by simp, B9.out⟩

set_option maxRecDepth 20000 in
set_option maxHeartbeats 4000000 in
theorem fItem_b {z : Nat} (_hz : z ≤ 562949953421312) (i : It) (hk : i.kind = 2) (vx vy : Value) (w : World) (h : ItAt z w i vx vy) (_hTabs : TabsAt w) : Calls Tryd.prog 43 #[itA i vx vy] w fun e w' => e = .returned (.bool (itemB i)) ∧ Below w.heap.size w w' := by
  obtain ⟨rr, hrr⟩ : ∃ q : Bool, Hid (q = restB (⟨i.kind, i.name, i.unit, 0, 0, 0, i.x, i.y, i.pl⟩ : It).name (⟨i.kind, i.name, i.unit, 0, 0, 0, i.x, i.y, i.pl⟩ : It).unit (⟨i.kind, i.name, i.unit, 0, 0, 0, i.x, i.y, i.pl⟩ : It).a (⟨i.kind, i.name, i.unit, 0, 0, 0, i.x, i.y, i.pl⟩ : It).b (⟨i.kind, i.name, i.unit, 0, 0, 0, i.x, i.y, i.pl⟩ : It).c (⟨i.kind, i.name, i.unit, 0, 0, 0, i.x, i.y, i.pl⟩ : It).x (⟨i.kind, i.name, i.unit, 0, 0, 0, i.x, i.y, i.pl⟩ : It).y) := ⟨_, rfl⟩
  obtain ⟨qb, hqb⟩ : ∃ q : Bool, Hid (q = (decide (0 ≤ i.a) && (decide (0 ≤ i.b) && decide (0 ≤ i.c)))) := ⟨_, rfl⟩
  have HI : itemB i = (qb && rr) := by
    unfold itemB
    rw [hk, hrr.out, hqb.out]
    rfl
  rw [HI]
  have h2 := h
  obtain ⟨a1, c1, rfl, -, -⟩ := h.sx.parts.shape
  obtain ⟨a2, c2, rfl, -, -⟩ := h.sy.parts.shape
  have ho := itC_one h
  obtain ⟨X0, XB⟩ := one_box w 32 [.int .i64 i.kind, .string i.name, .string i.unit, .int .i64 i.a, .int .i64 i.b, .int .i64 i.c, .int .i64 i.x.kind, .string i.x.text, .int .i64 i.x.n, .int .i64 i.x.m, .int .i64 i.x.pl, .slice a1 i.x.parts.length c1, .int .i64 i.y.kind, .string i.y.text, .int .i64 i.y.n, .int .i64 i.y.m, .int .i64 i.y.pl, .slice a2 i.y.parts.length c2, .int .i64 i.pl]
  have BX := hid2 X0
  have BB := hid2 XB
  have BS : Hid ((w.alloc (.cells [.int .i64 i.kind, .string i.name, .string i.unit, .int .i64 i.a, .int .i64 i.b, .int .i64 i.c, .int .i64 i.x.kind, .string i.x.text, .int .i64 i.x.n, .int .i64 i.x.m, .int .i64 i.x.pl, .slice a1 i.x.parts.length c1, .int .i64 i.y.kind, .string i.y.text, .int .i64 i.y.n, .int .i64 i.y.m, .int .i64 i.y.pl, .slice a2 i.y.parts.length c2, .int .i64 i.pl].toArray 32)).heap.size = w.heap.size + 1) := by show _ = _; simp
  obtain ⟨X, hX⟩ : ∃ X : Array Value, Hid (X = [.int .i64 i.kind, .string i.name, .string i.unit, .int .i64 i.a, .int .i64 i.b, .int .i64 i.c, .int .i64 i.x.kind, .string i.x.text, .int .i64 i.x.n, .int .i64 i.x.m, .int .i64 i.x.pl, .slice a1 i.x.parts.length c1, .int .i64 i.y.kind, .string i.y.text, .int .i64 i.y.n, .int .i64 i.y.m, .int .i64 i.y.pl, .slice a2 i.y.parts.length c2, .int .i64 i.pl].toArray) := ⟨_, rfl⟩
  have o1 : Hid (X.all (·.oneCell') = true) := by rw [hX.out]; exact ho
  have s1 : X.size = 19 := by rw [hX.out]; rfl
  obtain ⟨m, hm⟩ : ∃ m : Nat, Hid (m = 19) := ⟨_, rfl⟩
  have zs : ∀ w, (sizeOf 32).run Tryd.prog w = .ok m w := by rw [hm.out]; exact Tryd.sizeOf32
  have zm : (19 = m) = True := eq_true hm.out.symm
  have HK := hid2 hk
  clear h ho X0 XB HI hk
  go_enter Tryd.func43, Tryd.ntmps43
  go_wp2_with fail
  generalize hw1 : w.alloc _ = w1 at BX BB BS ⊢
  clear hw1
  have HL := hid2 (fun wx (hb : Below w1.heap.size w1 wx) => ld_bx (BX.out.next hb) hX.out (hm.out.trans (show 19 = _ from rfl)))
  have stA := st_itd w1 s1 o1.out
  unfold zeroI at stA
  rw [BS.out] at stA
  have e1 : w1.heap.size = w.heap.size + 1 := BS.out
  go_region_held3 (fun w' => (loadCellsFrom ⟨w.heap.size, 0, none⟩ 0 m #[]).run Tryd.prog w' = .ok X w') (first | exact HL.out _ (below_drewN (Below.refl _ _) _) | exact HL.out _ (below_drewN ((Below.refl _ _).alloc (Nat.le_refl _) _) 1) | exact HL.out _ ((Below.refl _ _).alloc (Nat.le_refl _) _)) (fail)
  have P : Hid (Box (w1.alloc (.cells X 32)).drew w.heap.size [.int .i64 i.kind, .string i.name, .string i.unit, .int .i64 i.a, .int .i64 i.b, .int .i64 i.c, .int .i64 i.x.kind, .string i.x.text, .int .i64 i.x.n, .int .i64 i.x.m, .int .i64 i.x.pl, .slice a1 i.x.parts.length c1, .int .i64 i.y.kind, .string i.y.text, .int .i64 i.y.n, .int .i64 i.y.m, .int .i64 i.y.pl, .slice a2 i.y.parts.length c2, .int .i64 i.pl]) := (BX.out.next ((Below.refl _ _).alloc (Nat.le_refl _) _)).next (below_drewN (Below.refl _ _) 1)
  have R0 := (Box.new w1 [.int .i64 i.kind, .string i.name, .string i.unit, .int .i64 i.a, .int .i64 i.b, .int .i64 i.c, .int .i64 i.x.kind, .string i.x.text, .int .i64 i.x.n, .int .i64 i.x.m, .int .i64 i.x.pl, .slice a1 i.x.parts.length c1, .int .i64 i.y.kind, .string i.y.text, .int .i64 i.y.n, .int .i64 i.y.m, .int .i64 i.y.pl, .slice a2 i.y.parts.length c2, .int .i64 i.pl] 32).next (below_drewN (Below.refl _ _) 1)
  rw [e1] at R0
  have R : Hid (Box (w1.alloc (.cells X 32)).drew (w.heap.size + 1) [.int .i64 i.kind, .string i.name, .string i.unit, .int .i64 i.a, .int .i64 i.b, .int .i64 i.c, .int .i64 i.x.kind, .string i.x.text, .int .i64 i.x.n, .int .i64 i.x.m, .int .i64 i.x.pl, .slice a1 i.x.parts.length c1, .int .i64 i.y.kind, .string i.y.text, .int .i64 i.y.n, .int .i64 i.y.m, .int .i64 i.y.pl, .slice a2 i.y.parts.length c2, .int .i64 i.pl]) := by rw [hX.out]; exact R0
  have B : Hid (Below w.heap.size w (w1.alloc (.cells X 32)).drew) := below_drewN (BB.out.alloc BB.out.size _) 1
  clear R0 BX BB BS HL stA e1 s1 o1 hX
  generalize (w1.alloc (.cells X 32)).drew = w2 at P R B ⊢
  have hk := HK.out
  have k0 := P.out.cell 0 _ rfl
  have k3 := P.out.cell 3 _ rfl
  have k4 := P.out.cell 4 _ rfl
  have k5 := P.out.cell 5 _ rfl
  have lp := P.out.lt
  by_cases ha : 0 ≤ i.a
  · by_cases hb : 0 ≤ i.b
    · by_cases hc : 0 ≤ i.c
      · obtain rfl : qb = true := by rw [hqb.out]; simp [ha, hb, hc]
        clear hqb
        have r3 := R.out.cell 3 _ rfl
        have f3 := R.out.free 3 (by simp)
        have r4 := R.out.cell 4 _ rfl
        have f4 := R.out.free 4 (by simp)
        have r5 := R.out.cell 5 _ rfl
        have f5 := R.out.free 5 (by simp)
        have BW := (((B.out.setCell (p := ⟨w.heap.size + 1, 3, none⟩) (Nat.le_succ _) (.int .i64 0)).setCell (p := ⟨w.heap.size + 1, 4, none⟩) (Nat.le_succ _) (.int .i64 0)).setCell (p := ⟨w.heap.size + 1, 5, none⟩) (Nat.le_succ _) (.int .i64 0))
        have RW : Box (((w2.setCell ⟨w.heap.size + 1, 3, none⟩ (.int .i64 0)).setCell ⟨w.heap.size + 1, 4, none⟩ (.int .i64 0)).setCell ⟨w.heap.size + 1, 5, none⟩ (.int .i64 0)) (w.heap.size + 1) (itC (⟨i.kind, i.name, i.unit, 0, 0, 0, i.x, i.y, i.pl⟩ : It) (.slice a1 i.x.parts.length c1) (.slice a2 i.y.parts.length c2)) := (((R.out.set 3 (by simp) (.int .i64 0)).set 4 (by simp) (.int .i64 0)).set 5 (by simp) (.int .i64 0))
        have hit : ItAt z (((w2.setCell ⟨w.heap.size + 1, 3, none⟩ (.int .i64 0)).setCell ⟨w.heap.size + 1, 4, none⟩ (.int .i64 0)).setCell ⟨w.heap.size + 1, 5, none⟩ (.int .i64 0)) (⟨i.kind, i.name, i.unit, 0, 0, 0, i.x, i.y, i.pl⟩ : It) (.slice a1 i.x.parts.length c1) (.slice a2 i.y.parts.length c2) := (⟨h2.sx.next BW, h2.sy.next BW, h2.nm, h2.un⟩ : ItAt z _ (⟨i.kind, i.name, i.unit, 0, 0, 0, i.x, i.y, i.pl⟩ : It) _ _)
        obtain ⟨X2, hX2⟩ : ∃ X : Array Value, Hid (X = (itC (⟨i.kind, i.name, i.unit, 0, 0, 0, i.x, i.y, i.pl⟩ : It) (.slice a1 i.x.parts.length c1) (.slice a2 i.y.parts.length c2)).toArray) := ⟨_, rfl⟩
        have ldB := ld_bx RW hX2.out (hm.out.trans (show 19 = _ from rfl))
        have HZ : Hid (Calls Tryd.prog 72 #[.agg X2] (((w2.setCell ⟨w.heap.size + 1, 3, none⟩ (.int .i64 0)).setCell ⟨w.heap.size + 1, 4, none⟩ (.int .i64 0)).setCell ⟨w.heap.size + 1, 5, none⟩ (.int .i64 0)) fun e w' => e = .returned (.bool rr) ∧ Hid (Below w.heap.size w w')) := by
          rw [hX2.out, hrr.out]
          exact (zeroItem_c (⟨i.kind, i.name, i.unit, 0, 0, 0, i.x, i.y, i.pl⟩ : It) (.slice a1 i.x.parts.length c1) (.slice a2 i.y.parts.length c2) _ hit).mono fun e w' hh => ⟨hh.1, below_on BW hh.2 BW.size⟩
        have hs2 : X2.size = 19 := by rw [hX2.out]; rfl
        have lr := R.out.lt
        clear RW hit BW h2 hrr hX2 P R B
        go_wp2_with fail
        refine Calls.mono HZ.out ?_
        rintro e w9 ⟨rfl, B9⟩
        go_wp2_with fail
        go_ret
        exact ⟨by simp, B9.out⟩
      · obtain rfl : qb = false := by rw [hqb.out]; simp [ha, hb, hc]
        clear hqb
        have r3 := R.out.cell 3 _ rfl
        have f3 := R.out.free 3 (by simp)
        have r4 := R.out.cell 4 _ rfl
        have f4 := R.out.free 4 (by simp)
        have r5 := R.out.cell 5 _ rfl
        have f5 := R.out.free 5 (by simp)
        have BW := hid2 (((B.out.setCell (p := ⟨w.heap.size + 1, 3, none⟩) (Nat.le_succ _) (.int .i64 0)).setCell (p := ⟨w.heap.size + 1, 4, none⟩) (Nat.le_succ _) (.int .i64 0)).setCell (p := ⟨w.heap.size + 1, 5, none⟩) (Nat.le_succ _) (.int .i64 0))
        have lr := R.out.lt
        clear P R B h2 hrr
        go_wp2_with fail
        go_ret
        exact ⟨by simp, BW.out⟩
    · obtain rfl : qb = false := by rw [hqb.out]; simp [ha, hb]
      clear hqb
      have r3 := R.out.cell 3 _ rfl
      have f3 := R.out.free 3 (by simp)
      have r4 := R.out.cell 4 _ rfl
      have f4 := R.out.free 4 (by simp)
      have r5 := R.out.cell 5 _ rfl
      have f5 := R.out.free 5 (by simp)
      have BW := hid2 (((B.out.setCell (p := ⟨w.heap.size + 1, 3, none⟩) (Nat.le_succ _) (.int .i64 0)).setCell (p := ⟨w.heap.size + 1, 4, none⟩) (Nat.le_succ _) (.int .i64 0)).setCell (p := ⟨w.heap.size + 1, 5, none⟩) (Nat.le_succ _) (.int .i64 0))
      have lr := R.out.lt
      clear P R B h2 hrr
      go_wp2_with fail
      go_ret
      exact ⟨by simp, BW.out⟩
  · obtain rfl : qb = false := by rw [hqb.out]; simp [ha]
    clear hqb
    have r3 := R.out.cell 3 _ rfl
    have f3 := R.out.free 3 (by simp)
    have r4 := R.out.cell 4 _ rfl
    have f4 := R.out.free 4 (by simp)
    have r5 := R.out.cell 5 _ rfl
    have f5 := R.out.free 5 (by simp)
    have BW := hid2 (((B.out.setCell (p := ⟨w.heap.size + 1, 3, none⟩) (Nat.le_succ _) (.int .i64 0)).setCell (p := ⟨w.heap.size + 1, 4, none⟩) (Nat.le_succ _) (.int .i64 0)).setCell (p := ⟨w.heap.size + 1, 5, none⟩) (Nat.le_succ _) (.int .i64 0))
    have lr := R.out.lt
    clear P R B h2 hrr
    go_wp2_with fail
    go_ret
    exact ⟨by simp, BW.out⟩

set_option maxRecDepth 20000 in
set_option maxHeartbeats 4000000 in
theorem fItem_c {z : Nat} (_hz : z ≤ 562949953421312) (i : It) (hk : i.kind = 3) (vx vy : Value) (w : World) (h : ItAt z w i vx vy) (_hTabs : TabsAt w) : Calls Tryd.prog 43 #[itA i vx vy] w fun e w' => e = .returned (.bool (itemB i)) ∧ Below w.heap.size w w' := by
  obtain ⟨q5, hq5⟩ : ∃ q : Bool, Hid (q = spanB i.a) := ⟨_, rfl⟩
  have HS : Hid (∀ wx, Calls Tryd.prog 71 #[.int .i64 i.a] wx fun e w' => e = .returned (.bool (spanB i.a)) ∧ Below wx.heap.size wx w') := fun wx => (span_c i.a wx).mono fun e w' h => ⟨h.1, by rw [h.2]; exact Below.refl _ _⟩
  rw [← hq5.out] at HS
  obtain ⟨rr, hrr⟩ : ∃ q : Bool, Hid (q = restB (⟨i.kind, i.name, i.unit, 0, i.b, i.c, i.x, i.y, i.pl⟩ : It).name (⟨i.kind, i.name, i.unit, 0, i.b, i.c, i.x, i.y, i.pl⟩ : It).unit (⟨i.kind, i.name, i.unit, 0, i.b, i.c, i.x, i.y, i.pl⟩ : It).a (⟨i.kind, i.name, i.unit, 0, i.b, i.c, i.x, i.y, i.pl⟩ : It).b (⟨i.kind, i.name, i.unit, 0, i.b, i.c, i.x, i.y, i.pl⟩ : It).c (⟨i.kind, i.name, i.unit, 0, i.b, i.c, i.x, i.y, i.pl⟩ : It).x (⟨i.kind, i.name, i.unit, 0, i.b, i.c, i.x, i.y, i.pl⟩ : It).y) := ⟨_, rfl⟩
  have HI : itemB i = ((q5) && rr) := by
    unfold itemB
    rw [hk, hrr.out, hq5.out]
    rfl
  rw [HI]
  have h2 := h
  obtain ⟨a1, c1, rfl, -, -⟩ := h.sx.parts.shape
  obtain ⟨a2, c2, rfl, -, -⟩ := h.sy.parts.shape
  have ho := itC_one h
  obtain ⟨X0, XB⟩ := one_box w 32 [.int .i64 i.kind, .string i.name, .string i.unit, .int .i64 i.a, .int .i64 i.b, .int .i64 i.c, .int .i64 i.x.kind, .string i.x.text, .int .i64 i.x.n, .int .i64 i.x.m, .int .i64 i.x.pl, .slice a1 i.x.parts.length c1, .int .i64 i.y.kind, .string i.y.text, .int .i64 i.y.n, .int .i64 i.y.m, .int .i64 i.y.pl, .slice a2 i.y.parts.length c2, .int .i64 i.pl]
  have BX := hid2 X0
  have BB := hid2 XB
  have BS : Hid ((w.alloc (.cells [.int .i64 i.kind, .string i.name, .string i.unit, .int .i64 i.a, .int .i64 i.b, .int .i64 i.c, .int .i64 i.x.kind, .string i.x.text, .int .i64 i.x.n, .int .i64 i.x.m, .int .i64 i.x.pl, .slice a1 i.x.parts.length c1, .int .i64 i.y.kind, .string i.y.text, .int .i64 i.y.n, .int .i64 i.y.m, .int .i64 i.y.pl, .slice a2 i.y.parts.length c2, .int .i64 i.pl].toArray 32)).heap.size = w.heap.size + 1) := by show _ = _; simp
  obtain ⟨X, hX⟩ : ∃ X : Array Value, Hid (X = [.int .i64 i.kind, .string i.name, .string i.unit, .int .i64 i.a, .int .i64 i.b, .int .i64 i.c, .int .i64 i.x.kind, .string i.x.text, .int .i64 i.x.n, .int .i64 i.x.m, .int .i64 i.x.pl, .slice a1 i.x.parts.length c1, .int .i64 i.y.kind, .string i.y.text, .int .i64 i.y.n, .int .i64 i.y.m, .int .i64 i.y.pl, .slice a2 i.y.parts.length c2, .int .i64 i.pl].toArray) := ⟨_, rfl⟩
  have o1 : Hid (X.all (·.oneCell') = true) := by rw [hX.out]; exact ho
  have s1 : X.size = 19 := by rw [hX.out]; rfl
  obtain ⟨m, hm⟩ : ∃ m : Nat, Hid (m = 19) := ⟨_, rfl⟩
  have zs : ∀ w, (sizeOf 32).run Tryd.prog w = .ok m w := by rw [hm.out]; exact Tryd.sizeOf32
  have zm : (19 = m) = True := eq_true hm.out.symm
  have HK := hid2 hk
  clear h ho X0 XB HI hk hq5
  go_enter Tryd.func43, Tryd.ntmps43
  go_wp2_with fail
  generalize hw1 : w.alloc _ = w1 at BX BB BS ⊢
  clear hw1
  have HL := hid2 (fun wx (hb : Below w1.heap.size w1 wx) => ld_bx (BX.out.next hb) hX.out (hm.out.trans (show 19 = _ from rfl)))
  have stA := st_itd w1 s1 o1.out
  unfold zeroI at stA
  rw [BS.out] at stA
  have e1 : w1.heap.size = w.heap.size + 1 := BS.out
  go_region_held3 (fun w' => (loadCellsFrom ⟨w.heap.size, 0, none⟩ 0 m #[]).run Tryd.prog w' = .ok X w') (first | exact HL.out _ (below_drewN (Below.refl _ _) _) | exact HL.out _ (below_drewN ((Below.refl _ _).alloc (Nat.le_refl _) _) 1) | exact HL.out _ ((Below.refl _ _).alloc (Nat.le_refl _) _)) (fail)
  have P : Hid (Box (w1.alloc (.cells X 32)).drew w.heap.size [.int .i64 i.kind, .string i.name, .string i.unit, .int .i64 i.a, .int .i64 i.b, .int .i64 i.c, .int .i64 i.x.kind, .string i.x.text, .int .i64 i.x.n, .int .i64 i.x.m, .int .i64 i.x.pl, .slice a1 i.x.parts.length c1, .int .i64 i.y.kind, .string i.y.text, .int .i64 i.y.n, .int .i64 i.y.m, .int .i64 i.y.pl, .slice a2 i.y.parts.length c2, .int .i64 i.pl]) := (BX.out.next ((Below.refl _ _).alloc (Nat.le_refl _) _)).next (below_drewN (Below.refl _ _) 1)
  have R0 := (Box.new w1 [.int .i64 i.kind, .string i.name, .string i.unit, .int .i64 i.a, .int .i64 i.b, .int .i64 i.c, .int .i64 i.x.kind, .string i.x.text, .int .i64 i.x.n, .int .i64 i.x.m, .int .i64 i.x.pl, .slice a1 i.x.parts.length c1, .int .i64 i.y.kind, .string i.y.text, .int .i64 i.y.n, .int .i64 i.y.m, .int .i64 i.y.pl, .slice a2 i.y.parts.length c2, .int .i64 i.pl] 32).next (below_drewN (Below.refl _ _) 1)
  rw [e1] at R0
  have R : Hid (Box (w1.alloc (.cells X 32)).drew (w.heap.size + 1) [.int .i64 i.kind, .string i.name, .string i.unit, .int .i64 i.a, .int .i64 i.b, .int .i64 i.c, .int .i64 i.x.kind, .string i.x.text, .int .i64 i.x.n, .int .i64 i.x.m, .int .i64 i.x.pl, .slice a1 i.x.parts.length c1, .int .i64 i.y.kind, .string i.y.text, .int .i64 i.y.n, .int .i64 i.y.m, .int .i64 i.y.pl, .slice a2 i.y.parts.length c2, .int .i64 i.pl]) := by rw [hX.out]; exact R0
  have B : Hid (Below w.heap.size w (w1.alloc (.cells X 32)).drew) := below_drewN (BB.out.alloc BB.out.size _) 1
  clear R0 BX BB BS HL stA e1 s1 o1 hX
  generalize (w1.alloc (.cells X 32)).drew = w2 at P R B ⊢
  have hk := HK.out
  have k0 := P.out.cell 0 _ rfl
  have k3 := P.out.cell 3 _ rfl
  have lp := P.out.lt
  go_wp2_with fail
  refine Calls.mono (HS.out _) ?_
  rintro e w2n ⟨rfl, b⟩
  replace B := hid2 (below_on B.out b B.out.size)
  replace P := hid2 (P.out.next b)
  replace R := hid2 (R.out.next b)
  clear b lp k3
  cases q5
  · have r3 := R.out.cell 3 _ rfl
    have f3 := R.out.free 3 (by simp)
    have BW := hid2 (B.out.setCell (p := ⟨w.heap.size + 1, 3, none⟩) (Nat.le_succ _) (.int .i64 0))
    have lr := R.out.lt
    clear P R B h2 hrr
    go_wp2_with fail
    go_ret
    exact ⟨by simp, BW.out⟩
  · have r3 := R.out.cell 3 _ rfl
    have f3 := R.out.free 3 (by simp)
    have BW := (B.out.setCell (p := ⟨w.heap.size + 1, 3, none⟩) (Nat.le_succ _) (.int .i64 0))
    have RW : Box (w2n.setCell ⟨w.heap.size + 1, 3, none⟩ (.int .i64 0)) (w.heap.size + 1) (itC (⟨i.kind, i.name, i.unit, 0, i.b, i.c, i.x, i.y, i.pl⟩ : It) (.slice a1 i.x.parts.length c1) (.slice a2 i.y.parts.length c2)) := (R.out.set 3 (by simp) (.int .i64 0))
    have hit : ItAt z (w2n.setCell ⟨w.heap.size + 1, 3, none⟩ (.int .i64 0)) (⟨i.kind, i.name, i.unit, 0, i.b, i.c, i.x, i.y, i.pl⟩ : It) (.slice a1 i.x.parts.length c1) (.slice a2 i.y.parts.length c2) := (⟨h2.sx.next BW, h2.sy.next BW, h2.nm, h2.un⟩ : ItAt z _ (⟨i.kind, i.name, i.unit, 0, i.b, i.c, i.x, i.y, i.pl⟩ : It) _ _)
    obtain ⟨X2, hX2⟩ : ∃ X : Array Value, Hid (X = (itC (⟨i.kind, i.name, i.unit, 0, i.b, i.c, i.x, i.y, i.pl⟩ : It) (.slice a1 i.x.parts.length c1) (.slice a2 i.y.parts.length c2)).toArray) := ⟨_, rfl⟩
    have ldB := ld_bx RW hX2.out (hm.out.trans (show 19 = _ from rfl))
    have HZ : Hid (Calls Tryd.prog 72 #[.agg X2] (w2n.setCell ⟨w.heap.size + 1, 3, none⟩ (.int .i64 0)) fun e w' => e = .returned (.bool rr) ∧ Hid (Below w.heap.size w w')) := by
      rw [hX2.out, hrr.out]
      exact (zeroItem_c (⟨i.kind, i.name, i.unit, 0, i.b, i.c, i.x, i.y, i.pl⟩ : It) (.slice a1 i.x.parts.length c1) (.slice a2 i.y.parts.length c2) _ hit).mono fun e w' hh => ⟨hh.1, below_on BW hh.2 BW.size⟩
    have hs2 : X2.size = 19 := by rw [hX2.out]; rfl
    have lr := R.out.lt
    clear RW hit BW h2 hrr hX2 P R B
    go_wp2_with fail
    refine Calls.mono HZ.out ?_
    rintro e w9 ⟨rfl, B9⟩
    go_wp2_with fail
    go_ret
    exact ⟨by simp, B9.out⟩

set_option maxRecDepth 20000 in
set_option maxHeartbeats 4000000 in
theorem fItem_d {z : Nat} (_hz : z ≤ 562949953421312) (i : It) (hk : i.kind = 4) (vx vy : Value) (w : World) (h : ItAt z w i vx vy) (_hTabs : TabsAt w) : Calls Tryd.prog 43 #[itA i vx vy] w fun e w' => e = .returned (.bool (itemB i)) ∧ Below w.heap.size w w' := by
  obtain ⟨q5, hq5⟩ : ∃ q : Bool, Hid (q = spanB i.a) := ⟨_, rfl⟩
  have HS : Hid (∀ wx, Calls Tryd.prog 71 #[.int .i64 i.a] wx fun e w' => e = .returned (.bool (spanB i.a)) ∧ Below wx.heap.size wx w') := fun wx => (span_c i.a wx).mono fun e w' h => ⟨h.1, by rw [h.2]; exact Below.refl _ _⟩
  rw [← hq5.out] at HS
  obtain ⟨rr, hrr⟩ : ∃ q : Bool, Hid (q = restB (⟨i.kind, i.name, i.unit, 0, i.b, i.c, i.x, i.y, i.pl⟩ : It).name (⟨i.kind, i.name, i.unit, 0, i.b, i.c, i.x, i.y, i.pl⟩ : It).unit (⟨i.kind, i.name, i.unit, 0, i.b, i.c, i.x, i.y, i.pl⟩ : It).a (⟨i.kind, i.name, i.unit, 0, i.b, i.c, i.x, i.y, i.pl⟩ : It).b (⟨i.kind, i.name, i.unit, 0, i.b, i.c, i.x, i.y, i.pl⟩ : It).c (⟨i.kind, i.name, i.unit, 0, i.b, i.c, i.x, i.y, i.pl⟩ : It).x (⟨i.kind, i.name, i.unit, 0, i.b, i.c, i.x, i.y, i.pl⟩ : It).y) := ⟨_, rfl⟩
  have HI : itemB i = ((q5) && rr) := by
    unfold itemB
    rw [hk, hrr.out, hq5.out]
    rfl
  rw [HI]
  have h2 := h
  obtain ⟨a1, c1, rfl, -, -⟩ := h.sx.parts.shape
  obtain ⟨a2, c2, rfl, -, -⟩ := h.sy.parts.shape
  have ho := itC_one h
  obtain ⟨X0, XB⟩ := one_box w 32 [.int .i64 i.kind, .string i.name, .string i.unit, .int .i64 i.a, .int .i64 i.b, .int .i64 i.c, .int .i64 i.x.kind, .string i.x.text, .int .i64 i.x.n, .int .i64 i.x.m, .int .i64 i.x.pl, .slice a1 i.x.parts.length c1, .int .i64 i.y.kind, .string i.y.text, .int .i64 i.y.n, .int .i64 i.y.m, .int .i64 i.y.pl, .slice a2 i.y.parts.length c2, .int .i64 i.pl]
  have BX := hid2 X0
  have BB := hid2 XB
  have BS : Hid ((w.alloc (.cells [.int .i64 i.kind, .string i.name, .string i.unit, .int .i64 i.a, .int .i64 i.b, .int .i64 i.c, .int .i64 i.x.kind, .string i.x.text, .int .i64 i.x.n, .int .i64 i.x.m, .int .i64 i.x.pl, .slice a1 i.x.parts.length c1, .int .i64 i.y.kind, .string i.y.text, .int .i64 i.y.n, .int .i64 i.y.m, .int .i64 i.y.pl, .slice a2 i.y.parts.length c2, .int .i64 i.pl].toArray 32)).heap.size = w.heap.size + 1) := by show _ = _; simp
  obtain ⟨X, hX⟩ : ∃ X : Array Value, Hid (X = [.int .i64 i.kind, .string i.name, .string i.unit, .int .i64 i.a, .int .i64 i.b, .int .i64 i.c, .int .i64 i.x.kind, .string i.x.text, .int .i64 i.x.n, .int .i64 i.x.m, .int .i64 i.x.pl, .slice a1 i.x.parts.length c1, .int .i64 i.y.kind, .string i.y.text, .int .i64 i.y.n, .int .i64 i.y.m, .int .i64 i.y.pl, .slice a2 i.y.parts.length c2, .int .i64 i.pl].toArray) := ⟨_, rfl⟩
  have o1 : Hid (X.all (·.oneCell') = true) := by rw [hX.out]; exact ho
  have s1 : X.size = 19 := by rw [hX.out]; rfl
  obtain ⟨m, hm⟩ : ∃ m : Nat, Hid (m = 19) := ⟨_, rfl⟩
  have zs : ∀ w, (sizeOf 32).run Tryd.prog w = .ok m w := by rw [hm.out]; exact Tryd.sizeOf32
  have zm : (19 = m) = True := eq_true hm.out.symm
  have HK := hid2 hk
  clear h ho X0 XB HI hk hq5
  go_enter Tryd.func43, Tryd.ntmps43
  go_wp2_with fail
  generalize hw1 : w.alloc _ = w1 at BX BB BS ⊢
  clear hw1
  have HL := hid2 (fun wx (hb : Below w1.heap.size w1 wx) => ld_bx (BX.out.next hb) hX.out (hm.out.trans (show 19 = _ from rfl)))
  have stA := st_itd w1 s1 o1.out
  unfold zeroI at stA
  rw [BS.out] at stA
  have e1 : w1.heap.size = w.heap.size + 1 := BS.out
  go_region_held3 (fun w' => (loadCellsFrom ⟨w.heap.size, 0, none⟩ 0 m #[]).run Tryd.prog w' = .ok X w') (first | exact HL.out _ (below_drewN (Below.refl _ _) _) | exact HL.out _ (below_drewN ((Below.refl _ _).alloc (Nat.le_refl _) _) 1) | exact HL.out _ ((Below.refl _ _).alloc (Nat.le_refl _) _)) (fail)
  have P : Hid (Box (w1.alloc (.cells X 32)).drew w.heap.size [.int .i64 i.kind, .string i.name, .string i.unit, .int .i64 i.a, .int .i64 i.b, .int .i64 i.c, .int .i64 i.x.kind, .string i.x.text, .int .i64 i.x.n, .int .i64 i.x.m, .int .i64 i.x.pl, .slice a1 i.x.parts.length c1, .int .i64 i.y.kind, .string i.y.text, .int .i64 i.y.n, .int .i64 i.y.m, .int .i64 i.y.pl, .slice a2 i.y.parts.length c2, .int .i64 i.pl]) := (BX.out.next ((Below.refl _ _).alloc (Nat.le_refl _) _)).next (below_drewN (Below.refl _ _) 1)
  have R0 := (Box.new w1 [.int .i64 i.kind, .string i.name, .string i.unit, .int .i64 i.a, .int .i64 i.b, .int .i64 i.c, .int .i64 i.x.kind, .string i.x.text, .int .i64 i.x.n, .int .i64 i.x.m, .int .i64 i.x.pl, .slice a1 i.x.parts.length c1, .int .i64 i.y.kind, .string i.y.text, .int .i64 i.y.n, .int .i64 i.y.m, .int .i64 i.y.pl, .slice a2 i.y.parts.length c2, .int .i64 i.pl] 32).next (below_drewN (Below.refl _ _) 1)
  rw [e1] at R0
  have R : Hid (Box (w1.alloc (.cells X 32)).drew (w.heap.size + 1) [.int .i64 i.kind, .string i.name, .string i.unit, .int .i64 i.a, .int .i64 i.b, .int .i64 i.c, .int .i64 i.x.kind, .string i.x.text, .int .i64 i.x.n, .int .i64 i.x.m, .int .i64 i.x.pl, .slice a1 i.x.parts.length c1, .int .i64 i.y.kind, .string i.y.text, .int .i64 i.y.n, .int .i64 i.y.m, .int .i64 i.y.pl, .slice a2 i.y.parts.length c2, .int .i64 i.pl]) := by rw [hX.out]; exact R0
  have B : Hid (Below w.heap.size w (w1.alloc (.cells X 32)).drew) := below_drewN (BB.out.alloc BB.out.size _) 1
  clear R0 BX BB BS HL stA e1 s1 o1 hX
  generalize (w1.alloc (.cells X 32)).drew = w2 at P R B ⊢
  have hk := HK.out
  have k0 := P.out.cell 0 _ rfl
  have k3 := P.out.cell 3 _ rfl
  have lp := P.out.lt
  go_wp2_with fail
  refine Calls.mono (HS.out _) ?_
  rintro e w2n ⟨rfl, b⟩
  replace B := hid2 (below_on B.out b B.out.size)
  replace P := hid2 (P.out.next b)
  replace R := hid2 (R.out.next b)
  clear b lp k3
  cases q5
  · have r3 := R.out.cell 3 _ rfl
    have f3 := R.out.free 3 (by simp)
    have BW := hid2 (B.out.setCell (p := ⟨w.heap.size + 1, 3, none⟩) (Nat.le_succ _) (.int .i64 0))
    have lr := R.out.lt
    clear P R B h2 hrr
    go_wp2_with fail
    go_ret
    exact ⟨by simp, BW.out⟩
  · have r3 := R.out.cell 3 _ rfl
    have f3 := R.out.free 3 (by simp)
    have BW := (B.out.setCell (p := ⟨w.heap.size + 1, 3, none⟩) (Nat.le_succ _) (.int .i64 0))
    have RW : Box (w2n.setCell ⟨w.heap.size + 1, 3, none⟩ (.int .i64 0)) (w.heap.size + 1) (itC (⟨i.kind, i.name, i.unit, 0, i.b, i.c, i.x, i.y, i.pl⟩ : It) (.slice a1 i.x.parts.length c1) (.slice a2 i.y.parts.length c2)) := (R.out.set 3 (by simp) (.int .i64 0))
    have hit : ItAt z (w2n.setCell ⟨w.heap.size + 1, 3, none⟩ (.int .i64 0)) (⟨i.kind, i.name, i.unit, 0, i.b, i.c, i.x, i.y, i.pl⟩ : It) (.slice a1 i.x.parts.length c1) (.slice a2 i.y.parts.length c2) := (⟨h2.sx.next BW, h2.sy.next BW, h2.nm, h2.un⟩ : ItAt z _ (⟨i.kind, i.name, i.unit, 0, i.b, i.c, i.x, i.y, i.pl⟩ : It) _ _)
    obtain ⟨X2, hX2⟩ : ∃ X : Array Value, Hid (X = (itC (⟨i.kind, i.name, i.unit, 0, i.b, i.c, i.x, i.y, i.pl⟩ : It) (.slice a1 i.x.parts.length c1) (.slice a2 i.y.parts.length c2)).toArray) := ⟨_, rfl⟩
    have ldB := ld_bx RW hX2.out (hm.out.trans (show 19 = _ from rfl))
    have HZ : Hid (Calls Tryd.prog 72 #[.agg X2] (w2n.setCell ⟨w.heap.size + 1, 3, none⟩ (.int .i64 0)) fun e w' => e = .returned (.bool rr) ∧ Hid (Below w.heap.size w w')) := by
      rw [hX2.out, hrr.out]
      exact (zeroItem_c (⟨i.kind, i.name, i.unit, 0, i.b, i.c, i.x, i.y, i.pl⟩ : It) (.slice a1 i.x.parts.length c1) (.slice a2 i.y.parts.length c2) _ hit).mono fun e w' hh => ⟨hh.1, below_on BW hh.2 BW.size⟩
    have hs2 : X2.size = 19 := by rw [hX2.out]; rfl
    have lr := R.out.lt
    clear RW hit BW h2 hrr hX2 P R B
    go_wp2_with fail
    refine Calls.mono HZ.out ?_
    rintro e w9 ⟨rfl, B9⟩
    go_wp2_with fail
    go_ret
    exact ⟨by simp, B9.out⟩

set_option maxRecDepth 20000 in
set_option maxHeartbeats 4000000 in
theorem fItem_e {z : Nat} (hz : z ≤ 562949953421312) (i : It) (hk : i.kind = 5) (vx vy : Value) (w : World) (h : ItAt z w i vx vy) (hTabs : TabsAt w) : Calls Tryd.prog 43 #[itA i vx vy] w fun e w' => e = .returned (.bool (itemB i)) ∧ Below w.heap.size w w' := by
  obtain ⟨q1, hq1⟩ : ∃ q : Bool, Hid (q = isN i.name) := ⟨_, rfl⟩
  have HN : Hid (∀ wx, Calls Tryd.prog 39 #[.string i.name] wx fun e w' => e = .returned (.bool (isN i.name)) ∧ Below wx.heap.size wx w') := fun wx => isName_c i.name (Nat.le_trans h.nm hz) wx
  rw [← hq1.out] at HN
  obtain ⟨q3, hq3⟩ : ∃ q : Bool, Hid (q = formedB i.x) := ⟨_, rfl⟩
  have HF : Hid (∀ wx, Below w.heap.size w wx → Calls Tryd.prog 11 #[tmV i.x vx] wx fun e w' => e = .returned (.bool (formedB i.x)) ∧ Below wx.heap.size wx w') := fun wx hb => formed_all hz i.x vx wx (h.sx.next hb) (hTabs.next hb)
  rw [← hq3.out] at HF
  obtain ⟨rr, hrr⟩ : ∃ q : Bool, Hid (q = restB (⟨i.kind, noB, i.unit, i.a, i.b, i.c, nilM, i.y, i.pl⟩ : It).name (⟨i.kind, noB, i.unit, i.a, i.b, i.c, nilM, i.y, i.pl⟩ : It).unit (⟨i.kind, noB, i.unit, i.a, i.b, i.c, nilM, i.y, i.pl⟩ : It).a (⟨i.kind, noB, i.unit, i.a, i.b, i.c, nilM, i.y, i.pl⟩ : It).b (⟨i.kind, noB, i.unit, i.a, i.b, i.c, nilM, i.y, i.pl⟩ : It).c (⟨i.kind, noB, i.unit, i.a, i.b, i.c, nilM, i.y, i.pl⟩ : It).x (⟨i.kind, noB, i.unit, i.a, i.b, i.c, nilM, i.y, i.pl⟩ : It).y) := ⟨_, rfl⟩
  have HI : itemB i = ((q1 && q3) && rr) := by
    unfold itemB
    rw [hk, hrr.out, hq1.out, hq3.out]
    rfl
  rw [HI]
  have h2 := h
  obtain ⟨a1, c1, rfl, -, -⟩ := h.sx.parts.shape
  obtain ⟨a2, c2, rfl, -, -⟩ := h.sy.parts.shape
  have ho := itC_one h
  obtain ⟨X0, XB⟩ := one_box w 32 [.int .i64 i.kind, .string i.name, .string i.unit, .int .i64 i.a, .int .i64 i.b, .int .i64 i.c, .int .i64 i.x.kind, .string i.x.text, .int .i64 i.x.n, .int .i64 i.x.m, .int .i64 i.x.pl, .slice a1 i.x.parts.length c1, .int .i64 i.y.kind, .string i.y.text, .int .i64 i.y.n, .int .i64 i.y.m, .int .i64 i.y.pl, .slice a2 i.y.parts.length c2, .int .i64 i.pl]
  have BX := hid2 X0
  have BB := hid2 XB
  have BS : Hid ((w.alloc (.cells [.int .i64 i.kind, .string i.name, .string i.unit, .int .i64 i.a, .int .i64 i.b, .int .i64 i.c, .int .i64 i.x.kind, .string i.x.text, .int .i64 i.x.n, .int .i64 i.x.m, .int .i64 i.x.pl, .slice a1 i.x.parts.length c1, .int .i64 i.y.kind, .string i.y.text, .int .i64 i.y.n, .int .i64 i.y.m, .int .i64 i.y.pl, .slice a2 i.y.parts.length c2, .int .i64 i.pl].toArray 32)).heap.size = w.heap.size + 1) := by show _ = _; simp
  obtain ⟨X, hX⟩ : ∃ X : Array Value, Hid (X = [.int .i64 i.kind, .string i.name, .string i.unit, .int .i64 i.a, .int .i64 i.b, .int .i64 i.c, .int .i64 i.x.kind, .string i.x.text, .int .i64 i.x.n, .int .i64 i.x.m, .int .i64 i.x.pl, .slice a1 i.x.parts.length c1, .int .i64 i.y.kind, .string i.y.text, .int .i64 i.y.n, .int .i64 i.y.m, .int .i64 i.y.pl, .slice a2 i.y.parts.length c2, .int .i64 i.pl].toArray) := ⟨_, rfl⟩
  have o1 : Hid (X.all (·.oneCell') = true) := by rw [hX.out]; exact ho
  have s1 : X.size = 19 := by rw [hX.out]; rfl
  obtain ⟨m, hm⟩ : ∃ m : Nat, Hid (m = 19) := ⟨_, rfl⟩
  have zs : ∀ w, (sizeOf 32).run Tryd.prog w = .ok m w := by rw [hm.out]; exact Tryd.sizeOf32
  have zm : (19 = m) = True := eq_true hm.out.symm
  have HK := hid2 hk
  clear h ho X0 XB HI hTabs hk hq1 hq3
  go_enter Tryd.func43, Tryd.ntmps43
  go_wp2_with fail
  generalize hw1 : w.alloc _ = w1 at BX BB BS ⊢
  clear hw1
  have HL := hid2 (fun wx (hb : Below w1.heap.size w1 wx) => ld_bx (BX.out.next hb) hX.out (hm.out.trans (show 19 = _ from rfl)))
  have stA := st_itd w1 s1 o1.out
  unfold zeroI at stA
  rw [BS.out] at stA
  have e1 : w1.heap.size = w.heap.size + 1 := BS.out
  go_region_held3 (fun w' => (loadCellsFrom ⟨w.heap.size, 0, none⟩ 0 m #[]).run Tryd.prog w' = .ok X w') (first | exact HL.out _ (below_drewN (Below.refl _ _) _) | exact HL.out _ (below_drewN ((Below.refl _ _).alloc (Nat.le_refl _) _) 1) | exact HL.out _ ((Below.refl _ _).alloc (Nat.le_refl _) _)) (fail)
  have P : Hid (Box (w1.alloc (.cells X 32)).drew w.heap.size [.int .i64 i.kind, .string i.name, .string i.unit, .int .i64 i.a, .int .i64 i.b, .int .i64 i.c, .int .i64 i.x.kind, .string i.x.text, .int .i64 i.x.n, .int .i64 i.x.m, .int .i64 i.x.pl, .slice a1 i.x.parts.length c1, .int .i64 i.y.kind, .string i.y.text, .int .i64 i.y.n, .int .i64 i.y.m, .int .i64 i.y.pl, .slice a2 i.y.parts.length c2, .int .i64 i.pl]) := (BX.out.next ((Below.refl _ _).alloc (Nat.le_refl _) _)).next (below_drewN (Below.refl _ _) 1)
  have R0 := (Box.new w1 [.int .i64 i.kind, .string i.name, .string i.unit, .int .i64 i.a, .int .i64 i.b, .int .i64 i.c, .int .i64 i.x.kind, .string i.x.text, .int .i64 i.x.n, .int .i64 i.x.m, .int .i64 i.x.pl, .slice a1 i.x.parts.length c1, .int .i64 i.y.kind, .string i.y.text, .int .i64 i.y.n, .int .i64 i.y.m, .int .i64 i.y.pl, .slice a2 i.y.parts.length c2, .int .i64 i.pl] 32).next (below_drewN (Below.refl _ _) 1)
  rw [e1] at R0
  have R : Hid (Box (w1.alloc (.cells X 32)).drew (w.heap.size + 1) [.int .i64 i.kind, .string i.name, .string i.unit, .int .i64 i.a, .int .i64 i.b, .int .i64 i.c, .int .i64 i.x.kind, .string i.x.text, .int .i64 i.x.n, .int .i64 i.x.m, .int .i64 i.x.pl, .slice a1 i.x.parts.length c1, .int .i64 i.y.kind, .string i.y.text, .int .i64 i.y.n, .int .i64 i.y.m, .int .i64 i.y.pl, .slice a2 i.y.parts.length c2, .int .i64 i.pl]) := by rw [hX.out]; exact R0
  have B : Hid (Below w.heap.size w (w1.alloc (.cells X 32)).drew) := below_drewN (BB.out.alloc BB.out.size _) 1
  clear R0 BX BB BS HL stA e1 s1 o1 hX
  generalize (w1.alloc (.cells X 32)).drew = w2 at P R B ⊢
  have hk := HK.out
  have k0 := P.out.cell 0 _ rfl
  have k1 := P.out.cell 1 _ rfl
  have lp := P.out.lt
  go_wp2_with fail
  refine Calls.mono (HN.out _) ?_
  rintro e w2n ⟨rfl, b⟩
  replace B := hid2 (below_on B.out b B.out.size)
  replace P := hid2 (P.out.next b)
  replace R := hid2 (R.out.next b)
  clear b lp k1
  cases q1
  · have r1 := R.out.cell 1 _ rfl
    have f1 := R.out.free 1 (by simp)
    have r6 := R.out.cell 6 _ rfl
    have f6 := R.out.free 6 (by simp)
    have r7 := R.out.cell 7 _ rfl
    have f7 := R.out.free 7 (by simp)
    have r8 := R.out.cell 8 _ rfl
    have f8 := R.out.free 8 (by simp)
    have r9 := R.out.cell 9 _ rfl
    have f9 := R.out.free 9 (by simp)
    have r10 := R.out.cell 10 _ rfl
    have f10 := R.out.free 10 (by simp)
    have r11 := R.out.cell 11 _ rfl
    have f11 := R.out.free 11 (by simp)
    have BW := hid2 (((((((B.out.setCell (p := ⟨w.heap.size + 1, 1, none⟩) (Nat.le_succ _) (.string ⟨#[]⟩)).setCell (p := ⟨w.heap.size + 1, 6, none⟩) (Nat.le_succ _) (.int .i64 0)).setCell (p := ⟨w.heap.size + 1, 7, none⟩) (Nat.le_succ _) (.string ⟨#[]⟩)).setCell (p := ⟨w.heap.size + 1, 8, none⟩) (Nat.le_succ _) (.int .i64 0)).setCell (p := ⟨w.heap.size + 1, 9, none⟩) (Nat.le_succ _) (.int .i64 0)).setCell (p := ⟨w.heap.size + 1, 10, none⟩) (Nat.le_succ _) (.int .i64 0)).setCell (p := ⟨w.heap.size + 1, 11, none⟩) (Nat.le_succ _) (.slice none 0 0))
    have lr := R.out.lt
    clear P R B h2 hrr
    go_wp2_with fail
    go_ret
    exact ⟨by simp, BW.out⟩
  · have k6 := P.out.cell 6 _ rfl
    have k7 := P.out.cell 7 _ rfl
    have k8 := P.out.cell 8 _ rfl
    have k9 := P.out.cell 9 _ rfl
    have k10 := P.out.cell 10 _ rfl
    have k11 := P.out.cell 11 _ rfl
    have lp := P.out.lt
    go_wp2_with fail
    refine Calls.mono (HF.out _ B.out) ?_
    rintro e w2nn ⟨rfl, b⟩
    replace B := hid2 (below_on B.out b B.out.size)
    replace P := hid2 (P.out.next b)
    replace R := hid2 (R.out.next b)
    clear b lp k6 k7 k8 k9 k10 k11
    cases q3
    · have r1 := R.out.cell 1 _ rfl
      have f1 := R.out.free 1 (by simp)
      have r6 := R.out.cell 6 _ rfl
      have f6 := R.out.free 6 (by simp)
      have r7 := R.out.cell 7 _ rfl
      have f7 := R.out.free 7 (by simp)
      have r8 := R.out.cell 8 _ rfl
      have f8 := R.out.free 8 (by simp)
      have r9 := R.out.cell 9 _ rfl
      have f9 := R.out.free 9 (by simp)
      have r10 := R.out.cell 10 _ rfl
      have f10 := R.out.free 10 (by simp)
      have r11 := R.out.cell 11 _ rfl
      have f11 := R.out.free 11 (by simp)
      have BW := hid2 (((((((B.out.setCell (p := ⟨w.heap.size + 1, 1, none⟩) (Nat.le_succ _) (.string ⟨#[]⟩)).setCell (p := ⟨w.heap.size + 1, 6, none⟩) (Nat.le_succ _) (.int .i64 0)).setCell (p := ⟨w.heap.size + 1, 7, none⟩) (Nat.le_succ _) (.string ⟨#[]⟩)).setCell (p := ⟨w.heap.size + 1, 8, none⟩) (Nat.le_succ _) (.int .i64 0)).setCell (p := ⟨w.heap.size + 1, 9, none⟩) (Nat.le_succ _) (.int .i64 0)).setCell (p := ⟨w.heap.size + 1, 10, none⟩) (Nat.le_succ _) (.int .i64 0)).setCell (p := ⟨w.heap.size + 1, 11, none⟩) (Nat.le_succ _) (.slice none 0 0))
      have lr := R.out.lt
      clear P R B h2 hrr
      go_wp2_with fail
      go_ret
      exact ⟨by simp, BW.out⟩
    · have r1 := R.out.cell 1 _ rfl
      have f1 := R.out.free 1 (by simp)
      have r6 := R.out.cell 6 _ rfl
      have f6 := R.out.free 6 (by simp)
      have r7 := R.out.cell 7 _ rfl
      have f7 := R.out.free 7 (by simp)
      have r8 := R.out.cell 8 _ rfl
      have f8 := R.out.free 8 (by simp)
      have r9 := R.out.cell 9 _ rfl
      have f9 := R.out.free 9 (by simp)
      have r10 := R.out.cell 10 _ rfl
      have f10 := R.out.free 10 (by simp)
      have r11 := R.out.cell 11 _ rfl
      have f11 := R.out.free 11 (by simp)
      have BW := (((((((B.out.setCell (p := ⟨w.heap.size + 1, 1, none⟩) (Nat.le_succ _) (.string ⟨#[]⟩)).setCell (p := ⟨w.heap.size + 1, 6, none⟩) (Nat.le_succ _) (.int .i64 0)).setCell (p := ⟨w.heap.size + 1, 7, none⟩) (Nat.le_succ _) (.string ⟨#[]⟩)).setCell (p := ⟨w.heap.size + 1, 8, none⟩) (Nat.le_succ _) (.int .i64 0)).setCell (p := ⟨w.heap.size + 1, 9, none⟩) (Nat.le_succ _) (.int .i64 0)).setCell (p := ⟨w.heap.size + 1, 10, none⟩) (Nat.le_succ _) (.int .i64 0)).setCell (p := ⟨w.heap.size + 1, 11, none⟩) (Nat.le_succ _) (.slice none 0 0))
      have RW : Box (((((((w2nn.setCell ⟨w.heap.size + 1, 1, none⟩ (.string ⟨#[]⟩)).setCell ⟨w.heap.size + 1, 6, none⟩ (.int .i64 0)).setCell ⟨w.heap.size + 1, 7, none⟩ (.string ⟨#[]⟩)).setCell ⟨w.heap.size + 1, 8, none⟩ (.int .i64 0)).setCell ⟨w.heap.size + 1, 9, none⟩ (.int .i64 0)).setCell ⟨w.heap.size + 1, 10, none⟩ (.int .i64 0)).setCell ⟨w.heap.size + 1, 11, none⟩ (.slice none 0 0)) (w.heap.size + 1) (itC (⟨i.kind, noB, i.unit, i.a, i.b, i.c, nilM, i.y, i.pl⟩ : It) (.slice none 0 0) (.slice a2 i.y.parts.length c2)) := (((((((R.out.set 1 (by simp) (.string ⟨#[]⟩)).set 6 (by simp) (.int .i64 0)).set 7 (by simp) (.string ⟨#[]⟩)).set 8 (by simp) (.int .i64 0)).set 9 (by simp) (.int .i64 0)).set 10 (by simp) (.int .i64 0)).set 11 (by simp) (.slice none 0 0))
      have hit : ItAt z (((((((w2nn.setCell ⟨w.heap.size + 1, 1, none⟩ (.string ⟨#[]⟩)).setCell ⟨w.heap.size + 1, 6, none⟩ (.int .i64 0)).setCell ⟨w.heap.size + 1, 7, none⟩ (.string ⟨#[]⟩)).setCell ⟨w.heap.size + 1, 8, none⟩ (.int .i64 0)).setCell ⟨w.heap.size + 1, 9, none⟩ (.int .i64 0)).setCell ⟨w.heap.size + 1, 10, none⟩ (.int .i64 0)).setCell ⟨w.heap.size + 1, 11, none⟩ (.slice none 0 0)) (⟨i.kind, noB, i.unit, i.a, i.b, i.c, nilM, i.y, i.pl⟩ : It) (.slice none 0 0) (.slice a2 i.y.parts.length c2) := (⟨sits_nilM _, h2.sy.next BW, Nat.zero_le _, h2.un⟩ : ItAt z _ (⟨i.kind, noB, i.unit, i.a, i.b, i.c, nilM, i.y, i.pl⟩ : It) _ _)
      obtain ⟨X2, hX2⟩ : ∃ X : Array Value, Hid (X = (itC (⟨i.kind, noB, i.unit, i.a, i.b, i.c, nilM, i.y, i.pl⟩ : It) (.slice none 0 0) (.slice a2 i.y.parts.length c2)).toArray) := ⟨_, rfl⟩
      have ldB := ld_bx RW hX2.out (hm.out.trans (show 19 = _ from rfl))
      have HZ : Hid (Calls Tryd.prog 72 #[.agg X2] (((((((w2nn.setCell ⟨w.heap.size + 1, 1, none⟩ (.string ⟨#[]⟩)).setCell ⟨w.heap.size + 1, 6, none⟩ (.int .i64 0)).setCell ⟨w.heap.size + 1, 7, none⟩ (.string ⟨#[]⟩)).setCell ⟨w.heap.size + 1, 8, none⟩ (.int .i64 0)).setCell ⟨w.heap.size + 1, 9, none⟩ (.int .i64 0)).setCell ⟨w.heap.size + 1, 10, none⟩ (.int .i64 0)).setCell ⟨w.heap.size + 1, 11, none⟩ (.slice none 0 0)) fun e w' => e = .returned (.bool rr) ∧ Hid (Below w.heap.size w w')) := by
        rw [hX2.out, hrr.out]
        exact (zeroItem_c (⟨i.kind, noB, i.unit, i.a, i.b, i.c, nilM, i.y, i.pl⟩ : It) (.slice none 0 0) (.slice a2 i.y.parts.length c2) _ hit).mono fun e w' hh => ⟨hh.1, below_on BW hh.2 BW.size⟩
      have hs2 : X2.size = 19 := by rw [hX2.out]; rfl
      have lr := R.out.lt
      clear RW hit BW h2 hrr hX2 P R B
      go_wp2_with fail
      refine Calls.mono HZ.out ?_
      rintro e w9 ⟨rfl, B9⟩
      go_wp2_with fail
      go_ret
      exact ⟨by simp, B9.out⟩

set_option maxRecDepth 20000 in
set_option maxHeartbeats 4000000 in
theorem fItem_f {z : Nat} (hz : z ≤ 562949953421312) (i : It) (hk : i.kind = 6) (vx vy : Value) (w : World) (h : ItAt z w i vx vy) (hTabs : TabsAt w) : Calls Tryd.prog 43 #[itA i vx vy] w fun e w' => e = .returned (.bool (itemB i)) ∧ Below w.heap.size w w' := by
  obtain ⟨q3, hq3⟩ : ∃ q : Bool, Hid (q = formedB i.x) := ⟨_, rfl⟩
  have HF : Hid (∀ wx, Below w.heap.size w wx → Calls Tryd.prog 11 #[tmV i.x vx] wx fun e w' => e = .returned (.bool (formedB i.x)) ∧ Below wx.heap.size wx w') := fun wx hb => formed_all hz i.x vx wx (h.sx.next hb) (hTabs.next hb)
  rw [← hq3.out] at HF
  obtain ⟨q4, hq4⟩ : ∃ q : Bool, Hid (q = actionB i.y) := ⟨_, rfl⟩
  have HA : Hid (∀ wx, Below w.heap.size w wx → Calls Tryd.prog 13 #[tmV i.y vy] wx fun e w' => e = .returned (.bool (actionB i.y)) ∧ Below wx.heap.size wx w') := fun wx hb => action_all hz i.y vy wx (h.sy.next hb) (hTabs.next hb)
  rw [← hq4.out] at HA
  obtain ⟨rr, hrr⟩ : ∃ q : Bool, Hid (q = restB (⟨i.kind, i.name, i.unit, i.a, i.b, i.c, nilM, nilM, i.pl⟩ : It).name (⟨i.kind, i.name, i.unit, i.a, i.b, i.c, nilM, nilM, i.pl⟩ : It).unit (⟨i.kind, i.name, i.unit, i.a, i.b, i.c, nilM, nilM, i.pl⟩ : It).a (⟨i.kind, i.name, i.unit, i.a, i.b, i.c, nilM, nilM, i.pl⟩ : It).b (⟨i.kind, i.name, i.unit, i.a, i.b, i.c, nilM, nilM, i.pl⟩ : It).c (⟨i.kind, i.name, i.unit, i.a, i.b, i.c, nilM, nilM, i.pl⟩ : It).x (⟨i.kind, i.name, i.unit, i.a, i.b, i.c, nilM, nilM, i.pl⟩ : It).y) := ⟨_, rfl⟩
  have HI : itemB i = ((q3 && q4) && rr) := by
    unfold itemB
    rw [hk, hrr.out, hq3.out, hq4.out]
    rfl
  rw [HI]
  have h2 := h
  obtain ⟨a1, c1, rfl, -, -⟩ := h.sx.parts.shape
  obtain ⟨a2, c2, rfl, -, -⟩ := h.sy.parts.shape
  have ho := itC_one h
  obtain ⟨X0, XB⟩ := one_box w 32 [.int .i64 i.kind, .string i.name, .string i.unit, .int .i64 i.a, .int .i64 i.b, .int .i64 i.c, .int .i64 i.x.kind, .string i.x.text, .int .i64 i.x.n, .int .i64 i.x.m, .int .i64 i.x.pl, .slice a1 i.x.parts.length c1, .int .i64 i.y.kind, .string i.y.text, .int .i64 i.y.n, .int .i64 i.y.m, .int .i64 i.y.pl, .slice a2 i.y.parts.length c2, .int .i64 i.pl]
  have BX := hid2 X0
  have BB := hid2 XB
  have BS : Hid ((w.alloc (.cells [.int .i64 i.kind, .string i.name, .string i.unit, .int .i64 i.a, .int .i64 i.b, .int .i64 i.c, .int .i64 i.x.kind, .string i.x.text, .int .i64 i.x.n, .int .i64 i.x.m, .int .i64 i.x.pl, .slice a1 i.x.parts.length c1, .int .i64 i.y.kind, .string i.y.text, .int .i64 i.y.n, .int .i64 i.y.m, .int .i64 i.y.pl, .slice a2 i.y.parts.length c2, .int .i64 i.pl].toArray 32)).heap.size = w.heap.size + 1) := by show _ = _; simp
  obtain ⟨X, hX⟩ : ∃ X : Array Value, Hid (X = [.int .i64 i.kind, .string i.name, .string i.unit, .int .i64 i.a, .int .i64 i.b, .int .i64 i.c, .int .i64 i.x.kind, .string i.x.text, .int .i64 i.x.n, .int .i64 i.x.m, .int .i64 i.x.pl, .slice a1 i.x.parts.length c1, .int .i64 i.y.kind, .string i.y.text, .int .i64 i.y.n, .int .i64 i.y.m, .int .i64 i.y.pl, .slice a2 i.y.parts.length c2, .int .i64 i.pl].toArray) := ⟨_, rfl⟩
  have o1 : Hid (X.all (·.oneCell') = true) := by rw [hX.out]; exact ho
  have s1 : X.size = 19 := by rw [hX.out]; rfl
  obtain ⟨m, hm⟩ : ∃ m : Nat, Hid (m = 19) := ⟨_, rfl⟩
  have zs : ∀ w, (sizeOf 32).run Tryd.prog w = .ok m w := by rw [hm.out]; exact Tryd.sizeOf32
  have zm : (19 = m) = True := eq_true hm.out.symm
  have HK := hid2 hk
  clear h ho X0 XB HI hTabs hk hq3 hq4
  go_enter Tryd.func43, Tryd.ntmps43
  go_wp2_with fail
  generalize hw1 : w.alloc _ = w1 at BX BB BS ⊢
  clear hw1
  have HL := hid2 (fun wx (hb : Below w1.heap.size w1 wx) => ld_bx (BX.out.next hb) hX.out (hm.out.trans (show 19 = _ from rfl)))
  have stA := st_itd w1 s1 o1.out
  unfold zeroI at stA
  rw [BS.out] at stA
  have e1 : w1.heap.size = w.heap.size + 1 := BS.out
  go_region_held3 (fun w' => (loadCellsFrom ⟨w.heap.size, 0, none⟩ 0 m #[]).run Tryd.prog w' = .ok X w') (first | exact HL.out _ (below_drewN (Below.refl _ _) _) | exact HL.out _ (below_drewN ((Below.refl _ _).alloc (Nat.le_refl _) _) 1) | exact HL.out _ ((Below.refl _ _).alloc (Nat.le_refl _) _)) (fail)
  have P : Hid (Box (w1.alloc (.cells X 32)).drew w.heap.size [.int .i64 i.kind, .string i.name, .string i.unit, .int .i64 i.a, .int .i64 i.b, .int .i64 i.c, .int .i64 i.x.kind, .string i.x.text, .int .i64 i.x.n, .int .i64 i.x.m, .int .i64 i.x.pl, .slice a1 i.x.parts.length c1, .int .i64 i.y.kind, .string i.y.text, .int .i64 i.y.n, .int .i64 i.y.m, .int .i64 i.y.pl, .slice a2 i.y.parts.length c2, .int .i64 i.pl]) := (BX.out.next ((Below.refl _ _).alloc (Nat.le_refl _) _)).next (below_drewN (Below.refl _ _) 1)
  have R0 := (Box.new w1 [.int .i64 i.kind, .string i.name, .string i.unit, .int .i64 i.a, .int .i64 i.b, .int .i64 i.c, .int .i64 i.x.kind, .string i.x.text, .int .i64 i.x.n, .int .i64 i.x.m, .int .i64 i.x.pl, .slice a1 i.x.parts.length c1, .int .i64 i.y.kind, .string i.y.text, .int .i64 i.y.n, .int .i64 i.y.m, .int .i64 i.y.pl, .slice a2 i.y.parts.length c2, .int .i64 i.pl] 32).next (below_drewN (Below.refl _ _) 1)
  rw [e1] at R0
  have R : Hid (Box (w1.alloc (.cells X 32)).drew (w.heap.size + 1) [.int .i64 i.kind, .string i.name, .string i.unit, .int .i64 i.a, .int .i64 i.b, .int .i64 i.c, .int .i64 i.x.kind, .string i.x.text, .int .i64 i.x.n, .int .i64 i.x.m, .int .i64 i.x.pl, .slice a1 i.x.parts.length c1, .int .i64 i.y.kind, .string i.y.text, .int .i64 i.y.n, .int .i64 i.y.m, .int .i64 i.y.pl, .slice a2 i.y.parts.length c2, .int .i64 i.pl]) := by rw [hX.out]; exact R0
  have B : Hid (Below w.heap.size w (w1.alloc (.cells X 32)).drew) := below_drewN (BB.out.alloc BB.out.size _) 1
  clear R0 BX BB BS HL stA e1 s1 o1 hX
  generalize (w1.alloc (.cells X 32)).drew = w2 at P R B ⊢
  have hk := HK.out
  have k0 := P.out.cell 0 _ rfl
  have k6 := P.out.cell 6 _ rfl
  have k7 := P.out.cell 7 _ rfl
  have k8 := P.out.cell 8 _ rfl
  have k9 := P.out.cell 9 _ rfl
  have k10 := P.out.cell 10 _ rfl
  have k11 := P.out.cell 11 _ rfl
  have lp := P.out.lt
  go_wp2_with fail
  refine Calls.mono (HF.out _ B.out) ?_
  rintro e w2n ⟨rfl, b⟩
  replace B := hid2 (below_on B.out b B.out.size)
  replace P := hid2 (P.out.next b)
  replace R := hid2 (R.out.next b)
  clear b lp k6 k7 k8 k9 k10 k11
  cases q3
  · have r6 := R.out.cell 6 _ rfl
    have f6 := R.out.free 6 (by simp)
    have r7 := R.out.cell 7 _ rfl
    have f7 := R.out.free 7 (by simp)
    have r8 := R.out.cell 8 _ rfl
    have f8 := R.out.free 8 (by simp)
    have r9 := R.out.cell 9 _ rfl
    have f9 := R.out.free 9 (by simp)
    have r10 := R.out.cell 10 _ rfl
    have f10 := R.out.free 10 (by simp)
    have r11 := R.out.cell 11 _ rfl
    have f11 := R.out.free 11 (by simp)
    have r12 := R.out.cell 12 _ rfl
    have f12 := R.out.free 12 (by simp)
    have r13 := R.out.cell 13 _ rfl
    have f13 := R.out.free 13 (by simp)
    have r14 := R.out.cell 14 _ rfl
    have f14 := R.out.free 14 (by simp)
    have r15 := R.out.cell 15 _ rfl
    have f15 := R.out.free 15 (by simp)
    have r16 := R.out.cell 16 _ rfl
    have f16 := R.out.free 16 (by simp)
    have r17 := R.out.cell 17 _ rfl
    have f17 := R.out.free 17 (by simp)
    have BW := hid2 ((((((((((((B.out.setCell (p := ⟨w.heap.size + 1, 6, none⟩) (Nat.le_succ _) (.int .i64 0)).setCell (p := ⟨w.heap.size + 1, 7, none⟩) (Nat.le_succ _) (.string ⟨#[]⟩)).setCell (p := ⟨w.heap.size + 1, 8, none⟩) (Nat.le_succ _) (.int .i64 0)).setCell (p := ⟨w.heap.size + 1, 9, none⟩) (Nat.le_succ _) (.int .i64 0)).setCell (p := ⟨w.heap.size + 1, 10, none⟩) (Nat.le_succ _) (.int .i64 0)).setCell (p := ⟨w.heap.size + 1, 11, none⟩) (Nat.le_succ _) (.slice none 0 0)).setCell (p := ⟨w.heap.size + 1, 12, none⟩) (Nat.le_succ _) (.int .i64 0)).setCell (p := ⟨w.heap.size + 1, 13, none⟩) (Nat.le_succ _) (.string ⟨#[]⟩)).setCell (p := ⟨w.heap.size + 1, 14, none⟩) (Nat.le_succ _) (.int .i64 0)).setCell (p := ⟨w.heap.size + 1, 15, none⟩) (Nat.le_succ _) (.int .i64 0)).setCell (p := ⟨w.heap.size + 1, 16, none⟩) (Nat.le_succ _) (.int .i64 0)).setCell (p := ⟨w.heap.size + 1, 17, none⟩) (Nat.le_succ _) (.slice none 0 0))
    have lr := R.out.lt
    clear P R B h2 hrr
    go_wp2_with fail
    go_ret
    exact ⟨by simp, BW.out⟩
  · have k12 := P.out.cell 12 _ rfl
    have k13 := P.out.cell 13 _ rfl
    have k14 := P.out.cell 14 _ rfl
    have k15 := P.out.cell 15 _ rfl
    have k16 := P.out.cell 16 _ rfl
    have k17 := P.out.cell 17 _ rfl
    have lp := P.out.lt
    go_wp2_with fail
    refine Calls.mono (HA.out _ B.out) ?_
    rintro e w2nn ⟨rfl, b⟩
    replace B := hid2 (below_on B.out b B.out.size)
    replace P := hid2 (P.out.next b)
    replace R := hid2 (R.out.next b)
    clear b lp k12 k13 k14 k15 k16 k17
    cases q4
    · have r6 := R.out.cell 6 _ rfl
      have f6 := R.out.free 6 (by simp)
      have r7 := R.out.cell 7 _ rfl
      have f7 := R.out.free 7 (by simp)
      have r8 := R.out.cell 8 _ rfl
      have f8 := R.out.free 8 (by simp)
      have r9 := R.out.cell 9 _ rfl
      have f9 := R.out.free 9 (by simp)
      have r10 := R.out.cell 10 _ rfl
      have f10 := R.out.free 10 (by simp)
      have r11 := R.out.cell 11 _ rfl
      have f11 := R.out.free 11 (by simp)
      have r12 := R.out.cell 12 _ rfl
      have f12 := R.out.free 12 (by simp)
      have r13 := R.out.cell 13 _ rfl
      have f13 := R.out.free 13 (by simp)
      have r14 := R.out.cell 14 _ rfl
      have f14 := R.out.free 14 (by simp)
      have r15 := R.out.cell 15 _ rfl
      have f15 := R.out.free 15 (by simp)
      have r16 := R.out.cell 16 _ rfl
      have f16 := R.out.free 16 (by simp)
      have r17 := R.out.cell 17 _ rfl
      have f17 := R.out.free 17 (by simp)
      have BW := hid2 ((((((((((((B.out.setCell (p := ⟨w.heap.size + 1, 6, none⟩) (Nat.le_succ _) (.int .i64 0)).setCell (p := ⟨w.heap.size + 1, 7, none⟩) (Nat.le_succ _) (.string ⟨#[]⟩)).setCell (p := ⟨w.heap.size + 1, 8, none⟩) (Nat.le_succ _) (.int .i64 0)).setCell (p := ⟨w.heap.size + 1, 9, none⟩) (Nat.le_succ _) (.int .i64 0)).setCell (p := ⟨w.heap.size + 1, 10, none⟩) (Nat.le_succ _) (.int .i64 0)).setCell (p := ⟨w.heap.size + 1, 11, none⟩) (Nat.le_succ _) (.slice none 0 0)).setCell (p := ⟨w.heap.size + 1, 12, none⟩) (Nat.le_succ _) (.int .i64 0)).setCell (p := ⟨w.heap.size + 1, 13, none⟩) (Nat.le_succ _) (.string ⟨#[]⟩)).setCell (p := ⟨w.heap.size + 1, 14, none⟩) (Nat.le_succ _) (.int .i64 0)).setCell (p := ⟨w.heap.size + 1, 15, none⟩) (Nat.le_succ _) (.int .i64 0)).setCell (p := ⟨w.heap.size + 1, 16, none⟩) (Nat.le_succ _) (.int .i64 0)).setCell (p := ⟨w.heap.size + 1, 17, none⟩) (Nat.le_succ _) (.slice none 0 0))
      have lr := R.out.lt
      clear P R B h2 hrr
      go_wp2_with fail
      go_ret
      exact ⟨by simp, BW.out⟩
    · have r6 := R.out.cell 6 _ rfl
      have f6 := R.out.free 6 (by simp)
      have r7 := R.out.cell 7 _ rfl
      have f7 := R.out.free 7 (by simp)
      have r8 := R.out.cell 8 _ rfl
      have f8 := R.out.free 8 (by simp)
      have r9 := R.out.cell 9 _ rfl
      have f9 := R.out.free 9 (by simp)
      have r10 := R.out.cell 10 _ rfl
      have f10 := R.out.free 10 (by simp)
      have r11 := R.out.cell 11 _ rfl
      have f11 := R.out.free 11 (by simp)
      have r12 := R.out.cell 12 _ rfl
      have f12 := R.out.free 12 (by simp)
      have r13 := R.out.cell 13 _ rfl
      have f13 := R.out.free 13 (by simp)
      have r14 := R.out.cell 14 _ rfl
      have f14 := R.out.free 14 (by simp)
      have r15 := R.out.cell 15 _ rfl
      have f15 := R.out.free 15 (by simp)
      have r16 := R.out.cell 16 _ rfl
      have f16 := R.out.free 16 (by simp)
      have r17 := R.out.cell 17 _ rfl
      have f17 := R.out.free 17 (by simp)
      have BW := ((((((((((((B.out.setCell (p := ⟨w.heap.size + 1, 6, none⟩) (Nat.le_succ _) (.int .i64 0)).setCell (p := ⟨w.heap.size + 1, 7, none⟩) (Nat.le_succ _) (.string ⟨#[]⟩)).setCell (p := ⟨w.heap.size + 1, 8, none⟩) (Nat.le_succ _) (.int .i64 0)).setCell (p := ⟨w.heap.size + 1, 9, none⟩) (Nat.le_succ _) (.int .i64 0)).setCell (p := ⟨w.heap.size + 1, 10, none⟩) (Nat.le_succ _) (.int .i64 0)).setCell (p := ⟨w.heap.size + 1, 11, none⟩) (Nat.le_succ _) (.slice none 0 0)).setCell (p := ⟨w.heap.size + 1, 12, none⟩) (Nat.le_succ _) (.int .i64 0)).setCell (p := ⟨w.heap.size + 1, 13, none⟩) (Nat.le_succ _) (.string ⟨#[]⟩)).setCell (p := ⟨w.heap.size + 1, 14, none⟩) (Nat.le_succ _) (.int .i64 0)).setCell (p := ⟨w.heap.size + 1, 15, none⟩) (Nat.le_succ _) (.int .i64 0)).setCell (p := ⟨w.heap.size + 1, 16, none⟩) (Nat.le_succ _) (.int .i64 0)).setCell (p := ⟨w.heap.size + 1, 17, none⟩) (Nat.le_succ _) (.slice none 0 0))
      have RW : Box ((((((((((((w2nn.setCell ⟨w.heap.size + 1, 6, none⟩ (.int .i64 0)).setCell ⟨w.heap.size + 1, 7, none⟩ (.string ⟨#[]⟩)).setCell ⟨w.heap.size + 1, 8, none⟩ (.int .i64 0)).setCell ⟨w.heap.size + 1, 9, none⟩ (.int .i64 0)).setCell ⟨w.heap.size + 1, 10, none⟩ (.int .i64 0)).setCell ⟨w.heap.size + 1, 11, none⟩ (.slice none 0 0)).setCell ⟨w.heap.size + 1, 12, none⟩ (.int .i64 0)).setCell ⟨w.heap.size + 1, 13, none⟩ (.string ⟨#[]⟩)).setCell ⟨w.heap.size + 1, 14, none⟩ (.int .i64 0)).setCell ⟨w.heap.size + 1, 15, none⟩ (.int .i64 0)).setCell ⟨w.heap.size + 1, 16, none⟩ (.int .i64 0)).setCell ⟨w.heap.size + 1, 17, none⟩ (.slice none 0 0)) (w.heap.size + 1) (itC (⟨i.kind, i.name, i.unit, i.a, i.b, i.c, nilM, nilM, i.pl⟩ : It) (.slice none 0 0) (.slice none 0 0)) := ((((((((((((R.out.set 6 (by simp) (.int .i64 0)).set 7 (by simp) (.string ⟨#[]⟩)).set 8 (by simp) (.int .i64 0)).set 9 (by simp) (.int .i64 0)).set 10 (by simp) (.int .i64 0)).set 11 (by simp) (.slice none 0 0)).set 12 (by simp) (.int .i64 0)).set 13 (by simp) (.string ⟨#[]⟩)).set 14 (by simp) (.int .i64 0)).set 15 (by simp) (.int .i64 0)).set 16 (by simp) (.int .i64 0)).set 17 (by simp) (.slice none 0 0))
      have hit : ItAt z ((((((((((((w2nn.setCell ⟨w.heap.size + 1, 6, none⟩ (.int .i64 0)).setCell ⟨w.heap.size + 1, 7, none⟩ (.string ⟨#[]⟩)).setCell ⟨w.heap.size + 1, 8, none⟩ (.int .i64 0)).setCell ⟨w.heap.size + 1, 9, none⟩ (.int .i64 0)).setCell ⟨w.heap.size + 1, 10, none⟩ (.int .i64 0)).setCell ⟨w.heap.size + 1, 11, none⟩ (.slice none 0 0)).setCell ⟨w.heap.size + 1, 12, none⟩ (.int .i64 0)).setCell ⟨w.heap.size + 1, 13, none⟩ (.string ⟨#[]⟩)).setCell ⟨w.heap.size + 1, 14, none⟩ (.int .i64 0)).setCell ⟨w.heap.size + 1, 15, none⟩ (.int .i64 0)).setCell ⟨w.heap.size + 1, 16, none⟩ (.int .i64 0)).setCell ⟨w.heap.size + 1, 17, none⟩ (.slice none 0 0)) (⟨i.kind, i.name, i.unit, i.a, i.b, i.c, nilM, nilM, i.pl⟩ : It) (.slice none 0 0) (.slice none 0 0) := (⟨sits_nilM _, sits_nilM _, h2.nm, h2.un⟩ : ItAt z _ (⟨i.kind, i.name, i.unit, i.a, i.b, i.c, nilM, nilM, i.pl⟩ : It) _ _)
      obtain ⟨X2, hX2⟩ : ∃ X : Array Value, Hid (X = (itC (⟨i.kind, i.name, i.unit, i.a, i.b, i.c, nilM, nilM, i.pl⟩ : It) (.slice none 0 0) (.slice none 0 0)).toArray) := ⟨_, rfl⟩
      have ldB := ld_bx RW hX2.out (hm.out.trans (show 19 = _ from rfl))
      have HZ : Hid (Calls Tryd.prog 72 #[.agg X2] ((((((((((((w2nn.setCell ⟨w.heap.size + 1, 6, none⟩ (.int .i64 0)).setCell ⟨w.heap.size + 1, 7, none⟩ (.string ⟨#[]⟩)).setCell ⟨w.heap.size + 1, 8, none⟩ (.int .i64 0)).setCell ⟨w.heap.size + 1, 9, none⟩ (.int .i64 0)).setCell ⟨w.heap.size + 1, 10, none⟩ (.int .i64 0)).setCell ⟨w.heap.size + 1, 11, none⟩ (.slice none 0 0)).setCell ⟨w.heap.size + 1, 12, none⟩ (.int .i64 0)).setCell ⟨w.heap.size + 1, 13, none⟩ (.string ⟨#[]⟩)).setCell ⟨w.heap.size + 1, 14, none⟩ (.int .i64 0)).setCell ⟨w.heap.size + 1, 15, none⟩ (.int .i64 0)).setCell ⟨w.heap.size + 1, 16, none⟩ (.int .i64 0)).setCell ⟨w.heap.size + 1, 17, none⟩ (.slice none 0 0)) fun e w' => e = .returned (.bool rr) ∧ Hid (Below w.heap.size w w')) := by
        rw [hX2.out, hrr.out]
        exact (zeroItem_c (⟨i.kind, i.name, i.unit, i.a, i.b, i.c, nilM, nilM, i.pl⟩ : It) (.slice none 0 0) (.slice none 0 0) _ hit).mono fun e w' hh => ⟨hh.1, below_on BW hh.2 BW.size⟩
      have hs2 : X2.size = 19 := by rw [hX2.out]; rfl
      have lr := R.out.lt
      clear RW hit BW h2 hrr hX2 P R B
      go_wp2_with fail
      refine Calls.mono HZ.out ?_
      rintro e w9 ⟨rfl, B9⟩
      go_wp2_with fail
      go_ret
      exact ⟨by simp, B9.out⟩

set_option maxRecDepth 20000 in
set_option maxHeartbeats 4000000 in
theorem fItem_g {z : Nat} (hz : z ≤ 562949953421312) (i : It) (hk : i.kind = 7) (vx vy : Value) (w : World) (h : ItAt z w i vx vy) (hTabs : TabsAt w) : Calls Tryd.prog 43 #[itA i vx vy] w fun e w' => e = .returned (.bool (itemB i)) ∧ Below w.heap.size w w' := by
  obtain ⟨q4, hq4⟩ : ∃ q : Bool, Hid (q = actionB i.y) := ⟨_, rfl⟩
  have HA : Hid (∀ wx, Below w.heap.size w wx → Calls Tryd.prog 13 #[tmV i.y vy] wx fun e w' => e = .returned (.bool (actionB i.y)) ∧ Below wx.heap.size wx w') := fun wx hb => action_all hz i.y vy wx (h.sy.next hb) (hTabs.next hb)
  rw [← hq4.out] at HA
  obtain ⟨rr, hrr⟩ : ∃ q : Bool, Hid (q = restB (⟨i.kind, i.name, i.unit, i.a, i.b, i.c, i.x, nilM, i.pl⟩ : It).name (⟨i.kind, i.name, i.unit, i.a, i.b, i.c, i.x, nilM, i.pl⟩ : It).unit (⟨i.kind, i.name, i.unit, i.a, i.b, i.c, i.x, nilM, i.pl⟩ : It).a (⟨i.kind, i.name, i.unit, i.a, i.b, i.c, i.x, nilM, i.pl⟩ : It).b (⟨i.kind, i.name, i.unit, i.a, i.b, i.c, i.x, nilM, i.pl⟩ : It).c (⟨i.kind, i.name, i.unit, i.a, i.b, i.c, i.x, nilM, i.pl⟩ : It).x (⟨i.kind, i.name, i.unit, i.a, i.b, i.c, i.x, nilM, i.pl⟩ : It).y) := ⟨_, rfl⟩
  have HI : itemB i = ((q4) && rr) := by
    unfold itemB
    rw [hk, hrr.out, hq4.out]
    rfl
  rw [HI]
  have h2 := h
  obtain ⟨a1, c1, rfl, -, -⟩ := h.sx.parts.shape
  obtain ⟨a2, c2, rfl, -, -⟩ := h.sy.parts.shape
  have ho := itC_one h
  obtain ⟨X0, XB⟩ := one_box w 32 [.int .i64 i.kind, .string i.name, .string i.unit, .int .i64 i.a, .int .i64 i.b, .int .i64 i.c, .int .i64 i.x.kind, .string i.x.text, .int .i64 i.x.n, .int .i64 i.x.m, .int .i64 i.x.pl, .slice a1 i.x.parts.length c1, .int .i64 i.y.kind, .string i.y.text, .int .i64 i.y.n, .int .i64 i.y.m, .int .i64 i.y.pl, .slice a2 i.y.parts.length c2, .int .i64 i.pl]
  have BX := hid2 X0
  have BB := hid2 XB
  have BS : Hid ((w.alloc (.cells [.int .i64 i.kind, .string i.name, .string i.unit, .int .i64 i.a, .int .i64 i.b, .int .i64 i.c, .int .i64 i.x.kind, .string i.x.text, .int .i64 i.x.n, .int .i64 i.x.m, .int .i64 i.x.pl, .slice a1 i.x.parts.length c1, .int .i64 i.y.kind, .string i.y.text, .int .i64 i.y.n, .int .i64 i.y.m, .int .i64 i.y.pl, .slice a2 i.y.parts.length c2, .int .i64 i.pl].toArray 32)).heap.size = w.heap.size + 1) := by show _ = _; simp
  obtain ⟨X, hX⟩ : ∃ X : Array Value, Hid (X = [.int .i64 i.kind, .string i.name, .string i.unit, .int .i64 i.a, .int .i64 i.b, .int .i64 i.c, .int .i64 i.x.kind, .string i.x.text, .int .i64 i.x.n, .int .i64 i.x.m, .int .i64 i.x.pl, .slice a1 i.x.parts.length c1, .int .i64 i.y.kind, .string i.y.text, .int .i64 i.y.n, .int .i64 i.y.m, .int .i64 i.y.pl, .slice a2 i.y.parts.length c2, .int .i64 i.pl].toArray) := ⟨_, rfl⟩
  have o1 : Hid (X.all (·.oneCell') = true) := by rw [hX.out]; exact ho
  have s1 : X.size = 19 := by rw [hX.out]; rfl
  obtain ⟨m, hm⟩ : ∃ m : Nat, Hid (m = 19) := ⟨_, rfl⟩
  have zs : ∀ w, (sizeOf 32).run Tryd.prog w = .ok m w := by rw [hm.out]; exact Tryd.sizeOf32
  have zm : (19 = m) = True := eq_true hm.out.symm
  have HK := hid2 hk
  clear h ho X0 XB HI hTabs hk hq4
  go_enter Tryd.func43, Tryd.ntmps43
  go_wp2_with fail
  generalize hw1 : w.alloc _ = w1 at BX BB BS ⊢
  clear hw1
  have HL := hid2 (fun wx (hb : Below w1.heap.size w1 wx) => ld_bx (BX.out.next hb) hX.out (hm.out.trans (show 19 = _ from rfl)))
  have stA := st_itd w1 s1 o1.out
  unfold zeroI at stA
  rw [BS.out] at stA
  have e1 : w1.heap.size = w.heap.size + 1 := BS.out
  go_region_held3 (fun w' => (loadCellsFrom ⟨w.heap.size, 0, none⟩ 0 m #[]).run Tryd.prog w' = .ok X w') (first | exact HL.out _ (below_drewN (Below.refl _ _) _) | exact HL.out _ (below_drewN ((Below.refl _ _).alloc (Nat.le_refl _) _) 1) | exact HL.out _ ((Below.refl _ _).alloc (Nat.le_refl _) _)) (fail)
  have P : Hid (Box (w1.alloc (.cells X 32)).drew w.heap.size [.int .i64 i.kind, .string i.name, .string i.unit, .int .i64 i.a, .int .i64 i.b, .int .i64 i.c, .int .i64 i.x.kind, .string i.x.text, .int .i64 i.x.n, .int .i64 i.x.m, .int .i64 i.x.pl, .slice a1 i.x.parts.length c1, .int .i64 i.y.kind, .string i.y.text, .int .i64 i.y.n, .int .i64 i.y.m, .int .i64 i.y.pl, .slice a2 i.y.parts.length c2, .int .i64 i.pl]) := (BX.out.next ((Below.refl _ _).alloc (Nat.le_refl _) _)).next (below_drewN (Below.refl _ _) 1)
  have R0 := (Box.new w1 [.int .i64 i.kind, .string i.name, .string i.unit, .int .i64 i.a, .int .i64 i.b, .int .i64 i.c, .int .i64 i.x.kind, .string i.x.text, .int .i64 i.x.n, .int .i64 i.x.m, .int .i64 i.x.pl, .slice a1 i.x.parts.length c1, .int .i64 i.y.kind, .string i.y.text, .int .i64 i.y.n, .int .i64 i.y.m, .int .i64 i.y.pl, .slice a2 i.y.parts.length c2, .int .i64 i.pl] 32).next (below_drewN (Below.refl _ _) 1)
  rw [e1] at R0
  have R : Hid (Box (w1.alloc (.cells X 32)).drew (w.heap.size + 1) [.int .i64 i.kind, .string i.name, .string i.unit, .int .i64 i.a, .int .i64 i.b, .int .i64 i.c, .int .i64 i.x.kind, .string i.x.text, .int .i64 i.x.n, .int .i64 i.x.m, .int .i64 i.x.pl, .slice a1 i.x.parts.length c1, .int .i64 i.y.kind, .string i.y.text, .int .i64 i.y.n, .int .i64 i.y.m, .int .i64 i.y.pl, .slice a2 i.y.parts.length c2, .int .i64 i.pl]) := by rw [hX.out]; exact R0
  have B : Hid (Below w.heap.size w (w1.alloc (.cells X 32)).drew) := below_drewN (BB.out.alloc BB.out.size _) 1
  clear R0 BX BB BS HL stA e1 s1 o1 hX
  generalize (w1.alloc (.cells X 32)).drew = w2 at P R B ⊢
  have hk := HK.out
  have k0 := P.out.cell 0 _ rfl
  have k12 := P.out.cell 12 _ rfl
  have k13 := P.out.cell 13 _ rfl
  have k14 := P.out.cell 14 _ rfl
  have k15 := P.out.cell 15 _ rfl
  have k16 := P.out.cell 16 _ rfl
  have k17 := P.out.cell 17 _ rfl
  have lp := P.out.lt
  go_wp2_with fail
  refine Calls.mono (HA.out _ B.out) ?_
  rintro e w2n ⟨rfl, b⟩
  replace B := hid2 (below_on B.out b B.out.size)
  replace P := hid2 (P.out.next b)
  replace R := hid2 (R.out.next b)
  clear b lp k12 k13 k14 k15 k16 k17
  cases q4
  · have r12 := R.out.cell 12 _ rfl
    have f12 := R.out.free 12 (by simp)
    have r13 := R.out.cell 13 _ rfl
    have f13 := R.out.free 13 (by simp)
    have r14 := R.out.cell 14 _ rfl
    have f14 := R.out.free 14 (by simp)
    have r15 := R.out.cell 15 _ rfl
    have f15 := R.out.free 15 (by simp)
    have r16 := R.out.cell 16 _ rfl
    have f16 := R.out.free 16 (by simp)
    have r17 := R.out.cell 17 _ rfl
    have f17 := R.out.free 17 (by simp)
    have BW := hid2 ((((((B.out.setCell (p := ⟨w.heap.size + 1, 12, none⟩) (Nat.le_succ _) (.int .i64 0)).setCell (p := ⟨w.heap.size + 1, 13, none⟩) (Nat.le_succ _) (.string ⟨#[]⟩)).setCell (p := ⟨w.heap.size + 1, 14, none⟩) (Nat.le_succ _) (.int .i64 0)).setCell (p := ⟨w.heap.size + 1, 15, none⟩) (Nat.le_succ _) (.int .i64 0)).setCell (p := ⟨w.heap.size + 1, 16, none⟩) (Nat.le_succ _) (.int .i64 0)).setCell (p := ⟨w.heap.size + 1, 17, none⟩) (Nat.le_succ _) (.slice none 0 0))
    have lr := R.out.lt
    clear P R B h2 hrr
    go_wp2_with fail
    go_ret
    exact ⟨by simp, BW.out⟩
  · have r12 := R.out.cell 12 _ rfl
    have f12 := R.out.free 12 (by simp)
    have r13 := R.out.cell 13 _ rfl
    have f13 := R.out.free 13 (by simp)
    have r14 := R.out.cell 14 _ rfl
    have f14 := R.out.free 14 (by simp)
    have r15 := R.out.cell 15 _ rfl
    have f15 := R.out.free 15 (by simp)
    have r16 := R.out.cell 16 _ rfl
    have f16 := R.out.free 16 (by simp)
    have r17 := R.out.cell 17 _ rfl
    have f17 := R.out.free 17 (by simp)
    have BW := ((((((B.out.setCell (p := ⟨w.heap.size + 1, 12, none⟩) (Nat.le_succ _) (.int .i64 0)).setCell (p := ⟨w.heap.size + 1, 13, none⟩) (Nat.le_succ _) (.string ⟨#[]⟩)).setCell (p := ⟨w.heap.size + 1, 14, none⟩) (Nat.le_succ _) (.int .i64 0)).setCell (p := ⟨w.heap.size + 1, 15, none⟩) (Nat.le_succ _) (.int .i64 0)).setCell (p := ⟨w.heap.size + 1, 16, none⟩) (Nat.le_succ _) (.int .i64 0)).setCell (p := ⟨w.heap.size + 1, 17, none⟩) (Nat.le_succ _) (.slice none 0 0))
    have RW : Box ((((((w2n.setCell ⟨w.heap.size + 1, 12, none⟩ (.int .i64 0)).setCell ⟨w.heap.size + 1, 13, none⟩ (.string ⟨#[]⟩)).setCell ⟨w.heap.size + 1, 14, none⟩ (.int .i64 0)).setCell ⟨w.heap.size + 1, 15, none⟩ (.int .i64 0)).setCell ⟨w.heap.size + 1, 16, none⟩ (.int .i64 0)).setCell ⟨w.heap.size + 1, 17, none⟩ (.slice none 0 0)) (w.heap.size + 1) (itC (⟨i.kind, i.name, i.unit, i.a, i.b, i.c, i.x, nilM, i.pl⟩ : It) (.slice a1 i.x.parts.length c1) (.slice none 0 0)) := ((((((R.out.set 12 (by simp) (.int .i64 0)).set 13 (by simp) (.string ⟨#[]⟩)).set 14 (by simp) (.int .i64 0)).set 15 (by simp) (.int .i64 0)).set 16 (by simp) (.int .i64 0)).set 17 (by simp) (.slice none 0 0))
    have hit : ItAt z ((((((w2n.setCell ⟨w.heap.size + 1, 12, none⟩ (.int .i64 0)).setCell ⟨w.heap.size + 1, 13, none⟩ (.string ⟨#[]⟩)).setCell ⟨w.heap.size + 1, 14, none⟩ (.int .i64 0)).setCell ⟨w.heap.size + 1, 15, none⟩ (.int .i64 0)).setCell ⟨w.heap.size + 1, 16, none⟩ (.int .i64 0)).setCell ⟨w.heap.size + 1, 17, none⟩ (.slice none 0 0)) (⟨i.kind, i.name, i.unit, i.a, i.b, i.c, i.x, nilM, i.pl⟩ : It) (.slice a1 i.x.parts.length c1) (.slice none 0 0) := (⟨h2.sx.next BW, sits_nilM _, h2.nm, h2.un⟩ : ItAt z _ (⟨i.kind, i.name, i.unit, i.a, i.b, i.c, i.x, nilM, i.pl⟩ : It) _ _)
    obtain ⟨X2, hX2⟩ : ∃ X : Array Value, Hid (X = (itC (⟨i.kind, i.name, i.unit, i.a, i.b, i.c, i.x, nilM, i.pl⟩ : It) (.slice a1 i.x.parts.length c1) (.slice none 0 0)).toArray) := ⟨_, rfl⟩
    have ldB := ld_bx RW hX2.out (hm.out.trans (show 19 = _ from rfl))
    have HZ : Hid (Calls Tryd.prog 72 #[.agg X2] ((((((w2n.setCell ⟨w.heap.size + 1, 12, none⟩ (.int .i64 0)).setCell ⟨w.heap.size + 1, 13, none⟩ (.string ⟨#[]⟩)).setCell ⟨w.heap.size + 1, 14, none⟩ (.int .i64 0)).setCell ⟨w.heap.size + 1, 15, none⟩ (.int .i64 0)).setCell ⟨w.heap.size + 1, 16, none⟩ (.int .i64 0)).setCell ⟨w.heap.size + 1, 17, none⟩ (.slice none 0 0)) fun e w' => e = .returned (.bool rr) ∧ Hid (Below w.heap.size w w')) := by
      rw [hX2.out, hrr.out]
      exact (zeroItem_c (⟨i.kind, i.name, i.unit, i.a, i.b, i.c, i.x, nilM, i.pl⟩ : It) (.slice a1 i.x.parts.length c1) (.slice none 0 0) _ hit).mono fun e w' hh => ⟨hh.1, below_on BW hh.2 BW.size⟩
    have hs2 : X2.size = 19 := by rw [hX2.out]; rfl
    have lr := R.out.lt
    clear RW hit BW h2 hrr hX2 P R B
    go_wp2_with fail
    refine Calls.mono HZ.out ?_
    rintro e w9 ⟨rfl, B9⟩
    go_wp2_with fail
    go_ret
    exact ⟨by simp, B9.out⟩

set_option maxRecDepth 20000 in
set_option maxHeartbeats 4000000 in
theorem fItem_o {z : Nat} (_hz : z ≤ 562949953421312) (i : It) (hk : ¬ (1 ≤ i.kind ∧ i.kind ≤ 7)) (vx vy : Value) (w : World) (h : ItAt z w i vx vy) (_hTabs : TabsAt w) : Calls Tryd.prog 43 #[itA i vx vy] w fun e w' => e = .returned (.bool (itemB i)) ∧ Below w.heap.size w w' := by
  obtain ⟨rr, hrr⟩ : ∃ q : Bool, Hid (q = restB (i : It).name (i : It).unit (i : It).a (i : It).b (i : It).c (i : It).x (i : It).y) := ⟨_, rfl⟩
  have HI : itemB i = false := by
    unfold itemB
    rw [if_neg (by omega), if_neg (by omega), if_neg (by omega), if_neg (by omega), if_neg (by omega), if_neg (by omega)]
  rw [HI]
  have h2 := h
  obtain ⟨a1, c1, rfl, -, -⟩ := h.sx.parts.shape
  obtain ⟨a2, c2, rfl, -, -⟩ := h.sy.parts.shape
  have ho := itC_one h
  obtain ⟨X0, XB⟩ := one_box w 32 [.int .i64 i.kind, .string i.name, .string i.unit, .int .i64 i.a, .int .i64 i.b, .int .i64 i.c, .int .i64 i.x.kind, .string i.x.text, .int .i64 i.x.n, .int .i64 i.x.m, .int .i64 i.x.pl, .slice a1 i.x.parts.length c1, .int .i64 i.y.kind, .string i.y.text, .int .i64 i.y.n, .int .i64 i.y.m, .int .i64 i.y.pl, .slice a2 i.y.parts.length c2, .int .i64 i.pl]
  have BX := hid2 X0
  have BB := hid2 XB
  have BS : Hid ((w.alloc (.cells [.int .i64 i.kind, .string i.name, .string i.unit, .int .i64 i.a, .int .i64 i.b, .int .i64 i.c, .int .i64 i.x.kind, .string i.x.text, .int .i64 i.x.n, .int .i64 i.x.m, .int .i64 i.x.pl, .slice a1 i.x.parts.length c1, .int .i64 i.y.kind, .string i.y.text, .int .i64 i.y.n, .int .i64 i.y.m, .int .i64 i.y.pl, .slice a2 i.y.parts.length c2, .int .i64 i.pl].toArray 32)).heap.size = w.heap.size + 1) := by show _ = _; simp
  obtain ⟨X, hX⟩ : ∃ X : Array Value, Hid (X = [.int .i64 i.kind, .string i.name, .string i.unit, .int .i64 i.a, .int .i64 i.b, .int .i64 i.c, .int .i64 i.x.kind, .string i.x.text, .int .i64 i.x.n, .int .i64 i.x.m, .int .i64 i.x.pl, .slice a1 i.x.parts.length c1, .int .i64 i.y.kind, .string i.y.text, .int .i64 i.y.n, .int .i64 i.y.m, .int .i64 i.y.pl, .slice a2 i.y.parts.length c2, .int .i64 i.pl].toArray) := ⟨_, rfl⟩
  have o1 : Hid (X.all (·.oneCell') = true) := by rw [hX.out]; exact ho
  have s1 : X.size = 19 := by rw [hX.out]; rfl
  obtain ⟨m, hm⟩ : ∃ m : Nat, Hid (m = 19) := ⟨_, rfl⟩
  have zs : ∀ w, (sizeOf 32).run Tryd.prog w = .ok m w := by rw [hm.out]; exact Tryd.sizeOf32
  have zm : (19 = m) = True := eq_true hm.out.symm
  have HK := hid2 hk
  clear h ho X0 XB HI hk
  go_enter Tryd.func43, Tryd.ntmps43
  go_wp2_with fail
  generalize hw1 : w.alloc _ = w1 at BX BB BS ⊢
  clear hw1
  have HL := hid2 (fun wx (hb : Below w1.heap.size w1 wx) => ld_bx (BX.out.next hb) hX.out (hm.out.trans (show 19 = _ from rfl)))
  have stA := st_itd w1 s1 o1.out
  unfold zeroI at stA
  rw [BS.out] at stA
  have e1 : w1.heap.size = w.heap.size + 1 := BS.out
  go_region_held3 (fun w' => (loadCellsFrom ⟨w.heap.size, 0, none⟩ 0 m #[]).run Tryd.prog w' = .ok X w') (first | exact HL.out _ (below_drewN (Below.refl _ _) _) | exact HL.out _ (below_drewN ((Below.refl _ _).alloc (Nat.le_refl _) _) 1) | exact HL.out _ ((Below.refl _ _).alloc (Nat.le_refl _) _)) (fail)
  have P : Hid (Box (w1.alloc (.cells X 32)).drew w.heap.size [.int .i64 i.kind, .string i.name, .string i.unit, .int .i64 i.a, .int .i64 i.b, .int .i64 i.c, .int .i64 i.x.kind, .string i.x.text, .int .i64 i.x.n, .int .i64 i.x.m, .int .i64 i.x.pl, .slice a1 i.x.parts.length c1, .int .i64 i.y.kind, .string i.y.text, .int .i64 i.y.n, .int .i64 i.y.m, .int .i64 i.y.pl, .slice a2 i.y.parts.length c2, .int .i64 i.pl]) := (BX.out.next ((Below.refl _ _).alloc (Nat.le_refl _) _)).next (below_drewN (Below.refl _ _) 1)
  have R0 := (Box.new w1 [.int .i64 i.kind, .string i.name, .string i.unit, .int .i64 i.a, .int .i64 i.b, .int .i64 i.c, .int .i64 i.x.kind, .string i.x.text, .int .i64 i.x.n, .int .i64 i.x.m, .int .i64 i.x.pl, .slice a1 i.x.parts.length c1, .int .i64 i.y.kind, .string i.y.text, .int .i64 i.y.n, .int .i64 i.y.m, .int .i64 i.y.pl, .slice a2 i.y.parts.length c2, .int .i64 i.pl] 32).next (below_drewN (Below.refl _ _) 1)
  rw [e1] at R0
  have R : Hid (Box (w1.alloc (.cells X 32)).drew (w.heap.size + 1) [.int .i64 i.kind, .string i.name, .string i.unit, .int .i64 i.a, .int .i64 i.b, .int .i64 i.c, .int .i64 i.x.kind, .string i.x.text, .int .i64 i.x.n, .int .i64 i.x.m, .int .i64 i.x.pl, .slice a1 i.x.parts.length c1, .int .i64 i.y.kind, .string i.y.text, .int .i64 i.y.n, .int .i64 i.y.m, .int .i64 i.y.pl, .slice a2 i.y.parts.length c2, .int .i64 i.pl]) := by rw [hX.out]; exact R0
  have B : Hid (Below w.heap.size w (w1.alloc (.cells X 32)).drew) := below_drewN (BB.out.alloc BB.out.size _) 1
  clear R0 BX BB BS HL stA e1 s1 o1 hX
  generalize (w1.alloc (.cells X 32)).drew = w2 at P R B ⊢
  have hk := HK.out
  have k0 := P.out.cell 0 _ rfl
  have d1 : (i.kind == 1) = false := by simp; omega
  have d2 : (i.kind == 2) = false := by simp; omega
  have d3 : (i.kind == 3) = false := by simp; omega
  have d4 : (i.kind == 4) = false := by simp; omega
  have d5 : (i.kind == 5) = false := by simp; omega
  have d6 : (i.kind == 6) = false := by simp; omega
  have d7 : (i.kind == 7) = false := by simp; omega
  have lp := P.out.lt
  clear h2 hrr R hk P
  go_wp2_with fail
  go_ret
  exact ⟨rfl, B.out⟩

theorem formedItem_c {z : Nat} (hz : z ≤ 562949953421312) (i : It) (vx vy : Value) (w : World) (h : ItAt z w i vx vy) (hTabs : TabsAt w) : Calls Tryd.prog 43 #[itA i vx vy] w fun e w' => e = .returned (.bool (itemB i)) ∧ Below w.heap.size w w' := by
  by_cases h0 : 1 ≤ i.kind ∧ i.kind ≤ 7
  · have hk : i.kind = 1 ∨ i.kind = 2 ∨ i.kind = 3 ∨ i.kind = 4 ∨ i.kind = 5 ∨ i.kind = 6 ∨ i.kind = 7 := by omega
    rcases hk with hk | hk | hk | hk | hk | hk | hk
    · exact fItem_a hz i hk vx vy w h hTabs
    · exact fItem_b hz i hk vx vy w h hTabs
    · exact fItem_c hz i hk vx vy w h hTabs
    · exact fItem_d hz i hk vx vy w h hTabs
    · exact fItem_e hz i hk vx vy w h hTabs
    · exact fItem_f hz i hk vx vy w h hTabs
    · exact fItem_g hz i hk vx vy w h hTabs
  · exact fItem_o hz i h0 vx vy w h hTabs
end Go.Proofs.YtdikeicnefgjcaaDoor
