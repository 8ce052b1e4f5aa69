/- The document's item. -/
import Derived.Test.YtdikeicnefgjcaaDoorTqB
import Derived.Test.YtdikeicnefgjcaaDoorTrU
namespace Go.Proofs.YtdikeicnefgjcaaDoor
open Go.RowKit

theorem noB_nil : noB.toList = [] := by rw [Lib.toList_data]; rfl
theorem void_nil : voidB nilM = true := by
  have h : nilM.text.toList = [] := noB_nil
  unfold voidB
  rw [h]
  rfl
set_option maxRecDepth 20000 in
set_option maxHeartbeats 4000000 in
theorem rItem_a {z : Nat} (hz : z ≤ 1048576) (nm un : ByteArray) (ia ib ic : Int) (x y : Tm) (pl : Int) (vx vy : Value) (w : World) (h : ItAt z w ⟨1, nm, un, ia, ib, ic, x, y, pl⟩ vx vy) : Calls Tryd.prog 45 #[itA ⟨1, nm, un, ia, ib, ic, x, y, pl⟩ vx vy] w fun e w' => e = .returned (.bool (itemB ⟨1, nm, un, ia, ib, ic, x, y, pl⟩)) ∧ Below w.heap.size w w' := by
  have HVX : Hid (∀ wx, Below w.heap.size w wx → Calls Tryd.prog 76 #[tmV x vx] wx fun e w' => e = .returned (.bool (voidB x)) ∧ Below wx.heap.size wx w') := fun wx hb => rVoid_c x vx wx (h.sx.next hb)
  have HVY : Hid (∀ wx, Below w.heap.size w wx → Calls Tryd.prog 76 #[tmV y vy] wx fun e w' => e = .returned (.bool (voidB y)) ∧ Below wx.heap.size wx w') := fun wx hb => rVoid_c y vy wx (h.sy.next hb)
  have HN : Hid (∀ wx, Below w.heap.size w wx → Calls Tryd.prog 44 #[.string nm] wx fun e w' => e = .returned (.bool (isN nm)) ∧ Below wx.heap.size wx w') := fun wx _ => by rw [names_same]; exact rIsName_c nm (Nat.le_trans h.nm hz) wx
  have HT : Hid (∀ wx, Below w.heap.size w wx → Calls Tryd.prog 61 #[.string un, .bool true] wx fun e w' => e = .returned (.bool (txt brk un)) ∧ Below wx.heap.size wx w') := fun wx _ => rText_c un true (Nat.le_trans h.un hz) wx
  have hsx : Sits z w x vx := h.sx
  have hsy : Sits z w y vy := h.sy
  obtain ⟨a1, c1, rfl, -, -⟩ := hsx.parts.shape
  obtain ⟨a2, c2, rfl, -, -⟩ := hsy.parts.shape
  obtain ⟨X0, XB⟩ := one_box w 32 [.int .i64 1, .string nm, .string un, .int .i64 ia, .int .i64 ib, .int .i64 ic, .int .i64 x.kind, .string x.text, .int .i64 x.n, .int .i64 x.m, .int .i64 x.pl, .slice a1 x.parts.length c1, .int .i64 y.kind, .string y.text, .int .i64 y.n, .int .i64 y.m, .int .i64 y.pl, .slice a2 y.parts.length c2, .int .i64 pl]
  have P := hid2 X0
  have B := hid2 XB
  have HB : Hid (∀ o, Below w.heap.size w (w.alloc o)) := fun o => (Below.refl _ _).alloc (Nat.le_refl _) _
  clear X0 XB h hz hsx hsy
  by_cases hE : ib = 0 ∧ ic = 0 ∧ ia = 0
  · have HI : itemB ⟨1, nm, un, ia, ib, ic, x, y, pl⟩ = ((voidB x && voidB y) && (isN nm && txt brk un)) := by
      obtain ⟨rfl, rfl, rfl⟩ := hE
      unfold itemB restB
      simp [noB_nil]
      all_goals (cases voidB x <;> cases voidB y <;> simp)
    rw [HI]
    clear HI
    obtain ⟨rfl, rfl, rfl⟩ := hE
    generalize voidB x = qx at *
    generalize voidB y = qy at *
    generalize isN nm = q1 at *
    generalize txt brk un = q2 at *
    clear HB
    go_enter Tryd.func45, Tryd.ntmps45
    have k6 := P.out.cell 6 _ rfl
    have k7 := P.out.cell 7 _ rfl
    have k8 := P.out.cell 8 _ rfl
    have k9 := P.out.cell 9 _ rfl
    have k10 := P.out.cell 10 _ rfl
    have k11 := P.out.cell 11 _ rfl
    have lp := P.out.lt
    go_wp2_with fail
    refine Calls.mono (HVX.out _ B.out) ?_
    rintro e wn ⟨rfl, bn⟩
    replace B := hid2 (below_on B.out bn B.out.size)
    replace P := hid2 (P.out.next bn)
    clear bn lp k6 k7 k8 k9 k10 k11
    cases qx
    · go_wp2_with fail
      go_ret
      exact ⟨by simp, B.out⟩
    · have k12 := P.out.cell 12 _ rfl
      have k13 := P.out.cell 13 _ rfl
      have k14 := P.out.cell 14 _ rfl
      have k15 := P.out.cell 15 _ rfl
      have k16 := P.out.cell 16 _ rfl
      have k17 := P.out.cell 17 _ rfl
      have lp := P.out.lt
      go_wp2_with fail
      refine Calls.mono (HVY.out _ B.out) ?_
      rintro e wn ⟨rfl, bn⟩
      replace B := hid2 (below_on B.out bn B.out.size)
      replace P := hid2 (P.out.next bn)
      clear bn lp k12 k13 k14 k15 k16 k17
      cases qy
      · go_wp2_with fail
        go_ret
        exact ⟨by simp, B.out⟩
      · have k1 := P.out.cell 1 _ rfl
        have lp := P.out.lt
        go_wp2_with fail
        refine Calls.mono (HN.out _ B.out) ?_
        rintro e wn ⟨rfl, bn⟩
        replace B := hid2 (below_on B.out bn B.out.size)
        replace P := hid2 (P.out.next bn)
        clear bn lp k1
        cases q1
        · go_wp2_with fail
          go_ret
          exact ⟨by simp, B.out⟩
        · have k2 := P.out.cell 2 _ rfl
          have lp := P.out.lt
          go_wp2_with fail
          refine Calls.mono (HT.out _ B.out) ?_
          rintro e wn ⟨rfl, bn⟩
          replace B := hid2 (below_on B.out bn B.out.size)
          replace P := hid2 (P.out.next bn)
          clear bn lp k2
          cases q2
          · go_wp2_with fail
            go_ret
            exact ⟨by simp, B.out⟩
          · go_wp2_with fail
            go_ret
            exact ⟨by simp, B.out⟩
  · have HI : itemB ⟨1, nm, un, ia, ib, ic, x, y, pl⟩ = false := by
      refine Bool.eq_false_iff.2 (fun hh => hE ?_)
      unfold itemB restB at hh
      simp [noB_nil] at hh
      simp_all
    rw [HI]
    have HE2 := hid2 hE
    clear HVX HVY HN HT HI hE P B
    go_enter Tryd.func45, Tryd.ntmps45
    go_wp2_with fail
    all_goals first
      | (go_ret; exact ⟨rfl, HB.out _⟩)
      | (exfalso; exact HE2.out (by simp_all))
set_option maxRecDepth 20000 in
set_option maxHeartbeats 4000000 in
theorem rItem_b {z : Nat} (_hz : z ≤ 1048576) (nm un : ByteArray) (ia ib ic : Int) (x y : Tm) (pl : Int) (vx vy : Value) (w : World) (h : ItAt z w ⟨2, nm, un, ia, ib, ic, x, y, pl⟩ vx vy) : Calls Tryd.prog 45 #[itA ⟨2, nm, un, ia, ib, ic, x, y, pl⟩ vx vy] w fun e w' => e = .returned (.bool (itemB ⟨2, nm, un, ia, ib, ic, x, y, pl⟩)) ∧ Below w.heap.size w w' := by
  have HVX : Hid (∀ wx, Below w.heap.size w wx → Calls Tryd.prog 76 #[tmV x vx] wx fun e w' => e = .returned (.bool (voidB x)) ∧ Below wx.heap.size wx w') := fun wx hb => rVoid_c x vx wx (h.sx.next hb)
  have HVY : Hid (∀ wx, Below w.heap.size w wx → Calls Tryd.prog 76 #[tmV y vy] wx fun e w' => e = .returned (.bool (voidB y)) ∧ Below wx.heap.size wx w') := fun wx hb => rVoid_c y vy wx (h.sy.next hb)
  have hsx : Sits z w x vx := h.sx
  have hsy : Sits z w y vy := h.sy
  obtain ⟨a1, c1, rfl, -, -⟩ := hsx.parts.shape
  obtain ⟨a2, c2, rfl, -, -⟩ := hsy.parts.shape
  obtain ⟨X0, XB⟩ := one_box w 32 [.int .i64 2, .string nm, .string un, .int .i64 ia, .int .i64 ib, .int .i64 ic, .int .i64 x.kind, .string x.text, .int .i64 x.n, .int .i64 x.m, .int .i64 x.pl, .slice a1 x.parts.length c1, .int .i64 y.kind, .string y.text, .int .i64 y.n, .int .i64 y.m, .int .i64 y.pl, .slice a2 y.parts.length c2, .int .i64 pl]
  have P := hid2 X0
  have B := hid2 XB
  have HB : Hid (∀ o, Below w.heap.size w (w.alloc o)) := fun o => (Below.refl _ _).alloc (Nat.le_refl _) _
  clear X0 XB h hsx hsy
  by_cases hE : nm.toList = [] ∧ un.toList = []
  · have HI : itemB ⟨2, nm, un, ia, ib, ic, x, y, pl⟩ = ((voidB x && voidB y) && (decide (0 ≤ ia) && (decide (0 ≤ ib) && decide (0 ≤ ic)))) := by
      obtain ⟨en, eu⟩ := hE
      unfold itemB restB
      simp [en, eu]
      all_goals (cases voidB x <;> cases voidB y <;> simp)
    rw [HI]
    clear HI
    obtain ⟨en, eu⟩ := hE
    generalize voidB x = qx at *
    generalize voidB y = qy at *
    obtain ⟨qf, hqf⟩ : ∃ q : Bool, Hid (q = (decide (0 ≤ ia) && (decide (0 ≤ ib) && decide (0 ≤ ic)))) := ⟨_, hid2 rfl⟩
    rw [← hqf.out]
    clear HB
    go_enter Tryd.func45, Tryd.ntmps45
    have k6 := P.out.cell 6 _ rfl
    have k7 := P.out.cell 7 _ rfl
    have k8 := P.out.cell 8 _ rfl
    have k9 := P.out.cell 9 _ rfl
    have k10 := P.out.cell 10 _ rfl
    have k11 := P.out.cell 11 _ rfl
    have lp := P.out.lt
    go_wp2_with fail
    refine Calls.mono (HVX.out _ B.out) ?_
    rintro e wn ⟨rfl, bn⟩
    replace B := hid2 (below_on B.out bn B.out.size)
    replace P := hid2 (P.out.next bn)
    clear bn lp k6 k7 k8 k9 k10 k11
    cases qx
    · go_wp2_with fail
      go_ret
      exact ⟨by simp, B.out⟩
    · have k12 := P.out.cell 12 _ rfl
      have k13 := P.out.cell 13 _ rfl
      have k14 := P.out.cell 14 _ rfl
      have k15 := P.out.cell 15 _ rfl
      have k16 := P.out.cell 16 _ rfl
      have k17 := P.out.cell 17 _ rfl
      have lp := P.out.lt
      go_wp2_with fail
      refine Calls.mono (HVY.out _ B.out) ?_
      rintro e wn ⟨rfl, bn⟩
      replace B := hid2 (below_on B.out bn B.out.size)
      replace P := hid2 (P.out.next bn)
      clear bn lp k12 k13 k14 k15 k16 k17
      cases qy
      · go_wp2_with fail
        go_ret
        exact ⟨by simp, B.out⟩
      · have k3 := P.out.cell 3 _ rfl
        have k4 := P.out.cell 4 _ rfl
        have k5 := P.out.cell 5 _ rfl
        have lp := P.out.lt
        go_wp2_with fail
        all_goals go_ret
        all_goals refine ⟨?_, B.out⟩
        all_goals (rw [hqf.out]; clear B P; first | (simp [*]; done) | (simp_all; done) | (simp; omega))
  · have HI : itemB ⟨2, nm, un, ia, ib, ic, x, y, pl⟩ = false := by
      refine Bool.eq_false_iff.2 (fun hh => hE ?_)
      unfold itemB restB at hh
      simp at hh
      simp_all
    rw [HI]
    have HE2 := hid2 hE
    clear HVX HVY HI hE P B
    go_enter Tryd.func45, Tryd.ntmps45
    go_wp2_with fail
    all_goals first
      | (go_ret; exact ⟨rfl, HB.out _⟩)
      | (exfalso; exact HE2.out (by simp_all))
set_option maxRecDepth 20000 in
set_option maxHeartbeats 4000000 in
theorem rItem_c {z : Nat} (_hz : z ≤ 1048576) (nm un : ByteArray) (ia ib ic : Int) (x y : Tm) (pl : Int) (vx vy : Value) (w : World) (h : ItAt z w ⟨3, nm, un, ia, ib, ic, x, y, pl⟩ vx vy) : Calls Tryd.prog 45 #[itA ⟨3, nm, un, ia, ib, ic, x, y, pl⟩ vx vy] w fun e w' => e = .returned (.bool (itemB ⟨3, nm, un, ia, ib, ic, x, y, pl⟩)) ∧ Below w.heap.size w w' := by
  have HVX : Hid (∀ wx, Below w.heap.size w wx → Calls Tryd.prog 76 #[tmV x vx] wx fun e w' => e = .returned (.bool (voidB x)) ∧ Below wx.heap.size wx w') := fun wx hb => rVoid_c x vx wx (h.sx.next hb)
  have HVY : Hid (∀ wx, Below w.heap.size w wx → Calls Tryd.prog 76 #[tmV y vy] wx fun e w' => e = .returned (.bool (voidB y)) ∧ Below wx.heap.size wx w') := fun wx hb => rVoid_c y vy wx (h.sy.next hb)
  have hsx : Sits z w x vx := h.sx
  have hsy : Sits z w y vy := h.sy
  obtain ⟨a1, c1, rfl, -, -⟩ := hsx.parts.shape
  obtain ⟨a2, c2, rfl, -, -⟩ := hsy.parts.shape
  obtain ⟨X0, XB⟩ := one_box w 32 [.int .i64 3, .string nm, .string un, .int .i64 ia, .int .i64 ib, .int .i64 ic, .int .i64 x.kind, .string x.text, .int .i64 x.n, .int .i64 x.m, .int .i64 x.pl, .slice a1 x.parts.length c1, .int .i64 y.kind, .string y.text, .int .i64 y.n, .int .i64 y.m, .int .i64 y.pl, .slice a2 y.parts.length c2, .int .i64 pl]
  have P := hid2 X0
  have B := hid2 XB
  have HB : Hid (∀ o, Below w.heap.size w (w.alloc o)) := fun o => (Below.refl _ _).alloc (Nat.le_refl _) _
  clear X0 XB h hsx hsy
  by_cases hE : nm.toList = [] ∧ un.toList = [] ∧ ib = 0 ∧ ic = 0
  · have HI : itemB ⟨3, nm, un, ia, ib, ic, x, y, pl⟩ = ((voidB x && voidB y) && spanB ia) := by
      obtain ⟨en, eu, rfl, rfl⟩ := hE
      unfold itemB restB
      simp [en, eu]
      all_goals (cases voidB x <;> cases voidB y <;> simp)
    rw [HI]
    clear HI
    obtain ⟨en, eu, rfl, rfl⟩ := hE
    generalize voidB x = qx at *
    generalize voidB y = qy at *
    obtain ⟨qf, hqf⟩ : ∃ q : Bool, Hid (q = spanB ia) := ⟨_, hid2 rfl⟩
    rw [← hqf.out]
    clear HB
    go_enter Tryd.func45, Tryd.ntmps45
    have k6 := P.out.cell 6 _ rfl
    have k7 := P.out.cell 7 _ rfl
    have k8 := P.out.cell 8 _ rfl
    have k9 := P.out.cell 9 _ rfl
    have k10 := P.out.cell 10 _ rfl
    have k11 := P.out.cell 11 _ rfl
    have lp := P.out.lt
    go_wp2_with fail
    refine Calls.mono (HVX.out _ B.out) ?_
    rintro e wn ⟨rfl, bn⟩
    replace B := hid2 (below_on B.out bn B.out.size)
    replace P := hid2 (P.out.next bn)
    clear bn lp k6 k7 k8 k9 k10 k11
    cases qx
    · go_wp2_with fail
      go_ret
      exact ⟨by simp, B.out⟩
    · have k12 := P.out.cell 12 _ rfl
      have k13 := P.out.cell 13 _ rfl
      have k14 := P.out.cell 14 _ rfl
      have k15 := P.out.cell 15 _ rfl
      have k16 := P.out.cell 16 _ rfl
      have k17 := P.out.cell 17 _ rfl
      have lp := P.out.lt
      go_wp2_with fail
      refine Calls.mono (HVY.out _ B.out) ?_
      rintro e wn ⟨rfl, bn⟩
      replace B := hid2 (below_on B.out bn B.out.size)
      replace P := hid2 (P.out.next bn)
      clear bn lp k12 k13 k14 k15 k16 k17
      cases qy
      · go_wp2_with fail
        go_ret
        exact ⟨by simp, B.out⟩
      · have k3 := P.out.cell 3 _ rfl
        have k4 := P.out.cell 4 _ rfl
        have k5 := P.out.cell 5 _ rfl
        have lp := P.out.lt
        go_wp2_with fail
        all_goals go_ret
        all_goals refine ⟨?_, B.out⟩
        all_goals (rw [hqf.out]; clear B P; unfold spanB; first | (simp [*]; done) | (simp_all; done) | (simp; omega))
  · have HI : itemB ⟨3, nm, un, ia, ib, ic, x, y, pl⟩ = false := by
      refine Bool.eq_false_iff.2 (fun hh => hE ?_)
      unfold itemB restB at hh
      simp at hh
      simp_all
    rw [HI]
    have HE2 := hid2 hE
    clear HVX HVY HI hE P B
    go_enter Tryd.func45, Tryd.ntmps45
    go_wp2_with fail
    all_goals first
      | (go_ret; exact ⟨rfl, HB.out _⟩)
      | (exfalso; exact HE2.out (by simp_all))
set_option maxRecDepth 20000 in
set_option maxHeartbeats 4000000 in
theorem rItem_d {z : Nat} (_hz : z ≤ 1048576) (nm un : ByteArray) (ia ib ic : Int) (x y : Tm) (pl : Int) (vx vy : Value) (w : World) (h : ItAt z w ⟨4, nm, un, ia, ib, ic, x, y, pl⟩ vx vy) : Calls Tryd.prog 45 #[itA ⟨4, nm, un, ia, ib, ic, x, y, pl⟩ vx vy] w fun e w' => e = .returned (.bool (itemB ⟨4, nm, un, ia, ib, ic, x, y, pl⟩)) ∧ Below w.heap.size w w' := by
  have HVX : Hid (∀ wx, Below w.heap.size w wx → Calls Tryd.prog 76 #[tmV x vx] wx fun e w' => e = .returned (.bool (voidB x)) ∧ Below wx.heap.size wx w') := fun wx hb => rVoid_c x vx wx (h.sx.next hb)
  have HVY : Hid (∀ wx, Below w.heap.size w wx → Calls Tryd.prog 76 #[tmV y vy] wx fun e w' => e = .returned (.bool (voidB y)) ∧ Below wx.heap.size wx w') := fun wx hb => rVoid_c y vy wx (h.sy.next hb)
  have hsx : Sits z w x vx := h.sx
  have hsy : Sits z w y vy := h.sy
  obtain ⟨a1, c1, rfl, -, -⟩ := hsx.parts.shape
  obtain ⟨a2, c2, rfl, -, -⟩ := hsy.parts.shape
  obtain ⟨X0, XB⟩ := one_box w 32 [.int .i64 4, .string nm, .string un, .int .i64 ia, .int .i64 ib, .int .i64 ic, .int .i64 x.kind, .string x.text, .int .i64 x.n, .int .i64 x.m, .int .i64 x.pl, .slice a1 x.parts.length c1, .int .i64 y.kind, .string y.text, .int .i64 y.n, .int .i64 y.m, .int .i64 y.pl, .slice a2 y.parts.length c2, .int .i64 pl]
  have P := hid2 X0
  have B := hid2 XB
  have HB : Hid (∀ o, Below w.heap.size w (w.alloc o)) := fun o => (Below.refl _ _).alloc (Nat.le_refl _) _
  clear X0 XB h hsx hsy
  by_cases hE : nm.toList = [] ∧ un.toList = [] ∧ ib = 0 ∧ ic = 0
  · have HI : itemB ⟨4, nm, un, ia, ib, ic, x, y, pl⟩ = ((voidB x && voidB y) && spanB ia) := by
      obtain ⟨en, eu, rfl, rfl⟩ := hE
      unfold itemB restB
      simp [en, eu]
      all_goals (cases voidB x <;> cases voidB y <;> simp)
    rw [HI]
    clear HI
    obtain ⟨en, eu, rfl, rfl⟩ := hE
    generalize voidB x = qx at *
    generalize voidB y = qy at *
    obtain ⟨qf, hqf⟩ : ∃ q : Bool, Hid (q = spanB ia) := ⟨_, hid2 rfl⟩
    rw [← hqf.out]
    clear HB
    go_enter Tryd.func45, Tryd.ntmps45
    have k6 := P.out.cell 6 _ rfl
    have k7 := P.out.cell 7 _ rfl
    have k8 := P.out.cell 8 _ rfl
    have k9 := P.out.cell 9 _ rfl
    have k10 := P.out.cell 10 _ rfl
    have k11 := P.out.cell 11 _ rfl
    have lp := P.out.lt
    go_wp2_with fail
    refine Calls.mono (HVX.out _ B.out) ?_
    rintro e wn ⟨rfl, bn⟩
    replace B := hid2 (below_on B.out bn B.out.size)
    replace P := hid2 (P.out.next bn)
    clear bn lp k6 k7 k8 k9 k10 k11
    cases qx
    · go_wp2_with fail
      go_ret
      exact ⟨by simp, B.out⟩
    · have k12 := P.out.cell 12 _ rfl
      have k13 := P.out.cell 13 _ rfl
      have k14 := P.out.cell 14 _ rfl
      have k15 := P.out.cell 15 _ rfl
      have k16 := P.out.cell 16 _ rfl
      have k17 := P.out.cell 17 _ rfl
      have lp := P.out.lt
      go_wp2_with fail
      refine Calls.mono (HVY.out _ B.out) ?_
      rintro e wn ⟨rfl, bn⟩
      replace B := hid2 (below_on B.out bn B.out.size)
      replace P := hid2 (P.out.next bn)
      clear bn lp k12 k13 k14 k15 k16 k17
      cases qy
      · go_wp2_with fail
        go_ret
        exact ⟨by simp, B.out⟩
      · have k3 := P.out.cell 3 _ rfl
        have k4 := P.out.cell 4 _ rfl
        have k5 := P.out.cell 5 _ rfl
        have lp := P.out.lt
        go_wp2_with fail
        all_goals go_ret
        all_goals refine ⟨?_, B.out⟩
        all_goals (rw [hqf.out]; clear B P; unfold spanB; first | (simp [*]; done) | (simp_all; done) | (simp; omega))
  · have HI : itemB ⟨4, nm, un, ia, ib, ic, x, y, pl⟩ = false := by
      refine Bool.eq_false_iff.2 (fun hh => hE ?_)
      unfold itemB restB at hh
      simp at hh
      simp_all
    rw [HI]
    have HE2 := hid2 hE
    clear HVX HVY HI hE P B
    go_enter Tryd.func45, Tryd.ntmps45
    go_wp2_with fail
    all_goals first
      | (go_ret; exact ⟨rfl, HB.out _⟩)
      | (exfalso; exact HE2.out (by simp_all))
set_option maxRecDepth 20000 in
set_option maxHeartbeats 4000000 in
theorem rItem_e {z : Nat} (hz : z ≤ 1048576) (nm un : ByteArray) (ia ib ic : Int) (x y : Tm) (pl : Int) (vx vy : Value) (w : World) (h : ItAt z w ⟨5, nm, un, ia, ib, ic, x, y, pl⟩ vx vy) : Calls Tryd.prog 45 #[itA ⟨5, nm, un, ia, ib, ic, x, y, pl⟩ vx vy] w fun e w' => e = .returned (.bool (itemB ⟨5, nm, un, ia, ib, ic, x, y, pl⟩)) ∧ Below w.heap.size w w' := by
  have HVY : Hid (∀ wx, Below w.heap.size w wx → Calls Tryd.prog 76 #[tmV y vy] wx fun e w' => e = .returned (.bool (voidB y)) ∧ Below wx.heap.size wx w') := fun wx hb => rVoid_c y vy wx (h.sy.next hb)
  have HN : Hid (∀ wx, Below w.heap.size w wx → Calls Tryd.prog 44 #[.string nm] wx fun e w' => e = .returned (.bool (isN nm)) ∧ Below wx.heap.size wx w') := fun wx _ => by rw [names_same]; exact rIsName_c nm (Nat.le_trans h.nm hz) wx
  have HF : Hid (∀ wx, Below w.heap.size w wx → Calls Tryd.prog 12 #[tmV x vx] wx fun e w' => e = .returned (.bool (formedB x)) ∧ Below wx.heap.size wx w') := fun wx hb => rForm_all hz x vx wx (h.sx.next hb)
  have hsx : Sits z w x vx := h.sx
  have hsy : Sits z w y vy := h.sy
  obtain ⟨a1, c1, rfl, -, -⟩ := hsx.parts.shape
  obtain ⟨a2, c2, rfl, -, -⟩ := hsy.parts.shape
  obtain ⟨X0, XB⟩ := one_box w 32 [.int .i64 5, .string nm, .string un, .int .i64 ia, .int .i64 ib, .int .i64 ic, .int .i64 x.kind, .string x.text, .int .i64 x.n, .int .i64 x.m, .int .i64 x.pl, .slice a1 x.parts.length c1, .int .i64 y.kind, .string y.text, .int .i64 y.n, .int .i64 y.m, .int .i64 y.pl, .slice a2 y.parts.length c2, .int .i64 pl]
  have P := hid2 X0
  have B := hid2 XB
  have HB : Hid (∀ o, Below w.heap.size w (w.alloc o)) := fun o => (Below.refl _ _).alloc (Nat.le_refl _) _
  clear X0 XB h hz hsx hsy
  by_cases hE : un.toList = [] ∧ ib = 0 ∧ ic = 0 ∧ ia = 0
  · have HI : itemB ⟨5, nm, un, ia, ib, ic, x, y, pl⟩ = ((voidB y) && (isN nm && formedB x)) := by
      obtain ⟨eu, rfl, rfl, rfl⟩ := hE
      unfold itemB restB
      simp [eu, noB_nil, void_nil]
      all_goals (cases voidB x <;> cases voidB y <;> simp)
    rw [HI]
    clear HI
    obtain ⟨eu, rfl, rfl, rfl⟩ := hE
    generalize voidB y = qy at *
    generalize isN nm = q1 at *
    generalize formedB x = q3 at *
    clear HB
    go_enter Tryd.func45, Tryd.ntmps45
    have k12 := P.out.cell 12 _ rfl
    have k13 := P.out.cell 13 _ rfl
    have k14 := P.out.cell 14 _ rfl
    have k15 := P.out.cell 15 _ rfl
    have k16 := P.out.cell 16 _ rfl
    have k17 := P.out.cell 17 _ rfl
    have lp := P.out.lt
    go_wp2_with fail
    refine Calls.mono (HVY.out _ B.out) ?_
    rintro e wn ⟨rfl, bn⟩
    replace B := hid2 (below_on B.out bn B.out.size)
    replace P := hid2 (P.out.next bn)
    clear bn lp k12 k13 k14 k15 k16 k17
    cases qy
    · go_wp2_with fail
      go_ret
      exact ⟨by simp, B.out⟩
    · have k1 := P.out.cell 1 _ rfl
      have lp := P.out.lt
      go_wp2_with fail
      refine Calls.mono (HN.out _ B.out) ?_
      rintro e wn ⟨rfl, bn⟩
      replace B := hid2 (below_on B.out bn B.out.size)
      replace P := hid2 (P.out.next bn)
      clear bn lp k1
      cases q1
      · go_wp2_with fail
        go_ret
        exact ⟨by simp, B.out⟩
      · have k6 := P.out.cell 6 _ rfl
        have k7 := P.out.cell 7 _ rfl
        have k8 := P.out.cell 8 _ rfl
        have k9 := P.out.cell 9 _ rfl
        have k10 := P.out.cell 10 _ rfl
        have k11 := P.out.cell 11 _ rfl
        have lp := P.out.lt
        go_wp2_with fail
        refine Calls.mono (HF.out _ B.out) ?_
        rintro e wn ⟨rfl, bn⟩
        replace B := hid2 (below_on B.out bn B.out.size)
        replace P := hid2 (P.out.next bn)
        clear bn lp k6 k7 k8 k9 k10 k11
        cases q3
        · go_wp2_with fail
          go_ret
          exact ⟨by simp, B.out⟩
        · go_wp2_with fail
          go_ret
          exact ⟨by simp, B.out⟩
  · have HI : itemB ⟨5, nm, un, ia, ib, ic, x, y, pl⟩ = false := by
      refine Bool.eq_false_iff.2 (fun hh => hE ?_)
      unfold itemB restB at hh
      simp [noB_nil, void_nil] at hh
      simp_all
    rw [HI]
    have HE2 := hid2 hE
    clear HVY HN HF HI hE P B
    go_enter Tryd.func45, Tryd.ntmps45
    go_wp2_with fail
    all_goals first
      | (go_ret; exact ⟨rfl, HB.out _⟩)
      | (exfalso; exact HE2.out (by simp_all))
set_option maxRecDepth 20000 in
set_option maxHeartbeats 4000000 in
theorem rItem_f {z : Nat} (hz : z ≤ 1048576) (nm un : ByteArray) (ia ib ic : Int) (x y : Tm) (pl : Int) (vx vy : Value) (w : World) (h : ItAt z w ⟨6, nm, un, ia, ib, ic, x, y, pl⟩ vx vy) : Calls Tryd.prog 45 #[itA ⟨6, nm, un, ia, ib, ic, x, y, pl⟩ vx vy] w fun e w' => e = .returned (.bool (itemB ⟨6, nm, un, ia, ib, ic, x, y, pl⟩)) ∧ Below w.heap.size w w' := by
  have HF : Hid (∀ wx, Below w.heap.size w wx → Calls Tryd.prog 12 #[tmV x vx] wx fun e w' => e = .returned (.bool (formedB x)) ∧ Below wx.heap.size wx w') := fun wx hb => rForm_all hz x vx wx (h.sx.next hb)
  have HA : Hid (∀ wx, Below w.heap.size w wx → Calls Tryd.prog 14 #[tmV y vy] wx fun e w' => e = .returned (.bool (actionB y)) ∧ Below wx.heap.size wx w') := fun wx hb => rAct_all hz y vy wx (h.sy.next hb)
  have hsx : Sits z w x vx := h.sx
  have hsy : Sits z w y vy := h.sy
  obtain ⟨a1, c1, rfl, -, -⟩ := hsx.parts.shape
  obtain ⟨a2, c2, rfl, -, -⟩ := hsy.parts.shape
  obtain ⟨X0, XB⟩ := one_box w 32 [.int .i64 6, .string nm, .string un, .int .i64 ia, .int .i64 ib, .int .i64 ic, .int .i64 x.kind, .string x.text, .int .i64 x.n, .int .i64 x.m, .int .i64 x.pl, .slice a1 x.parts.length c1, .int .i64 y.kind, .string y.text, .int .i64 y.n, .int .i64 y.m, .int .i64 y.pl, .slice a2 y.parts.length c2, .int .i64 pl]
  have P := hid2 X0
  have B := hid2 XB
  have HB : Hid (∀ o, Below w.heap.size w (w.alloc o)) := fun o => (Below.refl _ _).alloc (Nat.le_refl _) _
  clear X0 XB h hz hsx hsy
  by_cases hE : nm.toList = [] ∧ un.toList = [] ∧ ib = 0 ∧ ic = 0 ∧ ia = 0
  · have HI : itemB ⟨6, nm, un, ia, ib, ic, x, y, pl⟩ = (true && (formedB x && actionB y)) := by
      obtain ⟨en, eu, rfl, rfl, rfl⟩ := hE
      unfold itemB restB
      simp [en, eu, void_nil]
      all_goals (cases voidB x <;> cases voidB y <;> simp)
    rw [HI]
    clear HI
    obtain ⟨en, eu, rfl, rfl, rfl⟩ := hE
    generalize formedB x = q3 at *
    generalize actionB y = q4 at *
    clear HB
    go_enter Tryd.func45, Tryd.ntmps45
    have k6 := P.out.cell 6 _ rfl
    have k7 := P.out.cell 7 _ rfl
    have k8 := P.out.cell 8 _ rfl
    have k9 := P.out.cell 9 _ rfl
    have k10 := P.out.cell 10 _ rfl
    have k11 := P.out.cell 11 _ rfl
    have lp := P.out.lt
    go_wp2_with fail
    refine Calls.mono (HF.out _ B.out) ?_
    rintro e wn ⟨rfl, bn⟩
    replace B := hid2 (below_on B.out bn B.out.size)
    replace P := hid2 (P.out.next bn)
    clear bn lp k6 k7 k8 k9 k10 k11
    cases q3
    · go_wp2_with fail
      go_ret
      exact ⟨by simp, B.out⟩
    · have k12 := P.out.cell 12 _ rfl
      have k13 := P.out.cell 13 _ rfl
      have k14 := P.out.cell 14 _ rfl
      have k15 := P.out.cell 15 _ rfl
      have k16 := P.out.cell 16 _ rfl
      have k17 := P.out.cell 17 _ rfl
      have lp := P.out.lt
      go_wp2_with fail
      refine Calls.mono (HA.out _ B.out) ?_
      rintro e wn ⟨rfl, bn⟩
      replace B := hid2 (below_on B.out bn B.out.size)
      replace P := hid2 (P.out.next bn)
      clear bn lp k12 k13 k14 k15 k16 k17
      cases q4
      · go_wp2_with fail
        go_ret
        exact ⟨by simp, B.out⟩
      · go_wp2_with fail
        go_ret
        exact ⟨by simp, B.out⟩
  · have HI : itemB ⟨6, nm, un, ia, ib, ic, x, y, pl⟩ = false := by
      refine Bool.eq_false_iff.2 (fun hh => hE ?_)
      unfold itemB restB at hh
      simp [void_nil] at hh
      simp_all
    rw [HI]
    have HE2 := hid2 hE
    clear HF HA HI hE P B
    go_enter Tryd.func45, Tryd.ntmps45
    go_wp2_with fail
    all_goals first
      | (go_ret; exact ⟨rfl, HB.out _⟩)
      | (exfalso; exact HE2.out (by simp_all))
set_option maxRecDepth 20000 in
set_option maxHeartbeats 4000000 in
theorem rItem_g {z : Nat} (hz : z ≤ 1048576) (nm un : ByteArray) (ia ib ic : Int) (x y : Tm) (pl : Int) (vx vy : Value) (w : World) (h : ItAt z w ⟨7, nm, un, ia, ib, ic, x, y, pl⟩ vx vy) : Calls Tryd.prog 45 #[itA ⟨7, nm, un, ia, ib, ic, x, y, pl⟩ vx vy] w fun e w' => e = .returned (.bool (itemB ⟨7, nm, un, ia, ib, ic, x, y, pl⟩)) ∧ Below w.heap.size w w' := by
  have HVX : Hid (∀ wx, Below w.heap.size w wx → Calls Tryd.prog 76 #[tmV x vx] wx fun e w' => e = .returned (.bool (voidB x)) ∧ Below wx.heap.size wx w') := fun wx hb => rVoid_c x vx wx (h.sx.next hb)
  have HA : Hid (∀ wx, Below w.heap.size w wx → Calls Tryd.prog 14 #[tmV y vy] wx fun e w' => e = .returned (.bool (actionB y)) ∧ Below wx.heap.size wx w') := fun wx hb => rAct_all hz y vy wx (h.sy.next hb)
  have hsx : Sits z w x vx := h.sx
  have hsy : Sits z w y vy := h.sy
  obtain ⟨a1, c1, rfl, -, -⟩ := hsx.parts.shape
  obtain ⟨a2, c2, rfl, -, -⟩ := hsy.parts.shape
  obtain ⟨X0, XB⟩ := one_box w 32 [.int .i64 7, .string nm, .string un, .int .i64 ia, .int .i64 ib, .int .i64 ic, .int .i64 x.kind, .string x.text, .int .i64 x.n, .int .i64 x.m, .int .i64 x.pl, .slice a1 x.parts.length c1, .int .i64 y.kind, .string y.text, .int .i64 y.n, .int .i64 y.m, .int .i64 y.pl, .slice a2 y.parts.length c2, .int .i64 pl]
  have P := hid2 X0
  have B := hid2 XB
  have HB : Hid (∀ o, Below w.heap.size w (w.alloc o)) := fun o => (Below.refl _ _).alloc (Nat.le_refl _) _
  clear X0 XB h hz hsx hsy
  by_cases hE : nm.toList = [] ∧ un.toList = [] ∧ ib = 0 ∧ ic = 0 ∧ ia = 0
  · have HI : itemB ⟨7, nm, un, ia, ib, ic, x, y, pl⟩ = ((voidB x) && (actionB y)) := by
      obtain ⟨en, eu, rfl, rfl, rfl⟩ := hE
      unfold itemB restB
      simp [en, eu, void_nil]
      all_goals (cases voidB x <;> cases voidB y <;> simp)
    rw [HI]
    clear HI
    obtain ⟨en, eu, rfl, rfl, rfl⟩ := hE
    generalize voidB x = qx at *
    generalize actionB y = q4 at *
    clear HB
    go_enter Tryd.func45, Tryd.ntmps45
    have k6 := P.out.cell 6 _ rfl
    have k7 := P.out.cell 7 _ rfl
    have k8 := P.out.cell 8 _ rfl
    have k9 := P.out.cell 9 _ rfl
    have k10 := P.out.cell 10 _ rfl
    have k11 := P.out.cell 11 _ rfl
    have lp := P.out.lt
    go_wp2_with fail
    refine Calls.mono (HVX.out _ B.out) ?_
    rintro e wn ⟨rfl, bn⟩
    replace B := hid2 (below_on B.out bn B.out.size)
    replace P := hid2 (P.out.next bn)
    clear bn lp k6 k7 k8 k9 k10 k11
    cases qx
    · go_wp2_with fail
      go_ret
      exact ⟨by simp, B.out⟩
    · have k12 := P.out.cell 12 _ rfl
      have k13 := P.out.cell 13 _ rfl
      have k14 := P.out.cell 14 _ rfl
      have k15 := P.out.cell 15 _ rfl
      have k16 := P.out.cell 16 _ rfl
      have k17 := P.out.cell 17 _ rfl
      have lp := P.out.lt
      go_wp2_with fail
      refine Calls.mono (HA.out _ B.out) ?_
      rintro e wn ⟨rfl, bn⟩
      replace B := hid2 (below_on B.out bn B.out.size)
      replace P := hid2 (P.out.next bn)
      clear bn lp k12 k13 k14 k15 k16 k17
      cases q4
      · go_wp2_with fail
        go_ret
        exact ⟨by simp, B.out⟩
      · go_wp2_with fail
        go_ret
        exact ⟨by simp, B.out⟩
  · have HI : itemB ⟨7, nm, un, ia, ib, ic, x, y, pl⟩ = false := by
      refine Bool.eq_false_iff.2 (fun hh => hE ?_)
      unfold itemB restB at hh
      simp [void_nil] at hh
      simp_all
    rw [HI]
    have HE2 := hid2 hE
    clear HVX HA HI hE P B
    go_enter Tryd.func45, Tryd.ntmps45
    go_wp2_with fail
    all_goals first
      | (go_ret; exact ⟨rfl, HB.out _⟩)
      | (exfalso; exact HE2.out (by simp_all))
end Go.Proofs.YtdikeicnefgjcaaDoor
