/- The document's item. The document's item, whole; its Policy. The document's Policy. -/
import Derived.Test.YtbhmffgmbabkkaaGreatDoorMgN
import Derived.Test.YtbhmffgmbabkkaaGreatDoorMgO
section
namespace Go.Proofs.YtbhmffgmbabkkaaGreatDoor
open Go.RowKit

theorem noB_nil : noB.toList = [] := by rw [Lib.toList_data]; rfl
theorem void_nil : voidB nilM = true := by
  have h : nilM.text.toList = [] := noB_nil
  unfold voidB
  rw [h]
  rfl
set_option maxRecDepth 20000 in
set_option maxHeartbeats 4000000 in
theorem rItem_a {z : Nat} (hz : z ≤ 1048576) (nm un : ByteArray) (ia ib ic : Int) (x y : Tm) (pl : Int) (vx vy : Value) (w : World) (h : ItAt z w ⟨1, nm, un, ia, ib, ic, x, y, pl⟩ vx vy) : Calls Tryz.prog 44 #[itA ⟨1, nm, un, ia, ib, ic, x, y, pl⟩ vx vy] w fun e w' => e = .returned (.bool (itemB ⟨1, nm, un, ia, ib, ic, x, y, pl⟩)) ∧ Below w.heap.size w w' := by
  have HVX : Hid (∀ wx, Below w.heap.size w wx → Calls Tryz.prog 77 #[tmV x vx] wx fun e w' => e = .returned (.bool (voidB x)) ∧ Below wx.heap.size wx w') := fun wx hb => rVoid_c x vx wx (h.sx.next hb)
  have HVY : Hid (∀ wx, Below w.heap.size w wx → Calls Tryz.prog 77 #[tmV y vy] wx fun e w' => e = .returned (.bool (voidB y)) ∧ Below wx.heap.size wx w') := fun wx hb => rVoid_c y vy wx (h.sy.next hb)
  have HN : Hid (∀ wx, Below w.heap.size w wx → Calls Tryz.prog 43 #[.string nm] wx fun e w' => e = .returned (.bool (isN nm)) ∧ Below wx.heap.size wx w') := fun wx _ => by rw [names_same]; exact rIsName_c nm (Nat.le_trans h.nm hz) wx
  have HT : Hid (∀ wx, Below w.heap.size w wx → Calls Tryz.prog 73 #[.string un, .bool true] wx fun e w' => e = .returned (.bool (txt brk un)) ∧ Below wx.heap.size wx w') := fun wx _ => rText_c un true (Nat.le_trans h.un hz) wx
  have hsx : Sits z w x vx := h.sx
  have hsy : Sits z w y vy := h.sy
  obtain ⟨a1, c1, rfl, -, -⟩ := hsx.parts.shape
  obtain ⟨a2, c2, rfl, -, -⟩ := hsy.parts.shape
  obtain ⟨X0, XB⟩ := one_box w 41 [.int .i64 1, .string nm, .string un, .int .i64 ia, .int .i64 ib, .int .i64 ic, .int .i64 x.kind, .string x.text, .int .i64 x.n, .int .i64 x.m, .int .i64 x.pl, .slice a1 x.parts.length c1, .int .i64 y.kind, .string y.text, .int .i64 y.n, .int .i64 y.m, .int .i64 y.pl, .slice a2 y.parts.length c2, .int .i64 pl]
  have P := hid2 X0
  have B := hid2 XB
  have HB : Hid (∀ o, Below w.heap.size w (w.alloc o)) := fun o => (Below.refl _ _).alloc (Nat.le_refl _) _
  clear X0 XB h hz hsx hsy
  by_cases hE : ib = 0 ∧ ic = 0 ∧ ia = 0
  · have HI : itemB ⟨1, nm, un, ia, ib, ic, x, y, pl⟩ = ((voidB x && voidB y) && (isN nm && txt brk un)) := by
      obtain ⟨rfl, rfl, rfl⟩ := hE
      unfold itemB restB
      simp [noB_nil]
      all_goals (cases voidB x <;> cases voidB y <;> simp)
    rw [HI]
    clear HI
    obtain ⟨rfl, rfl, rfl⟩ := hE
    generalize voidB x = qx at *
    generalize voidB y = qy at *
    generalize isN nm = q1 at *
    generalize txt brk un = q2 at *
    clear HB
    go_enter Tryz.func44, Tryz.ntmps44
    have k6 := P.out.cell 6 _ rfl
    have k7 := P.out.cell 7 _ rfl
    have k8 := P.out.cell 8 _ rfl
    have k9 := P.out.cell 9 _ rfl
    have k10 := P.out.cell 10 _ rfl
    have k11 := P.out.cell 11 _ rfl
    have lp := P.out.lt
    go_wp2_with fail
    refine Calls.mono (HVX.out _ B.out) ?_
    rintro e wn ⟨rfl, bn⟩
    replace B := hid2 (below_on B.out bn B.out.size)
    replace P := hid2 (P.out.next bn)
    clear bn lp k6 k7 k8 k9 k10 k11
    cases qx
    · go_wp2_with fail
      go_ret
      exact ⟨by simp, B.out⟩
    · have k12 := P.out.cell 12 _ rfl
      have k13 := P.out.cell 13 _ rfl
      have k14 := P.out.cell 14 _ rfl
      have k15 := P.out.cell 15 _ rfl
      have k16 := P.out.cell 16 _ rfl
      have k17 := P.out.cell 17 _ rfl
      have lp := P.out.lt
      go_wp2_with fail
      refine Calls.mono (HVY.out _ B.out) ?_
      rintro e wn ⟨rfl, bn⟩
      replace B := hid2 (below_on B.out bn B.out.size)
      replace P := hid2 (P.out.next bn)
      clear bn lp k12 k13 k14 k15 k16 k17
      cases qy
      · go_wp2_with fail
        go_ret
        exact ⟨by simp, B.out⟩
      · have k1 := P.out.cell 1 _ rfl
        have lp := P.out.lt
        go_wp2_with fail
        refine Calls.mono (HN.out _ B.out) ?_
        rintro e wn ⟨rfl, bn⟩
        replace B := hid2 (below_on B.out bn B.out.size)
        replace P := hid2 (P.out.next bn)
        clear bn lp k1
        cases q1
        · go_wp2_with fail
          go_ret
          exact ⟨by simp, B.out⟩
        · have k2 := P.out.cell 2 _ rfl
          have lp := P.out.lt
          go_wp2_with fail
          refine Calls.mono (HT.out _ B.out) ?_
          rintro e wn ⟨rfl, bn⟩
          replace B := hid2 (below_on B.out bn B.out.size)
          replace P := hid2 (P.out.next bn)
          clear bn lp k2
          cases q2
          · go_wp2_with fail
            go_ret
            exact ⟨by simp, B.out⟩
          · go_wp2_with fail
            go_ret
            exact ⟨by simp, B.out⟩
  · have HI : itemB ⟨1, nm, un, ia, ib, ic, x, y, pl⟩ = false := by
      refine Bool.eq_false_iff.2 (fun hh => hE ?_)
      unfold itemB restB at hh
      simp [noB_nil] at hh
      simp_all
    rw [HI]
    have HE2 := hid2 hE
    clear HVX HVY HN HT HI hE P B
    go_enter Tryz.func44, Tryz.ntmps44
    go_wp2_with fail
    all_goals first
      | (go_ret; exact ⟨rfl, HB.out _⟩)
      | (exfalso; exact HE2.out (by simp_all))
set_option maxRecDepth 20000 in
set_option maxHeartbeats 4000000 in
theorem rItem_b {z : Nat} (_hz : z ≤ 1048576) (nm un : ByteArray) (ia ib ic : Int) (x y : Tm) (pl : Int) (vx vy : Value) (w : World) (h : ItAt z w ⟨2, nm, un, ia, ib, ic, x, y, pl⟩ vx vy) : Calls Tryz.prog 44 #[itA ⟨2, nm, un, ia, ib, ic, x, y, pl⟩ vx vy] w fun e w' => e = .returned (.bool (itemB ⟨2, nm, un, ia, ib, ic, x, y, pl⟩)) ∧ Below w.heap.size w w' := by
  have HVX : Hid (∀ wx, Below w.heap.size w wx → Calls Tryz.prog 77 #[tmV x vx] wx fun e w' => e = .returned (.bool (voidB x)) ∧ Below wx.heap.size wx w') := fun wx hb => rVoid_c x vx wx (h.sx.next hb)
  have HVY : Hid (∀ wx, Below w.heap.size w wx → Calls Tryz.prog 77 #[tmV y vy] wx fun e w' => e = .returned (.bool (voidB y)) ∧ Below wx.heap.size wx w') := fun wx hb => rVoid_c y vy wx (h.sy.next hb)
  have hsx : Sits z w x vx := h.sx
  have hsy : Sits z w y vy := h.sy
  obtain ⟨a1, c1, rfl, -, -⟩ := hsx.parts.shape
  obtain ⟨a2, c2, rfl, -, -⟩ := hsy.parts.shape
  obtain ⟨X0, XB⟩ := one_box w 41 [.int .i64 2, .string nm, .string un, .int .i64 ia, .int .i64 ib, .int .i64 ic, .int .i64 x.kind, .string x.text, .int .i64 x.n, .int .i64 x.m, .int .i64 x.pl, .slice a1 x.parts.length c1, .int .i64 y.kind, .string y.text, .int .i64 y.n, .int .i64 y.m, .int .i64 y.pl, .slice a2 y.parts.length c2, .int .i64 pl]
  have P := hid2 X0
  have B := hid2 XB
  have HB : Hid (∀ o, Below w.heap.size w (w.alloc o)) := fun o => (Below.refl _ _).alloc (Nat.le_refl _) _
  clear X0 XB h hsx hsy
  by_cases hE : nm.toList = [] ∧ un.toList = []
  · have HI : itemB ⟨2, nm, un, ia, ib, ic, x, y, pl⟩ = ((voidB x && voidB y) && (decide (0 ≤ ia) && (decide (0 ≤ ib) && decide (0 ≤ ic)))) := by
      obtain ⟨en, eu⟩ := hE
      unfold itemB restB
      simp [en, eu]
      all_goals (cases voidB x <;> cases voidB y <;> simp)
    rw [HI]
    clear HI
    obtain ⟨en, eu⟩ := hE
    generalize voidB x = qx at *
    generalize voidB y = qy at *
    obtain ⟨qf, hqf⟩ : ∃ q : Bool, Hid (q = (decide (0 ≤ ia) && (decide (0 ≤ ib) && decide (0 ≤ ic)))) := ⟨_, hid2 rfl⟩
    rw [← hqf.out]
    clear HB
    go_enter Tryz.func44, Tryz.ntmps44
    have k6 := P.out.cell 6 _ rfl
    have k7 := P.out.cell 7 _ rfl
    have k8 := P.out.cell 8 _ rfl
    have k9 := P.out.cell 9 _ rfl
    have k10 := P.out.cell 10 _ rfl
    have k11 := P.out.cell 11 _ rfl
    have lp := P.out.lt
    go_wp2_with fail
    refine Calls.mono (HVX.out _ B.out) ?_
    rintro e wn ⟨rfl, bn⟩
    replace B := hid2 (below_on B.out bn B.out.size)
    replace P := hid2 (P.out.next bn)
    clear bn lp k6 k7 k8 k9 k10 k11
    cases qx
    · go_wp2_with fail
      go_ret
      exact ⟨by simp, B.out⟩
    · have k12 := P.out.cell 12 _ rfl
      have k13 := P.out.cell 13 _ rfl
      have k14 := P.out.cell 14 _ rfl
      have k15 := P.out.cell 15 _ rfl
      have k16 := P.out.cell 16 _ rfl
      have k17 := P.out.cell 17 _ rfl
      have lp := P.out.lt
      go_wp2_with fail
      refine Calls.mono (HVY.out _ B.out) ?_
      rintro e wn ⟨rfl, bn⟩
      replace B := hid2 (below_on B.out bn B.out.size)
      replace P := hid2 (P.out.next bn)
      clear bn lp k12 k13 k14 k15 k16 k17
      cases qy
      · go_wp2_with fail
        go_ret
        exact ⟨by simp, B.out⟩
      · have k3 := P.out.cell 3 _ rfl
        have k4 := P.out.cell 4 _ rfl
        have k5 := P.out.cell 5 _ rfl
        have lp := P.out.lt
        go_wp2_with fail
        all_goals go_ret
        all_goals refine ⟨?_, B.out⟩
        all_goals (rw [hqf.out]; clear B P; first | (simp [*]; done) | (simp_all; done) | (simp; omega))
  · have HI : itemB ⟨2, nm, un, ia, ib, ic, x, y, pl⟩ = false := by
      refine Bool.eq_false_iff.2 (fun hh => hE ?_)
      unfold itemB restB at hh
      simp at hh
      simp_all
    rw [HI]
    have HE2 := hid2 hE
    clear HVX HVY HI hE P B
    go_enter Tryz.func44, Tryz.ntmps44
    go_wp2_with fail
    all_goals first
      | (go_ret; exact ⟨rfl, HB.out _⟩)
      | (exfalso; exact HE2.out (by simp_all))
set_option maxRecDepth 20000 in
set_option maxHeartbeats 4000000 in
theorem rItem_c {z : Nat} (_hz : z ≤ 1048576) (nm un : ByteArray) (ia ib ic : Int) (x y : Tm) (pl : Int) (vx vy : Value) (w : World) (h : ItAt z w ⟨3, nm, un, ia, ib, ic, x, y, pl⟩ vx vy) : Calls Tryz.prog 44 #[itA ⟨3, nm, un, ia, ib, ic, x, y, pl⟩ vx vy] w fun e w' => e = .returned (.bool (itemB ⟨3, nm, un, ia, ib, ic, x, y, pl⟩)) ∧ Below w.heap.size w w' := by
  have HVX : Hid (∀ wx, Below w.heap.size w wx → Calls Tryz.prog 77 #[tmV x vx] wx fun e w' => e = .returned (.bool (voidB x)) ∧ Below wx.heap.size wx w') := fun wx hb => rVoid_c x vx wx (h.sx.next hb)
  have HVY : Hid (∀ wx, Below w.heap.size w wx → Calls Tryz.prog 77 #[tmV y vy] wx fun e w' => e = .returned (.bool (voidB y)) ∧ Below wx.heap.size wx w') := fun wx hb => rVoid_c y vy wx (h.sy.next hb)
  have hsx : Sits z w x vx := h.sx
  have hsy : Sits z w y vy := h.sy
  obtain ⟨a1, c1, rfl, -, -⟩ := hsx.parts.shape
  obtain ⟨a2, c2, rfl, -, -⟩ := hsy.parts.shape
  obtain ⟨X0, XB⟩ := one_box w 41 [.int .i64 3, .string nm, .string un, .int .i64 ia, .int .i64 ib, .int .i64 ic, .int .i64 x.kind, .string x.text, .int .i64 x.n, .int .i64 x.m, .int .i64 x.pl, .slice a1 x.parts.length c1, .int .i64 y.kind, .string y.text, .int .i64 y.n, .int .i64 y.m, .int .i64 y.pl, .slice a2 y.parts.length c2, .int .i64 pl]
  have P := hid2 X0
  have B := hid2 XB
  have HB : Hid (∀ o, Below w.heap.size w (w.alloc o)) := fun o => (Below.refl _ _).alloc (Nat.le_refl _) _
  clear X0 XB h hsx hsy
  by_cases hE : nm.toList = [] ∧ un.toList = [] ∧ ib = 0 ∧ ic = 0
  · have HI : itemB ⟨3, nm, un, ia, ib, ic, x, y, pl⟩ = ((voidB x && voidB y) && spanB ia) := by
      obtain ⟨en, eu, rfl, rfl⟩ := hE
      unfold itemB restB
      simp [en, eu]
      all_goals (cases voidB x <;> cases voidB y <;> simp)
    rw [HI]
    clear HI
    obtain ⟨en, eu, rfl, rfl⟩ := hE
    generalize voidB x = qx at *
    generalize voidB y = qy at *
    obtain ⟨qf, hqf⟩ : ∃ q : Bool, Hid (q = spanB ia) := ⟨_, hid2 rfl⟩
    rw [← hqf.out]
    clear HB
    go_enter Tryz.func44, Tryz.ntmps44
    have k6 := P.out.cell 6 _ rfl
    have k7 := P.out.cell 7 _ rfl
    have k8 := P.out.cell 8 _ rfl
    have k9 := P.out.cell 9 _ rfl
    have k10 := P.out.cell 10 _ rfl
    have k11 := P.out.cell 11 _ rfl
    have lp := P.out.lt
    go_wp2_with fail
    refine Calls.mono (HVX.out _ B.out) ?_
    rintro e wn ⟨rfl, bn⟩
    replace B := hid2 (below_on B.out bn B.out.size)
    replace P := hid2 (P.out.next bn)
    clear bn lp k6 k7 k8 k9 k10 k11
    cases qx
    · go_wp2_with fail
      go_ret
      exact ⟨by simp, B.out⟩
    · have k12 := P.out.cell 12 _ rfl
      have k13 := P.out.cell 13 _ rfl
      have k14 := P.out.cell 14 _ rfl
      have k15 := P.out.cell 15 _ rfl
      have k16 := P.out.cell 16 _ rfl
      have k17 := P.out.cell 17 _ rfl
      have lp := P.out.lt
      go_wp2_with fail
      refine Calls.mono (HVY.out _ B.out) ?_
      rintro e wn ⟨rfl, bn⟩
      replace B := hid2 (below_on B.out bn B.out.size)
      replace P := hid2 (P.out.next bn)
      clear bn lp k12 k13 k14 k15 k16 k17
      cases qy
      · go_wp2_with fail
        go_ret
        exact ⟨by simp, B.out⟩
      · have k3 := P.out.cell 3 _ rfl
        have k4 := P.out.cell 4 _ rfl
        have k5 := P.out.cell 5 _ rfl
        have lp := P.out.lt
        go_wp2_with fail
        all_goals go_ret
        all_goals refine ⟨?_, B.out⟩
        all_goals (rw [hqf.out]; clear B P; unfold spanB; first | (simp [*]; done) | (simp_all; done) | (simp; omega))
  · have HI : itemB ⟨3, nm, un, ia, ib, ic, x, y, pl⟩ = false := by
      refine Bool.eq_false_iff.2 (fun hh => hE ?_)
      unfold itemB restB at hh
      simp at hh
      simp_all
    rw [HI]
    have HE2 := hid2 hE
    clear HVX HVY HI hE P B
    go_enter Tryz.func44, Tryz.ntmps44
    go_wp2_with fail
    all_goals first
      | (go_ret; exact ⟨rfl, HB.out _⟩)
      | (exfalso; exact HE2.out (by simp_all))
set_option maxRecDepth 20000 in
set_option maxHeartbeats 4000000 in
theorem rItem_d {z : Nat} (_hz : z ≤ 1048576) (nm un : ByteArray) (ia ib ic : Int) (x y : Tm) (pl : Int) (vx vy : Value) (w : World) (h : ItAt z w ⟨4, nm, un, ia, ib, ic, x, y, pl⟩ vx vy) : Calls Tryz.prog 44 #[itA ⟨4, nm, un, ia, ib, ic, x, y, pl⟩ vx vy] w fun e w' => e = .returned (.bool (itemB ⟨4, nm, un, ia, ib, ic, x, y, pl⟩)) ∧ Below w.heap.size w w' := by
  have HVX : Hid (∀ wx, Below w.heap.size w wx → Calls Tryz.prog 77 #[tmV x vx] wx fun e w' => e = .returned (.bool (voidB x)) ∧ Below wx.heap.size wx w') := fun wx hb => rVoid_c x vx wx (h.sx.next hb)
  have HVY : Hid (∀ wx, Below w.heap.size w wx → Calls Tryz.prog 77 #[tmV y vy] wx fun e w' => e = .returned (.bool (voidB y)) ∧ Below wx.heap.size wx w') := fun wx hb => rVoid_c y vy wx (h.sy.next hb)
  have hsx : Sits z w x vx := h.sx
  have hsy : Sits z w y vy := h.sy
  obtain ⟨a1, c1, rfl, -, -⟩ := hsx.parts.shape
  obtain ⟨a2, c2, rfl, -, -⟩ := hsy.parts.shape
  obtain ⟨X0, XB⟩ := one_box w 41 [.int .i64 4, .string nm, .string un, .int .i64 ia, .int .i64 ib, .int .i64 ic, .int .i64 x.kind, .string x.text, .int .i64 x.n, .int .i64 x.m, .int .i64 x.pl, .slice a1 x.parts.length c1, .int .i64 y.kind, .string y.text, .int .i64 y.n, .int .i64 y.m, .int .i64 y.pl, .slice a2 y.parts.length c2, .int .i64 pl]
  have P := hid2 X0
  have B := hid2 XB
  have HB : Hid (∀ o, Below w.heap.size w (w.alloc o)) := fun o => (Below.refl _ _).alloc (Nat.le_refl _) _
  clear X0 XB h hsx hsy
  by_cases hE : nm.toList = [] ∧ un.toList = [] ∧ ib = 0 ∧ ic = 0
  · have HI : itemB ⟨4, nm, un, ia, ib, ic, x, y, pl⟩ = ((voidB x && voidB y) && spanB ia) := by
      obtain ⟨en, eu, rfl, rfl⟩ := hE
      unfold itemB restB
      simp [en, eu]
      all_goals (cases voidB x <;> cases voidB y <;> simp)
    rw [HI]
    clear HI
    obtain ⟨en, eu, rfl, rfl⟩ := hE
    generalize voidB x = qx at *
    generalize voidB y = qy at *
    obtain ⟨qf, hqf⟩ : ∃ q : Bool, Hid (q = spanB ia) := ⟨_, hid2 rfl⟩
    rw [← hqf.out]
    clear HB
    go_enter Tryz.func44, Tryz.ntmps44
    have k6 := P.out.cell 6 _ rfl
    have k7 := P.out.cell 7 _ rfl
    have k8 := P.out.cell 8 _ rfl
    have k9 := P.out.cell 9 _ rfl
    have k10 := P.out.cell 10 _ rfl
    have k11 := P.out.cell 11 _ rfl
    have lp := P.out.lt
    go_wp2_with fail
    refine Calls.mono (HVX.out _ B.out) ?_
    rintro e wn ⟨rfl, bn⟩
    replace B := hid2 (below_on B.out bn B.out.size)
    replace P := hid2 (P.out.next bn)
    clear bn lp k6 k7 k8 k9 k10 k11
    cases qx
    · go_wp2_with fail
      go_ret
      exact ⟨by simp, B.out⟩
    · have k12 := P.out.cell 12 _ rfl
      have k13 := P.out.cell 13 _ rfl
      have k14 := P.out.cell 14 _ rfl
      have k15 := P.out.cell 15 _ rfl
      have k16 := P.out.cell 16 _ rfl
      have k17 := P.out.cell 17 _ rfl
      have lp := P.out.lt
      go_wp2_with fail
      refine Calls.mono (HVY.out _ B.out) ?_
      rintro e wn ⟨rfl, bn⟩
      replace B := hid2 (below_on B.out bn B.out.size)
      replace P := hid2 (P.out.next bn)
      clear bn lp k12 k13 k14 k15 k16 k17
      cases qy
      · go_wp2_with fail
        go_ret
        exact ⟨by simp, B.out⟩
      · have k3 := P.out.cell 3 _ rfl
        have k4 := P.out.cell 4 _ rfl
        have k5 := P.out.cell 5 _ rfl
        have lp := P.out.lt
        go_wp2_with fail
        all_goals go_ret
        all_goals refine ⟨?_, B.out⟩
        all_goals (rw [hqf.out]; clear B P; unfold spanB; first | (simp [*]; done) | (simp_all; done) | (simp; omega))
  · have HI : itemB ⟨4, nm, un, ia, ib, ic, x, y, pl⟩ = false := by
      refine Bool.eq_false_iff.2 (fun hh => hE ?_)
      unfold itemB restB at hh
      simp at hh
      simp_all
    rw [HI]
    have HE2 := hid2 hE
    clear HVX HVY HI hE P B
    go_enter Tryz.func44, Tryz.ntmps44
    go_wp2_with fail
    all_goals first
      | (go_ret; exact ⟨rfl, HB.out _⟩)
      | (exfalso; exact HE2.out (by simp_all))
set_option maxRecDepth 20000 in
set_option maxHeartbeats 4000000 in
theorem rItem_e {z : Nat} (hz : z ≤ 1048576) (nm un : ByteArray) (ia ib ic : Int) (x y : Tm) (pl : Int) (vx vy : Value) (w : World) (h : ItAt z w ⟨5, nm, un, ia, ib, ic, x, y, pl⟩ vx vy) : Calls Tryz.prog 44 #[itA ⟨5, nm, un, ia, ib, ic, x, y, pl⟩ vx vy] w fun e w' => e = .returned (.bool (itemB ⟨5, nm, un, ia, ib, ic, x, y, pl⟩)) ∧ Below w.heap.size w w' := by
  have HVY : Hid (∀ wx, Below w.heap.size w wx → Calls Tryz.prog 77 #[tmV y vy] wx fun e w' => e = .returned (.bool (voidB y)) ∧ Below wx.heap.size wx w') := fun wx hb => rVoid_c y vy wx (h.sy.next hb)
  have HN : Hid (∀ wx, Below w.heap.size w wx → Calls Tryz.prog 43 #[.string nm] wx fun e w' => e = .returned (.bool (isN nm)) ∧ Below wx.heap.size wx w') := fun wx _ => by rw [names_same]; exact rIsName_c nm (Nat.le_trans h.nm hz) wx
  have HF : Hid (∀ wx, Below w.heap.size w wx → Calls Tryz.prog 20 #[tmV x vx] wx fun e w' => e = .returned (.bool (formedB x)) ∧ Below wx.heap.size wx w') := fun wx hb => rForm_all hz x vx wx (h.sx.next hb)
  have hsx : Sits z w x vx := h.sx
  have hsy : Sits z w y vy := h.sy
  obtain ⟨a1, c1, rfl, -, -⟩ := hsx.parts.shape
  obtain ⟨a2, c2, rfl, -, -⟩ := hsy.parts.shape
  obtain ⟨X0, XB⟩ := one_box w 41 [.int .i64 5, .string nm, .string un, .int .i64 ia, .int .i64 ib, .int .i64 ic, .int .i64 x.kind, .string x.text, .int .i64 x.n, .int .i64 x.m, .int .i64 x.pl, .slice a1 x.parts.length c1, .int .i64 y.kind, .string y.text, .int .i64 y.n, .int .i64 y.m, .int .i64 y.pl, .slice a2 y.parts.length c2, .int .i64 pl]
  have P := hid2 X0
  have B := hid2 XB
  have HB : Hid (∀ o, Below w.heap.size w (w.alloc o)) := fun o => (Below.refl _ _).alloc (Nat.le_refl _) _
  clear X0 XB h hz hsx hsy
  by_cases hE : un.toList = [] ∧ ib = 0 ∧ ic = 0 ∧ ia = 0
  · have HI : itemB ⟨5, nm, un, ia, ib, ic, x, y, pl⟩ = ((voidB y) && (isN nm && formedB x)) := by
      obtain ⟨eu, rfl, rfl, rfl⟩ := hE
      unfold itemB restB
      simp [eu, noB_nil, void_nil]
      all_goals (cases voidB x <;> cases voidB y <;> simp)
    rw [HI]
    clear HI
    obtain ⟨eu, rfl, rfl, rfl⟩ := hE
    generalize voidB y = qy at *
    generalize isN nm = q1 at *
    generalize formedB x = q3 at *
    clear HB
    go_enter Tryz.func44, Tryz.ntmps44
    have k12 := P.out.cell 12 _ rfl
    have k13 := P.out.cell 13 _ rfl
    have k14 := P.out.cell 14 _ rfl
    have k15 := P.out.cell 15 _ rfl
    have k16 := P.out.cell 16 _ rfl
    have k17 := P.out.cell 17 _ rfl
    have lp := P.out.lt
    go_wp2_with fail
    refine Calls.mono (HVY.out _ B.out) ?_
    rintro e wn ⟨rfl, bn⟩
    replace B := hid2 (below_on B.out bn B.out.size)
    replace P := hid2 (P.out.next bn)
    clear bn lp k12 k13 k14 k15 k16 k17
    cases qy
    · go_wp2_with fail
      go_ret
      exact ⟨by simp, B.out⟩
    · have k1 := P.out.cell 1 _ rfl
      have lp := P.out.lt
      go_wp2_with fail
      refine Calls.mono (HN.out _ B.out) ?_
      rintro e wn ⟨rfl, bn⟩
      replace B := hid2 (below_on B.out bn B.out.size)
      replace P := hid2 (P.out.next bn)
      clear bn lp k1
      cases q1
      · go_wp2_with fail
        go_ret
        exact ⟨by simp, B.out⟩
      · have k6 := P.out.cell 6 _ rfl
        have k7 := P.out.cell 7 _ rfl
        have k8 := P.out.cell 8 _ rfl
        have k9 := P.out.cell 9 _ rfl
        have k10 := P.out.cell 10 _ rfl
        have k11 := P.out.cell 11 _ rfl
        have lp := P.out.lt
        go_wp2_with fail
        refine Calls.mono (HF.out _ B.out) ?_
        rintro e wn ⟨rfl, bn⟩
        replace B := hid2 (below_on B.out bn B.out.size)
        replace P := hid2 (P.out.next bn)
        clear bn lp k6 k7 k8 k9 k10 k11
        cases q3
        · go_wp2_with fail
          go_ret
          exact ⟨by simp, B.out⟩
        · go_wp2_with fail
          go_ret
          exact ⟨by simp, B.out⟩
  · have HI : itemB ⟨5, nm, un, ia, ib, ic, x, y, pl⟩ = false := by
      refine Bool.eq_false_iff.2 (fun hh => hE ?_)
      unfold itemB restB at hh
      simp [noB_nil, void_nil] at hh
      simp_all
    rw [HI]
    have HE2 := hid2 hE
    clear HVY HN HF HI hE P B
    go_enter Tryz.func44, Tryz.ntmps44
    go_wp2_with fail
    all_goals first
      | (go_ret; exact ⟨rfl, HB.out _⟩)
      | (exfalso; exact HE2.out (by simp_all))
set_option maxRecDepth 20000 in
set_option maxHeartbeats 4000000 in
theorem rItem_f {z : Nat} (hz : z ≤ 1048576) (nm un : ByteArray) (ia ib ic : Int) (x y : Tm) (pl : Int) (vx vy : Value) (w : World) (h : ItAt z w ⟨6, nm, un, ia, ib, ic, x, y, pl⟩ vx vy) : Calls Tryz.prog 44 #[itA ⟨6, nm, un, ia, ib, ic, x, y, pl⟩ vx vy] w fun e w' => e = .returned (.bool (itemB ⟨6, nm, un, ia, ib, ic, x, y, pl⟩)) ∧ Below w.heap.size w w' := by
  have HF : Hid (∀ wx, Below w.heap.size w wx → Calls Tryz.prog 20 #[tmV x vx] wx fun e w' => e = .returned (.bool (formedB x)) ∧ Below wx.heap.size wx w') := fun wx hb => rForm_all hz x vx wx (h.sx.next hb)
  have HA : Hid (∀ wx, Below w.heap.size w wx → Calls Tryz.prog 78 #[tmV y vy] wx fun e w' => e = .returned (.bool (actionB y)) ∧ Below wx.heap.size wx w') := fun wx hb => rAct_all hz y vy wx (h.sy.next hb)
  have hsx : Sits z w x vx := h.sx
  have hsy : Sits z w y vy := h.sy
  obtain ⟨a1, c1, rfl, -, -⟩ := hsx.parts.shape
  obtain ⟨a2, c2, rfl, -, -⟩ := hsy.parts.shape
  obtain ⟨X0, XB⟩ := one_box w 41 [.int .i64 6, .string nm, .string un, .int .i64 ia, .int .i64 ib, .int .i64 ic, .int .i64 x.kind, .string x.text, .int .i64 x.n, .int .i64 x.m, .int .i64 x.pl, .slice a1 x.parts.length c1, .int .i64 y.kind, .string y.text, .int .i64 y.n, .int .i64 y.m, .int .i64 y.pl, .slice a2 y.parts.length c2, .int .i64 pl]
  have P := hid2 X0
  have B := hid2 XB
  have HB : Hid (∀ o, Below w.heap.size w (w.alloc o)) := fun o => (Below.refl _ _).alloc (Nat.le_refl _) _
  clear X0 XB h hz hsx hsy
  by_cases hE : nm.toList = [] ∧ un.toList = [] ∧ ib = 0 ∧ ic = 0 ∧ ia = 0
  · have HI : itemB ⟨6, nm, un, ia, ib, ic, x, y, pl⟩ = (true && (formedB x && actionB y)) := by
      obtain ⟨en, eu, rfl, rfl, rfl⟩ := hE
      unfold itemB restB
      simp [en, eu, void_nil]
      all_goals (cases voidB x <;> cases voidB y <;> simp)
    rw [HI]
    clear HI
    obtain ⟨en, eu, rfl, rfl, rfl⟩ := hE
    generalize formedB x = q3 at *
    generalize actionB y = q4 at *
    clear HB
    go_enter Tryz.func44, Tryz.ntmps44
    have k6 := P.out.cell 6 _ rfl
    have k7 := P.out.cell 7 _ rfl
    have k8 := P.out.cell 8 _ rfl
    have k9 := P.out.cell 9 _ rfl
    have k10 := P.out.cell 10 _ rfl
    have k11 := P.out.cell 11 _ rfl
    have lp := P.out.lt
    go_wp2_with fail
    refine Calls.mono (HF.out _ B.out) ?_
    rintro e wn ⟨rfl, bn⟩
    replace B := hid2 (below_on B.out bn B.out.size)
    replace P := hid2 (P.out.next bn)
    clear bn lp k6 k7 k8 k9 k10 k11
    cases q3
    · go_wp2_with fail
      go_ret
      exact ⟨by simp, B.out⟩
    · have k12 := P.out.cell 12 _ rfl
      have k13 := P.out.cell 13 _ rfl
      have k14 := P.out.cell 14 _ rfl
      have k15 := P.out.cell 15 _ rfl
      have k16 := P.out.cell 16 _ rfl
      have k17 := P.out.cell 17 _ rfl
      have lp := P.out.lt
      go_wp2_with fail
      refine Calls.mono (HA.out _ B.out) ?_
      rintro e wn ⟨rfl, bn⟩
      replace B := hid2 (below_on B.out bn B.out.size)
      replace P := hid2 (P.out.next bn)
      clear bn lp k12 k13 k14 k15 k16 k17
      cases q4
      · go_wp2_with fail
        go_ret
        exact ⟨by simp, B.out⟩
      · go_wp2_with fail
        go_ret
        exact ⟨by simp, B.out⟩
  · have HI : itemB ⟨6, nm, un, ia, ib, ic, x, y, pl⟩ = false := by
      refine Bool.eq_false_iff.2 (fun hh => hE ?_)
      unfold itemB restB at hh
      simp [void_nil] at hh
      simp_all
    rw [HI]
    have HE2 := hid2 hE
    clear HF HA HI hE P B
    go_enter Tryz.func44, Tryz.ntmps44
    go_wp2_with fail
    all_goals first
      | (go_ret; exact ⟨rfl, HB.out _⟩)
      | (exfalso; exact HE2.out (by simp_all))
set_option maxRecDepth 20000 in
set_option maxHeartbeats 4000000 in
theorem rItem_g {z : Nat} (hz : z ≤ 1048576) (nm un : ByteArray) (ia ib ic : Int) (x y : Tm) (pl : Int) (vx vy : Value) (w : World) (h : ItAt z w ⟨7, nm, un, ia, ib, ic, x, y, pl⟩ vx vy) : Calls Tryz.prog 44 #[itA ⟨7, nm, un, ia, ib, ic, x, y, pl⟩ vx vy] w fun e w' => e = .returned (.bool (itemB ⟨7, nm, un, ia, ib, ic, x, y, pl⟩)) ∧ Below w.heap.size w w' := by
  have HVX : Hid (∀ wx, Below w.heap.size w wx → Calls Tryz.prog 77 #[tmV x vx] wx fun e w' => e = .returned (.bool (voidB x)) ∧ Below wx.heap.size wx w') := fun wx hb => rVoid_c x vx wx (h.sx.next hb)
  have HA : Hid (∀ wx, Below w.heap.size w wx → Calls Tryz.prog 78 #[tmV y vy] wx fun e w' => e = .returned (.bool (actionB y)) ∧ Below wx.heap.size wx w') := fun wx hb => rAct_all hz y vy wx (h.sy.next hb)
  have hsx : Sits z w x vx := h.sx
  have hsy : Sits z w y vy := h.sy
  obtain ⟨a1, c1, rfl, -, -⟩ := hsx.parts.shape
  obtain ⟨a2, c2, rfl, -, -⟩ := hsy.parts.shape
  obtain ⟨X0, XB⟩ := one_box w 41 [.int .i64 7, .string nm, .string un, .int .i64 ia, .int .i64 ib, .int .i64 ic, .int .i64 x.kind, .string x.text, .int .i64 x.n, .int .i64 x.m, .int .i64 x.pl, .slice a1 x.parts.length c1, .int .i64 y.kind, .string y.text, .int .i64 y.n, .int .i64 y.m, .int .i64 y.pl, .slice a2 y.parts.length c2, .int .i64 pl]
  have P := hid2 X0
  have B := hid2 XB
  have HB : Hid (∀ o, Below w.heap.size w (w.alloc o)) := fun o => (Below.refl _ _).alloc (Nat.le_refl _) _
  clear X0 XB h hz hsx hsy
  by_cases hE : nm.toList = [] ∧ un.toList = [] ∧ ib = 0 ∧ ic = 0 ∧ ia = 0
  · have HI : itemB ⟨7, nm, un, ia, ib, ic, x, y, pl⟩ = ((voidB x) && (actionB y)) := by
      obtain ⟨en, eu, rfl, rfl, rfl⟩ := hE
      unfold itemB restB
      simp [en, eu, void_nil]
      all_goals (cases voidB x <;> cases voidB y <;> simp)
    rw [HI]
    clear HI
    obtain ⟨en, eu, rfl, rfl, rfl⟩ := hE
    generalize voidB x = qx at *
    generalize actionB y = q4 at *
    clear HB
    go_enter Tryz.func44, Tryz.ntmps44
    have k6 := P.out.cell 6 _ rfl
    have k7 := P.out.cell 7 _ rfl
    have k8 := P.out.cell 8 _ rfl
    have k9 := P.out.cell 9 _ rfl
    have k10 := P.out.cell 10 _ rfl
    have k11 := P.out.cell 11 _ rfl
    have lp := P.out.lt
    go_wp2_with fail
    refine Calls.mono (HVX.out _ B.out) ?_
    rintro e wn ⟨rfl, bn⟩
    replace B := hid2 (below_on B.out bn B.out.size)
    replace P := hid2 (P.out.next bn)
    clear bn lp k6 k7 k8 k9 k10 k11
    cases qx
    · go_wp2_with fail
      go_ret
      exact ⟨by simp, B.out⟩
    · have k12 := P.out.cell 12 _ rfl
      have k13 := P.out.cell 13 _ rfl
      have k14 := P.out.cell 14 _ rfl
      have k15 := P.out.cell 15 _ rfl
      have k16 := P.out.cell 16 _ rfl
      have k17 := P.out.cell 17 _ rfl
      have lp := P.out.lt
      go_wp2_with fail
      refine Calls.mono (HA.out _ B.out) ?_
      rintro e wn ⟨rfl, bn⟩
      replace B := hid2 (below_on B.out bn B.out.size)
      replace P := hid2 (P.out.next bn)
      clear bn lp k12 k13 k14 k15 k16 k17
      cases q4
      · go_wp2_with fail
        go_ret
        exact ⟨by simp, B.out⟩
      · go_wp2_with fail
        go_ret
        exact ⟨by simp, B.out⟩
  · have HI : itemB ⟨7, nm, un, ia, ib, ic, x, y, pl⟩ = false := by
      refine Bool.eq_false_iff.2 (fun hh => hE ?_)
      unfold itemB restB at hh
      simp [void_nil] at hh
      simp_all
    rw [HI]
    have HE2 := hid2 hE
    clear HVX HA HI hE P B
    go_enter Tryz.func44, Tryz.ntmps44
    go_wp2_with fail
    all_goals first
      | (go_ret; exact ⟨rfl, HB.out _⟩)
      | (exfalso; exact HE2.out (by simp_all))
end Go.Proofs.YtbhmffgmbabkkaaGreatDoor
end
section
namespace Go.Proofs.YtbhmffgmbabkkaaGreatDoor
open Go.RowKit

set_option maxRecDepth 20000 in
set_option maxHeartbeats 2000000 in
theorem rItem_o (i : It) (hk : ¬ (1 ≤ i.kind ∧ i.kind ≤ 7)) (a1 a2 : Option Addr) (n1 c1 n2 c2 : Nat) (w : World) : Calls Tryz.prog 44 #[itA i (.slice a1 n1 c1) (.slice a2 n2 c2)] w fun e w' => e = .returned (.bool (itemB i)) ∧ Below w.heap.size w w' := by
  have HI : itemB i = false := by
    unfold itemB
    rw [if_neg (by omega), if_neg (by omega), if_neg (by omega), if_neg (by omega), if_neg (by omega), if_neg (by omega)]
  rw [HI]
  have HB : Hid (∀ o, Below w.heap.size w (w.alloc o)) := fun o => (Below.refl _ _).alloc (Nat.le_refl _) _
  clear HI
  by_cases h1 : i.kind < 1
  · clear hk
    go_enter Tryz.func44, Tryz.ntmps44
    go_wp2_with fail
    go_ret
    exact ⟨rfl, HB.out _⟩
  · have h2 : 7 < i.kind := by omega
    clear hk
    go_enter Tryz.func44, Tryz.ntmps44
    go_wp2_with fail
    go_ret
    exact ⟨rfl, HB.out _⟩
theorem rItem_all {z : Nat} (hz : z ≤ 1048576) (i : It) (vx vy : Value) (w : World) (h : ItAt z w i vx vy) : Calls Tryz.prog 44 #[itA i vx vy] w fun e w' => e = .returned (.bool (itemB i)) ∧ Below w.heap.size w w' := by
  by_cases h0 : 1 ≤ i.kind ∧ i.kind ≤ 7
  · obtain ⟨k, nm, un, ia, ib, ic, x, y, pl⟩ := i
    have hk : k = 1 ∨ k = 2 ∨ k = 3 ∨ k = 4 ∨ k = 5 ∨ k = 6 ∨ k = 7 := by simp only at h0; omega
    rcases hk with rfl | rfl | rfl | rfl | rfl | rfl | rfl
    · exact rItem_a hz nm un ia ib ic x y pl vx vy w h
    · exact rItem_b hz nm un ia ib ic x y pl vx vy w h
    · exact rItem_c hz nm un ia ib ic x y pl vx vy w h
    · exact rItem_d hz nm un ia ib ic x y pl vx vy w h
    · exact rItem_e hz nm un ia ib ic x y pl vx vy w h
    · exact rItem_f hz nm un ia ib ic x y pl vx vy w h
    · exact rItem_g hz nm un ia ib ic x y pl vx vy w h
  · obtain ⟨a1, c1, e1, -, -⟩ := h.sx.parts.shape
    obtain ⟨a2, c2, e2, -, -⟩ := h.sy.parts.shape
    rw [e1, e2]
    exact rItem_o i h0 _ _ _ _ _ _ w
theorem rPol_drop {l : List It} {j : Nat} (s : Nat) (h : j < l.length) : rPolL (l.drop j) s = ((itemB l[j] && (decide (l[j].kind = 7) == decide (j + 1 = l.length))) && (decide (s + rcost l[j] ≤ 16384) && rPolL (l.drop (j + 1)) (s + rcost l[j]))) := by
  rw [List.drop_eq_getElem_cons h, rPolL]
  congr 3
  refine Bool.eq_iff_iff.2 ?_
  simp
  omega
end Go.Proofs.YtbhmffgmbabkkaaGreatDoor
namespace Go.Proofs.YtbhmffgmbabkkaaGreatDoor
open Go.RowKit

theorem item_kind {i : It} (h : itemB i = true) : 1 ≤ i.kind ∧ i.kind ≤ 7 := by
  unfold itemB at h
  split at h
  · omega
  split at h
  · omega
  split at h
  · omega
  split at h
  · omega
  split at h
  · omega
  split at h
  · omega
  · cases h
/-- What one item does to the sum. -/
def stepB (k : Int) (last : Bool) : Bool := decide (k = 7) == last
theorem rPol_step {l : List It} {j N : Nat} (hN : N = l.length) (s : Nat) (h : j < l.length) {k : Int} {nm un : ByteArray} {a b c : Int} {x y : Tm} {pl : Int} (e : l[j] = ⟨k, nm, un, a, b, c, x, y, pl⟩) (hi : itemB l[j] = true) {S : Nat} (hS : s + ((if k = 5 ∨ k = 6 then nodes x else 0) + (if k = 6 ∨ k = 7 then nodes y else 0)) = S) :
    rPolL (l.drop j) s = ((decide (k = 7) == decide (j + 1 = N)) && (decide (S ≤ 16384) && rPolL (l.drop (j + 1)) S)) := by
  rw [rPol_drop s h, hi, hN]
  have : s + rcost l[j] = S := by rw [e, ← hS]; rfl
  rw [this, e]
  simp
set_option maxRecDepth 20000 in
set_option maxHeartbeats 4000000 in
theorem rPolicy_c {z : Nat} (hz : z ≤ 1048576) (nm : ByteArray) (hnm : nm.size ≤ z) (l : List It) (v : Value) (w : World) (hl : IAt z w v l) (hsm : SmallI l) (hn : l.length ≤ 1048576) :
    Calls Tryz.prog 21 #[.agg #[.string nm, v]] w fun e w' => e = .returned (.bool (rpolB nm l)) ∧ Below w.heap.size w w' := by
  have HL := hid2 hl
  have HS := hid2 hsm
  have HNm : Hid (∀ wx, Calls Tryz.prog 43 #[.string nm] wx fun e w' => e = .returned (.bool (isN nm)) ∧ Below wx.heap.size wx w') := fun wx => by rw [names_same]; exact rIsName_c nm (Nat.le_trans hnm hz) wx
  have HF := hid2 (fun i vx vy wx (h : ItAt z wx i vx vy) => rItem_all hz i vx vy wx h)
  obtain ⟨ad, cap, rfl, hc1, hc2⟩ := hl.shape
  obtain ⟨N, hN⟩ : ∃ N, Hid (N = l.length) := ⟨_, rfl⟩
  obtain ⟨R, hR⟩ : ∃ r : Bool, Hid (r = rpolB nm l) := ⟨_, rfl⟩
  rw [← hR.out]
  rw [← hN.out] at hc1 hn HL ⊢
  obtain ⟨X0, XB⟩ := one_box w 25 [.string nm, .slice ad N cap]
  have BX := hid2 X0
  have BB := hid2 XB
  clear hl hsm X0 XB hnm hz
  obtain ⟨m, hm⟩ : ∃ m : Nat, Hid (m = 19) := ⟨_, rfl⟩
  have zs : ∀ w, (sizeOf 41).run Tryz.prog w = .ok m w := by rw [hm.out]; exact Tryz.sizeOf41
  have zm : (19 = m) = True := eq_true hm.out.symm
  by_cases h0 : N = 0
  · have HR : R = false := by
      rw [hR.out]
      have : l = [] := List.eq_nil_of_length_eq_zero (by rw [← hN.out]; exact h0)
      rw [this]; rfl
    subst HR
    have hN2 := hid2 hN.out
    clear hN
    subst h0
    go_enter Tryz.func21, Tryz.ntmps21
    go_wp2_with fail
    go_ret
    exact ⟨rfl, BB.out⟩
  have hne : ((N : Int) == 0) = false := by simp; omega
  go_enter Tryz.func21, Tryz.ntmps21
  go_wp2_with fail
  refine Calls.mono (HNm.out _) ?_
  rintro e w1 ⟨rfl, b1⟩
  have B1 := hid2 (below_on BB.out b1 BB.out.size)
  have P1 := hid2 (BX.out.next b1)
  clear b1 BX BB HNm
  have HRR : Hid (R = (isN nm && rPolL l 0)) := by
    show _ = _
    rw [hR.out]
    unfold rpolB
    have : l.isEmpty = false := by
      cases l with
      | nil => exact absurd hN.out h0
      | cons => rfl
    rw [this]
    simp
  clear hR
  generalize isN nm = q1 at *
  cases q1
  · obtain rfl : R = false := HRR.out
    go_wp2_with fail
    go_ret
    exact ⟨rfl, B1.out⟩
  have hr : Hid (R = rPolL l 0) := by show _ = _; rw [HRR.out]; simp
  clear HRR
  obtain ⟨r, rfl⟩ : ∃ r, r = R := ⟨_, rfl⟩
  go_wp2_with fail
  go_loopw [4, 5] (fun c i wr => ∃ (j s : Nat), i = .int .i64 (j : Nat) ∧ c = .int .i64 (s : Nat) ∧ j ≤ N ∧ s ≤ 16384 ∧ Hid (r = rPolL (l.drop j) s) ∧ Hid (Box wr w.heap.size [.string nm, .slice ad N cap]) ∧ Hid (Below w.heap.size w wr)) (fun _ i _ => match i with | .int _ p => ((N : Int) - p).toNat | _ => 0)
  case atStart => exact ⟨0, 0, rfl, rfl, by omega, by omega, hr, P1, B1⟩
  case round =>
    clear hr P1 B1
    obtain ⟨j, s, rfl, rfl, hj, hs, HJ, PB, HB⟩ := hrel
    have lp := PB.out.lt
    have p1 : wr.cell? ⟨w.heap.size, 1, none⟩ = some (.slice ad N cap) := PB.out.cell 1 _ rfl
    by_cases hlt : j < N
    · have hlt' : (j : Int) < (N : Int) := by omega
      have h1 : j < l.length := by rw [← hN.out]; exact hlt
      obtain ⟨b, off, cq, hv, -, -, hbl, hxs⟩ := HL.out.open (by omega)
      rw [← hN.out] at hv
      simp only [Value.slice.injEq] at hv
      obtain ⟨rfl, -, rfl⟩ := hv
      obtain ⟨vx, vy, hcs, hit⟩ := hxs j h1
      have lb : b < wr.heap.size := Nat.lt_of_lt_of_le hbl HB.out.size
      obtain ⟨X, hX⟩ : ∃ X : Array Value, Hid (X = (itC l[j] vx vy).toArray) := ⟨_, hid2 rfl⟩
      have s1 : X.size = 19 := by rw [hX.out]; rfl
      have ldA := ld_at (w := wr) (b := b) (o := off + j * m) (fun q u hu => by rw [hm.out]; exact (HB.out.cell (p := ⟨b, off + j * 19 + q, none⟩) hbl).trans (hcs q u hu)) hX.out (hm.out.trans (show 19 = _ from rfl))
      have stA := st_it wr s1 (by rw [hX.out]; exact itC_one hit)
      have X0 := Box.new wr (itC l[j] vx vy) 41
      have HA : Hid (Below w.heap.size w (wr.alloc (.cells X 41))) := HB.out.alloc HB.out.size _
      have hit2 := hit.next HA.out
      rw [show (itC l[j] vx vy).toArray = X from hX.out.symm] at X0
      have ldC := ld_bx X0 hX.out (hm.out.trans (show 19 = _ from rfl))
      unfold zeroI at stA

      have HC : Hid (Calls Tryz.prog 44 #[.agg X] (wr.alloc (.cells X 41)) fun e w' => e = .returned (.bool (itemB l[j])) ∧ Below (wr.alloc (.cells X 41)).heap.size (wr.alloc (.cells X 41)) w') := by
        have := HF.out l[j] vx vy _ hit2
        rw [show itA l[j] vx vy = .agg X by rw [hX.out]] at this
        exact this
      obtain ⟨sx, sy⟩ := HS.out l[j] (List.getElem_mem h1)
      have HNX : Hid (∀ wx, Below w.heap.size w wx → Calls Tryz.prog 24 #[tmV l[j].x vx] wx fun e w' => e = .returned (.int .i64 (nodes l[j].x : Nat)) ∧ Below wx.heap.size wx w') := fun wx hb => by
        have := rNodes_c l[j].x vx wx (hit.sx.next hb)
        unfold ndsV at this
        rwa [Nat.min_eq_left (by omega)] at this
      have HNY : Hid (∀ wx, Below w.heap.size w wx → Calls Tryz.prog 24 #[tmV l[j].y vy] wx fun e w' => e = .returned (.int .i64 (nodes l[j].y : Nat)) ∧ Below wx.heap.size wx w') := fun wx hb => by
        have := rNodes_c l[j].y vy wx (hit.sy.next hb)
        unfold ndsV at this
        rwa [Nat.min_eq_left (by omega)] at this
      obtain ⟨a1, c1, ev1, -, -⟩ := hit.sx.parts.shape
      obtain ⟨a2, c2, ev2, -, -⟩ := hit.sy.parts.shape
      have HE : Hid (itemB l[j] = false → r = false) := fun h => by rw [HJ.out, rPol_drop s h1, h]; rfl
      have HE2 : Hid (itemB l[j] = true → ∀ k nm un a b c x y pl, l[j] = ⟨k, nm, un, a, b, c, x, y, pl⟩ → ∀ S, s + ((if k = 5 ∨ k = 6 then nodes x else 0) + (if k = 6 ∨ k = 7 then nodes y else 0)) = S → r = ((decide (k = 7) == decide (j + 1 = N)) && (decide (S ≤ 16384) && rPolL (l.drop (j + 1)) S))) := fun hi k nm un a b c x y pl e S hS => by rw [HJ.out]; exact rPol_step hN.out s h1 e hi hS
      have HK : Hid (itemB l[j] = true → 1 ≤ l[j].kind ∧ l[j].kind ≤ 7) := fun h => item_kind h
      have XB := hid2 X0
      have PBA := hid2 (PB.out.next ((Below.refl _ _).alloc (Nat.le_refl _) (.cells X 41)))
      clear hcs hit hxs hX X0 hit2 HJ HS HF
      rw [ev1] at HNX XB
      rw [ev2] at HNY XB
      clear ev1 ev2 lb HB PB hbl
      generalize l[j] = i at *
      clear h1 HL
      obtain ⟨k, nm2, un, ia, ib, ic, x, y, pl⟩ := i
      try simp only at HNX HNY sx sy XB
      go_wp2_with fail
      refine Calls.mono HC.out ?_
      rintro e wc ⟨rfl, b1⟩
      have B := hid2 (below_on HA.out b1 HA.out.size)
      have PB := hid2 (PBA.out.next b1)
      replace XB := hid2 (XB.out.next b1)
      clear HC ldA stA ldC b1 PBA HA
      generalize itemB _ = q at *
      cases q
      · obtain rfl := HE.out rfl
        go_wp2_with fail
        go_ret
        exact ⟨rfl, B.out⟩
      have HE3 := hid2 (HE2.out rfl _ _ _ _ _ _ _ _ _ rfl)
      obtain ⟨kl, kh⟩ := HK.out rfl
      clear HE HE2 HK
      try simp only at kl
      try simp only at kh
      try simp only at HE3
      have k0 : wc.cell? ⟨wr.heap.size, 0, none⟩ = some (.int .i64 k) := XB.out.cell 0 _ rfl
      have lq := XB.out.lt
      obtain ⟨mx, hmx⟩ : ∃ m, Hid (m = nodes x) := ⟨_, hid2 rfl⟩
      obtain ⟨my, hmy⟩ : ∃ m, Hid (m = nodes y) := ⟨_, hid2 rfl⟩
      rw [← hmx.out] at HNX HE3 sx
      rw [← hmy.out] at HNY HE3 sy
      clear hmx hmy
      rcases (show k = 5 ∨ k = 6 ∨ k = 7 ∨ (k ≠ 5 ∧ k ≠ 6 ∧ k ≠ 7) by omega) with hk | hk | hk | ⟨hk5, hk6, hk7⟩
      · subst hk
        have HE2 : Hid (r = ((false == decide (j + 1 = N)) && (decide (s + mx ≤ 16384) && rPolL (l.drop (j + 1)) (s + mx)))) := by
          show _ = _
          rw [HE3.out (s + mx) (by simp)]
          simp
        clear HE3
        by_cases hl : j + 1 = N
        · have hd : ((j : Int) == (N : Int) - 1) = true := by simp; omega
          have HR2 : r = false := by rw [HE2.out, decide_eq_true hl]; simp
          subst HR2
          go_wp2_with fail
          go_ret
          exact ⟨rfl, B.out⟩
        · have hd : ((j : Int) == (N : Int) - 1) = false := by simp; omega
          rw [decide_eq_false hl] at HE2
          have n6 : wc.cell? ⟨wr.heap.size, 6, none⟩ = some (.int .i64 x.kind) := XB.out.cell 6 _ rfl
          have n7 : wc.cell? ⟨wr.heap.size, 7, none⟩ = some (.string x.text) := XB.out.cell 7 _ rfl
          have n8 : wc.cell? ⟨wr.heap.size, 8, none⟩ = some (.int .i64 x.n) := XB.out.cell 8 _ rfl
          have n9 : wc.cell? ⟨wr.heap.size, 9, none⟩ = some (.int .i64 x.m) := XB.out.cell 9 _ rfl
          have n10 : wc.cell? ⟨wr.heap.size, 10, none⟩ = some (.int .i64 x.pl) := XB.out.cell 10 _ rfl
          have n11 : wc.cell? ⟨wr.heap.size, 11, none⟩ = some (.slice a1 x.parts.length c1) := XB.out.cell 11 _ rfl
          go_wp2_with fail
          refine Calls.mono (HNX.out _ B.out) ?_
          rintro e wd ⟨rfl, bn⟩
          replace B := hid2 (below_on B.out bn B.out.size)
          replace PB := hid2 (PB.out.next bn)
          replace XB := hid2 (XB.out.next bn)
          clear bn lq k0 n6 n7 n8 n9 n10 n11
          have k0 : wd.cell? ⟨wr.heap.size, 0, none⟩ = some (.int .i64 5) := XB.out.cell 0 _ rfl
          have lq := XB.out.lt
          by_cases hle : s + mx ≤ 16384
          · have HR2 : Hid (r = rPolL (l.drop (j + 1)) (s + mx)) := by show _ = _; rw [HE2.out, decide_eq_true hle]; simp
            have hle2 : ¬ (16384 : Int) < (s : Int) + (mx : Int) := by omega
            go_wp2_with fail
            go_roundw
            case rel => exact ⟨j + 1, s + mx, by go_num, by go_num, by omega, by omega, HR2, PB, B⟩
            case measure => simp; omega
          · have HR2 : r = false := by rw [HE2.out, decide_eq_false hle]; simp
            have hle2 : (16384 : Int) < (s : Int) + (mx : Int) := by omega
            subst HR2
            go_wp2_with fail
            go_ret
            exact ⟨rfl, B.out⟩
      · subst hk
        have HE2 : Hid (r = ((false == decide (j + 1 = N)) && (decide (s + mx + my ≤ 16384) && rPolL (l.drop (j + 1)) (s + mx + my)))) := by
          show _ = _
          rw [HE3.out (s + mx + my) (by simp; try omega)]
          simp
        clear HE3
        by_cases hl : j + 1 = N
        · have hd : ((j : Int) == (N : Int) - 1) = true := by simp; omega
          have HR2 : r = false := by rw [HE2.out, decide_eq_true hl]; simp
          subst HR2
          go_wp2_with fail
          go_ret
          exact ⟨rfl, B.out⟩
        · have hd : ((j : Int) == (N : Int) - 1) = false := by simp; omega
          rw [decide_eq_false hl] at HE2
          have n6 : wc.cell? ⟨wr.heap.size, 6, none⟩ = some (.int .i64 x.kind) := XB.out.cell 6 _ rfl
          have n7 : wc.cell? ⟨wr.heap.size, 7, none⟩ = some (.string x.text) := XB.out.cell 7 _ rfl
          have n8 : wc.cell? ⟨wr.heap.size, 8, none⟩ = some (.int .i64 x.n) := XB.out.cell 8 _ rfl
          have n9 : wc.cell? ⟨wr.heap.size, 9, none⟩ = some (.int .i64 x.m) := XB.out.cell 9 _ rfl
          have n10 : wc.cell? ⟨wr.heap.size, 10, none⟩ = some (.int .i64 x.pl) := XB.out.cell 10 _ rfl
          have n11 : wc.cell? ⟨wr.heap.size, 11, none⟩ = some (.slice a1 x.parts.length c1) := XB.out.cell 11 _ rfl
          go_wp2_with fail
          refine Calls.mono (HNX.out _ B.out) ?_
          rintro e wd ⟨rfl, bn⟩
          replace B := hid2 (below_on B.out bn B.out.size)
          replace PB := hid2 (PB.out.next bn)
          replace XB := hid2 (XB.out.next bn)
          clear bn lq k0 n6 n7 n8 n9 n10 n11
          have k0 : wd.cell? ⟨wr.heap.size, 0, none⟩ = some (.int .i64 6) := XB.out.cell 0 _ rfl
          have lq := XB.out.lt
          have n12 : wd.cell? ⟨wr.heap.size, 12, none⟩ = some (.int .i64 y.kind) := XB.out.cell 12 _ rfl
          have n13 : wd.cell? ⟨wr.heap.size, 13, none⟩ = some (.string y.text) := XB.out.cell 13 _ rfl
          have n14 : wd.cell? ⟨wr.heap.size, 14, none⟩ = some (.int .i64 y.n) := XB.out.cell 14 _ rfl
          have n15 : wd.cell? ⟨wr.heap.size, 15, none⟩ = some (.int .i64 y.m) := XB.out.cell 15 _ rfl
          have n16 : wd.cell? ⟨wr.heap.size, 16, none⟩ = some (.int .i64 y.pl) := XB.out.cell 16 _ rfl
          have n17 : wd.cell? ⟨wr.heap.size, 17, none⟩ = some (.slice a2 y.parts.length c2) := XB.out.cell 17 _ rfl
          go_wp2_with fail
          refine Calls.mono (HNY.out _ B.out) ?_
          rintro e we ⟨rfl, bn⟩
          replace B := hid2 (below_on B.out bn B.out.size)
          replace PB := hid2 (PB.out.next bn)
          replace XB := hid2 (XB.out.next bn)
          clear bn lq k0 n12 n13 n14 n15 n16 n17
          have k0 : we.cell? ⟨wr.heap.size, 0, none⟩ = some (.int .i64 6) := XB.out.cell 0 _ rfl
          have lq := XB.out.lt
          by_cases hle : s + mx + my ≤ 16384
          · have HR2 : Hid (r = rPolL (l.drop (j + 1)) (s + mx + my)) := by show _ = _; rw [HE2.out, decide_eq_true hle]; simp
            have hle2 : ¬ (16384 : Int) < (s : Int) + (mx : Int) + (my : Int) := by omega
            go_wp2_with fail
            go_roundw
            case rel => exact ⟨j + 1, s + mx + my, by go_num, by go_num, by omega, by omega, HR2, PB, B⟩
            case measure => simp; omega
          · have HR2 : r = false := by rw [HE2.out, decide_eq_false hle]; simp
            have hle2 : (16384 : Int) < (s : Int) + (mx : Int) + (my : Int) := by omega
            subst HR2
            go_wp2_with fail
            go_ret
            exact ⟨rfl, B.out⟩
      · subst hk
        have HE2 : Hid (r = ((true == decide (j + 1 = N)) && (decide (s + my ≤ 16384) && rPolL (l.drop (j + 1)) (s + my)))) := by
          show _ = _
          rw [HE3.out (s + my) (by simp)]
          simp
        clear HE3
        by_cases hl : j + 1 = N
        · have hd : ((j : Int) == (N : Int) - 1) = true := by simp; omega
          rw [decide_eq_true hl] at HE2
          have n12 : wc.cell? ⟨wr.heap.size, 12, none⟩ = some (.int .i64 y.kind) := XB.out.cell 12 _ rfl
          have n13 : wc.cell? ⟨wr.heap.size, 13, none⟩ = some (.string y.text) := XB.out.cell 13 _ rfl
          have n14 : wc.cell? ⟨wr.heap.size, 14, none⟩ = some (.int .i64 y.n) := XB.out.cell 14 _ rfl
          have n15 : wc.cell? ⟨wr.heap.size, 15, none⟩ = some (.int .i64 y.m) := XB.out.cell 15 _ rfl
          have n16 : wc.cell? ⟨wr.heap.size, 16, none⟩ = some (.int .i64 y.pl) := XB.out.cell 16 _ rfl
          have n17 : wc.cell? ⟨wr.heap.size, 17, none⟩ = some (.slice a2 y.parts.length c2) := XB.out.cell 17 _ rfl
          go_wp2_with fail
          refine Calls.mono (HNY.out _ B.out) ?_
          rintro e wd ⟨rfl, bn⟩
          replace B := hid2 (below_on B.out bn B.out.size)
          replace PB := hid2 (PB.out.next bn)
          replace XB := hid2 (XB.out.next bn)
          clear bn lq k0 n12 n13 n14 n15 n16 n17
          have k0 : wd.cell? ⟨wr.heap.size, 0, none⟩ = some (.int .i64 7) := XB.out.cell 0 _ rfl
          have lq := XB.out.lt
          by_cases hle : s + my ≤ 16384
          · have HR2 : Hid (r = rPolL (l.drop (j + 1)) (s + my)) := by show _ = _; rw [HE2.out, decide_eq_true hle]; simp
            have hle2 : ¬ (16384 : Int) < (s : Int) + (my : Int) := by omega
            go_wp2_with fail
            go_roundw
            case rel => exact ⟨j + 1, s + my, by go_num, by go_num, by omega, by omega, HR2, PB, B⟩
            case measure => simp; omega
          · have HR2 : r = false := by rw [HE2.out, decide_eq_false hle]; simp
            have hle2 : (16384 : Int) < (s : Int) + (my : Int) := by omega
            subst HR2
            go_wp2_with fail
            go_ret
            exact ⟨rfl, B.out⟩
        · have hd : ((j : Int) == (N : Int) - 1) = false := by simp; omega
          have HR2 : r = false := by rw [HE2.out, decide_eq_false hl]; simp
          subst HR2
          go_wp2_with fail
          go_ret
          exact ⟨rfl, B.out⟩
      · have d5 : (k == 5) = false := by simp; omega
        have d6 : (k == 6) = false := by simp; omega
        have d7 : (k == 7) = false := by simp; omega
        have HE2 : Hid (r = ((false == decide (j + 1 = N)) && (decide (s ≤ 16384) && rPolL (l.drop (j + 1)) (s)))) := by
          show _ = _
          rw [HE3.out (s) (by simp [hk5, hk6, hk7])]
          simp [hk7]
        clear HE3
        by_cases hl : j + 1 = N
        · have hd : ((j : Int) == (N : Int) - 1) = true := by simp; omega
          have HR2 : r = false := by rw [HE2.out, decide_eq_true hl]; simp
          subst HR2
          go_wp2_with fail
          go_ret
          exact ⟨rfl, B.out⟩
        · have hd : ((j : Int) == (N : Int) - 1) = false := by simp; omega
          rw [decide_eq_false hl] at HE2
          by_cases hle : s ≤ 16384
          · have HR2 : Hid (r = rPolL (l.drop (j + 1)) (s)) := by show _ = _; rw [HE2.out, decide_eq_true hle]; simp
            have hle2 : ¬ (16384 : Int) < (s : Int) := by omega
            go_wp2_with fail
            go_roundw
            case rel => exact ⟨j + 1, s, by go_num, by go_num, by omega, by omega, HR2, PB, B⟩
            case measure => simp; omega
          · omega
    · have hlt' : ¬ (j : Int) < (N : Int) := by omega
      have e1 : l.drop j = [] := List.drop_eq_nil_of_le (by have := hN.out; omega)
      rw [e1] at HJ
      have rt : r = true := HJ.out
      subst rt
      go_wp2_with fail
      go_ret
      exact ⟨rfl, HB.out⟩
end Go.Proofs.YtbhmffgmbabkkaaGreatDoor
end
