/- Package tree: pairs, action, Action. -/
import Derived.Test.YtdikeicnefgjcaaDoorTrD
namespace Go.Proofs.YtdikeicnefgjcaaDoor
open Go.RowKit

def ActionAt (z : Nat) (t : Tm) : Prop := ∀ (v : Value) (w : World), Sits z w t v → TabsAt w → Calls Tryd.prog 13 #[tmV t v] w fun e w' => e = .returned (.bool (actionB t)) ∧ Below w.heap.size w w'
theorem ActionAt.on {z : Nat} {t : Tm} (h : ActionAt z t) {w : World} {v : Value} (hs : Sits z w t v) (hT : TabsAt w) : ∀ wx, Below w.heap.size w wx → Calls Tryd.prog 13 #[tmV t v] wx fun e w' => e = .returned (.bool (actionB t)) ∧ Below wx.heap.size wx w' := fun wx hb => h v wx (hs.next hb) (hT.next hb)
theorem all_false {n j : Nat} {f : Nat → Bool} (hj : j < n) (hf : f j = false) : (List.range n).all f = false := by
  rw [List.all_eq_false]
  exact ⟨j, List.mem_range.2 hj, by rw [hf]; decide⟩
theorem all_step {j : Nat} {f : Nat → Bool} (h : (List.range j).all f = true) (hf : f j = true) : (List.range (j + 1)).all f = true := by
  rw [List.range_succ, List.all_append, h]; simp [hf]
set_option maxRecDepth 20000 in
set_option maxHeartbeats 2000000 in
theorem pairs_c {z : Nat} (hz : z ≤ 562949953421312) (l : List Tm) (v : Value) (w : World) (hl : PAt z w v l) (hT : TabsAt w) (hpos : 0 < l.length) (ih : ∀ x, x ∈ l → ActionAt z x) : Calls Tryd.prog 62 #[v] w fun e w' => e = .returned (.bool (pairsB l)) ∧ Below w.heap.size w w' := by
  obtain ⟨b, off, cap, rfl, hle, hc, hb, hx⟩ := hl.open hpos
  have HX := hid2 hx
  have HI := hid2 ih
  have HT := hid2 (fun wx (h : Below w.heap.size w wx) => hT.next h)
  clear hl hx hT ih
  obtain ⟨N, hN⟩ : ∃ N, Hid (N = l.length) := ⟨_, rfl⟩
  rw [← hN.out] at hle hpos ⊢
  obtain ⟨r, hr⟩ : ∃ r : Bool, Hid (r = pairsB l) := ⟨_, rfl⟩
  rw [← hr.out]
  by_cases hev : N % 2 = 0
  · have he : ((N : Int) % 2 != 0) = false := by simp; omega
    have hr2 : Hid (r = (List.range N).all (altB l)) := by rw [hr.out, pairsB, ← hN.out, decide_eq_true hev, Bool.true_and]; rfl
    have HE := hid2 hev
    clear hr hev
    go_enter Tryd.func62, Tryd.ntmps62
    go_wp2_with fail
    go_loopw [3] (fun i wr => ∃ j : Nat, i = .int .i64 (j : Nat) ∧ j ≤ N ∧ Hid (j % 2 = 0) ∧ Hid ((List.range j).all (altB l) = true) ∧ Hid (Below w.heap.size w wr)) (fun i _ => match i with | .int _ p => ((N : Int) - p).toNat | _ => 0)
    case atStart => exact ⟨0, rfl, by omega, rfl, rfl, Below.refl _ _⟩
    case round =>
      obtain ⟨j, rfl, hj, HJ, HA, HB⟩ := hrel
      by_cases hlt : j < N
      · have hlt' : (j : Int) < (N : Int) := by omega
        have hl1 : j < l.length := by rw [← hN.out]; exact hlt
        have hj1 : j + 1 < N := by have := HJ.out; have := HE.out; omega
        have hl2 : j + 1 < l.length := by rw [← hN.out]; exact hj1
        obtain ⟨u, h6, hu⟩ := HX.out j hl1
        obtain ⟨u', h6', hu'⟩ := HX.out (j + 1) hl2
        have k6 := h6.keep (w' := wr) (fun q => HB.out.cell (p := ⟨b, q, none⟩) hb)
        obtain ⟨c0, c1, c2, c3, c4, c5⟩ := k6
        have HN1 := hid2 (nodeOf_c l[j] u wr (hu.next HB.out))
        have HAct := hid2 ((HI.out _ (List.getElem_mem hl2)).on hu' (HT.out w (Below.refl _ _)))
        have HLs := hid2 hu.fit.s
        have H6 := hid2 h6'
        have HJ1 := hid2 hj1
        have alt0 : Hid (altB l j = (litR l[j]).isSome) := by
          show _ = _
          unfold altB; rw [List.getElem?_eq_getElem hl1]; simp only [HJ.out, if_true]; rw [litR_some]
        have alt1 : Hid (altB l (j + 1) = actionB l[j + 1]) := by
          show _ = _
          unfold altB; rw [List.getElem?_eq_getElem hl2]; simp only [if_neg (show ¬ (j + 1) % 2 = 0 by have := HJ.out; omega)]
        clear h6 hu h6' hu'
        generalize l[j] = x at *
        generalize l[j + 1] = y at *
        clear hj1 hl2
        go_wp2_with fail
        refine Calls.mono HN1.out ?_
        rintro e w1 ⟨n, rfl, hn, b1⟩
        have B1 : Hid (Below w.heap.size w w1) := below_on HB.out b1 HB.out.size
        have HL := hid2 (literal_c hz x n w1 hn HLs.out (HT.out _ B1.out))
        clear b1 hn HN1 c0 c1 c2 c3 c4 c5
        go_wp2_with fail
        refine Calls.mono HL.out ?_
        rintro e w2 ⟨rfl, b2⟩
        have B2 : Hid (Below w.heap.size w w2) := below_on B1.out b2 B1.out.size
        clear b2 HL
        cases hlit : litR x with
        | none =>
          have hrf : Hid (r = false) := by
            show _ = _
            rw [hr2.out]
            exact all_false hlt (by rw [alt0.out, hlit]; rfl)
          have hrg := hrf.out
          subst hrg
          clear hlit
          simp only [litV]
          go_wp2_with fail
          go_ret
          exact ⟨rfl, B2.out.alloc B2.out.size _⟩
        | some p =>
          obtain ⟨q, s⟩ := p
          have ha0 : Hid (altB l j = true) := by show _ = _; rw [alt0.out, hlit]; rfl
          clear hlit alt0
          simp only [litV]
          obtain ⟨d0, d1, d2, d3, d4, d5⟩ := H6.out.keep (w' := w2) (fun q => B2.out.cell (p := ⟨b, q, none⟩) hb)
          have zl := B2.out.size
          have lt2 : b < w2.heap.size := by omega
          obtain ⟨J, hJ⟩ : ∃ J, Hid (J = j + 1) := ⟨_, rfl⟩
          rw [← hJ.out] at d0 d1 d2 d3 d4 d5
          have i1 : (j : Int) + 1 = (J : Int) := by have := hJ.out; omega
          have i2 : (J : Int) < (N : Int) := by have := hJ.out; have := HJ1.out; omega
          go_wp2_with fail
          refine Calls.mono (HAct.out _ (B2.out.alloc B2.out.size _)) ?_
          rintro e w3 ⟨rfl, b3⟩
          have B3 : Hid (Below w.heap.size w w3) := below_on (B2.out.alloc B2.out.size _) b3 (by simp; omega)
          clear b3 d0 d1 d2 d3 d4 d5 HAct
          cases hact : actionB y with
          | false =>
            have hrf : Hid (r = false) := by
              show _ = _
              rw [hr2.out]
              exact all_false (j := j + 1) HJ1.out (by rw [alt1.out, hact])
            have hrg := hrf.out
            subst hrg
            go_wp2_with fail
            go_ret
            exact ⟨rfl, B3.out⟩
          | true =>
            have HAA : Hid ((List.range (j + 1 + 1)).all (altB l) = true) := all_step (all_step HA.out ha0.out) (by rw [alt1.out, hact])
            clear hact alt1
            go_wp2_with fail
            go_roundw
            case rel => exact ⟨j + 2, by go_num, by have := HJ1.out; omega, by have := HJ.out; show _ % 2 = 0; omega, HAA.out, B3.out⟩
            case measure => simp; have := HJ1.out; omega
      · have hlt' : ¬ (j : Int) < (N : Int) := by omega
        have hjN : j = N := by omega
        subst hjN
        go_wp2_with fail
        go_ret
        exact ⟨by rw [hr2.out, HA.out]; rfl, HB.out⟩
  · have he : ((N : Int) % 2 != 0) = true := by simp; omega
    have hr2 : r = false := by rw [hr.out, pairsB, ← hN.out, decide_eq_false hev]; rfl
    subst hr2
    clear hr hev HX HI HT
    go_enter Tryd.func62, Tryd.ntmps62
    go_wp2_with fail
    go_ret
    exact ⟨rfl, Below.refl _ _⟩
set_option maxRecDepth 20000 in
theorem act_0 (t : Tm) (w : World) : Calls Tryd.prog 36 #[leafV t] w fun e w' => e = .returned (.bool (plainB t.kind t.text t.n t.m 33 33)) ∧ Below w.heap.size w w' := by
  have t0 := is_leaf
  have P := hid2 (fun wx => plain_c t.kind t.text t.n t.m 33 33 wx)
  go_enter Tryd.func36, Tryd.ntmps36
  go_wp2_with fail
  refine Calls.mono (P.out _) ?_
  rintro e w1 ⟨rfl, b1⟩
  go_wp2_with fail
  go_ret
  exact ⟨rfl, below_on ((Below.refl _ _).alloc (Nat.le_refl _) _) b1 (by simp)⟩
set_option maxRecDepth 20000 in
set_option maxHeartbeats 400000 in
theorem act_1 {z : Nat} (t x : Tm) (ax : Value) (w : World) (hT : TabsAt w) (sx : Sits z w x ax) (ix : FormedAt z x) : Calls Tryd.prog 36 #[singleV t x ax] w fun e w' => e = .returned (.bool (plainB t.kind t.text t.n t.m 34 35 && formedB x)) ∧ Below w.heap.size w w' := by
  obtain ⟨dx, cx, rfl, -, -⟩ := sx.parts.shape
  obtain ⟨q1, h1⟩ : ∃ q : Bool, Hid (q = plainB t.kind t.text t.n t.m 34 35) := ⟨_, rfl⟩
  have P : Hid (∀ wx, Calls Tryd.prog 60 #[.agg #[.int .i64 t.kind, .string t.text, .int .i64 t.n, .int .i64 t.m], .int .i64 34, .int .i64 35] wx fun e w' => e = .returned (.bool q1) ∧ Below wx.heap.size wx w') := fun wx => by rw [h1.out]; exact plain_c _ _ _ _ _ _ wx
  rw [← h1.out]
  have Hx := hid2 (ix.on sx hT)
  obtain ⟨q2, h2⟩ : ∃ q : Bool, Hid (q = formedB x) := ⟨_, rfl⟩
  rw [← h2.out]
  rw [← h2.out] at Hx
  have t_single_no_leaf := single_no_leaf
  have t_is_single := is_single
  obtain ⟨X, hX⟩ : ∃ X : Array Value, Hid (X = #[.int .i64 t.kind, .string t.text, .int .i64 t.n, .int .i64 t.m, .int .i64 x.kind, .string x.text, .int .i64 x.n, .int .i64 x.m, .int .i64 x.pl, .slice dx x.parts.length cx]) := ⟨_, rfl⟩
  have st := fun (W : World) => run_storeCells_new (P := Tryd.prog) W 78 singleC X (by rw [hX.out]; kernel_rfl) (by rw [hX.out]; rfl) (by rw [hX.out]; kernel_rfl)
  have BX : Hid (Box (w.alloc (.cells X 78)) w.heap.size [.int .i64 t.kind, .string t.text, .int .i64 t.n, .int .i64 t.m, .int .i64 x.kind, .string x.text, .int .i64 x.n, .int .i64 x.m, .int .i64 x.pl, .slice dx x.parts.length cx]) := by rw [hX.out]; exact Box.new w _ _
  show Calls _ _ #[.iface 78 (.agg #[.int .i64 t.kind, .string t.text, .int .i64 t.n, .int .i64 t.m, .int .i64 x.kind, .string x.text, .int .i64 x.n, .int .i64 x.m, .int .i64 x.pl, .slice dx x.parts.length cx])] _ _
  rw [← hX.out]
  have hXs : X.size = 10 := by rw [hX.out]; rfl
  have x0 : ∀ h : 0 < X.size, X[0]'h = .int .i64 t.kind := by rw [hX.out]; intro h; rfl
  have x1 : ∀ h : 1 < X.size, X[1]'h = .string t.text := by rw [hX.out]; intro h; rfl
  have x2 : ∀ h : 2 < X.size, X[2]'h = .int .i64 t.n := by rw [hX.out]; intro h; rfl
  have x3 : ∀ h : 3 < X.size, X[3]'h = .int .i64 t.m := by rw [hX.out]; intro h; rfl
  clear hX
  clear hT sx ix h1 h2
  go_enter Tryd.func36, Tryd.ntmps36
  go_wp2_with fail
  refine Calls.mono (P.out _) ?_
  rintro e w1 ⟨rfl, b1⟩
  have B1 : Hid (Below w.heap.size w w1) := below_on ((Below.refl _ _).alloc (Nat.le_refl _) _) b1 (by simp)
  have X1 := hid2 (BX.out.next b1)
  clear b1
  cases q1
  · go_wp2_with fail
    go_ret
    exact ⟨by simp, B1.out⟩
  · have k0 := X1.out.cell 4 _ rfl
    have k1 := X1.out.cell 5 _ rfl
    have k2 := X1.out.cell 6 _ rfl
    have k3 := X1.out.cell 7 _ rfl
    have k4 := X1.out.cell 8 _ rfl
    have k5 := X1.out.cell 9 _ rfl
    go_wp2_with fail
    clear k0 k1 k2 k3 k4 k5
    refine Calls.mono (Hx.out _ B1.out) ?_
    rintro e w2 ⟨rfl, b2⟩
    have B2 : Hid (Below w.heap.size w w2) := below_on B1.out b2 B1.out.size
    clear b2
    go_wp2_with fail
    go_ret
    exact ⟨by simp, B2.out⟩
set_option maxRecDepth 20000 in
set_option maxHeartbeats 400000 in
theorem act_2 {z : Nat} (t x y : Tm) (ax ay : Value) (w : World) (hT : TabsAt w) (sx : Sits z w x ax) (ix : FormedAt z x) (sy : Sits z w y ay) (iy : ActionAt z y) : Calls Tryd.prog 36 #[doubleV t x y ax ay] w fun e w' => e = .returned (.bool (plainB t.kind t.text t.n t.m 36 36 && (formedB x && actionB y))) ∧ Below w.heap.size w w' := by
  obtain ⟨dx, cx, rfl, -, -⟩ := sx.parts.shape
  obtain ⟨dy, cy, rfl, -, -⟩ := sy.parts.shape
  obtain ⟨q1, h1⟩ : ∃ q : Bool, Hid (q = plainB t.kind t.text t.n t.m 36 36) := ⟨_, rfl⟩
  have P : Hid (∀ wx, Calls Tryd.prog 60 #[.agg #[.int .i64 t.kind, .string t.text, .int .i64 t.n, .int .i64 t.m], .int .i64 36, .int .i64 36] wx fun e w' => e = .returned (.bool q1) ∧ Below wx.heap.size wx w') := fun wx => by rw [h1.out]; exact plain_c _ _ _ _ _ _ wx
  rw [← h1.out]
  have Hx := hid2 (ix.on sx hT)
  obtain ⟨q2, h2⟩ : ∃ q : Bool, Hid (q = formedB x) := ⟨_, rfl⟩
  rw [← h2.out]
  rw [← h2.out] at Hx
  have Hy := hid2 (iy.on sy hT)
  obtain ⟨q3, h3⟩ : ∃ q : Bool, Hid (q = actionB y) := ⟨_, rfl⟩
  rw [← h3.out]
  rw [← h3.out] at Hy
  have t_double_no_leaf := double_no_leaf
  have t_double_no_single := double_no_single
  have t_is_double := is_double
  obtain ⟨X, hX⟩ : ∃ X : Array Value, Hid (X = #[.int .i64 t.kind, .string t.text, .int .i64 t.n, .int .i64 t.m, .int .i64 x.kind, .string x.text, .int .i64 x.n, .int .i64 x.m, .int .i64 x.pl, .slice dx x.parts.length cx, .int .i64 y.kind, .string y.text, .int .i64 y.n, .int .i64 y.m, .int .i64 y.pl, .slice dy y.parts.length cy]) := ⟨_, rfl⟩
  have st := fun (W : World) => run_storeCells_new (P := Tryd.prog) W 81 doubleC X (by rw [hX.out]; kernel_rfl) (by rw [hX.out]; rfl) (by rw [hX.out]; kernel_rfl)
  have BX : Hid (Box (w.alloc (.cells X 81)) w.heap.size [.int .i64 t.kind, .string t.text, .int .i64 t.n, .int .i64 t.m, .int .i64 x.kind, .string x.text, .int .i64 x.n, .int .i64 x.m, .int .i64 x.pl, .slice dx x.parts.length cx, .int .i64 y.kind, .string y.text, .int .i64 y.n, .int .i64 y.m, .int .i64 y.pl, .slice dy y.parts.length cy]) := by rw [hX.out]; exact Box.new w _ _
  show Calls _ _ #[.iface 81 (.agg #[.int .i64 t.kind, .string t.text, .int .i64 t.n, .int .i64 t.m, .int .i64 x.kind, .string x.text, .int .i64 x.n, .int .i64 x.m, .int .i64 x.pl, .slice dx x.parts.length cx, .int .i64 y.kind, .string y.text, .int .i64 y.n, .int .i64 y.m, .int .i64 y.pl, .slice dy y.parts.length cy])] _ _
  rw [← hX.out]
  have hXs : X.size = 16 := by rw [hX.out]; rfl
  have x0 : ∀ h : 0 < X.size, X[0]'h = .int .i64 t.kind := by rw [hX.out]; intro h; rfl
  have x1 : ∀ h : 1 < X.size, X[1]'h = .string t.text := by rw [hX.out]; intro h; rfl
  have x2 : ∀ h : 2 < X.size, X[2]'h = .int .i64 t.n := by rw [hX.out]; intro h; rfl
  have x3 : ∀ h : 3 < X.size, X[3]'h = .int .i64 t.m := by rw [hX.out]; intro h; rfl
  clear hX
  clear hT sx ix sy iy h1 h2 h3
  go_enter Tryd.func36, Tryd.ntmps36
  go_wp2_with fail
  refine Calls.mono (P.out _) ?_
  rintro e w1 ⟨rfl, b1⟩
  have B1 : Hid (Below w.heap.size w w1) := below_on ((Below.refl _ _).alloc (Nat.le_refl _) _) b1 (by simp)
  have X1 := hid2 (BX.out.next b1)
  clear b1
  cases q1
  · go_wp2_with fail
    go_ret
    exact ⟨by simp, B1.out⟩
  · have k0 := X1.out.cell 4 _ rfl
    have k1 := X1.out.cell 5 _ rfl
    have k2 := X1.out.cell 6 _ rfl
    have k3 := X1.out.cell 7 _ rfl
    have k4 := X1.out.cell 8 _ rfl
    have k5 := X1.out.cell 9 _ rfl
    go_wp2_with fail
    clear k0 k1 k2 k3 k4 k5
    refine Calls.mono (Hx.out _ B1.out) ?_
    rintro e w2 ⟨rfl, b2⟩
    have B2 : Hid (Below w.heap.size w w2) := below_on B1.out b2 B1.out.size
    have X2 := hid2 (X1.out.next b2)
    clear b2
    cases q2
    · go_wp2_with fail
      go_ret
      exact ⟨by simp, B2.out⟩
    · have k0 := X2.out.cell 10 _ rfl
      have k1 := X2.out.cell 11 _ rfl
      have k2 := X2.out.cell 12 _ rfl
      have k3 := X2.out.cell 13 _ rfl
      have k4 := X2.out.cell 14 _ rfl
      have k5 := X2.out.cell 15 _ rfl
      go_wp2_with fail
      clear k0 k1 k2 k3 k4 k5
      refine Calls.mono (Hy.out _ B2.out) ?_
      rintro e w3 ⟨rfl, b3⟩
      have B3 : Hid (Below w.heap.size w w3) := below_on B2.out b3 B2.out.size
      clear b3
      go_wp2_with fail
      go_ret
      exact ⟨by simp, B3.out⟩
set_option maxRecDepth 20000 in
theorem act_3 (v : Value) (w : World) : Calls Tryd.prog 36 #[.iface 83 v] w fun e w' => e = .returned (.bool false) ∧ w' = w := by
  have t1 := triple_no_leaf
  have t2 := triple_no_single
  have t3 := triple_no_double
  have t4 := triple_no_many
  go_enter Tryd.func36, Tryd.ntmps36
  go_wp2_with fail
  go_ret
  exact ⟨rfl, rfl⟩
set_option maxRecDepth 20000 in
set_option maxHeartbeats 400000 in
theorem act_4 {z : Nat} (t x y : Tm) (l : List Tm) (ax am ay : Value) (w : World) (hT : TabsAt w) (sx : Sits z w x ax) (ix : FormedAt z x) (hz : z ≤ 562949953421312) (sm : PAt z w am l) (hpos : 0 < l.length) (im : ∀ e, e ∈ l → ActionAt z e) (sy : Sits z w y ay) (iy : ActionAt z y) : Calls Tryd.prog 36 #[manyV t x y ax am ay] w fun e w' => e = .returned (.bool (plainB t.kind t.text t.n t.m 36 36 && (formedB x && (pairsB l && actionB y)))) ∧ Below w.heap.size w w' := by
  obtain ⟨dx, cx, rfl, -, -⟩ := sx.parts.shape
  obtain ⟨dm, cm, rfl, -, -⟩ := sm.shape
  obtain ⟨dy, cy, rfl, -, -⟩ := sy.parts.shape
  obtain ⟨q1, h1⟩ : ∃ q : Bool, Hid (q = plainB t.kind t.text t.n t.m 36 36) := ⟨_, rfl⟩
  have P : Hid (∀ wx, Calls Tryd.prog 60 #[.agg #[.int .i64 t.kind, .string t.text, .int .i64 t.n, .int .i64 t.m], .int .i64 36, .int .i64 36] wx fun e w' => e = .returned (.bool q1) ∧ Below wx.heap.size wx w') := fun wx => by rw [h1.out]; exact plain_c _ _ _ _ _ _ wx
  rw [← h1.out]
  have Hx := hid2 (ix.on sx hT)
  obtain ⟨q2, h2⟩ : ∃ q : Bool, Hid (q = formedB x) := ⟨_, rfl⟩
  rw [← h2.out]
  rw [← h2.out] at Hx
  have Hm : Hid (∀ wx, Below w.heap.size w wx → Calls Tryd.prog 62 #[.slice dm l.length cm] wx fun e w' => e = .returned (.bool (pairsB l)) ∧ Below wx.heap.size wx w') := fun wx hb => pairs_c hz l _ wx (sm.next hb) (hT.next hb) hpos im
  obtain ⟨q3, h3⟩ : ∃ q : Bool, Hid (q = pairsB l) := ⟨_, rfl⟩
  rw [← h3.out]
  rw [← h3.out] at Hm
  have Hy := hid2 (iy.on sy hT)
  obtain ⟨q4, h4⟩ : ∃ q : Bool, Hid (q = actionB y) := ⟨_, rfl⟩
  rw [← h4.out]
  rw [← h4.out] at Hy
  have t_many_no_leaf := many_no_leaf
  have t_many_no_single := many_no_single
  have t_many_no_double := many_no_double
  have t_is_many := is_many
  obtain ⟨X, hX⟩ : ∃ X : Array Value, Hid (X = #[.int .i64 t.kind, .string t.text, .int .i64 t.n, .int .i64 t.m, .int .i64 x.kind, .string x.text, .int .i64 x.n, .int .i64 x.m, .int .i64 x.pl, .slice dx x.parts.length cx, .slice dm l.length cm, .int .i64 y.kind, .string y.text, .int .i64 y.n, .int .i64 y.m, .int .i64 y.pl, .slice dy y.parts.length cy]) := ⟨_, rfl⟩
  have st := fun (W : World) => run_storeCells_new (P := Tryd.prog) W 85 manyC X (by rw [hX.out]; kernel_rfl) (by rw [hX.out]; rfl) (by rw [hX.out]; kernel_rfl)
  have BX : Hid (Box (w.alloc (.cells X 85)) w.heap.size [.int .i64 t.kind, .string t.text, .int .i64 t.n, .int .i64 t.m, .int .i64 x.kind, .string x.text, .int .i64 x.n, .int .i64 x.m, .int .i64 x.pl, .slice dx x.parts.length cx, .slice dm l.length cm, .int .i64 y.kind, .string y.text, .int .i64 y.n, .int .i64 y.m, .int .i64 y.pl, .slice dy y.parts.length cy]) := by rw [hX.out]; exact Box.new w _ _
  show Calls _ _ #[.iface 85 (.agg #[.int .i64 t.kind, .string t.text, .int .i64 t.n, .int .i64 t.m, .int .i64 x.kind, .string x.text, .int .i64 x.n, .int .i64 x.m, .int .i64 x.pl, .slice dx x.parts.length cx, .slice dm l.length cm, .int .i64 y.kind, .string y.text, .int .i64 y.n, .int .i64 y.m, .int .i64 y.pl, .slice dy y.parts.length cy])] _ _
  rw [← hX.out]
  have hXs : X.size = 17 := by rw [hX.out]; rfl
  have x0 : ∀ h : 0 < X.size, X[0]'h = .int .i64 t.kind := by rw [hX.out]; intro h; rfl
  have x1 : ∀ h : 1 < X.size, X[1]'h = .string t.text := by rw [hX.out]; intro h; rfl
  have x2 : ∀ h : 2 < X.size, X[2]'h = .int .i64 t.n := by rw [hX.out]; intro h; rfl
  have x3 : ∀ h : 3 < X.size, X[3]'h = .int .i64 t.m := by rw [hX.out]; intro h; rfl
  clear hX
  clear hT sx ix sm im sy iy h1 h2 h3 h4 hz hpos
  go_enter Tryd.func36, Tryd.ntmps36
  go_wp2_with fail
  refine Calls.mono (P.out _) ?_
  rintro e w1 ⟨rfl, b1⟩
  have B1 : Hid (Below w.heap.size w w1) := below_on ((Below.refl _ _).alloc (Nat.le_refl _) _) b1 (by simp)
  have X1 := hid2 (BX.out.next b1)
  clear b1
  cases q1
  · go_wp2_with fail
    go_ret
    exact ⟨by simp, B1.out⟩
  · have k0 := X1.out.cell 4 _ rfl
    have k1 := X1.out.cell 5 _ rfl
    have k2 := X1.out.cell 6 _ rfl
    have k3 := X1.out.cell 7 _ rfl
    have k4 := X1.out.cell 8 _ rfl
    have k5 := X1.out.cell 9 _ rfl
    go_wp2_with fail
    clear k0 k1 k2 k3 k4 k5
    refine Calls.mono (Hx.out _ B1.out) ?_
    rintro e w2 ⟨rfl, b2⟩
    have B2 : Hid (Below w.heap.size w w2) := below_on B1.out b2 B1.out.size
    have X2 := hid2 (X1.out.next b2)
    clear b2
    cases q2
    · go_wp2_with fail
      go_ret
      exact ⟨by simp, B2.out⟩
    · have k0 := X2.out.cell 10 _ rfl
      go_wp2_with fail
      clear k0
      refine Calls.mono (Hm.out _ B2.out) ?_
      rintro e w3 ⟨rfl, b3⟩
      have B3 : Hid (Below w.heap.size w w3) := below_on B2.out b3 B2.out.size
      have X3 := hid2 (X2.out.next b3)
      clear b3
      cases q3
      · go_wp2_with fail
        go_ret
        exact ⟨by simp, B3.out⟩
      · have k0 := X3.out.cell 11 _ rfl
        have k1 := X3.out.cell 12 _ rfl
        have k2 := X3.out.cell 13 _ rfl
        have k3 := X3.out.cell 14 _ rfl
        have k4 := X3.out.cell 15 _ rfl
        have k5 := X3.out.cell 16 _ rfl
        go_wp2_with fail
        clear k0 k1 k2 k3 k4 k5
        refine Calls.mono (Hy.out _ B3.out) ?_
        rintro e w4 ⟨rfl, b4⟩
        have B4 : Hid (Below w.heap.size w w4) := below_on B3.out b4 B3.out.size
        clear b4
        go_wp2_with fail
        go_ret
        exact ⟨by simp, B4.out⟩
theorem action_c {z : Nat} (hz : z ≤ 562949953421312) (t : Tm) (n : Value) (w : World) (hn : IsNode z w t n) (hT : TabsAt w) (ih : ∀ x, x ∈ t.parts → ActionAt z x) : Calls Tryd.prog 36 #[n] w fun e w' => e = .returned (.bool (actionB t)) ∧ Below w.heap.size w w' := by
  rcases hn with ⟨hp, rfl⟩ | ⟨x, a, hp, rfl, p⟩ | ⟨x, y, a, b, hp, rfl, p, q⟩ | ⟨x, y, u, a, b, c, hp, rfl, p, q, r⟩ | ⟨x, y, l, a, mid, b, hp, h2, rfl, p, q, r⟩
  · rw [action_0 hp]; exact act_0 t w
  · rw [action_1 hp]; exact act_1 t x a w hT p (formed_all hz x)
  · rw [action_2 hp]; exact act_2 t x y a b w hT p (formed_all hz x) q (ih y (by rw [hp]; simp))
  · rw [action_3 hp]
    refine (act_3 _ w).mono ?_
    rintro e w1 ⟨rfl, rfl⟩
    exact ⟨rfl, Below.refl _ _⟩
  · rw [action_4 hp h2]
    exact act_4 t x y l a mid b w hT p (formed_all hz x) hz q (by omega) (fun e he => ih e (by rw [hp]; simp [he])) r (ih y (by rw [hp]; simp))
theorem action_all {z : Nat} (hz : z ≤ 562949953421312) (t : Tm) : ActionAt z t := by
  induction t using Tm.ind with
  | h t ih =>
    intro v w hs hT
    have A : ∀ o, Below w.heap.size w (w.alloc o) := fun o => (Below.refl _ _).alloc (Nat.le_refl _) _
    have HN := hid2 (fun o => nodeOf_c t v (w.alloc o) (hs.next (A o)))
    have HA := hid2 (fun n wx (hb : Below w.heap.size w wx) (hn : IsNode z wx t n) => action_c hz t n wx hn (hT.next hb) ih)
    clear hs hT ih
    obtain ⟨r, hr⟩ : ∃ r : Bool, Hid (r = actionB t) := ⟨_, rfl⟩
    rw [← hr.out] at HA ⊢
    go_enter Tryd.func13, Tryd.ntmps13
    go_wp2_with fail
    refine Calls.mono (HN.out _) ?_
    rintro e w1 ⟨n, rfl, hn, b1⟩
    have B1 : Hid (Below w.heap.size w w1) := below_on (A _) b1 (by simp)
    have HN1 := hid2 hn
    clear b1 A hn
    go_wp2_with fail
    refine Calls.mono (HA.out n _ B1.out HN1.out) ?_
    rintro e w2 ⟨rfl, b2⟩
    have B2 : Hid (Below w.heap.size w w2) := below_on B1.out b2 B1.out.size
    clear b2
    go_wp2_with fail
    go_ret
    exact ⟨rfl, B2.out⟩
end Go.Proofs.YtdikeicnefgjcaaDoor
