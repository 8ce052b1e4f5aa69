import Derived.Test.YtigldebdljfnbaaGreatDoorCqNaF
import Derived.Test.YtigldebdljfnbaaGreatDoorCqMgP
import Derived.Test.YtigldebdljfnbaaGreatDoorCqNaE
namespace Go.Proofs.YtigldebdljfnbaaGreatDoor
open Go.RowKit

set_option maxHeartbeats 2000000 in
set_option maxRecDepth 20000 in
theorem beneath_c (t : Co) (i : Nat) (x : Co) (hx : t.parts[i]? = some x) (hi : i ≤ 1000000) (v : Value) (w : World) (hs : CSits w t v) :
    Calls Tryz.prog 60 #[coV t v, .int .i64 (i : Nat)] w fun e w' => e = .returned (.int .i64 (benF t.op i x.op : Nat)) ∧ Below w.heap.size w w' := by
  obtain ⟨hil, rfl⟩ := List.getElem?_eq_some_iff.1 hx
  obtain ⟨b, off, cap, rfl, k1, k2, hbl, hp⟩ := hs.parts.open (by omega)
  obtain ⟨u, f, -⟩ := hp i hil
  have hlt : (i : Int) < (t.parts.length : Int) := by omega
  obtain ⟨R, hR⟩ : ∃ R, Hid (R = benF t.op i t.parts[i].op) := ⟨_, chid rfl⟩
  rw [← hR.out]
  clear hx hs hp k1
  generalize t.parts[i] = x at *
  clear hil
  generalize t.parts.length = N at *
  obtain ⟨o, n, m, P⟩ := t
  have HR : Hid (R = benF o i x.op) := hR
  clear hR
  have HB := chid ((Below.refl w.heap.size w).alloc (Nat.le_refl _) (.cells #[.int .i64 o, .int .i64 n, .int .i64 m, .slice (some ⟨b, off, none⟩) N cap] 30))
  have y0 := (HB.out.cell (p := ⟨b, off + i * 4, none⟩) hbl).trans f.c0
  have lb : b < (w.alloc (.cells #[.int .i64 o, .int .i64 n, .int .i64 m, .slice (some ⟨b, off, none⟩) N cap] 30)).heap.size := Nat.lt_of_lt_of_le hbl HB.out.size
  have Y0 := Box.new w [.int .i64 o, .int .i64 n, .int .i64 m, .slice (some ⟨b, off, none⟩) N cap] 30
  have x0 := Y0.cell 0 _ rfl
  have x3 := Y0.cell 3 _ rfl
  have xl := Y0.lt
  have HX : Hid (w.heap.size < (w.alloc (.cells #[.int .i64 o, .int .i64 n, .int .i64 m, .slice (some ⟨b, off, none⟩) N cap] 30)).heap.size) := chid xl
  clear f Y0 hbl
  generalize x.op = xo at *
  by_cases h1 : 14 ≤ o ∧ o ≤ 24
  · have h14 : decide (14 ≤ o) = true := by simp; omega
    have h24 : decide (o ≤ 24) = true := by simp; omega
    have ha : 14 ≤ o := h1.1
    have hb : o ≤ 24 := h1.2
    have hr : Hid (R = i) := chid (by rw [HR.out]; exact if_pos h1)
    clear h1
    go_enter Tryz.func60, Tryz.ntmps60
    go_wp2_with fail
    go_ret
    rw [hr.out]
    exact ⟨rfl, HB.out⟩
  · by_cases h2 : o = 32
    · subst h2
      by_cases h3 : 0 < i
      · have h3' : (0 : Int) < (i : Int) := by omega
        by_cases h4 : xo = 1
        · subst h4
          have hr : Hid (R = 2) := chid (by rw [HR.out]; unfold benF; rw [if_neg (by decide), if_pos ⟨rfl, h3, rfl⟩])
          clear h1 HR
          go_enter Tryz.func60, Tryz.ntmps60
          go_wp2_with fail
          go_ret
          rw [hr.out]
          exact ⟨rfl, HB.out⟩
        · have h4' : (xo == 1) = false := by simpa using h4
          have hr : Hid (R = 0) := chid (by rw [HR.out]; unfold benF; rw [if_neg (by decide), if_neg (fun h => h4 h.2.2)])
          clear h1 HR
          go_enter Tryz.func60, Tryz.ntmps60
          go_wp2_with fail
          go_ret
          rw [hr.out]
          exact ⟨rfl, HB.out⟩
      · obtain rfl : i = 0 := by omega
        have hr : Hid (R = 0) := chid (by rw [HR.out]; unfold benF; rw [if_neg (by decide), if_neg (fun h => by omega)])
        clear h1 h3 HR
        go_enter Tryz.func60, Tryz.ntmps60
        go_wp2_with fail
        go_ret
        rw [hr.out]
        exact ⟨rfl, HB.out⟩
    · have h2' : (o == 32) = false := by simpa using h2
      have hr : Hid (R = 0) := chid (by rw [HR.out]; unfold benF; rw [if_neg h1, if_neg (fun h => h2 h.1)])
      clear HR
      by_cases h3 : 14 ≤ o
      · have h14 : decide (14 ≤ o) = true := by simp; omega
        have h24 : decide (o ≤ 24) = false := by simp; omega
        have hb : ¬ o ≤ 24 := by omega
        clear h1
        go_enter Tryz.func60, Tryz.ntmps60
        go_wp2_with fail
        go_ret
        rw [hr.out]
        exact ⟨rfl, HB.out⟩
      · have h14 : decide (14 ≤ o) = false := by simp; omega
        clear h1
        go_enter Tryz.func60, Tryz.ntmps60
        go_wp2_with fail
        go_ret
        rw [hr.out]
        exact ⟨rfl, HB.out⟩

def HgtC (t : Co) : Prop := ∀ (v : Value) (w : World), CSits w t v → cnodes t ≤ 100000 → Calls Tryz.prog 30 #[coV t v] w fun e w' => e = .returned (.int .i64 (hgtF t : Nat)) ∧ Below w.heap.size w w'
theorem benF_le (k : Int) (i : Nat) (op : Int) : benF k i op ≤ i + 2 := by unfold benF; split; omega; split <;> omega
theorem hL_take_le (k : Int) (l : List Co) (j : Nat) : hL k 0 (hP (l.take j)) ≤ 3 * cnodesL l + 2 := by
  have h := hL_sum k (l.take j) 0 (fun x _ => hgt_le x)
  have h2 : cnodesL (l.take j) ≤ cnodesL l := by
    conv => rhs; rw [← List.take_append_drop j l, cnodesL_append]
    omega
  omega
set_option maxHeartbeats 2000000 in
set_option maxRecDepth 20000 in
theorem height_step (t : Co) (ih : ∀ x, x ∈ t.parts → HgtC x) : HgtC t := by
  intro v w hs hn
  obtain ⟨ad, cap, rfl, k1, k2⟩ := hs.parts.shape
  have HIh := chid ih
  have HL := chid hs.parts
  have HS := chid hs
  have HN := chid hn
  have hcn := cnodes_eq t
  have HCn := chid hcn
  have hln := length_cnodesL t.parts
  obtain ⟨N, hN⟩ : ∃ N, Hid (N = t.parts.length) := ⟨_, chid rfl⟩
  obtain ⟨R, hR⟩ : ∃ R, Hid (R = hgtF t) := ⟨_, chid rfl⟩
  rw [← hR.out]
  have hNs : N ≤ 100000 := by have := hN.out; omega
  rw [← hN.out] at HL HS k1 ⊢
  have HBn := chid (fun (i : Nat) (x : Co) (hx : t.parts[i]? = some x) (hi : i ≤ 1000000) W (hW : Below w.heap.size w W) => beneath_c t i x hx hi (.slice ad N cap) W (HS.out.next hW))
  obtain ⟨o, n, m, P⟩ := t
  have HR : Hid (R = hO o (hP P)) := chid (hR.out.trans (hgtF_eq _))
  have HLP : Hid (N = P.length) := hN
  have HB := chid ((Below.refl w.heap.size w).alloc (Nat.le_refl _) (.cells #[.int .i64 o, .int .i64 n, .int .i64 m, .slice ad N cap] 30))
  have Y0 := Box.new w [.int .i64 o, .int .i64 n, .int .i64 m, .slice ad N cap] 30
  have HY := chid Y0
  have x0 := Y0.cell 0 _ rfl
  have x1 := Y0.cell 1 _ rfl
  have x2 := Y0.cell 2 _ rfl
  have x3 := Y0.cell 3 _ rfl
  have xl := Y0.lt
  clear Y0 hs hn ih hcn hln hR hN k1
  by_cases h29 : o = 29
  · subst h29
    have hr : Hid (R = 0) := chid (by rw [HR.out]; rfl)
    clear HR
    go_enter Tryz.func30, Tryz.ntmps30
    go_wp2_with fail
    go_ret
    rw [hr.out]
    exact ⟨rfl, HB.out⟩
  · have h29' : (o == 29) = false := by simpa using h29
    by_cases hN0 : N = 0
    · subst hN0
      have hr : Hid (R = 1) := chid (by rw [HR.out]; unfold hO; rw [if_neg h29, if_pos (by rw [hP_len]; exact HLP.out.symm)])
      clear HR
      go_enter Tryz.func30, Tryz.ntmps30
      go_wp2_with fail
      go_ret
      rw [hr.out]
      exact ⟨rfl, HB.out⟩
    · have hN0' : ((N : Int) == 0) = false := by simp; omega
      have hr : Hid (R = hL o 0 (hP P)) := chid (by rw [HR.out]; unfold hO; rw [if_neg h29, if_neg (by rw [hP_len]; have := HLP.out; omega)])
      clear HR
      go_enter Tryz.func30, Tryz.ntmps30
      go_wp2_with fail
      generalize hW : (w.alloc _) = W at *
      clear hW
      have HSt : Hid (0 = hL o 0 (hP (P.take 0))) := chid rfl
      clear x0 x1 x2 x3 xl
      go_loopw [3, 18] (fun mv i wr => ∃ (j a : Nat), mv = .int .i64 (a : Nat) ∧ i = .int .i64 (j : Nat) ∧ j ≤ N ∧ Hid (a = hL o 0 (hP (P.take j))) ∧ Hid (Below W.heap.size W wr)) (fun _ i _ => match i with | .int _ z => ((N : Int) - z).toNat | _ => 0)
      case atStart => exact ⟨0, 0, rfl, rfl, Nat.zero_le _, HSt, chid (Below.refl _ _)⟩
      case round =>
        obtain ⟨j, a, rfl, rfl, hj, Ha, HW⟩ := hrel
        by_cases hlt : j < N
        · have hlt' : (j : Int) < (N : Int) := by omega
          have hjl : j < P.length := by rw [← HLP.out]; exact hlt
          obtain ⟨b, off, cap', hv, -, -, hbl, hx⟩ := HL.out.open (by omega)
          simp only [Value.slice.injEq] at hv
          obtain ⟨rfl, -, rfl⟩ := hv
          obtain ⟨u, f, sx⟩ := hx j hjl
          obtain ⟨ax, cx, rfl, -, -⟩ := sx.parts.shape
          have HWw : Hid (Below w.heap.size w wr) := chid (HB.out.trans (HW.out.mono HB.out.size))
          have kp := fun q => HWw.out.cell (p := ⟨b, q, none⟩) hbl
          obtain ⟨y0, y1, y2, y3⟩ := f.keep kp
          have lb : b < wr.heap.size := Nat.lt_of_lt_of_le hbl HWw.out.size
          have hcl := cnodesL_mem (List.getElem_mem hjl)
          have hgl := hgt_le P[j]
          have HCl := chid (fun W' (hW' : Below w.heap.size w W') => HIh.out _ (List.getElem_mem hjl) (.slice ax P[j].parts.length cx) W' (sx.next hW') (by have := HN.out; have := HCn.out; omega))
          have HBe := chid (fun W' (hW' : Below w.heap.size w W') => HBn.out j P[j] (List.getElem?_eq_getElem hjl) (by omega) W' hW')
          have HMx : Hid (hL o 0 (hP (P.take (j + 1))) = max a (benF o j P[j].op + hgtF P[j])) := chid (by rw [hP_take hjl, Ha.out])
          have hbl2 := benF_le o j P[j].op
          have hal : a ≤ 500000 := by rw [Ha.out]; have := hL_take_le o P j; have := HN.out; have := HCn.out; omega
          have hgl2 : hgtF P[j] ≤ 500000 := by have := HN.out; have := HCn.out; omega
          clear hx f sx kp hbl hcl hgl
          generalize P[j] = x at *
          generalize hgtF x = h at *
          generalize benF o j x.op = B at *
          obtain ⟨Z0, ZB⟩ := one_box wr 30 [.int .i64 x.op, .int .i64 x.n, .int .i64 x.m, .slice ax x.parts.length cx]
          have z0 := Z0.cell 0 _ rfl
          have z1 := Z0.cell 1 _ rfl
          have z2 := Z0.cell 2 _ rfl
          have z3 := Z0.cell 3 _ rfl
          have zl := Z0.lt
          have Y0 := (HY.out.next HW.out).next ZB
          have x0 := Y0.cell 0 _ rfl
          have x1 := Y0.cell 1 _ rfl
          have x2 := Y0.cell 2 _ rfl
          have x3 := Y0.cell 3 _ rfl
          have xl := Y0.lt
          have HZB := chid (cbelow_on HWw.out ZB HWw.out.size)
          have HZW := chid (cbelow_on HW.out ZB HW.out.size)
          have hw1 : IntKind.i64.wrap ((B : Int) + (h : Int)) = (B : Int) + (h : Int) := by rw [IntKind.wrap_i64]; omega
          have hwj : IntKind.i64.wrap ((j : Int) + 1) = (j : Int) + 1 := by rw [IntKind.wrap_i64]; omega
          clear Z0 ZB Y0 hbl2
          go_wp2_with fail
          generalize hX : (wr.alloc _) = X at *
          clear hX
          go_region_held3 (fun w' => (w'.cell? ⟨w.heap.size, 0, none⟩ = some (.int .i64 o) ∧ w'.cell? ⟨w.heap.size, 1, none⟩ = some (.int .i64 n) ∧ w'.cell? ⟨w.heap.size, 2, none⟩ = some (.int .i64 m) ∧ w'.cell? ⟨w.heap.size, 3, none⟩ = some (.slice (some ⟨b, off, none⟩) N cap)) ∧ (w'.cell? ⟨wr.heap.size, 0, none⟩ = some (.int .i64 x.op) ∧ w'.cell? ⟨wr.heap.size, 1, none⟩ = some (.int .i64 x.n) ∧ w'.cell? ⟨wr.heap.size, 2, none⟩ = some (.int .i64 x.m) ∧ w'.cell? ⟨wr.heap.size, 3, none⟩ = some (.slice ax x.parts.length cx))) (simp [go_sem, *]) (first
            | (go_at_call 60; refine Calls.mono (HBe.out _ (by exact cdrewN HZB.out _)) ?_; rintro e w2 ⟨rfl, b2⟩; have bb2 : Below X.heap.size X w2 := ⟨b2.os, b2.tape, b2.output, b2.size, b2.block⟩; have gg := fun p v hp hv => (bb2.cell (p := p) hp).trans (hv : X.cell? p = some v); replace x0 := gg _ _ xl x0; replace x1 := gg _ _ xl x1; replace x2 := gg _ _ xl x2; replace x3 := gg _ _ xl x3; replace z0 := gg _ _ zl z0; replace z1 := gg _ _ zl z1; replace z2 := gg _ _ zl z2; replace z3 := gg _ _ zl z3; replace xl : w.heap.size < w2.heap.size := Nat.lt_of_lt_of_le xl bb2.size; replace zl : wr.heap.size < w2.heap.size := Nat.lt_of_lt_of_le zl bb2.size; have HB2 := chid (cbelow_on HZB.out bb2 HZB.out.size); have HB2W := chid (cbelow_on HZW.out bb2 HZW.out.size); clear gg b2 bb2)
            | (go_at_call 30; refine Calls.mono (HCl.out _ HB2.out) ?_; rintro e w3 ⟨rfl, b3⟩; have bb3 : Below w2.heap.size w2 w3 := ⟨b3.os, b3.tape, b3.output, b3.size, b3.block⟩; have gg := fun p v hp hv => (bb3.cell (p := p) hp).trans (hv : w2.cell? p = some v); replace x0 := gg _ _ xl x0; replace x1 := gg _ _ xl x1; replace x2 := gg _ _ xl x2; replace x3 := gg _ _ xl x3; replace z0 := gg _ _ zl z0; replace z1 := gg _ _ zl z1; replace z2 := gg _ _ zl z2; replace z3 := gg _ _ zl z3; replace xl : w.heap.size < w3.heap.size := Nat.lt_of_lt_of_le xl bb3.size; replace zl : wr.heap.size < w3.heap.size := Nat.lt_of_lt_of_le zl bb3.size; have HB3W := chid (cbelow_on HB2W.out bb3 HB2W.out.size); clear gg b3 bb3))
          all_goals go_wp2_with fail
          refine ⟨⟨j + 1, max a (B + h), ?_, by go_num, by omega, chid HMx.out.symm, HB3W⟩, ?_⟩
          · congr 1
            split <;> omega
          · simp; omega
        · have hlt' : ¬ (j : Int) < (N : Int) := by omega
          obtain rfl : j = N := by omega
          have HT : Hid (P.take j = P) := chid (by rw [HLP.out, List.take_length])
          go_wp2_with fail
          go_ret
          rw [hr.out, Ha.out, HT.out]
          exact ⟨rfl, HB.out.trans (HW.out.mono HB.out.size)⟩
theorem height_c (t : Co) : HgtC t := by
  induction t using Co.ind with
  | h t ih => exact height_step t ih

def hG : List (Co × Co) → Nat
  | [] => 0
  | g :: r => max (max (hgtF g.1) (hgtF g.2)) (hG r)
theorem hG_snoc (g : Co × Co) : ∀ l, hG (l ++ [g]) = max (hG l) (max (hgtF g.1) (hgtF g.2))
  | [] => by simp [hG]
  | x :: r => by rw [List.cons_append, hG, hG, hG_snoc g r]; omega
theorem hG_le : ∀ l : List (Co × Co), hG l ≤ 3 * gN l
  | [] => by simp [hG]
  | g :: r => by
    have h1 := hgt_le g.1
    have h2 := hgt_le g.2
    have h3 := hG_le r
    rw [hG, gN_cons]
    omega
theorem max3 (P : Program) (x y z : Nat) (w : World) : (Builtin.max_ #[3, 3, 3] 3 #[.int .i64 (x : Nat), .int .i64 (y : Nat), .int .i64 (z : Nat)]).run P w = .ok (.int .i64 ((max (max x y) z : Nat) : Int)) w := by
  have h2 : ∀ a b : Nat, Builtin.max2 (.int .i64 (a : Nat)) (.int .i64 (b : Nat)) = pure (.int .i64 ((max a b : Nat) : Int)) := fun a b => by
    show pure (Value.int .i64 (if (b : Int) > (a : Int) then (b : Int) else (a : Int))) = _
    congr 2
    split <;> omega
  show (List.foldlM Builtin.max2 (.int .i64 (x : Nat)) [.int .i64 (y : Nat), .int .i64 (z : Nat)]).run P w = _
  rw [List.foldlM_cons, h2]
  simp [List.foldlM_cons, List.foldlM_nil, go_sem, h2]
def plHgt (p : PlP) : Nat := max (hgtF p.fin) (hG p.gs)
set_option maxHeartbeats 4000000 in
set_option maxRecDepth 20000 in
theorem planHeight_c (p : PlP) (v : PlV) (w : World) (hs : PlAt w p v) (hn : gN p.gs + cnodes p.fin ≤ 100000) :
    Calls Tryz.prog 16 #[plV p v] w fun e w' => e = .returned (.int .i64 (plHgt p : Nat)) ∧ Below w.heap.size w w' := by
  obtain ⟨ru, loc, wok, cok, me, wi, cr, gs, fi⟩ := hs
  obtain ⟨a1, c1, e1, -, -⟩ := RowsK.shape me
  obtain ⟨a2, c2, e2, -, -⟩ := RowsK.shape wi
  obtain ⟨a3, c3, e3, -, -⟩ := RowsK.shape cr
  obtain ⟨a4, c4, e4, q1, q2⟩ := gs.shape
  obtain ⟨a5, c5, e5, -, -⟩ := fi.parts.shape
  obtain ⟨me', wi', cr', gs', fi'⟩ := v
  simp only at e1 e2 e3 e4 e5
  subst e1 e2 e3 e4 e5
  obtain ⟨N, hN⟩ : ∃ N, Hid (N = p.gs.length) := ⟨_, chid rfl⟩
  rw [← hN.out] at q1 gs ⊢
  obtain ⟨Y0, YB⟩ := one_box w 32 (plL p ⟨.slice a1 p.mets.length c1, .slice a2 p.wins.length c2, .slice a3 p.crons.length c3, .slice a4 N c4, .slice a5 p.fin.parts.length c5⟩)
  have HY := chid Y0
  have HB := chid YB
  have HN := chid hn
  have HG := chid gs
  have hfl := hgt_le p.fin
  have HFi := chid (fun W (hW : Below w.heap.size w W) => height_c p.fin (.slice a5 p.fin.parts.length c5) W (fi.next hW) (by omega))
  obtain ⟨h0, hh0⟩ : ∃ h0, Hid (h0 = hgtF p.fin) := ⟨_, chid rfl⟩
  have hfl2 : h0 ≤ 500000 := by rw [hh0.out]; omega
  rw [← hh0.out] at HFi
  have HR : Hid (plHgt p = max h0 (hG p.gs)) := chid (by unfold plHgt; rw [hh0.out])
  rw [HR.out]
  have hNs : N ≤ 100000 := by
    have h2 : p.gs.length ≤ gN p.gs := by
      clear hN HY HG HFi HR
      generalize p.gs = l
      induction l with
      | nil => simp
      | cons g r ih => rw [gN_cons, List.length_cons]; have := cnodes_pos g.1; omega
    have := hN.out
    omega
  have x9 := Y0.cell 9 _ rfl
  have x10 := Y0.cell 10 _ rfl
  have x11 := Y0.cell 11 _ rfl
  have x12 := Y0.cell 12 _ rfl
  have x13 := Y0.cell 13 _ rfl
  have xl := Y0.lt
  clear ru loc wok cok me wi cr gs fi hn Y0 YB hfl
  go_enter Tryz.func16, Tryz.ntmps16
  go_wp2_with fail
  generalize hW : (w.alloc _) = W at *
  clear hW
  refine Calls.mono (HFi.out W HB.out) ?_
  rintro e w1 ⟨rfl, b1⟩
  have HB1 := chid (cbelow_on HB.out b1 HB.out.size)
  have Y1 := HY.out.next b1
  clear b1 x9 x10 x11 x12 x13 xl
  have x9 := Y1.cell 9 _ rfl
  have xl := Y1.lt
  clear Y1
  have HSt : Hid (h0 = max h0 (hG (p.gs.take 0))) := chid (by show h0 = max h0 0; omega)
  go_wp2_with fail
  go_loopw [3, 12] (fun mv i wr => ∃ (j a : Nat), mv = .int .i64 (a : Nat) ∧ i = .int .i64 (j : Nat) ∧ j ≤ N ∧ Hid (a = max h0 (hG (p.gs.take j))) ∧ Hid (Below w.heap.size w wr)) (fun _ i _ => match i with | .int _ z => ((N : Int) - z).toNat | _ => 0)
  case atStart => exact ⟨0, h0, rfl, rfl, Nat.zero_le _, HSt, HB1⟩
  case round =>
    obtain ⟨j, a, rfl, rfl, hj, Ha, HW⟩ := hrel
    by_cases hlt : j < N
    · have hlt' : (j : Int) < (N : Int) := by omega
      have hjl : j < p.gs.length := by rw [← hN.out]; exact hlt
      obtain ⟨b, off, cap', hv, -, -, hbl, hx⟩ := HG.out.open (by omega)
      simp only [Value.slice.injEq] at hv
      obtain ⟨rfl, -, rfl⟩ := hv
      obtain ⟨u1, u2, f1, f2, s1, s2⟩ := hx j hjl
      obtain ⟨ax, cx, rfl, -, -⟩ := s1.parts.shape
      obtain ⟨ay, cy, rfl, -, -⟩ := s2.parts.shape
      have kp := fun q => HW.out.cell (p := ⟨b, q, none⟩) hbl
      obtain ⟨y0, y1, y2, y3⟩ := f1.keep kp
      obtain ⟨y4, y5, y6, y7⟩ := f2.keep kp
      have lb : b < wr.heap.size := Nat.lt_of_lt_of_le hbl HW.out.size
      have hsub := gord_sub (f := p.fin) (List.getElem_mem hjl)
      have hsub2 : cnodes p.gs[j].1 + cnodes p.gs[j].2 ≤ gN p.gs + cnodes p.fin := by unfold gN; rw [List.length_append] at hsub; exact hsub
      have HC1 := chid (fun W' (hW' : Below w.heap.size w W') => height_c p.gs[j].1 (.slice ax p.gs[j].1.parts.length cx) W' (s1.next hW') (by have := HN.out; omega))
      have HC2 := chid (fun W' (hW' : Below w.heap.size w W') => height_c p.gs[j].2 (.slice ay p.gs[j].2.parts.length cy) W' (s2.next hW') (by have := HN.out; omega))
      have HMx : Hid (max h0 (hG (p.gs.take (j + 1))) = max (max a (hgtF p.gs[j].1)) (hgtF p.gs[j].2)) := chid (by rw [List.take_succ_eq_append_getElem hjl, hG_snoc, Ha.out]; omega)
      clear hx f1 f2 s1 s2 kp hbl hsub hsub2
      generalize p.gs[j] = g at *
      generalize hgtF g.1 = k1 at *
      generalize hgtF g.2 = k2 at *
      obtain ⟨Z0, ZB⟩ := one_box wr 66 [.int .i64 g.1.op, .int .i64 g.1.n, .int .i64 g.1.m, .slice ax g.1.parts.length cx, .int .i64 g.2.op, .int .i64 g.2.n, .int .i64 g.2.m, .slice ay g.2.parts.length cy]
      have z0 := Z0.cell 0 _ rfl
      have z1 := Z0.cell 1 _ rfl
      have z2 := Z0.cell 2 _ rfl
      have z3 := Z0.cell 3 _ rfl
      have z4 := Z0.cell 4 _ rfl
      have z5 := Z0.cell 5 _ rfl
      have z6 := Z0.cell 6 _ rfl
      have z7 := Z0.cell 7 _ rfl
      have zl := Z0.lt
      have HZB := chid (cbelow_on HW.out ZB HW.out.size)
      have hwj : IntKind.i64.wrap ((j : Int) + 1) = (j : Int) + 1 := by rw [IntKind.wrap_i64]; omega
      clear Z0 ZB
      go_wp2_with fail
      generalize hX : (wr.alloc _) = X at *
      clear hX
      have HM3 := fun W => max3 Tryz.prog a k1 k2 W
      go_region_held3 (fun w' => w'.cell? ⟨wr.heap.size, 0, none⟩ = some (.int .i64 g.1.op) ∧ w'.cell? ⟨wr.heap.size, 1, none⟩ = some (.int .i64 g.1.n) ∧ w'.cell? ⟨wr.heap.size, 2, none⟩ = some (.int .i64 g.1.m) ∧ w'.cell? ⟨wr.heap.size, 3, none⟩ = some (.slice ax g.1.parts.length cx) ∧ w'.cell? ⟨wr.heap.size, 4, none⟩ = some (.int .i64 g.2.op) ∧ w'.cell? ⟨wr.heap.size, 5, none⟩ = some (.int .i64 g.2.n) ∧ w'.cell? ⟨wr.heap.size, 6, none⟩ = some (.int .i64 g.2.m) ∧ w'.cell? ⟨wr.heap.size, 7, none⟩ = some (.slice ay g.2.parts.length cy)) (simp [go_sem, *]) (first
        | (go_at_call 30; refine Calls.mono (HC1.out _ (by exact cdrewN HZB.out _)) ?_; rintro e w2 ⟨rfl, b2⟩; have bb2 : Below X.heap.size X w2 := ⟨b2.os, b2.tape, b2.output, b2.size, b2.block⟩; have gg := fun p v hp hv => (bb2.cell (p := p) hp).trans (hv : X.cell? p = some v); replace z0 := gg _ _ zl z0; replace z1 := gg _ _ zl z1; replace z2 := gg _ _ zl z2; replace z3 := gg _ _ zl z3; replace z4 := gg _ _ zl z4; replace z5 := gg _ _ zl z5; replace z6 := gg _ _ zl z6; replace z7 := gg _ _ zl z7; replace zl : wr.heap.size < w2.heap.size := Nat.lt_of_lt_of_le zl bb2.size; have HB2 := chid (cbelow_on HZB.out bb2 HZB.out.size); clear gg b2 bb2 HC1)
        | (go_at_call 30; refine Calls.mono (HC2.out _ HB2.out) ?_; rintro e w3 ⟨rfl, b3⟩; have bb3 : Below w2.heap.size w2 w3 := ⟨b3.os, b3.tape, b3.output, b3.size, b3.block⟩; have gg := fun p v hp hv => (bb3.cell (p := p) hp).trans (hv : w2.cell? p = some v); replace z0 := gg _ _ zl z0; replace z1 := gg _ _ zl z1; replace z2 := gg _ _ zl z2; replace z3 := gg _ _ zl z3; replace z4 := gg _ _ zl z4; replace z5 := gg _ _ zl z5; replace z6 := gg _ _ zl z6; replace z7 := gg _ _ zl z7; replace zl : wr.heap.size < w3.heap.size := Nat.lt_of_lt_of_le zl bb3.size; have HB3 := chid (cbelow_on HB2.out bb3 HB2.out.size); clear gg b3 bb3))
      all_goals go_wp2_with fail
      refine ⟨⟨j + 1, max (max a k1) k2, ?_, by go_num, by omega, chid HMx.out.symm, HB3⟩, ?_⟩
      · congr 1
        repeat' split
        all_goals omega
      · simp; omega
    · have hlt' : ¬ (j : Int) < (N : Int) := by omega
      obtain rfl : j = N := by omega
      have HT : Hid (p.gs.take j = p.gs) := chid (by rw [hN.out, List.take_length])
      go_wp2_with fail
      go_ret
      rw [Ha.out, HT.out]
      exact ⟨rfl, HW.out⟩
end Go.Proofs.YtigldebdljfnbaaGreatDoor
