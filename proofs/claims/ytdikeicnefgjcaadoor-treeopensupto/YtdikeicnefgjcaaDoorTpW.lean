/- TreeOpens: Open gives a tree's parts just where the tree is formed and of the kind that is asked, and as new memory. -/
import Derived.Test.YtdikeicnefgjcaaDoorTpG
import Derived.Deep.RegionHeld3
namespace Go.Proofs.YtdikeicnefgjcaaDoor
open Go.RowKit

theorem put6_after {C : List Value} {o k : Nat} {v0 v1 v2 v3 v4 v5 : Value} (h : o + 5 < k) : (put6 C o v0 v1 v2 v3 v4 v5)[k]? = C[k]? := by
  unfold put6
  rw [List.getElem?_set_ne (by omega), List.getElem?_set_ne (by omega), List.getElem?_set_ne (by omega), List.getElem?_set_ne (by omega), List.getElem?_set_ne (by omega), List.getElem?_set_ne (by omega)]
theorem row_some {w : World} {B n s c : Nat} {e : TypeId} {a : Option Addr} {xs : List Value} (h : w.ownsRow B e s (.slice a n c) n xs) (hp : 0 < n) : ∃ g, a = some ⟨g, 0, none⟩ ∧ B ≤ g ∧ g < w.heap.size := by
  have hl := h.lt
  rcases h.2 with ⟨e, hq⟩ | ⟨g, cap, cur, e, hb, hg, _⟩
  · omega
  · cases e
    exact ⟨g, rfl, hb, (hl g rfl).2⟩
/-- append of one term onto a row. -/
theorem wpList_append_t (w : World) {ops : Array Oper} {rest : List Oper} {o : Oper} {a : Act} {Q : Exit → Act → World → Prop} (hgd : o.guard = none) (s x : Operand)
    (ho : o.op = .call { callee := .builtin .append, args := #[s, x], argTypes := #[22, 22] }) (base : Nat) (v : Value) (n : Nat) (xs : List Value) (hs : a.eval s = v) (hown : w.ownsRow base 24 6 v n xs)
    (ad : Addr) (news : List Value) (hx : a.eval x = .slice (some ad) 1 1) (hl : news.length = 6) (hnews : ∀ j u, news[j]? = some u → w.cell? (ad.add j) = some u) (h1 : ∀ u ∈ news, u.oneCell' = true) (hn : n ≤ 16384) (hbase : base ≤ w.heap.size)
    (h : ∀ a' c' w', w.grownBy w' v.ownBlock → wpList Tryd.prog ops Q rest (a.put o.dst (.slice a' (n + 1) c')) w') : wpList Tryd.prog ops Q (o :: rest) a w := by
  obtain ⟨i0, hi, hz0, hz1, hz2⟩ := info_parts info_term
  refine wpList_append_own _ hgd _ _ 22 ho base 24 i0 (.agg #[.int .i64 0, .string ⟨#[]⟩, .int .i64 0, .int .i64 0, .int .i64 0, .slice none 0 0]) 6 72 Tryd.underlying22 hi hz0 hz1 hz2 rfl (by decide) v n xs hs hown ad 1 1 news hx (by omega) hnews h1 (by unfold maxLen; omega) (by omega) hbase ?_
  intro v' w' hr hg _
  have : ∃ a' c', v' = .slice a' (n + 1) c' := by
    rcases hr.2 with ⟨rfl, hq⟩ | ⟨g, cap, cur, rfl, _⟩
    · omega
    · exact ⟨_, _, rfl⟩
  obtain ⟨a', c', rfl⟩ := this
  exact h a' c' w' hg
set_option maxRecDepth 20000 in
set_option maxHeartbeats 8000000 in
theorem treeOpens_walk (t : Tm) (v : Value) (kd : Int) (w : World) (hs : Sits 1048576 w t v) (_hw : (Lit.int .i64 kd).wf = true) (hT : TabsAt w) : Calls Tryd.prog 7 #[tmV t v, .int .i64 kd] w fun e w' => e = .returned (.bool true) ∧ Below w.heap.size w w' := by
  have hs0 := hs
  obtain ⟨ad, cap, rfl, -, -⟩ := hs.parts.shape
  obtain ⟨N, hN⟩ : ∃ N, Hid (N = t.parts.length) := ⟨_, rfl⟩
  rw [← hN.out] at hs ⊢
  have HS := hid2 hs
  have HA : Hid (∀ wx, Below w.heap.size w wx → Calls Tryd.prog 9 #[] wx fun e w' => e = .returned (.bool true) ∧ Below wx.heap.size wx w') := fun wx hi => awake_c wx (hT.next hi)
  have H1 : Hid (∀ wx, Below w.heap.size w wx → Calls Tryd.prog 10 #[tmV t (.slice ad N cap)] wx fun e w' => e = .returned (.bool (decide (nodes t ≤ 16384))) ∧ Below wx.heap.size wx w') := fun wx hi => small_c t _ wx (hs.next hi)
  have HF1 := hid2 (fun wx (hi : Below w.heap.size w wx) => rForm_all (z := 1048576) (by decide) t (.slice ad N cap) wx (hs.next hi))
  have HF2 := hid2 (fun wx (hi : Below w.heap.size w wx) => rAct_all (z := 1048576) (by decide) t (.slice ad N cap) wx (hs.next hi))
  have HO0 := hid2 (fun (hn : nodes t ≤ 16384) wx (hi : Below w.heap.size w wx) A => open_r (z := 1048576) (by decide) t (.slice ad N cap) A wx (hs.next hi) (hT.next hi) hn)
  obtain ⟨X0, XB⟩ := one_box w 24 (tmL t (.slice ad N cap))
  have BX := hid2 X0
  have BB := hid2 XB
  clear X0 XB hs hs0 hT
  obtain ⟨b1, hb1⟩ : ∃ b1 : Bool, Hid (b1 = decide (nodes t ≤ 16384)) := ⟨_, rfl⟩
  rw [← hb1.out] at H1
  obtain ⟨q1, hq1⟩ : ∃ q : Bool, Hid (q = formedB t) := ⟨_, rfl⟩
  obtain ⟨q2, hq2⟩ : ∃ q : Bool, Hid (q = actionB t) := ⟨_, rfl⟩
  rw [← hq1.out] at HF1
  rw [← hq2.out] at HF2
  go_enter Tryd.func7, Tryd.ntmps7
  go_wp2_with fail
  refine Calls.mono (HA.out _ BB.out) ?_
  rintro e w1 ⟨rfl, p1⟩
  have B1 := hid2 (below_on BB.out p1 BB.out.size)
  have x1 := hid2 (BX.out.next p1)
  clear p1 BX BB
  obtain ⟨s0, s1, s2, s3, s4, s5⟩ := tm_of x1.out
  go_wp2_with fail
  refine Calls.mono (H1.out _ B1.out) ?_
  rintro e w2 ⟨rfl, p2⟩
  have B2 := hid2 (below_on B1.out p2 B1.out.size)
  have x2 := hid2 (x1.out.next p2)
  clear p2 x1 H1 s0 s1 s2 s3 s4 s5
  cases b1
  · go_wp2_with fail
    refine Calls.mono (HA.out _ B2.out) ?_
    rintro e w3 ⟨rfl, p3⟩
    have B3 := hid2 (below_on B2.out p3 B2.out.size)
    clear p3
    go_wp2_with fail
    go_ret
    exact ⟨rfl, B3.out⟩
  · have hnd := of_decide_eq_true (p := nodes t ≤ 16384) hb1.out.symm
    have hNle : N ≤ 16384 := by rw [hN.out]; exact (parts_all hnd).1
    have HO := hid2 (HO0.out hnd)
    obtain ⟨s0, s1, s2, s3, s4, s5⟩ := tm_of x2.out
    have HC3 := hid2 (HF1.out _ B2.out)
    clear hb1 HA HO0 HF1 hnd
    go_wp2_with fail
    refine Calls.mono HC3.out ?_
    rintro e w3 ⟨rfl, p3⟩
    have B3 := hid2 (below_on B2.out p3 B2.out.size)
    have x3 := hid2 (x2.out.next p3)
    clear p3 x2 HC3 s0 s1 s2 s3 s4 s5
    cases q1
    · have HC4 := hid2 (HF2.out _ B3.out)
      obtain ⟨s0, s1, s2, s3, s4, s5⟩ := tm_of x3.out
      clear HF2
      go_wp2_with fail
      refine Calls.mono HC4.out ?_
      rintro e w4 ⟨rfl, p4⟩
      have BS := hid2 (below_on B3.out p4 B3.out.size)
      have XS := hid2 (x3.out.next p4)
      have hgd : Hid (q2 = goodB t) := by unfold goodB; rw [← hq1.out, ← hq2.out]; rfl
      clear p4 x3 HC4 s0 s1 s2 s3 s4 s5 B1 B2 B3 hq1 hq2
      generalize q2 = gd at *
      go_wp2_with fail
      go_loopw [6] (fun i wr => ∃ kk : Int, i = .int .i64 kk ∧ -1 ≤ kk ∧ kk ≤ 40 ∧ Hid (Below w.heap.size w wr) ∧ Hid (Box wr w.heap.size (tmL t (.slice ad N cap)))) (fun i _ => match i with | .int _ p => ((40 : Int) - p).toNat | _ => 0)
      case atStart => exact ⟨-1, rfl, by omega, by omega, BS, XS⟩
      case round =>
        obtain ⟨kk, rfl, hk1, hk2, HBo, HXo⟩ := hrel
        generalize wr = wo at *
        obtain ⟨s0, s1, s2, s3, s4, s5⟩ := tm_of HXo.out
        have lx := HXo.out.lt
        by_cases hlt : kk < 40
        · by_cases hm : kk = -1
          · have dm : (kk == -1) = true := by simp [hm]
            go_wp2_with fail
            refine Calls.mono (HO.out wo HBo.out kd) ?_
            rintro e w1 ⟨a, n, c, er, rfl, b1, hy, hno⟩
            have BO1 := hid2 (below_on HBo.out b1.out HBo.out.size)
            have X1 := hid2 (HXo.out.next b1.out)
            obtain ⟨s0, s1, s2, s3, s4, s5⟩ := tm_of X1.out
            have lx1 := X1.out.lt
            by_cases hA : goodB t = true ∧ t.kind = kd
            · obtain ⟨rfl, hn1, L1⟩ := hy.out hA.1 hA.2
              rw [← hN.out] at hn1
              obtain rfl := hn1.symm
              obtain ⟨C0, r1, tm1⟩ := L1
              rw [← hN.out] at r1
              have RW1 := hid2 r1
              have TM1 := hid2 tm1
              have BW1 := b1
              have BX1 := X1
              have HG := hid2 hA.1
              have hA2 := hid2 hA.2
              have dq : (t.kind != kd) = false := by rw [hA.2]; simp
              obtain rfl : gd = true := by rw [hgd.out]; exact hA.1
              clear r1 tm1 hy hno hA b1
              go_wp2_with fail
              clear s0 s1 s2 s3 s4 s5 lx1
              go_loopw [10] (fun i wr => ∃ (j : Nat) (C : List Value), i = .int .i64 (j : Nat) ∧ j ≤ N ∧ Hid (wr.ownsRow wo.heap.size 24 6 (.slice a N c) N C) ∧ Hid (∀ i, j ≤ i → ∀ (h : i < t.parts.length), ∃ u, (∀ q, q < 6 → C[i * 6 + q]? = (tmL t.parts[i] u)[q]?) ∧ ∀ g, (Value.slice a N c).ownBlock = some g → SitsL (g + 1) 1048576 wr t.parts[i] u) ∧ Hid (Below wo.heap.size wo wr) ∧ Hid (Box wr w.heap.size (tmL t (.slice ad N cap)))) (fun i _ => match i with | .int _ p => ((N : Int) - p).toNat | _ => 0)
              case atStart => exact ⟨0, C0, rfl, by omega, RW1, hid2 (fun i _ h => TM1.out i h), BW1, BX1⟩
              case round =>
                obtain ⟨j, C, rfl, hj, RW, TM, BW, BXi⟩ := hrel
                have HBw : Below w.heap.size w wr := below_on HBo.out BW.out HBo.out.size
                have HBh := hid2 HBw
                have x5 := BXi.out.cell 5 _ rfl
                have lx := BXi.out.lt
                by_cases hlt : j < N
                · have hlt' : (j : Int) < (N : Int) := by omega
                  have h1 : j < t.parts.length := by rw [← hN.out]; exact hlt
                  obtain ⟨g, rfl, hgB, lg⟩ := row_some RW.out (by omega)
                  obtain ⟨u, hcs, hsu⟩ := TM.out j (Nat.le_refl _) h1
                  have hbx := row_box RW.out
                  have hlen : C.length = N * 6 := RW.out.1
                  have c0 := hbx.cell (j * 6 + 0) _ ((hcs 0 (by omega)).trans rfl)
                  have c1 := hbx.cell (j * 6 + 1) _ ((hcs 1 (by omega)).trans rfl)
                  have c2 := hbx.cell (j * 6 + 2) _ ((hcs 2 (by omega)).trans rfl)
                  have c3 := hbx.cell (j * 6 + 3) _ ((hcs 3 (by omega)).trans rfl)
                  have c4 := hbx.cell (j * 6 + 4) _ ((hcs 4 (by omega)).trans rfl)
                  have c5 := hbx.cell (j * 6 + 5) _ ((hcs 5 (by omega)).trans rfl)
                  rw [Nat.add_zero] at c0
                  obtain ⟨b, off, cq, hv, -, -, hbl, hxs⟩ := HS.out.parts.open (by omega)
                  rw [← hN.out] at hv
                  simp only [Value.slice.injEq] at hv
                  obtain ⟨rfl, -, rfl⟩ := hv
                  obtain ⟨u', h6, hu'⟩ := hxs j h1
                  obtain ⟨e0, e1, e2, e3, e4, e5⟩ := h6.keep (w' := wr) (fun q => HBw.cell (p := ⟨b, q, none⟩) hbl)
                  have lb : b < wr.heap.size := Nat.lt_of_lt_of_le hbl HBw.size
                  have HC : Hid (∀ wx, Below wr.heap.size wr wx → Calls Tryd.prog 19 #[tmV t.parts[j] u, tmV t.parts[j] u'] wx fun e w' => e = .returned (.bool true) ∧ Hid (Below wr.heap.size wr w')) := fun wx hb => by
                    have := rSame_all t.parts[j] t.parts[j] u u' wx ((hsu g rfl).sits.next hb) (hu'.next (below_on HBw hb HBw.size))
                    rw [sameB_self] at this
                    exact this.mono fun e w' h => ⟨h.1, below_on hb h.2 hb.size⟩
                  have HNum := hid2 (fun wx => num_c 99 ⟨#[]⟩ wx)
                  have hwg : w.heap.size ≠ g := by have := HXo.out.lt; omega
                  obtain ⟨au, cu, rfl, -, -⟩ := (hsu g rfl).sits.parts.shape
                  obtain ⟨au', cu', rfl, -, -⟩ := hu'.parts.shape
                  have HLen := hid2 hlen
                  clear h6 hu' hxs hcs hsu hbx HBw hlen
                  have HJ := hid2 h1
                  generalize t.parts[j] = x at *
                  clear h1
                  go_wp2_with fail
                  go_region_held3 (fun w' => w'.cell? ⟨w.heap.size, 5, none⟩ = some (.slice (some ⟨b, off, none⟩) N cap) ∧ w'.cell? ⟨g, j * 6, none⟩ = some (.int .i64 x.kind) ∧ w'.cell? ⟨g, j * 6 + 1, none⟩ = some (.string x.text) ∧ w'.cell? ⟨g, j * 6 + 2, none⟩ = some (.int .i64 x.n) ∧ w'.cell? ⟨g, j * 6 + 3, none⟩ = some (.int .i64 x.m) ∧ w'.cell? ⟨g, j * 6 + 4, none⟩ = some (.int .i64 x.pl) ∧ w'.cell? ⟨g, j * 6 + 5, none⟩ = some (.slice au x.parts.length cu) ∧ w'.cell? ⟨b, off + j * 6, none⟩ = some (.int .i64 x.kind) ∧ w'.cell? ⟨b, off + j * 6 + 1, none⟩ = some (.string x.text) ∧ w'.cell? ⟨b, off + j * 6 + 2, none⟩ = some (.int .i64 x.n) ∧ w'.cell? ⟨b, off + j * 6 + 3, none⟩ = some (.int .i64 x.m) ∧ w'.cell? ⟨b, off + j * 6 + 4, none⟩ = some (.int .i64 x.pl) ∧ w'.cell? ⟨b, off + j * 6 + 5, none⟩ = some (.slice au' x.parts.length cu')) (simp [go_sem, *]) (first | (go_at_call 19; refine Calls.mono (HC.out _ (by exact below_drewN (Below.refl _ _) _)) ?_; rintro e w1 ⟨rfl, B1⟩; have g0 := fun p v hp hv => (B1.out.cell (p := p) hp).trans (hv : wr.cell? p = some v); replace x5 := g0 _ _ lx x5; replace c0 := g0 _ _ lg c0; replace c1 := g0 _ _ lg c1; replace c2 := g0 _ _ lg c2; replace c3 := g0 _ _ lg c3; replace c4 := g0 _ _ lg c4; replace c5 := g0 _ _ lg c5; replace e0 := g0 _ _ lb e0; replace e1 := g0 _ _ lb e1; replace e2 := g0 _ _ lb e2; replace e3 := g0 _ _ lb e3; replace e4 := g0 _ _ lb e4; replace e5 := g0 _ _ lb e5; clear g0))
                  have BI1 := hid2 (below_on BW.out B1.out BW.out.size)
                  have RW1' := hid2 (row_keep RW.out B1.out)
                  have BX1' := hid2 (BXi.out.next B1.out)
                  clear c0 c1 c2 c3 c4 c5 e0 e1 e2 e3 e4 e5 HC x5
                  go_wp2_with fail
                  refine Calls.mono (HNum.out _) ?_
                  rintro e w2 ⟨rfl, B2⟩
                  have R2 := hid2 (row_keep RW1'.out B2)
                  have X2 := row_box R2.out
                  have BI2 := hid2 (below_on BI1.out B2 BI1.out.size)
                  have BX2 := hid2 (BX1'.out.next B2)
                  have TM2 : Hid (∀ i, j + 1 ≤ i → ∀ (h : i < t.parts.length), ∃ u, (∀ q, q < 6 → C[i * 6 + q]? = (tmL t.parts[i] u)[q]?) ∧ SitsL (g + 1) 1048576 w2 t.parts[i] u) := fun i hi h => by
                    obtain ⟨u, k1, k2⟩ := TM.out i (by omega) h
                    exact ⟨u, k1, ((k2 g rfl).next B1.out).next B2⟩
                  have hlen := HLen.out
                  obtain ⟨r0, k0⟩ : ∃ r, w2.cell? ⟨g, j * 6, none⟩ = some r := ⟨_, X2.cell (j * 6) _ (List.getElem?_eq_getElem (by omega))⟩
                  obtain ⟨r1, k1⟩ : ∃ r, w2.cell? ⟨g, j * 6 + 1, none⟩ = some r := ⟨_, X2.cell (j * 6 + 1) _ (List.getElem?_eq_getElem (by omega))⟩
                  obtain ⟨r2, k2⟩ : ∃ r, w2.cell? ⟨g, j * 6 + 2, none⟩ = some r := ⟨_, X2.cell (j * 6 + 2) _ (List.getElem?_eq_getElem (by omega))⟩
                  obtain ⟨r3, k3⟩ : ∃ r, w2.cell? ⟨g, j * 6 + 3, none⟩ = some r := ⟨_, X2.cell (j * 6 + 3) _ (List.getElem?_eq_getElem (by omega))⟩
                  obtain ⟨r4, k4⟩ : ∃ r, w2.cell? ⟨g, j * 6 + 4, none⟩ = some r := ⟨_, X2.cell (j * 6 + 4) _ (List.getElem?_eq_getElem (by omega))⟩
                  obtain ⟨r5, k5⟩ : ∃ r, w2.cell? ⟨g, j * 6 + 5, none⟩ = some r := ⟨_, X2.cell (j * 6 + 5) _ (List.getElem?_eq_getElem (by omega))⟩
                  have f0 := X2.free (j * 6) (by omega)
                  have f1 := X2.free (j * 6 + 1) (by omega)
                  have f2 := X2.free (j * 6 + 2) (by omega)
                  have f3 := X2.free (j * 6 + 3) (by omega)
                  have f4 := X2.free (j * 6 + 4) (by omega)
                  have f5 := X2.free (j * 6 + 5) (by omega)
                  clear X2 B2 HNum B1 BI1 RW1' BX1' TM
                  unfold litT
                  go_wp2_with fail
                  go_roundw
                  case rel =>
                    refine ⟨j + 1, put6 C (j * 6) (.int .i64 1) (.string ⟨#[]⟩) (.int .i64 99) (.int .i64 0) (.int .i64 0) (.slice none 0 0), by go_num, by omega, hid2 (row_put6 R2.out (j * 6) _ _ _ _ _ _), hid2 (fun i hi h => ?_), hid2 ?_, hid2 ?_⟩
                    · obtain ⟨u2, k1, k2⟩ := TM2.out i hi h
                      exact ⟨u2, fun q hq => by rw [put6_after (by omega)]; exact k1 q hq, fun g' hg' => by cases hg'; exact set6_sits (w := w2) (g := g) (o := j * 6) (v0 := .int .i64 1) (v1 := .string ⟨#[]⟩) (v2 := .int .i64 99) (v3 := .int .i64 0) (v4 := .int .i64 0) (v5 := .slice none 0 0) (Nat.lt_succ_self _) k2⟩
                    · exact (((((BI2.out.setCell hgB _).setCell hgB _).setCell hgB _).setCell hgB _).setCell hgB _).setCell hgB _
                    · exact (((((BX2.out.other hwg).other hwg).other hwg).other hwg).other hwg).other hwg
                  case measure => simp; omega
                · have hlt' : ¬ (j : Int) < (N : Int) := by omega
                  clear HBw
                  have HNum := hid2 (fun wx => num_c 98 ⟨#[]⟩ wx)
                  clear x5 TM
                  go_wp2_with fail
                  refine Calls.mono (HNum.out _) ?_
                  rintro e w3 ⟨rfl, B3⟩
                  have R3 := hid2 (row_keep RW.out B3)
                  have BI3 := hid2 (below_on BW.out B3 BW.out.size)
                  have BX3 := hid2 (BXi.out.next B3)
                  have hwb : w.heap.size < wo.heap.size := HXo.out.lt
                  have HN3 : Hid (∀ j u, (tmL (litT 98 ⟨#[]⟩) (.slice none 0 0))[j]? = some u → (w3.alloc (.cells #[.int .i64 1, .string ⟨#[]⟩, .int .i64 98, .int .i64 0, .int .i64 0, .slice none 0 0] 24)).cell? ((⟨w3.heap.size, 0, none⟩ : Addr).add j) = some u) := fun j u hu => by
                    rw [addr_add, Nat.zero_add]
                    exact (Box.new w3 (tmL (litT 98 ⟨#[]⟩) (.slice none 0 0)) 24).cell j u hu
                  have HG3 : Hid (∀ w4, (w3.alloc (.cells #[.int .i64 1, .string ⟨#[]⟩, .int .i64 98, .int .i64 0, .int .i64 0, .slice none 0 0] 24)).grownBy w4 (Value.slice a N c).ownBlock → Below wo.heap.size wo w4 ∧ Box w4 w.heap.size (tmL t (.slice ad N cap))) := fun w4 hg => by
                    have hown : ∀ k, (Value.slice a N c).ownBlock = some k → wo.heap.size ≤ k := fun k hk => (R3.out.lt k hk).1
                    have b4 := Below.grown (BI3.out.alloc BI3.out.size (.cells #[.int .i64 1, .string ⟨#[]⟩, .int .i64 98, .int .i64 0, .int .i64 0, .slice none 0 0] 24)) hg (by have := BI3.out.size; simp; omega) hown
                    exact ⟨b4, HXo.out.next b4⟩
                  have hsz3 : wo.heap.size ≤ w3.heap.size := BI3.out.size
                  clear B3 HNum RW BW BXi HBh lx
                  unfold litT
                  go_wp2_with (at_builtin; refine wpList_append_t _ rfl _ _ rfl wo.heap.size (.slice a N c) N C rfl (row_keep R3.out ((Below.refl _ _).alloc (Nat.le_refl _) _)) ⟨w3.heap.size, 0, none⟩ (tmL (litT 98 ⟨#[]⟩) (.slice none 0 0)) rfl rfl HN3.out (by intro u hu; simp [litT] at hu; rcases hu with rfl | rfl | rfl | rfl | rfl <;> rfl) hNle (by simp; omega) ?_; intro a4 c4 w4 hg4; obtain ⟨b4, x4⟩ := HG3.out _ hg4; have B4 := hid2 b4; have X4 := hid2 x4; obtain ⟨s0, s1, s2, s3, s4, s5⟩ := tm_of x4; have lx4 := x4.lt; clear b4 x4 hg4)
                  have BO4 := hid2 (below_on HBo.out B4.out HBo.out.size)
                  refine Calls.mono (HO.out w4 BO4.out kd) ?_
                  rintro e w5 ⟨a5, n5, c5, er5, rfl, b5, y5, -⟩
                  obtain ⟨rfl, rfl5, L5⟩ := y5.out HG.out hA2.out
                  rw [← hN.out] at rfl5
                  obtain rfl := rfl5.symm
                  have LA5 := hid2 L5
                  have BO5 := hid2 (below_on BO4.out b5.out BO4.out.size)
                  have X5 := hid2 (X4.out.next b5.out)
                  clear L5 y5 HG3 HN3 R3 BI3 BX3 s0 s1 s2 s3 s4 s5 lx4 B4 X4 b5 BO4
                  have x5 := X5.out.cell 5 _ rfl
                  have lx5 := X5.out.lt
                  have hcmp : ((((N + 1 : Nat) : Int)) != (N : Int) + 1) = false := by simp
                  go_wp2_with fail
                  clear x5 lx5
                  go_loopw [13] (fun i wr => ∃ j : Nat, i = .int .i64 (j : Nat) ∧ j ≤ N ∧ Hid (Below w5.heap.size w5 wr)) (fun i _ => match i with | .int _ p => ((N : Int) - p).toNat | _ => 0)
                  case atStart => exact ⟨0, rfl, by omega, Below.refl _ _⟩
                  case round =>
                    obtain ⟨j, rfl, hj, BW⟩ := hrel
                    have HBw : Below w.heap.size w wr := below_on BO5.out BW.out BO5.out.size
                    have HBh := hid2 HBw
                    have BXi := hid2 (X5.out.next BW.out)
                    have x5 := BXi.out.cell 5 _ rfl
                    have lx := BXi.out.lt
                    by_cases hlt : j < N
                    · have hlt' : (j : Int) < (N : Int) := by omega
                      have h1 : j < t.parts.length := by rw [← hN.out]; exact hlt
                      obtain ⟨C5, RW5, TM5⟩ := LA5.out.next BW.out
                      rw [← hN.out] at RW5
                      obtain ⟨g, rfl, hgB, lg⟩ := row_some RW5 (by omega)
                      obtain ⟨u, hcs, hsu⟩ := TM5 j h1
                      have hbx := row_box RW5
                      have c0 := hbx.cell (j * 6 + 0) _ ((hcs 0 (by omega)).trans rfl)
                      have c1 := hbx.cell (j * 6 + 1) _ ((hcs 1 (by omega)).trans rfl)
                      have c2 := hbx.cell (j * 6 + 2) _ ((hcs 2 (by omega)).trans rfl)
                      have c3 := hbx.cell (j * 6 + 3) _ ((hcs 3 (by omega)).trans rfl)
                      have c4 := hbx.cell (j * 6 + 4) _ ((hcs 4 (by omega)).trans rfl)
                      have c5 := hbx.cell (j * 6 + 5) _ ((hcs 5 (by omega)).trans rfl)
                      rw [Nat.add_zero] at c0
                      obtain ⟨b, off, cq, hv, -, -, hbl, hxs⟩ := HS.out.parts.open (by omega)
                      rw [← hN.out] at hv
                      simp only [Value.slice.injEq] at hv
                      obtain ⟨rfl, -, rfl⟩ := hv
                      obtain ⟨u', h6, hu'⟩ := hxs j h1
                      obtain ⟨e0, e1, e2, e3, e4, e5⟩ := h6.keep (w' := wr) (fun q => HBw.cell (p := ⟨b, q, none⟩) hbl)
                      have lb : b < wr.heap.size := Nat.lt_of_lt_of_le hbl HBw.size
                      have HC : Hid (∀ wx, Below wr.heap.size wr wx → Calls Tryd.prog 19 #[tmV t.parts[j] u, tmV t.parts[j] u'] wx fun e w' => e = .returned (.bool true) ∧ Hid (Below wr.heap.size wr w')) := fun wx hb => by
                        have := rSame_all t.parts[j] t.parts[j] u u' wx ((hsu g rfl).sits.next hb) (hu'.next (below_on HBw hb HBw.size))
                        rw [sameB_self] at this
                        exact this.mono fun e w' h => ⟨h.1, below_on hb h.2 hb.size⟩
                      obtain ⟨au, cu, rfl, -, -⟩ := (hsu g rfl).sits.parts.shape
                      obtain ⟨au', cu', rfl, -, -⟩ := hu'.parts.shape
                      clear h6 hu' hxs hcs hsu hbx HBw RW5 TM5
                      generalize t.parts[j] = x at *
                      clear h1
                      go_wp2_with fail
                      go_region_held3 (fun w' => w'.cell? ⟨w.heap.size, 5, none⟩ = some (.slice (some ⟨b, off, none⟩) N cap) ∧ w'.cell? ⟨g, j * 6, none⟩ = some (.int .i64 x.kind) ∧ w'.cell? ⟨g, j * 6 + 1, none⟩ = some (.string x.text) ∧ w'.cell? ⟨g, j * 6 + 2, none⟩ = some (.int .i64 x.n) ∧ w'.cell? ⟨g, j * 6 + 3, none⟩ = some (.int .i64 x.m) ∧ w'.cell? ⟨g, j * 6 + 4, none⟩ = some (.int .i64 x.pl) ∧ w'.cell? ⟨g, j * 6 + 5, none⟩ = some (.slice au x.parts.length cu) ∧ w'.cell? ⟨b, off + j * 6, none⟩ = some (.int .i64 x.kind) ∧ w'.cell? ⟨b, off + j * 6 + 1, none⟩ = some (.string x.text) ∧ w'.cell? ⟨b, off + j * 6 + 2, none⟩ = some (.int .i64 x.n) ∧ w'.cell? ⟨b, off + j * 6 + 3, none⟩ = some (.int .i64 x.m) ∧ w'.cell? ⟨b, off + j * 6 + 4, none⟩ = some (.int .i64 x.pl) ∧ w'.cell? ⟨b, off + j * 6 + 5, none⟩ = some (.slice au' x.parts.length cu')) (simp [go_sem, *]) (first | (go_at_call 19; refine Calls.mono (HC.out _ (by exact below_drewN (Below.refl _ _) _)) ?_; rintro e w1 ⟨rfl, B1⟩; have g0 := fun p v hp hv => (B1.out.cell (p := p) hp).trans (hv : wr.cell? p = some v); replace x5 := g0 _ _ lx x5; replace c0 := g0 _ _ lg c0; replace c1 := g0 _ _ lg c1; replace c2 := g0 _ _ lg c2; replace c3 := g0 _ _ lg c3; replace c4 := g0 _ _ lg c4; replace c5 := g0 _ _ lg c5; replace e0 := g0 _ _ lb e0; replace e1 := g0 _ _ lb e1; replace e2 := g0 _ _ lb e2; replace e3 := g0 _ _ lb e3; replace e4 := g0 _ _ lb e4; replace e5 := g0 _ _ lb e5; clear g0))
                      have BI1 := hid2 (below_on BW.out B1.out BW.out.size)
                      clear c0 c1 c2 c3 c4 c5 e0 e1 e2 e3 e4 e5 HC x5
                      go_wp2_with fail
                      go_roundw
                      case rel => exact ⟨j + 1, by go_num, by omega, BI1⟩
                      case measure => simp; omega
                    · have hlt' : ¬ (j : Int) < (N : Int) := by omega
                      clear HBw x5 LA5
                      go_wp2_with fail
                      go_roundw
                      case rel => exact ⟨kk + 1, by go_num, by omega, by omega, HBh, BXi⟩
                      case measure => simp; omega

            · obtain ⟨rfl, rfl⟩ := hno.out hA
              have dq : gd = true → (t.kind != kd) = true := fun h => by
                rw [hgd.out] at h
                have : t.kind ≠ kd := fun e => hA ⟨h, e⟩
                simpa using this
              clear hy hno hA
              cases gd
              · clear dq
                go_wp2_with fail
                go_roundw
                case rel => exact ⟨kk + 1, by go_num, by omega, by omega, BO1, X1⟩
                case measure => simp; omega
              · have dq2 := dq rfl
                clear dq
                go_wp2_with fail
                go_roundw
                case rel => exact ⟨kk + 1, by go_num, by omega, by omega, BO1, X1⟩
                case measure => simp; omega

          · have dm : (kk == -1) = false := by simpa using hm
            go_wp2_with fail
            refine Calls.mono (HO.out wo HBo.out kk) ?_
            rintro e w1 ⟨a, n, c, er, rfl, b1, hy, hno⟩
            have BO1 := hid2 (below_on HBo.out b1.out HBo.out.size)
            have X1 := hid2 (HXo.out.next b1.out)
            obtain ⟨s0, s1, s2, s3, s4, s5⟩ := tm_of X1.out
            have lx1 := X1.out.lt
            by_cases hA : goodB t = true ∧ t.kind = kk
            · obtain ⟨rfl, hn1, L1⟩ := hy.out hA.1 hA.2
              rw [← hN.out] at hn1
              obtain rfl := hn1.symm
              obtain ⟨C0, r1, tm1⟩ := L1
              rw [← hN.out] at r1
              have RW1 := hid2 r1
              have TM1 := hid2 tm1
              have BW1 := b1
              have BX1 := X1
              have HG := hid2 hA.1
              have hA2 := hid2 hA.2
              have dq : (t.kind != kk) = false := by rw [hA.2]; simp
              obtain rfl : gd = true := by rw [hgd.out]; exact hA.1
              clear r1 tm1 hy hno hA b1
              go_wp2_with fail
              clear s0 s1 s2 s3 s4 s5 lx1
              go_loopw [10] (fun i wr => ∃ (j : Nat) (C : List Value), i = .int .i64 (j : Nat) ∧ j ≤ N ∧ Hid (wr.ownsRow wo.heap.size 24 6 (.slice a N c) N C) ∧ Hid (∀ i, j ≤ i → ∀ (h : i < t.parts.length), ∃ u, (∀ q, q < 6 → C[i * 6 + q]? = (tmL t.parts[i] u)[q]?) ∧ ∀ g, (Value.slice a N c).ownBlock = some g → SitsL (g + 1) 1048576 wr t.parts[i] u) ∧ Hid (Below wo.heap.size wo wr) ∧ Hid (Box wr w.heap.size (tmL t (.slice ad N cap)))) (fun i _ => match i with | .int _ p => ((N : Int) - p).toNat | _ => 0)
              case atStart => exact ⟨0, C0, rfl, by omega, RW1, hid2 (fun i _ h => TM1.out i h), BW1, BX1⟩
              case round =>
                obtain ⟨j, C, rfl, hj, RW, TM, BW, BXi⟩ := hrel
                have HBw : Below w.heap.size w wr := below_on HBo.out BW.out HBo.out.size
                have HBh := hid2 HBw
                have x5 := BXi.out.cell 5 _ rfl
                have lx := BXi.out.lt
                by_cases hlt : j < N
                · have hlt' : (j : Int) < (N : Int) := by omega
                  have h1 : j < t.parts.length := by rw [← hN.out]; exact hlt
                  obtain ⟨g, rfl, hgB, lg⟩ := row_some RW.out (by omega)
                  obtain ⟨u, hcs, hsu⟩ := TM.out j (Nat.le_refl _) h1
                  have hbx := row_box RW.out
                  have hlen : C.length = N * 6 := RW.out.1
                  have c0 := hbx.cell (j * 6 + 0) _ ((hcs 0 (by omega)).trans rfl)
                  have c1 := hbx.cell (j * 6 + 1) _ ((hcs 1 (by omega)).trans rfl)
                  have c2 := hbx.cell (j * 6 + 2) _ ((hcs 2 (by omega)).trans rfl)
                  have c3 := hbx.cell (j * 6 + 3) _ ((hcs 3 (by omega)).trans rfl)
                  have c4 := hbx.cell (j * 6 + 4) _ ((hcs 4 (by omega)).trans rfl)
                  have c5 := hbx.cell (j * 6 + 5) _ ((hcs 5 (by omega)).trans rfl)
                  rw [Nat.add_zero] at c0
                  obtain ⟨b, off, cq, hv, -, -, hbl, hxs⟩ := HS.out.parts.open (by omega)
                  rw [← hN.out] at hv
                  simp only [Value.slice.injEq] at hv
                  obtain ⟨rfl, -, rfl⟩ := hv
                  obtain ⟨u', h6, hu'⟩ := hxs j h1
                  obtain ⟨e0, e1, e2, e3, e4, e5⟩ := h6.keep (w' := wr) (fun q => HBw.cell (p := ⟨b, q, none⟩) hbl)
                  have lb : b < wr.heap.size := Nat.lt_of_lt_of_le hbl HBw.size
                  have HC : Hid (∀ wx, Below wr.heap.size wr wx → Calls Tryd.prog 19 #[tmV t.parts[j] u, tmV t.parts[j] u'] wx fun e w' => e = .returned (.bool true) ∧ Hid (Below wr.heap.size wr w')) := fun wx hb => by
                    have := rSame_all t.parts[j] t.parts[j] u u' wx ((hsu g rfl).sits.next hb) (hu'.next (below_on HBw hb HBw.size))
                    rw [sameB_self] at this
                    exact this.mono fun e w' h => ⟨h.1, below_on hb h.2 hb.size⟩
                  have HNum := hid2 (fun wx => num_c 99 ⟨#[]⟩ wx)
                  have hwg : w.heap.size ≠ g := by have := HXo.out.lt; omega
                  obtain ⟨au, cu, rfl, -, -⟩ := (hsu g rfl).sits.parts.shape
                  obtain ⟨au', cu', rfl, -, -⟩ := hu'.parts.shape
                  have HLen := hid2 hlen
                  clear h6 hu' hxs hcs hsu hbx HBw hlen
                  have HJ := hid2 h1
                  generalize t.parts[j] = x at *
                  clear h1
                  go_wp2_with fail
                  go_region_held3 (fun w' => w'.cell? ⟨w.heap.size, 5, none⟩ = some (.slice (some ⟨b, off, none⟩) N cap) ∧ w'.cell? ⟨g, j * 6, none⟩ = some (.int .i64 x.kind) ∧ w'.cell? ⟨g, j * 6 + 1, none⟩ = some (.string x.text) ∧ w'.cell? ⟨g, j * 6 + 2, none⟩ = some (.int .i64 x.n) ∧ w'.cell? ⟨g, j * 6 + 3, none⟩ = some (.int .i64 x.m) ∧ w'.cell? ⟨g, j * 6 + 4, none⟩ = some (.int .i64 x.pl) ∧ w'.cell? ⟨g, j * 6 + 5, none⟩ = some (.slice au x.parts.length cu) ∧ w'.cell? ⟨b, off + j * 6, none⟩ = some (.int .i64 x.kind) ∧ w'.cell? ⟨b, off + j * 6 + 1, none⟩ = some (.string x.text) ∧ w'.cell? ⟨b, off + j * 6 + 2, none⟩ = some (.int .i64 x.n) ∧ w'.cell? ⟨b, off + j * 6 + 3, none⟩ = some (.int .i64 x.m) ∧ w'.cell? ⟨b, off + j * 6 + 4, none⟩ = some (.int .i64 x.pl) ∧ w'.cell? ⟨b, off + j * 6 + 5, none⟩ = some (.slice au' x.parts.length cu')) (simp [go_sem, *]) (first | (go_at_call 19; refine Calls.mono (HC.out _ (by exact below_drewN (Below.refl _ _) _)) ?_; rintro e w1 ⟨rfl, B1⟩; have g0 := fun p v hp hv => (B1.out.cell (p := p) hp).trans (hv : wr.cell? p = some v); replace x5 := g0 _ _ lx x5; replace c0 := g0 _ _ lg c0; replace c1 := g0 _ _ lg c1; replace c2 := g0 _ _ lg c2; replace c3 := g0 _ _ lg c3; replace c4 := g0 _ _ lg c4; replace c5 := g0 _ _ lg c5; replace e0 := g0 _ _ lb e0; replace e1 := g0 _ _ lb e1; replace e2 := g0 _ _ lb e2; replace e3 := g0 _ _ lb e3; replace e4 := g0 _ _ lb e4; replace e5 := g0 _ _ lb e5; clear g0))
                  have BI1 := hid2 (below_on BW.out B1.out BW.out.size)
                  have RW1' := hid2 (row_keep RW.out B1.out)
                  have BX1' := hid2 (BXi.out.next B1.out)
                  clear c0 c1 c2 c3 c4 c5 e0 e1 e2 e3 e4 e5 HC x5
                  go_wp2_with fail
                  refine Calls.mono (HNum.out _) ?_
                  rintro e w2 ⟨rfl, B2⟩
                  have R2 := hid2 (row_keep RW1'.out B2)
                  have X2 := row_box R2.out
                  have BI2 := hid2 (below_on BI1.out B2 BI1.out.size)
                  have BX2 := hid2 (BX1'.out.next B2)
                  have TM2 : Hid (∀ i, j + 1 ≤ i → ∀ (h : i < t.parts.length), ∃ u, (∀ q, q < 6 → C[i * 6 + q]? = (tmL t.parts[i] u)[q]?) ∧ SitsL (g + 1) 1048576 w2 t.parts[i] u) := fun i hi h => by
                    obtain ⟨u, k1, k2⟩ := TM.out i (by omega) h
                    exact ⟨u, k1, ((k2 g rfl).next B1.out).next B2⟩
                  have hlen := HLen.out
                  obtain ⟨r0, k0⟩ : ∃ r, w2.cell? ⟨g, j * 6, none⟩ = some r := ⟨_, X2.cell (j * 6) _ (List.getElem?_eq_getElem (by omega))⟩
                  obtain ⟨r1, k1⟩ : ∃ r, w2.cell? ⟨g, j * 6 + 1, none⟩ = some r := ⟨_, X2.cell (j * 6 + 1) _ (List.getElem?_eq_getElem (by omega))⟩
                  obtain ⟨r2, k2⟩ : ∃ r, w2.cell? ⟨g, j * 6 + 2, none⟩ = some r := ⟨_, X2.cell (j * 6 + 2) _ (List.getElem?_eq_getElem (by omega))⟩
                  obtain ⟨r3, k3⟩ : ∃ r, w2.cell? ⟨g, j * 6 + 3, none⟩ = some r := ⟨_, X2.cell (j * 6 + 3) _ (List.getElem?_eq_getElem (by omega))⟩
                  obtain ⟨r4, k4⟩ : ∃ r, w2.cell? ⟨g, j * 6 + 4, none⟩ = some r := ⟨_, X2.cell (j * 6 + 4) _ (List.getElem?_eq_getElem (by omega))⟩
                  obtain ⟨r5, k5⟩ : ∃ r, w2.cell? ⟨g, j * 6 + 5, none⟩ = some r := ⟨_, X2.cell (j * 6 + 5) _ (List.getElem?_eq_getElem (by omega))⟩
                  have f0 := X2.free (j * 6) (by omega)
                  have f1 := X2.free (j * 6 + 1) (by omega)
                  have f2 := X2.free (j * 6 + 2) (by omega)
                  have f3 := X2.free (j * 6 + 3) (by omega)
                  have f4 := X2.free (j * 6 + 4) (by omega)
                  have f5 := X2.free (j * 6 + 5) (by omega)
                  clear X2 B2 HNum B1 BI1 RW1' BX1' TM
                  unfold litT
                  go_wp2_with fail
                  go_roundw
                  case rel =>
                    refine ⟨j + 1, put6 C (j * 6) (.int .i64 1) (.string ⟨#[]⟩) (.int .i64 99) (.int .i64 0) (.int .i64 0) (.slice none 0 0), by go_num, by omega, hid2 (row_put6 R2.out (j * 6) _ _ _ _ _ _), hid2 (fun i hi h => ?_), hid2 ?_, hid2 ?_⟩
                    · obtain ⟨u2, k1, k2⟩ := TM2.out i hi h
                      exact ⟨u2, fun q hq => by rw [put6_after (by omega)]; exact k1 q hq, fun g' hg' => by cases hg'; exact set6_sits (w := w2) (g := g) (o := j * 6) (v0 := .int .i64 1) (v1 := .string ⟨#[]⟩) (v2 := .int .i64 99) (v3 := .int .i64 0) (v4 := .int .i64 0) (v5 := .slice none 0 0) (Nat.lt_succ_self _) k2⟩
                    · exact (((((BI2.out.setCell hgB _).setCell hgB _).setCell hgB _).setCell hgB _).setCell hgB _).setCell hgB _
                    · exact (((((BX2.out.other hwg).other hwg).other hwg).other hwg).other hwg).other hwg
                  case measure => simp; omega
                · have hlt' : ¬ (j : Int) < (N : Int) := by omega
                  clear HBw
                  have HNum := hid2 (fun wx => num_c 98 ⟨#[]⟩ wx)
                  clear x5 TM
                  go_wp2_with fail
                  refine Calls.mono (HNum.out _) ?_
                  rintro e w3 ⟨rfl, B3⟩
                  have R3 := hid2 (row_keep RW.out B3)
                  have BI3 := hid2 (below_on BW.out B3 BW.out.size)
                  have BX3 := hid2 (BXi.out.next B3)
                  have hwb : w.heap.size < wo.heap.size := HXo.out.lt
                  have HN3 : Hid (∀ j u, (tmL (litT 98 ⟨#[]⟩) (.slice none 0 0))[j]? = some u → (w3.alloc (.cells #[.int .i64 1, .string ⟨#[]⟩, .int .i64 98, .int .i64 0, .int .i64 0, .slice none 0 0] 24)).cell? ((⟨w3.heap.size, 0, none⟩ : Addr).add j) = some u) := fun j u hu => by
                    rw [addr_add, Nat.zero_add]
                    exact (Box.new w3 (tmL (litT 98 ⟨#[]⟩) (.slice none 0 0)) 24).cell j u hu
                  have HG3 : Hid (∀ w4, (w3.alloc (.cells #[.int .i64 1, .string ⟨#[]⟩, .int .i64 98, .int .i64 0, .int .i64 0, .slice none 0 0] 24)).grownBy w4 (Value.slice a N c).ownBlock → Below wo.heap.size wo w4 ∧ Box w4 w.heap.size (tmL t (.slice ad N cap))) := fun w4 hg => by
                    have hown : ∀ k, (Value.slice a N c).ownBlock = some k → wo.heap.size ≤ k := fun k hk => (R3.out.lt k hk).1
                    have b4 := Below.grown (BI3.out.alloc BI3.out.size (.cells #[.int .i64 1, .string ⟨#[]⟩, .int .i64 98, .int .i64 0, .int .i64 0, .slice none 0 0] 24)) hg (by have := BI3.out.size; simp; omega) hown
                    exact ⟨b4, HXo.out.next b4⟩
                  have hsz3 : wo.heap.size ≤ w3.heap.size := BI3.out.size
                  clear B3 HNum RW BW BXi HBh lx
                  unfold litT
                  go_wp2_with (at_builtin; refine wpList_append_t _ rfl _ _ rfl wo.heap.size (.slice a N c) N C rfl (row_keep R3.out ((Below.refl _ _).alloc (Nat.le_refl _) _)) ⟨w3.heap.size, 0, none⟩ (tmL (litT 98 ⟨#[]⟩) (.slice none 0 0)) rfl rfl HN3.out (by intro u hu; simp [litT] at hu; rcases hu with rfl | rfl | rfl | rfl | rfl <;> rfl) hNle (by simp; omega) ?_; intro a4 c4 w4 hg4; obtain ⟨b4, x4⟩ := HG3.out _ hg4; have B4 := hid2 b4; have X4 := hid2 x4; obtain ⟨s0, s1, s2, s3, s4, s5⟩ := tm_of x4; have lx4 := x4.lt; clear b4 x4 hg4)
                  have BO4 := hid2 (below_on HBo.out B4.out HBo.out.size)
                  refine Calls.mono (HO.out w4 BO4.out kk) ?_
                  rintro e w5 ⟨a5, n5, c5, er5, rfl, b5, y5, -⟩
                  obtain ⟨rfl, rfl5, L5⟩ := y5.out HG.out hA2.out
                  rw [← hN.out] at rfl5
                  obtain rfl := rfl5.symm
                  have LA5 := hid2 L5
                  have BO5 := hid2 (below_on BO4.out b5.out BO4.out.size)
                  have X5 := hid2 (X4.out.next b5.out)
                  clear L5 y5 HG3 HN3 R3 BI3 BX3 s0 s1 s2 s3 s4 s5 lx4 B4 X4 b5 BO4
                  have x5 := X5.out.cell 5 _ rfl
                  have lx5 := X5.out.lt
                  have hcmp : ((((N + 1 : Nat) : Int)) != (N : Int) + 1) = false := by simp
                  go_wp2_with fail
                  clear x5 lx5
                  go_loopw [13] (fun i wr => ∃ j : Nat, i = .int .i64 (j : Nat) ∧ j ≤ N ∧ Hid (Below w5.heap.size w5 wr)) (fun i _ => match i with | .int _ p => ((N : Int) - p).toNat | _ => 0)
                  case atStart => exact ⟨0, rfl, by omega, Below.refl _ _⟩
                  case round =>
                    obtain ⟨j, rfl, hj, BW⟩ := hrel
                    have HBw : Below w.heap.size w wr := below_on BO5.out BW.out BO5.out.size
                    have HBh := hid2 HBw
                    have BXi := hid2 (X5.out.next BW.out)
                    have x5 := BXi.out.cell 5 _ rfl
                    have lx := BXi.out.lt
                    by_cases hlt : j < N
                    · have hlt' : (j : Int) < (N : Int) := by omega
                      have h1 : j < t.parts.length := by rw [← hN.out]; exact hlt
                      obtain ⟨C5, RW5, TM5⟩ := LA5.out.next BW.out
                      rw [← hN.out] at RW5
                      obtain ⟨g, rfl, hgB, lg⟩ := row_some RW5 (by omega)
                      obtain ⟨u, hcs, hsu⟩ := TM5 j h1
                      have hbx := row_box RW5
                      have c0 := hbx.cell (j * 6 + 0) _ ((hcs 0 (by omega)).trans rfl)
                      have c1 := hbx.cell (j * 6 + 1) _ ((hcs 1 (by omega)).trans rfl)
                      have c2 := hbx.cell (j * 6 + 2) _ ((hcs 2 (by omega)).trans rfl)
                      have c3 := hbx.cell (j * 6 + 3) _ ((hcs 3 (by omega)).trans rfl)
                      have c4 := hbx.cell (j * 6 + 4) _ ((hcs 4 (by omega)).trans rfl)
                      have c5 := hbx.cell (j * 6 + 5) _ ((hcs 5 (by omega)).trans rfl)
                      rw [Nat.add_zero] at c0
                      obtain ⟨b, off, cq, hv, -, -, hbl, hxs⟩ := HS.out.parts.open (by omega)
                      rw [← hN.out] at hv
                      simp only [Value.slice.injEq] at hv
                      obtain ⟨rfl, -, rfl⟩ := hv
                      obtain ⟨u', h6, hu'⟩ := hxs j h1
                      obtain ⟨e0, e1, e2, e3, e4, e5⟩ := h6.keep (w' := wr) (fun q => HBw.cell (p := ⟨b, q, none⟩) hbl)
                      have lb : b < wr.heap.size := Nat.lt_of_lt_of_le hbl HBw.size
                      have HC : Hid (∀ wx, Below wr.heap.size wr wx → Calls Tryd.prog 19 #[tmV t.parts[j] u, tmV t.parts[j] u'] wx fun e w' => e = .returned (.bool true) ∧ Hid (Below wr.heap.size wr w')) := fun wx hb => by
                        have := rSame_all t.parts[j] t.parts[j] u u' wx ((hsu g rfl).sits.next hb) (hu'.next (below_on HBw hb HBw.size))
                        rw [sameB_self] at this
                        exact this.mono fun e w' h => ⟨h.1, below_on hb h.2 hb.size⟩
                      obtain ⟨au, cu, rfl, -, -⟩ := (hsu g rfl).sits.parts.shape
                      obtain ⟨au', cu', rfl, -, -⟩ := hu'.parts.shape
                      clear h6 hu' hxs hcs hsu hbx HBw RW5 TM5
                      generalize t.parts[j] = x at *
                      clear h1
                      go_wp2_with fail
                      go_region_held3 (fun w' => w'.cell? ⟨w.heap.size, 5, none⟩ = some (.slice (some ⟨b, off, none⟩) N cap) ∧ w'.cell? ⟨g, j * 6, none⟩ = some (.int .i64 x.kind) ∧ w'.cell? ⟨g, j * 6 + 1, none⟩ = some (.string x.text) ∧ w'.cell? ⟨g, j * 6 + 2, none⟩ = some (.int .i64 x.n) ∧ w'.cell? ⟨g, j * 6 + 3, none⟩ = some (.int .i64 x.m) ∧ w'.cell? ⟨g, j * 6 + 4, none⟩ = some (.int .i64 x.pl) ∧ w'.cell? ⟨g, j * 6 + 5, none⟩ = some (.slice au x.parts.length cu) ∧ w'.cell? ⟨b, off + j * 6, none⟩ = some (.int .i64 x.kind) ∧ w'.cell? ⟨b, off + j * 6 + 1, none⟩ = some (.string x.text) ∧ w'.cell? ⟨b, off + j * 6 + 2, none⟩ = some (.int .i64 x.n) ∧ w'.cell? ⟨b, off + j * 6 + 3, none⟩ = some (.int .i64 x.m) ∧ w'.cell? ⟨b, off + j * 6 + 4, none⟩ = some (.int .i64 x.pl) ∧ w'.cell? ⟨b, off + j * 6 + 5, none⟩ = some (.slice au' x.parts.length cu')) (simp [go_sem, *]) (first | (go_at_call 19; refine Calls.mono (HC.out _ (by exact below_drewN (Below.refl _ _) _)) ?_; rintro e w1 ⟨rfl, B1⟩; have g0 := fun p v hp hv => (B1.out.cell (p := p) hp).trans (hv : wr.cell? p = some v); replace x5 := g0 _ _ lx x5; replace c0 := g0 _ _ lg c0; replace c1 := g0 _ _ lg c1; replace c2 := g0 _ _ lg c2; replace c3 := g0 _ _ lg c3; replace c4 := g0 _ _ lg c4; replace c5 := g0 _ _ lg c5; replace e0 := g0 _ _ lb e0; replace e1 := g0 _ _ lb e1; replace e2 := g0 _ _ lb e2; replace e3 := g0 _ _ lb e3; replace e4 := g0 _ _ lb e4; replace e5 := g0 _ _ lb e5; clear g0))
                      have BI1 := hid2 (below_on BW.out B1.out BW.out.size)
                      clear c0 c1 c2 c3 c4 c5 e0 e1 e2 e3 e4 e5 HC x5
                      go_wp2_with fail
                      go_roundw
                      case rel => exact ⟨j + 1, by go_num, by omega, BI1⟩
                      case measure => simp; omega
                    · have hlt' : ¬ (j : Int) < (N : Int) := by omega
                      clear HBw x5 LA5
                      go_wp2_with fail
                      go_roundw
                      case rel => exact ⟨kk + 1, by go_num, by omega, by omega, HBh, BXi⟩
                      case measure => simp; omega

            · obtain ⟨rfl, rfl⟩ := hno.out hA
              have dq : gd = true → (t.kind != kk) = true := fun h => by
                rw [hgd.out] at h
                have : t.kind ≠ kk := fun e => hA ⟨h, e⟩
                simpa using this
              clear hy hno hA
              cases gd
              · clear dq
                go_wp2_with fail
                go_roundw
                case rel => exact ⟨kk + 1, by go_num, by omega, by omega, BO1, X1⟩
                case measure => simp; omega
              · have dq2 := dq rfl
                clear dq
                go_wp2_with fail
                go_roundw
                case rel => exact ⟨kk + 1, by go_num, by omega, by omega, BO1, X1⟩
                case measure => simp; omega

        · have hlt' : ¬ kk < 40 := hlt
          clear HO
          go_wp2_with fail
          go_ret
          exact ⟨rfl, HBo.out⟩

    · have hgd : Hid (true = goodB t) := by unfold goodB; rw [← hq1.out]; rfl
      have BS := B3
      have XS := x3
      clear HF2 hq1 hq2 B1 B2 B3 x3
      go_wp2_with fail
      go_loopw [6] (fun i wr => ∃ kk : Int, i = .int .i64 kk ∧ -1 ≤ kk ∧ kk ≤ 40 ∧ Hid (Below w.heap.size w wr) ∧ Hid (Box wr w.heap.size (tmL t (.slice ad N cap)))) (fun i _ => match i with | .int _ p => ((40 : Int) - p).toNat | _ => 0)
      case atStart => exact ⟨-1, rfl, by omega, by omega, BS, XS⟩
      case round =>
        obtain ⟨kk, rfl, hk1, hk2, HBo, HXo⟩ := hrel
        generalize wr = wo at *
        obtain ⟨s0, s1, s2, s3, s4, s5⟩ := tm_of HXo.out
        have lx := HXo.out.lt
        by_cases hlt : kk < 40
        · by_cases hm : kk = -1
          · have dm : (kk == -1) = true := by simp [hm]
            go_wp2_with fail
            refine Calls.mono (HO.out wo HBo.out kd) ?_
            rintro e w1 ⟨a, n, c, er, rfl, b1, hy, hno⟩
            have BO1 := hid2 (below_on HBo.out b1.out HBo.out.size)
            have X1 := hid2 (HXo.out.next b1.out)
            obtain ⟨s0, s1, s2, s3, s4, s5⟩ := tm_of X1.out
            have lx1 := X1.out.lt
            by_cases hA : goodB t = true ∧ t.kind = kd
            · obtain ⟨rfl, hn1, L1⟩ := hy.out hA.1 hA.2
              rw [← hN.out] at hn1
              obtain rfl := hn1.symm
              obtain ⟨C0, r1, tm1⟩ := L1
              rw [← hN.out] at r1
              have RW1 := hid2 r1
              have TM1 := hid2 tm1
              have BW1 := b1
              have BX1 := X1
              have HG := hid2 hA.1
              have hA2 := hid2 hA.2
              have dq : (t.kind != kd) = false := by rw [hA.2]; simp
              clear r1 tm1 hy hno hA b1
              go_wp2_with fail
              clear s0 s1 s2 s3 s4 s5 lx1
              go_loopw [10] (fun i wr => ∃ (j : Nat) (C : List Value), i = .int .i64 (j : Nat) ∧ j ≤ N ∧ Hid (wr.ownsRow wo.heap.size 24 6 (.slice a N c) N C) ∧ Hid (∀ i, j ≤ i → ∀ (h : i < t.parts.length), ∃ u, (∀ q, q < 6 → C[i * 6 + q]? = (tmL t.parts[i] u)[q]?) ∧ ∀ g, (Value.slice a N c).ownBlock = some g → SitsL (g + 1) 1048576 wr t.parts[i] u) ∧ Hid (Below wo.heap.size wo wr) ∧ Hid (Box wr w.heap.size (tmL t (.slice ad N cap)))) (fun i _ => match i with | .int _ p => ((N : Int) - p).toNat | _ => 0)
              case atStart => exact ⟨0, C0, rfl, by omega, RW1, hid2 (fun i _ h => TM1.out i h), BW1, BX1⟩
              case round =>
                obtain ⟨j, C, rfl, hj, RW, TM, BW, BXi⟩ := hrel
                have HBw : Below w.heap.size w wr := below_on HBo.out BW.out HBo.out.size
                have HBh := hid2 HBw
                have x5 := BXi.out.cell 5 _ rfl
                have lx := BXi.out.lt
                by_cases hlt : j < N
                · have hlt' : (j : Int) < (N : Int) := by omega
                  have h1 : j < t.parts.length := by rw [← hN.out]; exact hlt
                  obtain ⟨g, rfl, hgB, lg⟩ := row_some RW.out (by omega)
                  obtain ⟨u, hcs, hsu⟩ := TM.out j (Nat.le_refl _) h1
                  have hbx := row_box RW.out
                  have hlen : C.length = N * 6 := RW.out.1
                  have c0 := hbx.cell (j * 6 + 0) _ ((hcs 0 (by omega)).trans rfl)
                  have c1 := hbx.cell (j * 6 + 1) _ ((hcs 1 (by omega)).trans rfl)
                  have c2 := hbx.cell (j * 6 + 2) _ ((hcs 2 (by omega)).trans rfl)
                  have c3 := hbx.cell (j * 6 + 3) _ ((hcs 3 (by omega)).trans rfl)
                  have c4 := hbx.cell (j * 6 + 4) _ ((hcs 4 (by omega)).trans rfl)
                  have c5 := hbx.cell (j * 6 + 5) _ ((hcs 5 (by omega)).trans rfl)
                  rw [Nat.add_zero] at c0
                  obtain ⟨b, off, cq, hv, -, -, hbl, hxs⟩ := HS.out.parts.open (by omega)
                  rw [← hN.out] at hv
                  simp only [Value.slice.injEq] at hv
                  obtain ⟨rfl, -, rfl⟩ := hv
                  obtain ⟨u', h6, hu'⟩ := hxs j h1
                  obtain ⟨e0, e1, e2, e3, e4, e5⟩ := h6.keep (w' := wr) (fun q => HBw.cell (p := ⟨b, q, none⟩) hbl)
                  have lb : b < wr.heap.size := Nat.lt_of_lt_of_le hbl HBw.size
                  have HC : Hid (∀ wx, Below wr.heap.size wr wx → Calls Tryd.prog 19 #[tmV t.parts[j] u, tmV t.parts[j] u'] wx fun e w' => e = .returned (.bool true) ∧ Hid (Below wr.heap.size wr w')) := fun wx hb => by
                    have := rSame_all t.parts[j] t.parts[j] u u' wx ((hsu g rfl).sits.next hb) (hu'.next (below_on HBw hb HBw.size))
                    rw [sameB_self] at this
                    exact this.mono fun e w' h => ⟨h.1, below_on hb h.2 hb.size⟩
                  have HNum := hid2 (fun wx => num_c 99 ⟨#[]⟩ wx)
                  have hwg : w.heap.size ≠ g := by have := HXo.out.lt; omega
                  obtain ⟨au, cu, rfl, -, -⟩ := (hsu g rfl).sits.parts.shape
                  obtain ⟨au', cu', rfl, -, -⟩ := hu'.parts.shape
                  have HLen := hid2 hlen
                  clear h6 hu' hxs hcs hsu hbx HBw hlen
                  have HJ := hid2 h1
                  generalize t.parts[j] = x at *
                  clear h1
                  go_wp2_with fail
                  go_region_held3 (fun w' => w'.cell? ⟨w.heap.size, 5, none⟩ = some (.slice (some ⟨b, off, none⟩) N cap) ∧ w'.cell? ⟨g, j * 6, none⟩ = some (.int .i64 x.kind) ∧ w'.cell? ⟨g, j * 6 + 1, none⟩ = some (.string x.text) ∧ w'.cell? ⟨g, j * 6 + 2, none⟩ = some (.int .i64 x.n) ∧ w'.cell? ⟨g, j * 6 + 3, none⟩ = some (.int .i64 x.m) ∧ w'.cell? ⟨g, j * 6 + 4, none⟩ = some (.int .i64 x.pl) ∧ w'.cell? ⟨g, j * 6 + 5, none⟩ = some (.slice au x.parts.length cu) ∧ w'.cell? ⟨b, off + j * 6, none⟩ = some (.int .i64 x.kind) ∧ w'.cell? ⟨b, off + j * 6 + 1, none⟩ = some (.string x.text) ∧ w'.cell? ⟨b, off + j * 6 + 2, none⟩ = some (.int .i64 x.n) ∧ w'.cell? ⟨b, off + j * 6 + 3, none⟩ = some (.int .i64 x.m) ∧ w'.cell? ⟨b, off + j * 6 + 4, none⟩ = some (.int .i64 x.pl) ∧ w'.cell? ⟨b, off + j * 6 + 5, none⟩ = some (.slice au' x.parts.length cu')) (simp [go_sem, *]) (first | (go_at_call 19; refine Calls.mono (HC.out _ (by exact below_drewN (Below.refl _ _) _)) ?_; rintro e w1 ⟨rfl, B1⟩; have g0 := fun p v hp hv => (B1.out.cell (p := p) hp).trans (hv : wr.cell? p = some v); replace x5 := g0 _ _ lx x5; replace c0 := g0 _ _ lg c0; replace c1 := g0 _ _ lg c1; replace c2 := g0 _ _ lg c2; replace c3 := g0 _ _ lg c3; replace c4 := g0 _ _ lg c4; replace c5 := g0 _ _ lg c5; replace e0 := g0 _ _ lb e0; replace e1 := g0 _ _ lb e1; replace e2 := g0 _ _ lb e2; replace e3 := g0 _ _ lb e3; replace e4 := g0 _ _ lb e4; replace e5 := g0 _ _ lb e5; clear g0))
                  have BI1 := hid2 (below_on BW.out B1.out BW.out.size)
                  have RW1' := hid2 (row_keep RW.out B1.out)
                  have BX1' := hid2 (BXi.out.next B1.out)
                  clear c0 c1 c2 c3 c4 c5 e0 e1 e2 e3 e4 e5 HC x5
                  go_wp2_with fail
                  refine Calls.mono (HNum.out _) ?_
                  rintro e w2 ⟨rfl, B2⟩
                  have R2 := hid2 (row_keep RW1'.out B2)
                  have X2 := row_box R2.out
                  have BI2 := hid2 (below_on BI1.out B2 BI1.out.size)
                  have BX2 := hid2 (BX1'.out.next B2)
                  have TM2 : Hid (∀ i, j + 1 ≤ i → ∀ (h : i < t.parts.length), ∃ u, (∀ q, q < 6 → C[i * 6 + q]? = (tmL t.parts[i] u)[q]?) ∧ SitsL (g + 1) 1048576 w2 t.parts[i] u) := fun i hi h => by
                    obtain ⟨u, k1, k2⟩ := TM.out i (by omega) h
                    exact ⟨u, k1, ((k2 g rfl).next B1.out).next B2⟩
                  have hlen := HLen.out
                  obtain ⟨r0, k0⟩ : ∃ r, w2.cell? ⟨g, j * 6, none⟩ = some r := ⟨_, X2.cell (j * 6) _ (List.getElem?_eq_getElem (by omega))⟩
                  obtain ⟨r1, k1⟩ : ∃ r, w2.cell? ⟨g, j * 6 + 1, none⟩ = some r := ⟨_, X2.cell (j * 6 + 1) _ (List.getElem?_eq_getElem (by omega))⟩
                  obtain ⟨r2, k2⟩ : ∃ r, w2.cell? ⟨g, j * 6 + 2, none⟩ = some r := ⟨_, X2.cell (j * 6 + 2) _ (List.getElem?_eq_getElem (by omega))⟩
                  obtain ⟨r3, k3⟩ : ∃ r, w2.cell? ⟨g, j * 6 + 3, none⟩ = some r := ⟨_, X2.cell (j * 6 + 3) _ (List.getElem?_eq_getElem (by omega))⟩
                  obtain ⟨r4, k4⟩ : ∃ r, w2.cell? ⟨g, j * 6 + 4, none⟩ = some r := ⟨_, X2.cell (j * 6 + 4) _ (List.getElem?_eq_getElem (by omega))⟩
                  obtain ⟨r5, k5⟩ : ∃ r, w2.cell? ⟨g, j * 6 + 5, none⟩ = some r := ⟨_, X2.cell (j * 6 + 5) _ (List.getElem?_eq_getElem (by omega))⟩
                  have f0 := X2.free (j * 6) (by omega)
                  have f1 := X2.free (j * 6 + 1) (by omega)
                  have f2 := X2.free (j * 6 + 2) (by omega)
                  have f3 := X2.free (j * 6 + 3) (by omega)
                  have f4 := X2.free (j * 6 + 4) (by omega)
                  have f5 := X2.free (j * 6 + 5) (by omega)
                  clear X2 B2 HNum B1 BI1 RW1' BX1' TM
                  unfold litT
                  go_wp2_with fail
                  go_roundw
                  case rel =>
                    refine ⟨j + 1, put6 C (j * 6) (.int .i64 1) (.string ⟨#[]⟩) (.int .i64 99) (.int .i64 0) (.int .i64 0) (.slice none 0 0), by go_num, by omega, hid2 (row_put6 R2.out (j * 6) _ _ _ _ _ _), hid2 (fun i hi h => ?_), hid2 ?_, hid2 ?_⟩
                    · obtain ⟨u2, k1, k2⟩ := TM2.out i hi h
                      exact ⟨u2, fun q hq => by rw [put6_after (by omega)]; exact k1 q hq, fun g' hg' => by cases hg'; exact set6_sits (w := w2) (g := g) (o := j * 6) (v0 := .int .i64 1) (v1 := .string ⟨#[]⟩) (v2 := .int .i64 99) (v3 := .int .i64 0) (v4 := .int .i64 0) (v5 := .slice none 0 0) (Nat.lt_succ_self _) k2⟩
                    · exact (((((BI2.out.setCell hgB _).setCell hgB _).setCell hgB _).setCell hgB _).setCell hgB _).setCell hgB _
                    · exact (((((BX2.out.other hwg).other hwg).other hwg).other hwg).other hwg).other hwg
                  case measure => simp; omega
                · have hlt' : ¬ (j : Int) < (N : Int) := by omega
                  clear HBw
                  have HNum := hid2 (fun wx => num_c 98 ⟨#[]⟩ wx)
                  clear x5 TM
                  go_wp2_with fail
                  refine Calls.mono (HNum.out _) ?_
                  rintro e w3 ⟨rfl, B3⟩
                  have R3 := hid2 (row_keep RW.out B3)
                  have BI3 := hid2 (below_on BW.out B3 BW.out.size)
                  have BX3 := hid2 (BXi.out.next B3)
                  have hwb : w.heap.size < wo.heap.size := HXo.out.lt
                  have HN3 : Hid (∀ j u, (tmL (litT 98 ⟨#[]⟩) (.slice none 0 0))[j]? = some u → (w3.alloc (.cells #[.int .i64 1, .string ⟨#[]⟩, .int .i64 98, .int .i64 0, .int .i64 0, .slice none 0 0] 24)).cell? ((⟨w3.heap.size, 0, none⟩ : Addr).add j) = some u) := fun j u hu => by
                    rw [addr_add, Nat.zero_add]
                    exact (Box.new w3 (tmL (litT 98 ⟨#[]⟩) (.slice none 0 0)) 24).cell j u hu
                  have HG3 : Hid (∀ w4, (w3.alloc (.cells #[.int .i64 1, .string ⟨#[]⟩, .int .i64 98, .int .i64 0, .int .i64 0, .slice none 0 0] 24)).grownBy w4 (Value.slice a N c).ownBlock → Below wo.heap.size wo w4 ∧ Box w4 w.heap.size (tmL t (.slice ad N cap))) := fun w4 hg => by
                    have hown : ∀ k, (Value.slice a N c).ownBlock = some k → wo.heap.size ≤ k := fun k hk => (R3.out.lt k hk).1
                    have b4 := Below.grown (BI3.out.alloc BI3.out.size (.cells #[.int .i64 1, .string ⟨#[]⟩, .int .i64 98, .int .i64 0, .int .i64 0, .slice none 0 0] 24)) hg (by have := BI3.out.size; simp; omega) hown
                    exact ⟨b4, HXo.out.next b4⟩
                  have hsz3 : wo.heap.size ≤ w3.heap.size := BI3.out.size
                  clear B3 HNum RW BW BXi HBh lx
                  unfold litT
                  go_wp2_with (at_builtin; refine wpList_append_t _ rfl _ _ rfl wo.heap.size (.slice a N c) N C rfl (row_keep R3.out ((Below.refl _ _).alloc (Nat.le_refl _) _)) ⟨w3.heap.size, 0, none⟩ (tmL (litT 98 ⟨#[]⟩) (.slice none 0 0)) rfl rfl HN3.out (by intro u hu; simp [litT] at hu; rcases hu with rfl | rfl | rfl | rfl | rfl <;> rfl) hNle (by simp; omega) ?_; intro a4 c4 w4 hg4; obtain ⟨b4, x4⟩ := HG3.out _ hg4; have B4 := hid2 b4; have X4 := hid2 x4; obtain ⟨s0, s1, s2, s3, s4, s5⟩ := tm_of x4; have lx4 := x4.lt; clear b4 x4 hg4)
                  have BO4 := hid2 (below_on HBo.out B4.out HBo.out.size)
                  refine Calls.mono (HO.out w4 BO4.out kd) ?_
                  rintro e w5 ⟨a5, n5, c5, er5, rfl, b5, y5, -⟩
                  obtain ⟨rfl, rfl5, L5⟩ := y5.out HG.out hA2.out
                  rw [← hN.out] at rfl5
                  obtain rfl := rfl5.symm
                  have LA5 := hid2 L5
                  have BO5 := hid2 (below_on BO4.out b5.out BO4.out.size)
                  have X5 := hid2 (X4.out.next b5.out)
                  clear L5 y5 HG3 HN3 R3 BI3 BX3 s0 s1 s2 s3 s4 s5 lx4 B4 X4 b5 BO4
                  have x5 := X5.out.cell 5 _ rfl
                  have lx5 := X5.out.lt
                  have hcmp : ((((N + 1 : Nat) : Int)) != (N : Int) + 1) = false := by simp
                  go_wp2_with fail
                  clear x5 lx5
                  go_loopw [13] (fun i wr => ∃ j : Nat, i = .int .i64 (j : Nat) ∧ j ≤ N ∧ Hid (Below w5.heap.size w5 wr)) (fun i _ => match i with | .int _ p => ((N : Int) - p).toNat | _ => 0)
                  case atStart => exact ⟨0, rfl, by omega, Below.refl _ _⟩
                  case round =>
                    obtain ⟨j, rfl, hj, BW⟩ := hrel
                    have HBw : Below w.heap.size w wr := below_on BO5.out BW.out BO5.out.size
                    have HBh := hid2 HBw
                    have BXi := hid2 (X5.out.next BW.out)
                    have x5 := BXi.out.cell 5 _ rfl
                    have lx := BXi.out.lt
                    by_cases hlt : j < N
                    · have hlt' : (j : Int) < (N : Int) := by omega
                      have h1 : j < t.parts.length := by rw [← hN.out]; exact hlt
                      obtain ⟨C5, RW5, TM5⟩ := LA5.out.next BW.out
                      rw [← hN.out] at RW5
                      obtain ⟨g, rfl, hgB, lg⟩ := row_some RW5 (by omega)
                      obtain ⟨u, hcs, hsu⟩ := TM5 j h1
                      have hbx := row_box RW5
                      have c0 := hbx.cell (j * 6 + 0) _ ((hcs 0 (by omega)).trans rfl)
                      have c1 := hbx.cell (j * 6 + 1) _ ((hcs 1 (by omega)).trans rfl)
                      have c2 := hbx.cell (j * 6 + 2) _ ((hcs 2 (by omega)).trans rfl)
                      have c3 := hbx.cell (j * 6 + 3) _ ((hcs 3 (by omega)).trans rfl)
                      have c4 := hbx.cell (j * 6 + 4) _ ((hcs 4 (by omega)).trans rfl)
                      have c5 := hbx.cell (j * 6 + 5) _ ((hcs 5 (by omega)).trans rfl)
                      rw [Nat.add_zero] at c0
                      obtain ⟨b, off, cq, hv, -, -, hbl, hxs⟩ := HS.out.parts.open (by omega)
                      rw [← hN.out] at hv
                      simp only [Value.slice.injEq] at hv
                      obtain ⟨rfl, -, rfl⟩ := hv
                      obtain ⟨u', h6, hu'⟩ := hxs j h1
                      obtain ⟨e0, e1, e2, e3, e4, e5⟩ := h6.keep (w' := wr) (fun q => HBw.cell (p := ⟨b, q, none⟩) hbl)
                      have lb : b < wr.heap.size := Nat.lt_of_lt_of_le hbl HBw.size
                      have HC : Hid (∀ wx, Below wr.heap.size wr wx → Calls Tryd.prog 19 #[tmV t.parts[j] u, tmV t.parts[j] u'] wx fun e w' => e = .returned (.bool true) ∧ Hid (Below wr.heap.size wr w')) := fun wx hb => by
                        have := rSame_all t.parts[j] t.parts[j] u u' wx ((hsu g rfl).sits.next hb) (hu'.next (below_on HBw hb HBw.size))
                        rw [sameB_self] at this
                        exact this.mono fun e w' h => ⟨h.1, below_on hb h.2 hb.size⟩
                      obtain ⟨au, cu, rfl, -, -⟩ := (hsu g rfl).sits.parts.shape
                      obtain ⟨au', cu', rfl, -, -⟩ := hu'.parts.shape
                      clear h6 hu' hxs hcs hsu hbx HBw RW5 TM5
                      generalize t.parts[j] = x at *
                      clear h1
                      go_wp2_with fail
                      go_region_held3 (fun w' => w'.cell? ⟨w.heap.size, 5, none⟩ = some (.slice (some ⟨b, off, none⟩) N cap) ∧ w'.cell? ⟨g, j * 6, none⟩ = some (.int .i64 x.kind) ∧ w'.cell? ⟨g, j * 6 + 1, none⟩ = some (.string x.text) ∧ w'.cell? ⟨g, j * 6 + 2, none⟩ = some (.int .i64 x.n) ∧ w'.cell? ⟨g, j * 6 + 3, none⟩ = some (.int .i64 x.m) ∧ w'.cell? ⟨g, j * 6 + 4, none⟩ = some (.int .i64 x.pl) ∧ w'.cell? ⟨g, j * 6 + 5, none⟩ = some (.slice au x.parts.length cu) ∧ w'.cell? ⟨b, off + j * 6, none⟩ = some (.int .i64 x.kind) ∧ w'.cell? ⟨b, off + j * 6 + 1, none⟩ = some (.string x.text) ∧ w'.cell? ⟨b, off + j * 6 + 2, none⟩ = some (.int .i64 x.n) ∧ w'.cell? ⟨b, off + j * 6 + 3, none⟩ = some (.int .i64 x.m) ∧ w'.cell? ⟨b, off + j * 6 + 4, none⟩ = some (.int .i64 x.pl) ∧ w'.cell? ⟨b, off + j * 6 + 5, none⟩ = some (.slice au' x.parts.length cu')) (simp [go_sem, *]) (first | (go_at_call 19; refine Calls.mono (HC.out _ (by exact below_drewN (Below.refl _ _) _)) ?_; rintro e w1 ⟨rfl, B1⟩; have g0 := fun p v hp hv => (B1.out.cell (p := p) hp).trans (hv : wr.cell? p = some v); replace x5 := g0 _ _ lx x5; replace c0 := g0 _ _ lg c0; replace c1 := g0 _ _ lg c1; replace c2 := g0 _ _ lg c2; replace c3 := g0 _ _ lg c3; replace c4 := g0 _ _ lg c4; replace c5 := g0 _ _ lg c5; replace e0 := g0 _ _ lb e0; replace e1 := g0 _ _ lb e1; replace e2 := g0 _ _ lb e2; replace e3 := g0 _ _ lb e3; replace e4 := g0 _ _ lb e4; replace e5 := g0 _ _ lb e5; clear g0))
                      have BI1 := hid2 (below_on BW.out B1.out BW.out.size)
                      clear c0 c1 c2 c3 c4 c5 e0 e1 e2 e3 e4 e5 HC x5
                      go_wp2_with fail
                      go_roundw
                      case rel => exact ⟨j + 1, by go_num, by omega, BI1⟩
                      case measure => simp; omega
                    · have hlt' : ¬ (j : Int) < (N : Int) := by omega
                      clear HBw x5 LA5
                      go_wp2_with fail
                      go_roundw
                      case rel => exact ⟨kk + 1, by go_num, by omega, by omega, HBh, BXi⟩
                      case measure => simp; omega

            · obtain ⟨rfl, rfl⟩ := hno.out hA
              have dq2 : (t.kind != kd) = true := by
                have : t.kind ≠ kd := fun e => hA ⟨hgd.out.symm, e⟩
                simpa using this
              clear hy hno hA
              go_wp2_with fail
              go_roundw
              case rel => exact ⟨kk + 1, by go_num, by omega, by omega, BO1, X1⟩
              case measure => simp; omega

          · have dm : (kk == -1) = false := by simpa using hm
            go_wp2_with fail
            refine Calls.mono (HO.out wo HBo.out kk) ?_
            rintro e w1 ⟨a, n, c, er, rfl, b1, hy, hno⟩
            have BO1 := hid2 (below_on HBo.out b1.out HBo.out.size)
            have X1 := hid2 (HXo.out.next b1.out)
            obtain ⟨s0, s1, s2, s3, s4, s5⟩ := tm_of X1.out
            have lx1 := X1.out.lt
            by_cases hA : goodB t = true ∧ t.kind = kk
            · obtain ⟨rfl, hn1, L1⟩ := hy.out hA.1 hA.2
              rw [← hN.out] at hn1
              obtain rfl := hn1.symm
              obtain ⟨C0, r1, tm1⟩ := L1
              rw [← hN.out] at r1
              have RW1 := hid2 r1
              have TM1 := hid2 tm1
              have BW1 := b1
              have BX1 := X1
              have HG := hid2 hA.1
              have hA2 := hid2 hA.2
              have dq : (t.kind != kk) = false := by rw [hA.2]; simp
              clear r1 tm1 hy hno hA b1
              go_wp2_with fail
              clear s0 s1 s2 s3 s4 s5 lx1
              go_loopw [10] (fun i wr => ∃ (j : Nat) (C : List Value), i = .int .i64 (j : Nat) ∧ j ≤ N ∧ Hid (wr.ownsRow wo.heap.size 24 6 (.slice a N c) N C) ∧ Hid (∀ i, j ≤ i → ∀ (h : i < t.parts.length), ∃ u, (∀ q, q < 6 → C[i * 6 + q]? = (tmL t.parts[i] u)[q]?) ∧ ∀ g, (Value.slice a N c).ownBlock = some g → SitsL (g + 1) 1048576 wr t.parts[i] u) ∧ Hid (Below wo.heap.size wo wr) ∧ Hid (Box wr w.heap.size (tmL t (.slice ad N cap)))) (fun i _ => match i with | .int _ p => ((N : Int) - p).toNat | _ => 0)
              case atStart => exact ⟨0, C0, rfl, by omega, RW1, hid2 (fun i _ h => TM1.out i h), BW1, BX1⟩
              case round =>
                obtain ⟨j, C, rfl, hj, RW, TM, BW, BXi⟩ := hrel
                have HBw : Below w.heap.size w wr := below_on HBo.out BW.out HBo.out.size
                have HBh := hid2 HBw
                have x5 := BXi.out.cell 5 _ rfl
                have lx := BXi.out.lt
                by_cases hlt : j < N
                · have hlt' : (j : Int) < (N : Int) := by omega
                  have h1 : j < t.parts.length := by rw [← hN.out]; exact hlt
                  obtain ⟨g, rfl, hgB, lg⟩ := row_some RW.out (by omega)
                  obtain ⟨u, hcs, hsu⟩ := TM.out j (Nat.le_refl _) h1
                  have hbx := row_box RW.out
                  have hlen : C.length = N * 6 := RW.out.1
                  have c0 := hbx.cell (j * 6 + 0) _ ((hcs 0 (by omega)).trans rfl)
                  have c1 := hbx.cell (j * 6 + 1) _ ((hcs 1 (by omega)).trans rfl)
                  have c2 := hbx.cell (j * 6 + 2) _ ((hcs 2 (by omega)).trans rfl)
                  have c3 := hbx.cell (j * 6 + 3) _ ((hcs 3 (by omega)).trans rfl)
                  have c4 := hbx.cell (j * 6 + 4) _ ((hcs 4 (by omega)).trans rfl)
                  have c5 := hbx.cell (j * 6 + 5) _ ((hcs 5 (by omega)).trans rfl)
                  rw [Nat.add_zero] at c0
                  obtain ⟨b, off, cq, hv, -, -, hbl, hxs⟩ := HS.out.parts.open (by omega)
                  rw [← hN.out] at hv
                  simp only [Value.slice.injEq] at hv
                  obtain ⟨rfl, -, rfl⟩ := hv
                  obtain ⟨u', h6, hu'⟩ := hxs j h1
                  obtain ⟨e0, e1, e2, e3, e4, e5⟩ := h6.keep (w' := wr) (fun q => HBw.cell (p := ⟨b, q, none⟩) hbl)
                  have lb : b < wr.heap.size := Nat.lt_of_lt_of_le hbl HBw.size
                  have HC : Hid (∀ wx, Below wr.heap.size wr wx → Calls Tryd.prog 19 #[tmV t.parts[j] u, tmV t.parts[j] u'] wx fun e w' => e = .returned (.bool true) ∧ Hid (Below wr.heap.size wr w')) := fun wx hb => by
                    have := rSame_all t.parts[j] t.parts[j] u u' wx ((hsu g rfl).sits.next hb) (hu'.next (below_on HBw hb HBw.size))
                    rw [sameB_self] at this
                    exact this.mono fun e w' h => ⟨h.1, below_on hb h.2 hb.size⟩
                  have HNum := hid2 (fun wx => num_c 99 ⟨#[]⟩ wx)
                  have hwg : w.heap.size ≠ g := by have := HXo.out.lt; omega
                  obtain ⟨au, cu, rfl, -, -⟩ := (hsu g rfl).sits.parts.shape
                  obtain ⟨au', cu', rfl, -, -⟩ := hu'.parts.shape
                  have HLen := hid2 hlen
                  clear h6 hu' hxs hcs hsu hbx HBw hlen
                  have HJ := hid2 h1
                  generalize t.parts[j] = x at *
                  clear h1
                  go_wp2_with fail
                  go_region_held3 (fun w' => w'.cell? ⟨w.heap.size, 5, none⟩ = some (.slice (some ⟨b, off, none⟩) N cap) ∧ w'.cell? ⟨g, j * 6, none⟩ = some (.int .i64 x.kind) ∧ w'.cell? ⟨g, j * 6 + 1, none⟩ = some (.string x.text) ∧ w'.cell? ⟨g, j * 6 + 2, none⟩ = some (.int .i64 x.n) ∧ w'.cell? ⟨g, j * 6 + 3, none⟩ = some (.int .i64 x.m) ∧ w'.cell? ⟨g, j * 6 + 4, none⟩ = some (.int .i64 x.pl) ∧ w'.cell? ⟨g, j * 6 + 5, none⟩ = some (.slice au x.parts.length cu) ∧ w'.cell? ⟨b, off + j * 6, none⟩ = some (.int .i64 x.kind) ∧ w'.cell? ⟨b, off + j * 6 + 1, none⟩ = some (.string x.text) ∧ w'.cell? ⟨b, off + j * 6 + 2, none⟩ = some (.int .i64 x.n) ∧ w'.cell? ⟨b, off + j * 6 + 3, none⟩ = some (.int .i64 x.m) ∧ w'.cell? ⟨b, off + j * 6 + 4, none⟩ = some (.int .i64 x.pl) ∧ w'.cell? ⟨b, off + j * 6 + 5, none⟩ = some (.slice au' x.parts.length cu')) (simp [go_sem, *]) (first | (go_at_call 19; refine Calls.mono (HC.out _ (by exact below_drewN (Below.refl _ _) _)) ?_; rintro e w1 ⟨rfl, B1⟩; have g0 := fun p v hp hv => (B1.out.cell (p := p) hp).trans (hv : wr.cell? p = some v); replace x5 := g0 _ _ lx x5; replace c0 := g0 _ _ lg c0; replace c1 := g0 _ _ lg c1; replace c2 := g0 _ _ lg c2; replace c3 := g0 _ _ lg c3; replace c4 := g0 _ _ lg c4; replace c5 := g0 _ _ lg c5; replace e0 := g0 _ _ lb e0; replace e1 := g0 _ _ lb e1; replace e2 := g0 _ _ lb e2; replace e3 := g0 _ _ lb e3; replace e4 := g0 _ _ lb e4; replace e5 := g0 _ _ lb e5; clear g0))
                  have BI1 := hid2 (below_on BW.out B1.out BW.out.size)
                  have RW1' := hid2 (row_keep RW.out B1.out)
                  have BX1' := hid2 (BXi.out.next B1.out)
                  clear c0 c1 c2 c3 c4 c5 e0 e1 e2 e3 e4 e5 HC x5
                  go_wp2_with fail
                  refine Calls.mono (HNum.out _) ?_
                  rintro e w2 ⟨rfl, B2⟩
                  have R2 := hid2 (row_keep RW1'.out B2)
                  have X2 := row_box R2.out
                  have BI2 := hid2 (below_on BI1.out B2 BI1.out.size)
                  have BX2 := hid2 (BX1'.out.next B2)
                  have TM2 : Hid (∀ i, j + 1 ≤ i → ∀ (h : i < t.parts.length), ∃ u, (∀ q, q < 6 → C[i * 6 + q]? = (tmL t.parts[i] u)[q]?) ∧ SitsL (g + 1) 1048576 w2 t.parts[i] u) := fun i hi h => by
                    obtain ⟨u, k1, k2⟩ := TM.out i (by omega) h
                    exact ⟨u, k1, ((k2 g rfl).next B1.out).next B2⟩
                  have hlen := HLen.out
                  obtain ⟨r0, k0⟩ : ∃ r, w2.cell? ⟨g, j * 6, none⟩ = some r := ⟨_, X2.cell (j * 6) _ (List.getElem?_eq_getElem (by omega))⟩
                  obtain ⟨r1, k1⟩ : ∃ r, w2.cell? ⟨g, j * 6 + 1, none⟩ = some r := ⟨_, X2.cell (j * 6 + 1) _ (List.getElem?_eq_getElem (by omega))⟩
                  obtain ⟨r2, k2⟩ : ∃ r, w2.cell? ⟨g, j * 6 + 2, none⟩ = some r := ⟨_, X2.cell (j * 6 + 2) _ (List.getElem?_eq_getElem (by omega))⟩
                  obtain ⟨r3, k3⟩ : ∃ r, w2.cell? ⟨g, j * 6 + 3, none⟩ = some r := ⟨_, X2.cell (j * 6 + 3) _ (List.getElem?_eq_getElem (by omega))⟩
                  obtain ⟨r4, k4⟩ : ∃ r, w2.cell? ⟨g, j * 6 + 4, none⟩ = some r := ⟨_, X2.cell (j * 6 + 4) _ (List.getElem?_eq_getElem (by omega))⟩
                  obtain ⟨r5, k5⟩ : ∃ r, w2.cell? ⟨g, j * 6 + 5, none⟩ = some r := ⟨_, X2.cell (j * 6 + 5) _ (List.getElem?_eq_getElem (by omega))⟩
                  have f0 := X2.free (j * 6) (by omega)
                  have f1 := X2.free (j * 6 + 1) (by omega)
                  have f2 := X2.free (j * 6 + 2) (by omega)
                  have f3 := X2.free (j * 6 + 3) (by omega)
                  have f4 := X2.free (j * 6 + 4) (by omega)
                  have f5 := X2.free (j * 6 + 5) (by omega)
                  clear X2 B2 HNum B1 BI1 RW1' BX1' TM
                  unfold litT
                  go_wp2_with fail
                  go_roundw
                  case rel =>
                    refine ⟨j + 1, put6 C (j * 6) (.int .i64 1) (.string ⟨#[]⟩) (.int .i64 99) (.int .i64 0) (.int .i64 0) (.slice none 0 0), by go_num, by omega, hid2 (row_put6 R2.out (j * 6) _ _ _ _ _ _), hid2 (fun i hi h => ?_), hid2 ?_, hid2 ?_⟩
                    · obtain ⟨u2, k1, k2⟩ := TM2.out i hi h
                      exact ⟨u2, fun q hq => by rw [put6_after (by omega)]; exact k1 q hq, fun g' hg' => by cases hg'; exact set6_sits (w := w2) (g := g) (o := j * 6) (v0 := .int .i64 1) (v1 := .string ⟨#[]⟩) (v2 := .int .i64 99) (v3 := .int .i64 0) (v4 := .int .i64 0) (v5 := .slice none 0 0) (Nat.lt_succ_self _) k2⟩
                    · exact (((((BI2.out.setCell hgB _).setCell hgB _).setCell hgB _).setCell hgB _).setCell hgB _).setCell hgB _
                    · exact (((((BX2.out.other hwg).other hwg).other hwg).other hwg).other hwg).other hwg
                  case measure => simp; omega
                · have hlt' : ¬ (j : Int) < (N : Int) := by omega
                  clear HBw
                  have HNum := hid2 (fun wx => num_c 98 ⟨#[]⟩ wx)
                  clear x5 TM
                  go_wp2_with fail
                  refine Calls.mono (HNum.out _) ?_
                  rintro e w3 ⟨rfl, B3⟩
                  have R3 := hid2 (row_keep RW.out B3)
                  have BI3 := hid2 (below_on BW.out B3 BW.out.size)
                  have BX3 := hid2 (BXi.out.next B3)
                  have hwb : w.heap.size < wo.heap.size := HXo.out.lt
                  have HN3 : Hid (∀ j u, (tmL (litT 98 ⟨#[]⟩) (.slice none 0 0))[j]? = some u → (w3.alloc (.cells #[.int .i64 1, .string ⟨#[]⟩, .int .i64 98, .int .i64 0, .int .i64 0, .slice none 0 0] 24)).cell? ((⟨w3.heap.size, 0, none⟩ : Addr).add j) = some u) := fun j u hu => by
                    rw [addr_add, Nat.zero_add]
                    exact (Box.new w3 (tmL (litT 98 ⟨#[]⟩) (.slice none 0 0)) 24).cell j u hu
                  have HG3 : Hid (∀ w4, (w3.alloc (.cells #[.int .i64 1, .string ⟨#[]⟩, .int .i64 98, .int .i64 0, .int .i64 0, .slice none 0 0] 24)).grownBy w4 (Value.slice a N c).ownBlock → Below wo.heap.size wo w4 ∧ Box w4 w.heap.size (tmL t (.slice ad N cap))) := fun w4 hg => by
                    have hown : ∀ k, (Value.slice a N c).ownBlock = some k → wo.heap.size ≤ k := fun k hk => (R3.out.lt k hk).1
                    have b4 := Below.grown (BI3.out.alloc BI3.out.size (.cells #[.int .i64 1, .string ⟨#[]⟩, .int .i64 98, .int .i64 0, .int .i64 0, .slice none 0 0] 24)) hg (by have := BI3.out.size; simp; omega) hown
                    exact ⟨b4, HXo.out.next b4⟩
                  have hsz3 : wo.heap.size ≤ w3.heap.size := BI3.out.size
                  clear B3 HNum RW BW BXi HBh lx
                  unfold litT
                  go_wp2_with (at_builtin; refine wpList_append_t _ rfl _ _ rfl wo.heap.size (.slice a N c) N C rfl (row_keep R3.out ((Below.refl _ _).alloc (Nat.le_refl _) _)) ⟨w3.heap.size, 0, none⟩ (tmL (litT 98 ⟨#[]⟩) (.slice none 0 0)) rfl rfl HN3.out (by intro u hu; simp [litT] at hu; rcases hu with rfl | rfl | rfl | rfl | rfl <;> rfl) hNle (by simp; omega) ?_; intro a4 c4 w4 hg4; obtain ⟨b4, x4⟩ := HG3.out _ hg4; have B4 := hid2 b4; have X4 := hid2 x4; obtain ⟨s0, s1, s2, s3, s4, s5⟩ := tm_of x4; have lx4 := x4.lt; clear b4 x4 hg4)
                  have BO4 := hid2 (below_on HBo.out B4.out HBo.out.size)
                  refine Calls.mono (HO.out w4 BO4.out kk) ?_
                  rintro e w5 ⟨a5, n5, c5, er5, rfl, b5, y5, -⟩
                  obtain ⟨rfl, rfl5, L5⟩ := y5.out HG.out hA2.out
                  rw [← hN.out] at rfl5
                  obtain rfl := rfl5.symm
                  have LA5 := hid2 L5
                  have BO5 := hid2 (below_on BO4.out b5.out BO4.out.size)
                  have X5 := hid2 (X4.out.next b5.out)
                  clear L5 y5 HG3 HN3 R3 BI3 BX3 s0 s1 s2 s3 s4 s5 lx4 B4 X4 b5 BO4
                  have x5 := X5.out.cell 5 _ rfl
                  have lx5 := X5.out.lt
                  have hcmp : ((((N + 1 : Nat) : Int)) != (N : Int) + 1) = false := by simp
                  go_wp2_with fail
                  clear x5 lx5
                  go_loopw [13] (fun i wr => ∃ j : Nat, i = .int .i64 (j : Nat) ∧ j ≤ N ∧ Hid (Below w5.heap.size w5 wr)) (fun i _ => match i with | .int _ p => ((N : Int) - p).toNat | _ => 0)
                  case atStart => exact ⟨0, rfl, by omega, Below.refl _ _⟩
                  case round =>
                    obtain ⟨j, rfl, hj, BW⟩ := hrel
                    have HBw : Below w.heap.size w wr := below_on BO5.out BW.out BO5.out.size
                    have HBh := hid2 HBw
                    have BXi := hid2 (X5.out.next BW.out)
                    have x5 := BXi.out.cell 5 _ rfl
                    have lx := BXi.out.lt
                    by_cases hlt : j < N
                    · have hlt' : (j : Int) < (N : Int) := by omega
                      have h1 : j < t.parts.length := by rw [← hN.out]; exact hlt
                      obtain ⟨C5, RW5, TM5⟩ := LA5.out.next BW.out
                      rw [← hN.out] at RW5
                      obtain ⟨g, rfl, hgB, lg⟩ := row_some RW5 (by omega)
                      obtain ⟨u, hcs, hsu⟩ := TM5 j h1
                      have hbx := row_box RW5
                      have c0 := hbx.cell (j * 6 + 0) _ ((hcs 0 (by omega)).trans rfl)
                      have c1 := hbx.cell (j * 6 + 1) _ ((hcs 1 (by omega)).trans rfl)
                      have c2 := hbx.cell (j * 6 + 2) _ ((hcs 2 (by omega)).trans rfl)
                      have c3 := hbx.cell (j * 6 + 3) _ ((hcs 3 (by omega)).trans rfl)
                      have c4 := hbx.cell (j * 6 + 4) _ ((hcs 4 (by omega)).trans rfl)
                      have c5 := hbx.cell (j * 6 + 5) _ ((hcs 5 (by omega)).trans rfl)
                      rw [Nat.add_zero] at c0
                      obtain ⟨b, off, cq, hv, -, -, hbl, hxs⟩ := HS.out.parts.open (by omega)
                      rw [← hN.out] at hv
                      simp only [Value.slice.injEq] at hv
                      obtain ⟨rfl, -, rfl⟩ := hv
                      obtain ⟨u', h6, hu'⟩ := hxs j h1
                      obtain ⟨e0, e1, e2, e3, e4, e5⟩ := h6.keep (w' := wr) (fun q => HBw.cell (p := ⟨b, q, none⟩) hbl)
                      have lb : b < wr.heap.size := Nat.lt_of_lt_of_le hbl HBw.size
                      have HC : Hid (∀ wx, Below wr.heap.size wr wx → Calls Tryd.prog 19 #[tmV t.parts[j] u, tmV t.parts[j] u'] wx fun e w' => e = .returned (.bool true) ∧ Hid (Below wr.heap.size wr w')) := fun wx hb => by
                        have := rSame_all t.parts[j] t.parts[j] u u' wx ((hsu g rfl).sits.next hb) (hu'.next (below_on HBw hb HBw.size))
                        rw [sameB_self] at this
                        exact this.mono fun e w' h => ⟨h.1, below_on hb h.2 hb.size⟩
                      obtain ⟨au, cu, rfl, -, -⟩ := (hsu g rfl).sits.parts.shape
                      obtain ⟨au', cu', rfl, -, -⟩ := hu'.parts.shape
                      clear h6 hu' hxs hcs hsu hbx HBw RW5 TM5
                      generalize t.parts[j] = x at *
                      clear h1
                      go_wp2_with fail
                      go_region_held3 (fun w' => w'.cell? ⟨w.heap.size, 5, none⟩ = some (.slice (some ⟨b, off, none⟩) N cap) ∧ w'.cell? ⟨g, j * 6, none⟩ = some (.int .i64 x.kind) ∧ w'.cell? ⟨g, j * 6 + 1, none⟩ = some (.string x.text) ∧ w'.cell? ⟨g, j * 6 + 2, none⟩ = some (.int .i64 x.n) ∧ w'.cell? ⟨g, j * 6 + 3, none⟩ = some (.int .i64 x.m) ∧ w'.cell? ⟨g, j * 6 + 4, none⟩ = some (.int .i64 x.pl) ∧ w'.cell? ⟨g, j * 6 + 5, none⟩ = some (.slice au x.parts.length cu) ∧ w'.cell? ⟨b, off + j * 6, none⟩ = some (.int .i64 x.kind) ∧ w'.cell? ⟨b, off + j * 6 + 1, none⟩ = some (.string x.text) ∧ w'.cell? ⟨b, off + j * 6 + 2, none⟩ = some (.int .i64 x.n) ∧ w'.cell? ⟨b, off + j * 6 + 3, none⟩ = some (.int .i64 x.m) ∧ w'.cell? ⟨b, off + j * 6 + 4, none⟩ = some (.int .i64 x.pl) ∧ w'.cell? ⟨b, off + j * 6 + 5, none⟩ = some (.slice au' x.parts.length cu')) (simp [go_sem, *]) (first | (go_at_call 19; refine Calls.mono (HC.out _ (by exact below_drewN (Below.refl _ _) _)) ?_; rintro e w1 ⟨rfl, B1⟩; have g0 := fun p v hp hv => (B1.out.cell (p := p) hp).trans (hv : wr.cell? p = some v); replace x5 := g0 _ _ lx x5; replace c0 := g0 _ _ lg c0; replace c1 := g0 _ _ lg c1; replace c2 := g0 _ _ lg c2; replace c3 := g0 _ _ lg c3; replace c4 := g0 _ _ lg c4; replace c5 := g0 _ _ lg c5; replace e0 := g0 _ _ lb e0; replace e1 := g0 _ _ lb e1; replace e2 := g0 _ _ lb e2; replace e3 := g0 _ _ lb e3; replace e4 := g0 _ _ lb e4; replace e5 := g0 _ _ lb e5; clear g0))
                      have BI1 := hid2 (below_on BW.out B1.out BW.out.size)
                      clear c0 c1 c2 c3 c4 c5 e0 e1 e2 e3 e4 e5 HC x5
                      go_wp2_with fail
                      go_roundw
                      case rel => exact ⟨j + 1, by go_num, by omega, BI1⟩
                      case measure => simp; omega
                    · have hlt' : ¬ (j : Int) < (N : Int) := by omega
                      clear HBw x5 LA5
                      go_wp2_with fail
                      go_roundw
                      case rel => exact ⟨kk + 1, by go_num, by omega, by omega, HBh, BXi⟩
                      case measure => simp; omega

            · obtain ⟨rfl, rfl⟩ := hno.out hA
              have dq2 : (t.kind != kk) = true := by
                have : t.kind ≠ kk := fun e => hA ⟨hgd.out.symm, e⟩
                simpa using this
              clear hy hno hA
              go_wp2_with fail
              go_roundw
              case rel => exact ⟨kk + 1, by go_num, by omega, by omega, BO1, X1⟩
              case measure => simp; omega

        · have hlt' : ¬ kk < 40 := hlt
          clear HO
          go_wp2_with fail
          go_ret
          exact ⟨rfl, HBo.out⟩

end Go.Proofs.YtdikeicnefgjcaaDoor
