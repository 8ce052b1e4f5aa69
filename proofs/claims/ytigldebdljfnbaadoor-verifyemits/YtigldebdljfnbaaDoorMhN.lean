import Derived.Test.YtigldebdljfnbaaDoorMgB
import Derived.Deep.RegionHeld3
namespace Go.Proofs.YtigldebdljfnbaaDoor
open Go.RowKit

theorem cbelow_turn {W w w' : World} {F : List Nat} (hb : Below W.heap.size W w) (t : Turn F w w') (hF : ∀ b, b ∈ F → W.heap.size ≤ b) : Below W.heap.size W w' :=
  hb.trans (t.below hF hb.size)

def cndsV (t : Co) : Value := .int .i64 ((min (cnodes t) 4097 : Nat) : Int)
set_option maxHeartbeats 1000000 in
theorem crNodes_c (t : Co) : ∀ (v : Value) (w : World), CSits w t v → Calls Tryd.prog 5 #[coV t v] w fun e w' => e = .returned (cndsV t) ∧ Below w.heap.size w w' := by
  induction t using Co.ind with
  | h t ih =>
    intro v w hs
    have HP := chid hs.parts
    have HI := chid ih
    obtain ⟨ad, cap, rfl, hlc, hc⟩ := hs.parts.shape
    obtain ⟨V, hV⟩ : ∃ V, Hid (V = cndsV t) := ⟨_, rfl⟩
    rw [← hV.out]
    obtain ⟨N, hN⟩ : ∃ N, Hid (N = t.parts.length) := ⟨_, rfl⟩
    rw [← hN.out] at hlc HP ⊢
    clear hs ih
    go_enter Tryd.func5, Tryd.ntmps5
    go_wp2_with fail
    have BX : Hid (Box (w.alloc (.cells (coL t (.slice ad N cap)).toArray 30)) w.heap.size (coL t (.slice ad N cap))) := Box.new _ _ _
    go_loopw [3, 4] (fun c i wr => ∃ (k m : Nat), i = .int .i64 (k : Nat) ∧ c = .int .i64 (m : Nat) ∧ k ≤ N ∧ m ≤ 8193 ∧ Hid (min m 4097 = min (1 + cnodesL (t.parts.take k)) 4097) ∧ Hid (Below (w.heap.size + 1) (w.alloc (.cells (coL t (.slice ad N cap)).toArray 30)) wr)) (fun _ i _ => match i with | .int _ p => ((N : Int) - p).toNat | _ => 0)
    case atStart => exact ⟨0, 1, rfl, rfl, by omega, by omega, chid rfl, Below.refl _ _⟩
    case round =>
      obtain ⟨k, m, rfl, rfl, hk, hm, HM, HB⟩ := hrel
      have HBw : Hid (Below w.heap.size w wr) := ((Below.refl _ _).alloc (Nat.le_refl _) _).trans (HB.out.mono (by omega))
      have X := BX.out.later HB.out (by omega)
      have k3 := X.cell 3 _ rfl
      by_cases hlt : k < N
      · have hlt' : (k : Int) < (N : Int) := by omega
        by_cases h16 : m ≤ 4096
        · have h16' : (m : Int) ≤ 4096 := by omega
          have hl1 : k < t.parts.length := by rw [← hN.out]; exact hlt
          obtain ⟨b, off, cap', hv, -, -, hbl, hx⟩ := HP.out.open (by omega)
          simp only [Value.slice.injEq] at hv
          obtain ⟨rfl, -, rfl⟩ := hv
          obtain ⟨u, h6, hu⟩ := hx k hl1
          obtain ⟨c0, c1, c2, c3⟩ := h6.keep (w' := wr) (fun q => HBw.out.cell (p := ⟨b, q, none⟩) hbl)
          have HC := chid (HI.out _ (List.getElem_mem hl1) u wr (hu.next HBw.out))
          have HS : Hid (cnodesL (t.parts.take (k + 1)) = cnodesL (t.parts.take k) + cnodes t.parts[k]) := by
            show _ = _
            rw [List.take_succ_eq_append_getElem hl1, cnodesL_append, cnodesL_cons]; simp [cnodesL_nil]
          clear hx h6 hu X
          unfold cndsV at HC
          have hmn : min (cnodes t.parts[k]) 4097 ≤ 4097 := Nat.min_le_right _ _
          obtain ⟨M, hM⟩ : ∃ M, Hid (M = min (cnodes t.parts[k]) 4097) := ⟨_, chid rfl⟩
          rw [← hM.out] at HC hmn
          generalize t.parts[k] = x at *
          clear hl1
          go_wp2_with fail
          refine Calls.mono HC.out ?_
          rintro e w1 ⟨rfl, b1⟩
          have B1 := chid (HB.out.trans (b1.mono (by have := HB.out.size; simp at this; omega)))
          clear b1 HC
          obtain ⟨S, hS⟩ : ∃ S, Hid (S = m + M) := ⟨_, chid rfl⟩
          have i3 : (m : Int) + (M : Int) = (S : Int) := by have := hS.out; omega
          have i4 : (S : Int) ≤ 8193 := by have := hS.out; omega
          have hmn2 := chid hmn
          have h162 := chid h16
          clear hmn h16
          go_wp2_with fail
          go_roundw
          case rel => exact ⟨k + 1, S, by go_num, rfl, by omega, by omega, (by show _ = _; rw [HS.out, hS.out]; have := HM.out; have := hM.out; have := h162.out; omega), B1.out⟩
          case measure => simp; omega
        · have h16' : ¬ (m : Int) ≤ 4096 := by omega
          have hVV : Hid (V = .int .i64 ((min m 4097 : Nat) : Int)) := by
            show _ = _
            rw [hV.out, cndsV, cnodes_eq]
            have e : cnodesL t.parts = cnodesL (t.parts.take k) + cnodesL (t.parts.drop k) := by rw [← cnodesL_append, List.take_append_drop]
            have := HM.out
            congr 2
            omega
          go_wp2_with fail
          all_goals go_ret
          all_goals exact ⟨by rw [hVV.out]; first | (rw [show min m 4097 = 4097 by omega]; rfl) | (rw [show min m 4097 = m by omega]; rfl), HBw.out⟩
      · have hlt' : ¬ (k : Int) < (N : Int) := by omega
        have hkN : k = N := by omega
        have hVV : Hid (V = .int .i64 ((min m 4097 : Nat) : Int)) := by
          show _ = _
          rw [hV.out, cndsV, cnodes_eq]
          have e1 : t.parts.take k = t.parts := by rw [hkN, hN.out]; exact List.take_length
          have := HM.out
          rw [e1] at this
          rw [this]
        go_wp2_with fail
        all_goals go_ret
        all_goals exact ⟨by rw [hVV.out]; first | (rw [show min m 4097 = 4097 by omega]; rfl) | (rw [show min m 4097 = m by omega]; rfl), HBw.out⟩

def CSmC (fn : Nat) (t : Co) : Prop := ∀ (b : Co) (v v' : Value) (w : World) (R : Bool), (R = true ↔ t = b) → CSits w t v → CSits w b v' → Calls Tryd.prog fn #[coV t v, coV b v'] w fun e w' => e = .returned (.bool R) ∧ Below w.heap.size w w'
theorem parts_ne {a b : Co} {j : Nat} (h1 : j < a.parts.length) (h2 : j < b.parts.length) (h : ¬ a.parts[j] = b.parts[j]) : ¬ a = b := fun e => by
  subst e
  exact h rfl
theorem parts_eq {a b : Co} (ho : a.op = b.op) (hn : a.n = b.n) (hm : a.m = b.m) (hl : a.parts.length = b.parts.length) (h : ∀ j (h1 : j < a.parts.length) (h2 : j < b.parts.length), a.parts[j] = b.parts[j]) : a = b :=
  Co.same.2 ⟨ho, hn, hm, List.ext_getElem hl h⟩
set_option maxHeartbeats 4000000 in
theorem crSame_step (t : Co) (ih : ∀ x, x ∈ t.parts → CSmC 35 x) : CSmC 35 t := by
  intro b v v' w R hR0 hs hs'
  have hR := chid hR0
  clear hR0
  have HL := chid hs.parts
  have HK := chid hs'.parts
  have HI := chid ih
  obtain ⟨ad, cap, rfl, hc1, hc2⟩ := hs.parts.shape
  obtain ⟨ad', cap', rfl, hc1', hc2'⟩ := hs'.parts.shape
  obtain ⟨N, hN⟩ : ∃ N, Hid (N = t.parts.length) := ⟨_, rfl⟩
  obtain ⟨N', hN'⟩ : ∃ N, Hid (N = b.parts.length) := ⟨_, rfl⟩
  rw [← hN.out] at hc1 HL ⊢
  rw [← hN'.out] at hc1' HK ⊢
  clear hs hs' ih
  obtain ⟨X0, X1, XB⟩ := two_boxes w 30 30 (coL t (.slice ad N cap)) (coL b (.slice ad' N' cap'))
  have BX := chid X0
  have BY := chid X1
  have BB := chid XB
  clear X0 X1 XB
  by_cases ho : t.op = b.op
  case neg =>
    have hr : R = false := bfalse hR.out (fun e => ho (by rw [e]))
    have k0 : (t.op != b.op) = true := by simpa using ho
    subst hr
    go_enter Tryd.func35, Tryd.ntmps35
    go_wp2_with fail
    go_ret
    exact ⟨rfl, BB.out⟩
  have k0 : (t.op != b.op) = false := by simpa using ho
  have HO := chid ho
  clear ho
  by_cases hn : t.n = b.n
  case neg =>
    have hr : R = false := bfalse hR.out (fun e => hn (by rw [e]))
    have k1 : (t.n != b.n) = true := by simpa using hn
    subst hr
    go_enter Tryd.func35, Tryd.ntmps35
    go_wp2_with fail
    go_ret
    exact ⟨rfl, BB.out⟩
  have k1 : (t.n != b.n) = false := by simpa using hn
  have HN := chid hn
  clear hn
  by_cases hm : t.m = b.m
  case neg =>
    have hr : R = false := bfalse hR.out (fun e => hm (by rw [e]))
    have k2 : (t.m != b.m) = true := by simpa using hm
    subst hr
    go_enter Tryd.func35, Tryd.ntmps35
    go_wp2_with fail
    go_ret
    exact ⟨rfl, BB.out⟩
  have k2 : (t.m != b.m) = false := by simpa using hm
  have HM := chid hm
  clear hm
  by_cases hl : N = N'
  case neg =>
    have hr : R = false := bfalse hR.out (fun e => hl (by rw [hN.out, hN'.out, e]))
    have k3 : ((N : Int) != (N' : Int)) = true := by simp; omega
    subst hr
    go_enter Tryd.func35, Tryd.ntmps35
    go_wp2_with fail
    go_ret
    exact ⟨rfl, BB.out⟩
  subst hl
  go_enter Tryd.func35, Tryd.ntmps35
  go_wp2_with fail
  go_loopw [5] (fun i wr => ∃ j : Nat, i = .int .i64 (j : Nat) ∧ j ≤ N ∧ Hid (∀ q (h1 : q < t.parts.length) (h2 : q < b.parts.length), q < j → t.parts[q] = b.parts[q]) ∧ Hid (Below w.heap.size w wr) ∧ Hid (Box wr w.heap.size (coL t (.slice ad N cap))) ∧ Hid (Box wr (w.heap.size + 1) (coL b (.slice ad' N cap')))) (fun i _ => match i with | .int _ p => ((N : Int) - p).toNat | _ => 0)
  case atStart => exact ⟨0, rfl, by omega, fun q _ _ h => absurd h (by omega), BB, BX, BY⟩
  case round =>
    obtain ⟨j, rfl, hj, HQ, HB, HX, HY⟩ := hrel
    have x3 := HX.out.cell 3 _ rfl
    have y3 := HY.out.cell 3 _ rfl
    have lx := HX.out.lt
    have ly := HY.out.lt
    by_cases hlt : j < N
    · have hlt' : (j : Int) < (N : Int) := by omega
      have h1 : j < t.parts.length := by rw [← hN.out]; exact hlt
      have h2 : j < b.parts.length := by rw [← hN'.out]; exact hlt
      obtain ⟨bb, off, c1, hv, -, -, hbl, hx⟩ := HL.out.open (by omega)
      simp only [Value.slice.injEq] at hv
      obtain ⟨rfl, -, rfl⟩ := hv
      obtain ⟨b', off', c1', hv', -, -, hbl', hx'⟩ := HK.out.open (by omega)
      simp only [Value.slice.injEq] at hv'
      obtain ⟨rfl, -, rfl⟩ := hv'
      obtain ⟨u, h6, hu⟩ := hx j h1
      obtain ⟨u', h6', hu'⟩ := hx' j h2
      obtain ⟨c0, c1, c2, c3⟩ := h6.keep (w' := wr) (fun q => HB.out.cell (p := ⟨bb, q, none⟩) hbl)
      obtain ⟨e0, e1, e2, e3⟩ := h6'.keep (w' := wr) (fun q => HB.out.cell (p := ⟨b', q, none⟩) hbl')
      have lb : bb < wr.heap.size := Nat.lt_of_lt_of_le hbl HB.out.size
      have lb' : b' < wr.heap.size := Nat.lt_of_lt_of_le hbl' HB.out.size
      obtain ⟨r, hr⟩ := csame_ex t.parts[j] b.parts[j]
      have HC : Hid (∀ wx, Below wr.heap.size wr wx → Calls Tryd.prog 35 #[coV t.parts[j] u, coV b.parts[j] u'] wx fun e w' => e = .returned (.bool r) ∧ Hid (Below wr.heap.size wr w')) := fun wx hb => by
        have A : Below w.heap.size w wx := cbelow_on HB.out hb HB.out.size
        exact (HI.out _ (List.getElem_mem h1) _ u u' _ r hr (hu.next A) (hu'.next A)).mono fun e w' h => ⟨h.1, cbelow_on hb h.2 hb.size⟩
      have HNe : Hid (r = false → R = false) := fun h => bfalse hR.out (parts_ne h1 h2 (fun e => by rw [hr.2 e] at h; cases h))
      have HEq : Hid (r = true → t.parts[j] = b.parts[j]) := hr.1
      clear hr
      clear h6 h6' hu hu' hx hx'
      obtain ⟨x, hxx⟩ : ∃ x, Hid (x = t.parts[j]) := ⟨_, chid rfl⟩
      obtain ⟨y, hyy⟩ : ∃ y, Hid (y = b.parts[j]) := ⟨_, chid rfl⟩
      rw [← hxx.out] at c0 c1 c2 HC HEq
      rw [← hyy.out] at e0 e1 e2 HC HEq
      go_wp2_with fail
      go_region_held3 (fun w' => w'.cell? ⟨w.heap.size, 3, none⟩ = some (.slice (some ⟨bb, off, none⟩) N cap) ∧ w'.cell? ⟨w.heap.size + 1, 3, none⟩ = some (.slice (some ⟨b', off', none⟩) N cap') ∧ (w'.cell? ⟨bb, off + j * 4, none⟩ = some (.int .i64 x.op) ∧ w'.cell? ⟨bb, off + j * 4 + 1, none⟩ = some (.int .i64 x.n) ∧ w'.cell? ⟨bb, off + j * 4 + 2, none⟩ = some (.int .i64 x.m) ∧ w'.cell? ⟨bb, off + j * 4 + 3, none⟩ = some u) ∧ w'.cell? ⟨b', off' + j * 4, none⟩ = some (.int .i64 y.op) ∧ w'.cell? ⟨b', off' + j * 4 + 1, none⟩ = some (.int .i64 y.n) ∧ w'.cell? ⟨b', off' + j * 4 + 2, none⟩ = some (.int .i64 y.m) ∧ w'.cell? ⟨b', off' + j * 4 + 3, none⟩ = some u') (simp [go_sem, *]) (first | (go_at_call 35; refine Calls.mono (HC.out _ (by exact cdrewN (Below.refl _ _) _)) ?_; rintro e w1 ⟨rfl, B1⟩; have g0 := fun p v hp hv => (B1.out.cell (p := p) hp).trans (hv : wr.cell? p = some v); replace x3 := g0 _ _ lx x3; replace y3 := g0 _ _ ly y3; replace c0 := g0 _ _ lb c0; replace c1 := g0 _ _ lb c1; replace c2 := g0 _ _ lb c2; replace c3 := g0 _ _ lb c3; replace e0 := g0 _ _ lb' e0; replace e1 := g0 _ _ lb' e1; replace e2 := g0 _ _ lb' e2; replace e3 := g0 _ _ lb' e3; clear g0))
      have HX1 := chid (HX.out.next B1.out)
      have HY1 := chid (HY.out.next B1.out)
      have HB1 := chid (cbelow_on HB.out B1.out HB.out.size)
      clear c0 c1 c2 c3 e0 e1 e2 e3 HC x3 y3
      cases r with
      | false =>
        obtain rfl := HNe.out rfl
        go_wp2_with fail
        go_ret
        exact ⟨rfl, HB1.out⟩
      | true =>
        go_wp2_with fail
        go_roundw
        case rel => exact ⟨j + 1, by go_num, by omega, (fun q g1 g2 hq => by
          by_cases he : q = j
          · subst he
            have := HEq.out rfl
            rw [hxx.out, hyy.out] at this
            exact this
          · exact HQ.out q g1 g2 (by omega)), HB1, HX1, HY1⟩
        case measure => simp; omega
    · have hlt' : ¬ (j : Int) < (N : Int) := by omega
      have hr : R = true := by
        exact btrue hR.out (parts_eq HO.out HN.out HM.out (by rw [← hN.out, ← hN'.out]) (fun q g1 g2 => HQ.out q g1 g2 (by have := hN.out; omega)))
      subst hr
      go_wp2_with fail
      go_ret
      exact ⟨rfl, HB.out⟩
theorem crSame_c (t : Co) : CSmC 35 t := by
  induction t using Co.ind with
  | h t ih => exact crSame_step t ih

end Go.Proofs.YtigldebdljfnbaaDoor
