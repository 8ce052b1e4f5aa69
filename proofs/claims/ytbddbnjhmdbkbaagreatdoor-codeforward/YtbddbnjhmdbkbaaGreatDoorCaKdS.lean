/- Package code: height, planHeight. -/
import Derived.Test.YtbddbnjhmdbkbaaGreatDoorCaKdO
namespace Go.Proofs.YtbddbnjhmdbkbaaGreatDoor
open Go.RowKit

def HgtC (t : Co) : Prop := ∀ (v : Value) (w : World), CSits w t v → cnodes t ≤ 100000 → Calls Tryz.prog 68 #[coV t v] w fun e w' => e = .returned (.int .i64 (hgtF t : Nat)) ∧ Below w.heap.size w w'
theorem benF_le (k : Int) (i : Nat) (op : Int) : benF k i op ≤ i + 2 := by unfold benF; split; omega; split <;> omega
theorem hL_take_le (k : Int) (l : List Co) (j : Nat) : hL k 0 (hP (l.take j)) ≤ 3 * cnodesL l + 2 := by
  have h := hL_sum k (l.take j) 0 (fun x _ => hgt_le x)
  have h2 : cnodesL (l.take j) ≤ cnodesL l := by
    conv => rhs; rw [← List.take_append_drop j l, cnodesL_append]
    omega
  omega
set_option maxHeartbeats 2000000 in
set_option maxRecDepth 20000 in
theorem height_step (t : Co) (ih : ∀ x, x ∈ t.parts → HgtC x) : HgtC t := by
  intro v w hs hn
  obtain ⟨ad, cap, rfl, k1, k2⟩ := hs.parts.shape
  have HIh := chid ih
  have HL := chid hs.parts
  have HS := chid hs
  have HN := chid hn
  have hcn := cnodes_eq t
  have HCn := chid hcn
  have hln := length_cnodesL t.parts
  obtain ⟨N, hN⟩ : ∃ N, Hid (N = t.parts.length) := ⟨_, chid rfl⟩
  obtain ⟨R, hR⟩ : ∃ R, Hid (R = hgtF t) := ⟨_, chid rfl⟩
  rw [← hR.out]
  have hNs : N ≤ 100000 := by have := hN.out; omega
  rw [← hN.out] at HL HS k1 ⊢
  have HBn := chid (fun (i : Nat) (x : Co) (hx : t.parts[i]? = some x) (hi : i ≤ 1000000) W (hW : Below w.heap.size w W) => beneath_c t i x hx hi (.slice ad N cap) W (HS.out.next hW))
  obtain ⟨o, n, m, P⟩ := t
  have HR : Hid (R = hO o (hP P)) := chid (hR.out.trans (hgtF_eq _))
  have HLP : Hid (N = P.length) := hN
  have HB := chid ((Below.refl w.heap.size w).alloc (Nat.le_refl _) (.cells #[.int .i64 o, .int .i64 n, .int .i64 m, .slice ad N cap] 30))
  have Y0 := Box.new w [.int .i64 o, .int .i64 n, .int .i64 m, .slice ad N cap] 30
  have HY := chid Y0
  have x0 := Y0.cell 0 _ rfl
  have x1 := Y0.cell 1 _ rfl
  have x2 := Y0.cell 2 _ rfl
  have x3 := Y0.cell 3 _ rfl
  have xl := Y0.lt
  clear Y0 hs hn ih hcn hln hR hN k1
  by_cases h29 : o = 29
  · subst h29
    have hr : Hid (R = 0) := chid (by rw [HR.out]; rfl)
    clear HR
    go_enter Tryz.func68, Tryz.ntmps68
    go_wp2_with fail
    go_ret
    rw [hr.out]
    exact ⟨rfl, HB.out⟩
  · have h29' : (o == 29) = false := by simpa using h29
    by_cases hN0 : N = 0
    · subst hN0
      have hr : Hid (R = 1) := chid (by rw [HR.out]; unfold hO; rw [if_neg h29, if_pos (by rw [hP_len]; exact HLP.out.symm)])
      clear HR
      go_enter Tryz.func68, Tryz.ntmps68
      go_wp2_with fail
      go_ret
      rw [hr.out]
      exact ⟨rfl, HB.out⟩
    · have hN0' : ((N : Int) == 0) = false := by simp; omega
      have hr : Hid (R = hL o 0 (hP P)) := chid (by rw [HR.out]; unfold hO; rw [if_neg h29, if_neg (by rw [hP_len]; have := HLP.out; omega)])
      clear HR
      go_enter Tryz.func68, Tryz.ntmps68
      go_wp2_with fail
      generalize hW : (w.alloc _) = W at *
      clear hW
      have HSt : Hid (0 = hL o 0 (hP (P.take 0))) := chid rfl
      clear x0 x1 x2 x3 xl
      go_loopw [3, 18] (fun mv i wr => ∃ (j a : Nat), mv = .int .i64 (a : Nat) ∧ i = .int .i64 (j : Nat) ∧ j ≤ N ∧ Hid (a = hL o 0 (hP (P.take j))) ∧ Hid (Below W.heap.size W wr)) (fun _ i _ => match i with | .int _ z => ((N : Int) - z).toNat | _ => 0)
      case atStart => exact ⟨0, 0, rfl, rfl, Nat.zero_le _, HSt, chid (Below.refl _ _)⟩
      case round =>
        obtain ⟨j, a, rfl, rfl, hj, Ha, HW⟩ := hrel
        by_cases hlt : j < N
        · have hlt' : (j : Int) < (N : Int) := by omega
          have hjl : j < P.length := by rw [← HLP.out]; exact hlt
          obtain ⟨b, off, cap', hv, -, -, hbl, hx⟩ := HL.out.open (by omega)
          simp only [Value.slice.injEq] at hv
          obtain ⟨rfl, -, rfl⟩ := hv
          obtain ⟨u, f, sx⟩ := hx j hjl
          obtain ⟨ax, cx, rfl, -, -⟩ := sx.parts.shape
          have HWw : Hid (Below w.heap.size w wr) := chid (HB.out.trans (HW.out.mono HB.out.size))
          have kp := fun q => HWw.out.cell (p := ⟨b, q, none⟩) hbl
          obtain ⟨y0, y1, y2, y3⟩ := f.keep kp
          have lb : b < wr.heap.size := Nat.lt_of_lt_of_le hbl HWw.out.size
          have hcl := cnodesL_mem (List.getElem_mem hjl)
          have hgl := hgt_le P[j]
          have HCl := chid (fun W' (hW' : Below w.heap.size w W') => HIh.out _ (List.getElem_mem hjl) (.slice ax P[j].parts.length cx) W' (sx.next hW') (by have := HN.out; have := HCn.out; omega))
          have HBe := chid (fun W' (hW' : Below w.heap.size w W') => HBn.out j P[j] (List.getElem?_eq_getElem hjl) (by omega) W' hW')
          have HMx : Hid (hL o 0 (hP (P.take (j + 1))) = max a (benF o j P[j].op + hgtF P[j])) := chid (by rw [hP_take hjl, Ha.out])
          have hbl2 := benF_le o j P[j].op
          have hal : a ≤ 500000 := by rw [Ha.out]; have := hL_take_le o P j; have := HN.out; have := HCn.out; omega
          have hgl2 : hgtF P[j] ≤ 500000 := by have := HN.out; have := HCn.out; omega
          clear hx f sx kp hbl hcl hgl
          generalize P[j] = x at *
          generalize hgtF x = h at *
          generalize benF o j x.op = B at *
          obtain ⟨Z0, ZB⟩ := one_box wr 30 [.int .i64 x.op, .int .i64 x.n, .int .i64 x.m, .slice ax x.parts.length cx]
          have z0 := Z0.cell 0 _ rfl
          have z1 := Z0.cell 1 _ rfl
          have z2 := Z0.cell 2 _ rfl
          have z3 := Z0.cell 3 _ rfl
          have zl := Z0.lt
          have Y0 := (HY.out.next HW.out).next ZB
          have x0 := Y0.cell 0 _ rfl
          have x1 := Y0.cell 1 _ rfl
          have x2 := Y0.cell 2 _ rfl
          have x3 := Y0.cell 3 _ rfl
          have xl := Y0.lt
          have HZB := chid (cbelow_on HWw.out ZB HWw.out.size)
          have HZW := chid (cbelow_on HW.out ZB HW.out.size)
          have hw1 : IntKind.i64.wrap ((B : Int) + (h : Int)) = (B : Int) + (h : Int) := by rw [IntKind.wrap_i64]; omega
          have hwj : IntKind.i64.wrap ((j : Int) + 1) = (j : Int) + 1 := by rw [IntKind.wrap_i64]; omega
          clear Z0 ZB Y0 hbl2
          go_wp2_with fail
          generalize hX : (wr.alloc _) = X at *
          clear hX
          go_region_held3 (fun w' => (w'.cell? ⟨w.heap.size, 0, none⟩ = some (.int .i64 o) ∧ w'.cell? ⟨w.heap.size, 1, none⟩ = some (.int .i64 n) ∧ w'.cell? ⟨w.heap.size, 2, none⟩ = some (.int .i64 m) ∧ w'.cell? ⟨w.heap.size, 3, none⟩ = some (.slice (some ⟨b, off, none⟩) N cap)) ∧ (w'.cell? ⟨wr.heap.size, 0, none⟩ = some (.int .i64 x.op) ∧ w'.cell? ⟨wr.heap.size, 1, none⟩ = some (.int .i64 x.n) ∧ w'.cell? ⟨wr.heap.size, 2, none⟩ = some (.int .i64 x.m) ∧ w'.cell? ⟨wr.heap.size, 3, none⟩ = some (.slice ax x.parts.length cx))) (simp [go_sem, *]) (first
            | (go_at_call 126; refine Calls.mono (HBe.out _ (by exact cdrewN HZB.out _)) ?_; rintro e w2 ⟨rfl, b2⟩; have bb2 : Below X.heap.size X w2 := ⟨b2.os, b2.tape, b2.output, b2.size, b2.block⟩; have gg := fun p v hp hv => (bb2.cell (p := p) hp).trans (hv : X.cell? p = some v); replace x0 := gg _ _ xl x0; replace x1 := gg _ _ xl x1; replace x2 := gg _ _ xl x2; replace x3 := gg _ _ xl x3; replace z0 := gg _ _ zl z0; replace z1 := gg _ _ zl z1; replace z2 := gg _ _ zl z2; replace z3 := gg _ _ zl z3; replace xl : w.heap.size < w2.heap.size := Nat.lt_of_lt_of_le xl bb2.size; replace zl : wr.heap.size < w2.heap.size := Nat.lt_of_lt_of_le zl bb2.size; have HB2 := chid (cbelow_on HZB.out bb2 HZB.out.size); have HB2W := chid (cbelow_on HZW.out bb2 HZW.out.size); clear gg b2 bb2)
            | (go_at_call 68; refine Calls.mono (HCl.out _ HB2.out) ?_; rintro e w3 ⟨rfl, b3⟩; have bb3 : Below w2.heap.size w2 w3 := ⟨b3.os, b3.tape, b3.output, b3.size, b3.block⟩; have gg := fun p v hp hv => (bb3.cell (p := p) hp).trans (hv : w2.cell? p = some v); replace x0 := gg _ _ xl x0; replace x1 := gg _ _ xl x1; replace x2 := gg _ _ xl x2; replace x3 := gg _ _ xl x3; replace z0 := gg _ _ zl z0; replace z1 := gg _ _ zl z1; replace z2 := gg _ _ zl z2; replace z3 := gg _ _ zl z3; replace xl : w.heap.size < w3.heap.size := Nat.lt_of_lt_of_le xl bb3.size; replace zl : wr.heap.size < w3.heap.size := Nat.lt_of_lt_of_le zl bb3.size; have HB3W := chid (cbelow_on HB2W.out bb3 HB2W.out.size); clear gg b3 bb3))
          all_goals go_wp2_with fail
          refine ⟨⟨j + 1, max a (B + h), ?_, by go_num, by omega, chid HMx.out.symm, HB3W⟩, ?_⟩
          · congr 1
            split <;> omega
          · simp; omega
        · have hlt' : ¬ (j : Int) < (N : Int) := by omega
          obtain rfl : j = N := by omega
          have HT : Hid (P.take j = P) := chid (by rw [HLP.out, List.take_length])
          go_wp2_with fail
          go_ret
          rw [hr.out, Ha.out, HT.out]
          exact ⟨rfl, HB.out.trans (HW.out.mono HB.out.size)⟩
theorem height_c (t : Co) : HgtC t := by
  induction t using Co.ind with
  | h t ih => exact height_step t ih
end Go.Proofs.YtbddbnjhmdbkbaaGreatDoor
