/- Package code: planHeight, large. -/
import Derived.Test.YtbddbnjhmdbkbaaGreatDoorCaKdS
import Derived.Test.YtbddbnjhmdbkbaaGreatDoorCaNaE
namespace Go.Proofs.YtbddbnjhmdbkbaaGreatDoor
open Go.RowKit

def hG : List (Co × Co) → Nat
  | [] => 0
  | g :: r => max (max (hgtF g.1) (hgtF g.2)) (hG r)
theorem hG_snoc (g : Co × Co) : ∀ l, hG (l ++ [g]) = max (hG l) (max (hgtF g.1) (hgtF g.2))
  | [] => by simp [hG]
  | x :: r => by rw [List.cons_append, hG, hG, hG_snoc g r]; omega
theorem hG_le : ∀ l : List (Co × Co), hG l ≤ 3 * gN l
  | [] => by simp [hG]
  | g :: r => by
    have h1 := hgt_le g.1
    have h2 := hgt_le g.2
    have h3 := hG_le r
    rw [hG, gN_cons]
    omega
theorem gN_take (l : List (Co × Co)) (j : Nat) : gN (l.take j) ≤ gN l := by
  have : gN (l.take j ++ l.drop j) = gN (l.take j) + gN (l.drop j) := by unfold gN; rw [List.map_append, List.flatten_append, List.length_append]
  rw [List.take_append_drop] at this
  omega
theorem max3 (P : Program) (x y z : Nat) (w : World) : (Builtin.max_ #[3, 3, 3] 3 #[.int .i64 (x : Nat), .int .i64 (y : Nat), .int .i64 (z : Nat)]).run P w = .ok (.int .i64 ((max (max x y) z : Nat) : Int)) w := by
  have h2 : ∀ a b : Nat, Builtin.max2 (.int .i64 (a : Nat)) (.int .i64 (b : Nat)) = pure (.int .i64 ((max a b : Nat) : Int)) := fun a b => by
    show pure (Value.int .i64 (if (b : Int) > (a : Int) then (b : Int) else (a : Int))) = _
    congr 2
    split <;> omega
  show (List.foldlM Builtin.max2 (.int .i64 (x : Nat)) [.int .i64 (y : Nat), .int .i64 (z : Nat)]).run P w = _
  rw [List.foldlM_cons, h2]
  simp [List.foldlM_cons, List.foldlM_nil, go_sem, h2]
/-- The height of a plan. -/
def plHgt (p : PlP) : Nat := max (hgtF p.fin) (hG p.gs)
set_option maxHeartbeats 4000000 in
set_option maxRecDepth 20000 in
theorem planHeight_c (p : PlP) (v : PlV) (w : World) (hs : PlAt w p v) (hn : gN p.gs + cnodes p.fin ≤ 100000) :
    Calls Tryz.prog 37 #[plV p v] w fun e w' => e = .returned (.int .i64 (plHgt p : Nat)) ∧ Below w.heap.size w w' := by
  obtain ⟨ru, loc, wok, cok, me, wi, cr, gs, fi⟩ := hs
  obtain ⟨a1, c1, e1, -, -⟩ := RowsK.shape me
  obtain ⟨a2, c2, e2, -, -⟩ := RowsK.shape wi
  obtain ⟨a3, c3, e3, -, -⟩ := RowsK.shape cr
  obtain ⟨a4, c4, e4, q1, q2⟩ := gs.shape
  obtain ⟨a5, c5, e5, -, -⟩ := fi.parts.shape
  obtain ⟨me', wi', cr', gs', fi'⟩ := v
  simp only at e1 e2 e3 e4 e5
  subst e1 e2 e3 e4 e5
  obtain ⟨N, hN⟩ : ∃ N, Hid (N = p.gs.length) := ⟨_, chid rfl⟩
  rw [← hN.out] at q1 gs ⊢
  obtain ⟨Y0, YB⟩ := one_box w 32 (plL p ⟨.slice a1 p.mets.length c1, .slice a2 p.wins.length c2, .slice a3 p.crons.length c3, .slice a4 N c4, .slice a5 p.fin.parts.length c5⟩)
  have HY := chid Y0
  have HB := chid YB
  have HN := chid hn
  have HG := chid gs
  have hfl := hgt_le p.fin
  have HFi := chid (fun W (hW : Below w.heap.size w W) => height_c p.fin (.slice a5 p.fin.parts.length c5) W (fi.next hW) (by omega))
  obtain ⟨h0, hh0⟩ : ∃ h0, Hid (h0 = hgtF p.fin) := ⟨_, chid rfl⟩
  have hfl2 : h0 ≤ 500000 := by rw [hh0.out]; omega
  rw [← hh0.out] at HFi
  have HR : Hid (plHgt p = max h0 (hG p.gs)) := chid (by unfold plHgt; rw [hh0.out])
  rw [HR.out]
  have hNs : N ≤ 100000 := by
    have h2 : p.gs.length ≤ gN p.gs := by
      clear hN HY HG HFi HR
      generalize p.gs = l
      induction l with
      | nil => simp
      | cons g r ih => rw [gN_cons, List.length_cons]; have := cnodes_pos g.1; omega
    have := hN.out
    omega
  have x9 := Y0.cell 9 _ rfl
  have x10 := Y0.cell 10 _ rfl
  have x11 := Y0.cell 11 _ rfl
  have x12 := Y0.cell 12 _ rfl
  have x13 := Y0.cell 13 _ rfl
  have xl := Y0.lt
  clear ru loc wok cok me wi cr gs fi hn Y0 YB hfl
  go_enter Tryz.func37, Tryz.ntmps37
  go_wp2_with fail
  generalize hW : (w.alloc _) = W at *
  clear hW
  refine Calls.mono (HFi.out W HB.out) ?_
  rintro e w1 ⟨rfl, b1⟩
  have HB1 := chid (cbelow_on HB.out b1 HB.out.size)
  have Y1 := HY.out.next b1
  clear b1 x9 x10 x11 x12 x13 xl
  have x9 := Y1.cell 9 _ rfl
  have xl := Y1.lt
  clear Y1
  have HSt : Hid (h0 = max h0 (hG (p.gs.take 0))) := chid (by show h0 = max h0 0; omega)
  go_wp2_with fail
  go_loopw [3, 12] (fun mv i wr => ∃ (j a : Nat), mv = .int .i64 (a : Nat) ∧ i = .int .i64 (j : Nat) ∧ j ≤ N ∧ Hid (a = max h0 (hG (p.gs.take j))) ∧ Hid (Below w.heap.size w wr)) (fun _ i _ => match i with | .int _ z => ((N : Int) - z).toNat | _ => 0)
  case atStart => exact ⟨0, h0, rfl, rfl, Nat.zero_le _, HSt, HB1⟩
  case round =>
    obtain ⟨j, a, rfl, rfl, hj, Ha, HW⟩ := hrel
    by_cases hlt : j < N
    · have hlt' : (j : Int) < (N : Int) := by omega
      have hjl : j < p.gs.length := by rw [← hN.out]; exact hlt
      obtain ⟨b, off, cap', hv, -, -, hbl, hx⟩ := HG.out.open (by omega)
      simp only [Value.slice.injEq] at hv
      obtain ⟨rfl, -, rfl⟩ := hv
      obtain ⟨u1, u2, f1, f2, s1, s2⟩ := hx j hjl
      obtain ⟨ax, cx, rfl, -, -⟩ := s1.parts.shape
      obtain ⟨ay, cy, rfl, -, -⟩ := s2.parts.shape
      have kp := fun q => HW.out.cell (p := ⟨b, q, none⟩) hbl
      obtain ⟨y0, y1, y2, y3⟩ := f1.keep kp
      obtain ⟨y4, y5, y6, y7⟩ := f2.keep kp
      have lb : b < wr.heap.size := Nat.lt_of_lt_of_le hbl HW.out.size
      have hsub := gord_sub (f := p.fin) (List.getElem_mem hjl)
      have hsub2 : cnodes p.gs[j].1 + cnodes p.gs[j].2 ≤ gN p.gs + cnodes p.fin := by unfold gN; rw [List.length_append] at hsub; exact hsub
      have HC1 := chid (fun W' (hW' : Below w.heap.size w W') => height_c p.gs[j].1 (.slice ax p.gs[j].1.parts.length cx) W' (s1.next hW') (by have := HN.out; omega))
      have HC2 := chid (fun W' (hW' : Below w.heap.size w W') => height_c p.gs[j].2 (.slice ay p.gs[j].2.parts.length cy) W' (s2.next hW') (by have := HN.out; omega))
      have HMx : Hid (max h0 (hG (p.gs.take (j + 1))) = max (max a (hgtF p.gs[j].1)) (hgtF p.gs[j].2)) := chid (by rw [List.take_succ_eq_append_getElem hjl, hG_snoc, Ha.out]; omega)
      clear hx f1 f2 s1 s2 kp hbl hsub hsub2
      generalize p.gs[j] = g at *
      generalize hgtF g.1 = k1 at *
      generalize hgtF g.2 = k2 at *
      obtain ⟨Z0, ZB⟩ := one_box wr 101 [.int .i64 g.1.op, .int .i64 g.1.n, .int .i64 g.1.m, .slice ax g.1.parts.length cx, .int .i64 g.2.op, .int .i64 g.2.n, .int .i64 g.2.m, .slice ay g.2.parts.length cy]
      have z0 := Z0.cell 0 _ rfl
      have z1 := Z0.cell 1 _ rfl
      have z2 := Z0.cell 2 _ rfl
      have z3 := Z0.cell 3 _ rfl
      have z4 := Z0.cell 4 _ rfl
      have z5 := Z0.cell 5 _ rfl
      have z6 := Z0.cell 6 _ rfl
      have z7 := Z0.cell 7 _ rfl
      have zl := Z0.lt
      have HZB := chid (cbelow_on HW.out ZB HW.out.size)
      have hwj : IntKind.i64.wrap ((j : Int) + 1) = (j : Int) + 1 := by rw [IntKind.wrap_i64]; omega
      clear Z0 ZB
      go_wp2_with fail
      generalize hX : (wr.alloc _) = X at *
      clear hX
      have HM3 := fun W => max3 Tryz.prog a k1 k2 W
      go_region_held3 (fun w' => w'.cell? ⟨wr.heap.size, 0, none⟩ = some (.int .i64 g.1.op) ∧ w'.cell? ⟨wr.heap.size, 1, none⟩ = some (.int .i64 g.1.n) ∧ w'.cell? ⟨wr.heap.size, 2, none⟩ = some (.int .i64 g.1.m) ∧ w'.cell? ⟨wr.heap.size, 3, none⟩ = some (.slice ax g.1.parts.length cx) ∧ w'.cell? ⟨wr.heap.size, 4, none⟩ = some (.int .i64 g.2.op) ∧ w'.cell? ⟨wr.heap.size, 5, none⟩ = some (.int .i64 g.2.n) ∧ w'.cell? ⟨wr.heap.size, 6, none⟩ = some (.int .i64 g.2.m) ∧ w'.cell? ⟨wr.heap.size, 7, none⟩ = some (.slice ay g.2.parts.length cy)) (simp [go_sem, *]) (first
        | (go_at_call 68; refine Calls.mono (HC1.out _ (by exact cdrewN HZB.out _)) ?_; rintro e w2 ⟨rfl, b2⟩; have bb2 : Below X.heap.size X w2 := ⟨b2.os, b2.tape, b2.output, b2.size, b2.block⟩; have gg := fun p v hp hv => (bb2.cell (p := p) hp).trans (hv : X.cell? p = some v); replace z0 := gg _ _ zl z0; replace z1 := gg _ _ zl z1; replace z2 := gg _ _ zl z2; replace z3 := gg _ _ zl z3; replace z4 := gg _ _ zl z4; replace z5 := gg _ _ zl z5; replace z6 := gg _ _ zl z6; replace z7 := gg _ _ zl z7; replace zl : wr.heap.size < w2.heap.size := Nat.lt_of_lt_of_le zl bb2.size; have HB2 := chid (cbelow_on HZB.out bb2 HZB.out.size); clear gg b2 bb2 HC1)
        | (go_at_call 68; refine Calls.mono (HC2.out _ HB2.out) ?_; rintro e w3 ⟨rfl, b3⟩; have bb3 : Below w2.heap.size w2 w3 := ⟨b3.os, b3.tape, b3.output, b3.size, b3.block⟩; have gg := fun p v hp hv => (bb3.cell (p := p) hp).trans (hv : w2.cell? p = some v); replace z0 := gg _ _ zl z0; replace z1 := gg _ _ zl z1; replace z2 := gg _ _ zl z2; replace z3 := gg _ _ zl z3; replace z4 := gg _ _ zl z4; replace z5 := gg _ _ zl z5; replace z6 := gg _ _ zl z6; replace z7 := gg _ _ zl z7; replace zl : wr.heap.size < w3.heap.size := Nat.lt_of_lt_of_le zl bb3.size; have HB3 := chid (cbelow_on HB2.out bb3 HB2.out.size); clear gg b3 bb3))
      all_goals go_wp2_with fail
      refine ⟨⟨j + 1, max (max a k1) k2, ?_, by go_num, by omega, chid HMx.out.symm, HB3⟩, ?_⟩
      · congr 1
        repeat' split
        all_goals omega
      · simp; omega
    · have hlt' : ¬ (j : Int) < (N : Int) := by omega
      obtain rfl : j = N := by omega
      have HT : Hid (p.gs.take j = p.gs) := chid (by rw [hN.out, List.take_length])
      go_wp2_with fail
      go_ret
      rw [Ha.out, HT.out]
      exact ⟨rfl, HW.out⟩
end Go.Proofs.YtbddbnjhmdbkbaaGreatDoor
