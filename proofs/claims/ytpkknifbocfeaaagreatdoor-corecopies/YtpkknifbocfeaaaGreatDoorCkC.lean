/- The law CoreCopies: spoil writes only over the copy's own blocks. -/
import Derived.Test.YtpkknifbocfeaaaGreatDoorMgK
import Derived.Deep.AppendLies
import Derived.Deep.RegionLaw
namespace Go.Proofs.YtpkknifbocfeaaaGreatDoor
open Go.RowKit

set_option maxHeartbeats 1000000 in
theorem numk_c (n : Int) (w : World) : Calls Tryz.prog 27 #[.int .i64 n] w fun e w' => e = .returned (coV ⟨1, n, 0, []⟩ (.slice none 0 0)) ∧ Below w.heap.size w w' := by
  go_enter Tryz.func27, Tryz.ntmps27
  go_wp2_with fail
  refine bodyPost_ret (v := coV ⟨1, n, 0, []⟩ (.slice none 0 0)) (by simp [results, Tryz.results27, go_sem, *]) rfl ?_
  exact ⟨rfl, (Below.refl _ _).alloc (Nat.le_refl _) _⟩
theorem stepk_num {ops : Array Oper} {o : Oper} {a : Act} {w : World} {K : Act → World → Prop} {Q : Exit → Act → World → Prop} {E : Prop} (hgd : o.guard = none) (n : Int)
    (he : (execOp a.eval o).run Tryz.prog w = .ok (.enter 27 #[.int .i64 n]) w)
    (hK : ∀ w', Below w.heap.size w w' → K (a.put o.dst (coV ⟨1, n, 0, []⟩ (.slice none 0 0))) w') :
    if Region.wanted o (yielded ops a.tmps) = true then Oper.wp Tryz.prog o a w K Q else E := by
  have hwd : Region.wanted o (yielded ops a.tmps) = true := by simp [Region.wanted, hgd]
  rw [if_pos hwd]
  unfold Oper.wp
  rw [he, Oper.upon_enter]
  exact (numk_c n w).mono fun e w' h => by obtain ⟨rfl, hk⟩ := h; exact hK w' hk
/-- A core's parts behind k are still as they were. -/
structure SInv (w0 : World) (g lo hi : Nat) (ps : List Co) (s : Nat → Nat) (us : Nat → Value) (k : Nat) (wr : World) : Prop where
  rng : Rng lo hi w0 wr
  fr : ∀ j, j < ps.length * 4 → wr.frozen? ⟨g, j, none⟩ = false
  it : ∀ j (h : j < ps.length), k ≤ j → Four wr g (j * 4) ps[j] (us j) ∧ CNew wr ps[j] (s j) (s (j + 1)) (us j)
theorem cell_set_ne {w : World} {g i j : Nat} {v : Value} (h : i ≠ j) : (w.setCell ⟨g, i, none⟩ v).cell? ⟨g, j, none⟩ = w.cell? ⟨g, j, none⟩ := by
  have := Ne.symm h
  simp [go_sem, *]
theorem frozen_set {w : World} {g i j : Nat} {v : Value} : (w.setCell ⟨g, i, none⟩ v).frozen? ⟨g, j, none⟩ = w.frozen? ⟨g, j, none⟩ := by
  simp [go_sem]
theorem SInv.more {w0 wr w1 w2 : World} {g lo hi k : Nat} {ps : List Co} {s : Nat → Nat} {us : Nat → Value} (h : SInv w0 g lo hi ps s us k wr) (hk : k < ps.length) (hm : ∀ i, i < ps.length → s i ≤ s (i + 1)) (hg : lo ≤ g) (h0 : g < s 0) (hN : s ps.length ≤ hi) (hh : hi ≤ w0.heap.size)
    (r : Rng (s k) (s (k + 1)) wr w1) (b : Below w1.heap.size w1 w2) (x0 x1 x2 x3 : Value) : SInv w0 g lo hi ps s us (k + 1) ((((w2.setCell ⟨g, k * 4, none⟩ x0).setCell ⟨g, k * 4 + 1, none⟩ x1).setCell ⟨g, k * 4 + 2, none⟩ x2).setCell ⟨g, k * 4 + 3, none⟩ x3) := by
  have hmo := up_to hm
  have e0 := hmo 0 k (Nat.zero_le _) (by omega)
  have e1 := hmo (k + 1) ps.length (by omega) (Nat.le_refl _)
  have e3 := hm k hk
  have hz := h.rng.size
  have hz1 := r.size
  have hz2 := b.size
  have hgb : w2.heap[g]? = wr.heap[g]? := (b.block g (by omega)).trans (r.block g (by omega) (by omega))
  have R : Rng lo hi w2 ((((w2.setCell ⟨g, k * 4, none⟩ x0).setCell ⟨g, k * 4 + 1, none⟩ x1).setCell ⟨g, k * 4 + 2, none⟩ x2).setCell ⟨g, k * 4 + 3, none⟩ x3) :=
    (((Rng.set w2 _ _ hg (by show g < hi; omega)).trans (Rng.set _ _ _ hg (by show g < hi; omega))).trans (Rng.set _ _ _ hg (by show g < hi; omega))).trans (Rng.set _ _ _ hg (by show g < hi; omega))
  have T : Turn [g] w2 ((((w2.setCell ⟨g, k * 4, none⟩ x0).setCell ⟨g, k * 4 + 1, none⟩ x1).setCell ⟨g, k * 4 + 2, none⟩ x2).setCell ⟨g, k * 4 + 3, none⟩ x3) :=
    turn_tr (turn_tr (turn_tr (Turn.set w2 _ _ (by simp)) (Turn.set _ _ _ (by simp))) (Turn.set _ _ _ (by simp))) (Turn.set _ _ _ (by simp))
  refine ⟨((h.rng.trans (r.wide (by omega) (by omega))).trans (Rng.ofBelow b)).trans R, fun j hj => ?_, fun j hj hkj => ?_⟩
  · rw [frozen_set, frozen_set, frozen_set, frozen_set]
    exact (World.frozen?_of_block (a := ⟨g, j, none⟩) hgb).trans (h.fr j hj)
  · obtain ⟨q1, q2⟩ := h.it j hj (by omega)
    have f1 := hmo (k + 1) j (by omega) (by omega)
    have f2 := hmo (j + 1) ps.length (by omega) (Nat.le_refl _)
    have c : ∀ q, k * 4 + 3 < q → ((((w2.setCell ⟨g, k * 4, none⟩ x0).setCell ⟨g, k * 4 + 1, none⟩ x1).setCell ⟨g, k * 4 + 2, none⟩ x2).setCell ⟨g, k * 4 + 3, none⟩ x3).cell? ⟨g, q, none⟩ = wr.cell? ⟨g, q, none⟩ := fun q hq => by
      rw [cell_set_ne (by omega), cell_set_ne (by omega), cell_set_ne (by omega), cell_set_ne (by omega)]
      exact World.cell?_of_block (a := ⟨g, q, none⟩) hgb
    refine ⟨⟨(c _ (by omega)).trans q1.c0, (c _ (by omega)).trans q1.c1, (c _ (by omega)).trans q1.c2, (c _ (by omega)).trans q1.c3⟩, CNew.keep (by have := T.size; omega) _ _ _ _ (fun b' hb1 hb2 => ?_) q2⟩
    exact ((T.block b' (by omega) (by simp; omega)).trans (b.block b' (by omega))).trans (r.block b' (by omega) (by omega))
def SpoC (t : Co) : Prop := ∀ (lo hi : Nat) (v : Value) (w : World), CNew w t lo hi v → hi ≤ w.heap.size → Calls Tryz.prog 14 #[coV t v] w fun e w' => ∃ r, e = .returned r ∧ Rng lo hi w w'
set_option maxHeartbeats 4000000 in
set_option maxRecDepth 20000 in
theorem spoil_c (t : Co) : CWt t → SpoC t := by
  induction t using Co.ind with
  | h t ih =>
    intro hcn lo hi v w hn hh
    have hl : t.parts.length * 48 ≤ 140737488355328 := (cwt_iff.1 hcn).1
    have HIh : Hid (∀ x, x ∈ t.parts → SpoC x) := fun x hx => ih x hx ((cwt_iff.1 hcn).2 x hx)
    clear ih hcn
    rw [cnew_iff] at hn
    obtain ⟨h0, ⟨h1, ad, rfl⟩ | ⟨g, s, us, rfl, q1, q2, q3, q4, q5, q6⟩⟩ := hn
    · have B0 := chid ((Below.refl w.heap.size w).alloc (Nat.le_refl _) (.cells (coL t (.slice ad 0 0)).toArray 30))
      clear HIh
      go_enter Tryz.func14, Tryz.ntmps14
      go_wp2_with fail
      refine wp_loop_rounds 1 ?_
      rw [rounds_succ]
      go_wp2_with fail
      refine bodyPost_end (v := .tuple #[]) (by simp [results, Tryz.results14, go_sem, *]) rfl ?_
      exact ⟨_, rfl, Rng.ofBelow B0.out⟩
    · have X0 := chid (Box.new w (coL t (.slice (some ⟨g, 0, none⟩) t.parts.length t.parts.length)) 30)
      have B0 := chid ((Below.refl w.heap.size w).alloc (Nat.le_refl _) (.cells (coL t (.slice (some ⟨g, 0, none⟩) t.parts.length t.parts.length)).toArray 30))
      obtain ⟨N, hN⟩ : ∃ N, Hid (N = t.parts.length) := ⟨_, rfl⟩
      have HM : Hid (∀ i, i < t.parts.length → s i ≤ s (i + 1)) := fun i hi => (q6 i hi).2.1
      have HS0 : Hid (∀ W, Below w.heap.size w W → SInv w g lo hi t.parts s us 0 W) := fun W hW => ⟨Rng.ofBelow hW, fun j hj => (hW.frozen (p := ⟨g, j, none⟩) q4).trans (q5 j hj), fun j hj _ => ⟨(q6 j hj).1.keep (fun q => hW.cell (p := ⟨g, q, none⟩) q4), CNew.keep hW.size _ _ _ _ (fun b hb1 hb2 => hW.block b (by have := up_to HM.out (j + 1) _ (by omega) (Nat.le_refl _); omega)) (q6 j hj).2.2⟩⟩
      have Hq2 := chid q2
      have Hq3 := chid q3
      have HIt := chid q6
      rw [← hN.out] at X0 B0 hl ⊢
      clear q5 q6 q2 q3
      go_enter Tryz.func14, Tryz.ntmps14
      go_wp2_with fail
      have HI0 := chid (HS0.out _ B0.out)
      generalize hw0 : w.alloc _ = w0 at *
      clear hw0
      go_loopw [2] (fun i wr => ∃ (k : Nat), i = .int .i64 (k : Nat) ∧ k ≤ N ∧ Hid (SInv w g lo hi t.parts s us k wr) ∧ Hid (Box wr w.heap.size (coL t (.slice (some ⟨g, 0, none⟩) N N)))) (fun i _ => match i with | .int _ p => ((N : Int) - p).toNat | _ => 0)
      case atStart => exact ⟨0, rfl, by omega, HI0, X0⟩
      case round =>
        obtain ⟨k, rfl, hk, HI, HX⟩ := hrel
        have x3 := HX.out.cell 3 _ rfl
        have xl := HX.out.lt
        by_cases hlt : k < N
        · have hlt' : (k : Int) < (N : Int) := by omega
          have hl1 : k < t.parts.length := by rw [← hN.out]; exact hlt
          obtain ⟨F, C⟩ := HI.out.it k hl1 (Nat.le_refl _)
          have y0 := F.c0
          have y1 := F.c1
          have y2 := F.c2
          have y3 := F.c3
          have HSp := chid (HIh.out _ (List.getElem_mem hl1) _ _ _ wr C (by have := up_to HM.out (k + 1) _ (by omega) (Nat.le_refl _); have := Hq3.out; have := HI.out.rng.size; omega))
          have HMo := chid (fun w1 w2 r b => HI.out.more (w1 := w1) (w2 := w2) hl1 HM.out q1 Hq2.out Hq3.out hh r b (.int .i64 1) (.int .i64 99) (.int .i64 0) (.slice none 0 0))
          have HF := chid F
          have hsz : Hid (g < wr.heap.size ∧ ¬ (s k ≤ g ∧ g < s (k + 1)) ∧ ¬ (s k ≤ w.heap.size ∧ w.heap.size < s (k + 1))) := by
            have a1 := HI.out.rng.size
            have a2 := up_to HM.out 0 k (Nat.zero_le _) (by omega)
            have a3 := up_to HM.out (k + 1) _ (by omega) (Nat.le_refl _)
            have a4 := Hq2.out
            have a5 := Hq3.out
            exact chid ⟨by omega, by omega, by omega⟩
          have HFr : Hid (∀ j, j < 4 → wr.frozen? ⟨g, k * 4 + j, none⟩ = false) := fun j hj => HI.out.fr _ (by omega)
          clear F C
          generalize t.parts[k] = x at *
          go_wp2_with fail
          refine Calls.mono HSp.out ?_
          rintro e w1 ⟨r, rfl, R1⟩
          have HR := chid R1
          have b1 : w1.heap[g]? = wr.heap[g]? := R1.block g hsz.out.1 hsz.out.2.1
          have b2 : w1.heap[w.heap.size]? = wr.heap[w.heap.size]? := R1.block _ xl hsz.out.2.2
          have HX1 : Hid (Box w1 w.heap.size (coL t (.slice (some ⟨g, 0, none⟩) N N))) := ⟨fun i v hv => (World.cell?_of_block (a := ⟨_, i, none⟩) b2).trans (HX.out.cell i v hv), fun i hi => (World.frozen?_of_block (a := ⟨_, i, none⟩) b2).trans (HX.out.free i hi), Nat.lt_of_lt_of_le xl R1.size⟩
          have HY1 : Hid (Box w1 g [] ∧ Four w1 g (k * 4) x (us k) ∧ ∀ j, j < 4 → w1.frozen? ⟨g, k * 4 + j, none⟩ = false) := chid ⟨⟨fun i v hv => by simp at hv, fun i hi => by simp at hi, Nat.lt_of_lt_of_le hsz.out.1 R1.size⟩, HF.out.keep (fun q => World.cell?_of_block (a := ⟨g, q, none⟩) b1), fun j hj => (World.frozen?_of_block (a := ⟨g, _, none⟩) b1).trans (HFr.out j hj)⟩
          clear x3 xl y0 y1 y2 y3 R1 b1 b2 HSp HF HFr
          have x3 := HX1.out.cell 3 _ rfl
          have xl := HX1.out.lt
          go_wp2_with fail
          go_region_law (first
            | (refine stepk_num rfl 99 (by first | rfl | go_simp) ?_; intro w60 b60; have B60 := chid (cbelow_on (Below.refl w1.heap.size w1).drew b60 (Below.refl w1.heap.size w1).drew.size); have HX2 := chid (HX1.out.next B60.out); have c60 := HX2.out.cell 3 _ rfl; have l60 := HX2.out.lt; have m60 := Nat.lt_of_lt_of_le HY1.out.1.lt B60.out.size; have z0 := keepc B60.out HY1.out.2.1.c0; have z1 := keepc B60.out HY1.out.2.1.c1; have z2 := keepc B60.out HY1.out.2.1.c2; have z3 := keepc B60.out HY1.out.2.1.c3; have f0 : w60.frozen? ⟨g, k * 4, none⟩ = false := (B60.out.frozen (p := ⟨g, k * 4, none⟩) HY1.out.1.lt).trans (HY1.out.2.2 0 (by decide)); have f1 := (B60.out.frozen (p := ⟨g, k * 4 + 1, none⟩) HY1.out.1.lt).trans (HY1.out.2.2 1 (by decide)); have f2 := (B60.out.frozen (p := ⟨g, k * 4 + 2, none⟩) HY1.out.1.lt).trans (HY1.out.2.2 2 (by decide)); have f3 := (B60.out.frozen (p := ⟨g, k * 4 + 3, none⟩) HY1.out.1.lt).trans (HY1.out.2.2 3 (by decide)); clear b60))
          all_goals go_wp2_with fail
          all_goals go_roundw
          all_goals first
            | exact ⟨k + 1, by simp, by omega, HMo.out _ _ HR.out B60.out, chid ((((HX2.out.other (by have := hsz.out.1; have := HI.out; omega)).other (by omega)).other (by omega)).other (by omega))⟩
            | (simp; omega)
        · have hkN : k = N := by omega
          subst hkN
          go_wp2_with fail
          refine bodyPost_end (v := .tuple #[]) (by simp [results, Tryz.results14, go_sem, *]) rfl ?_
          exact ⟨_, rfl, HI.out.rng⟩
end Go.Proofs.YtpkknifbocfeaaaGreatDoor
