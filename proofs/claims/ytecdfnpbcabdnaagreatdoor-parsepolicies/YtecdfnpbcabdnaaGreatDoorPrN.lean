/- The document's reader: begin; Expr over a text. -/
import Derived.Test.YtecdfnpbcabdnaaGreatDoorPrM
import Derived.Test.YtecdfnpbcabdnaaGreatDoorPrU
import Derived.Test.YtecdfnpbcabdnaaGreatDoorPrQ
import Derived.Test.YtecdfnpbcabdnaaGreatDoorPxN
namespace Go.Proofs.YtecdfnpbcabdnaaGreatDoor
open Go.RowKit Go.Lib

theorem rdS_c64 {s : ByteArray} {L : List Tk} {c : Int} (h : rdS s = some (L, c)) : In64 c := by
  have hf := cutS_fault (s := s)
  unfold rdS at h
  generalize hc : cutS s = cs at *
  generalize hd : cutS (s.extract 0 cs.2.1) = ds at *
  clear hc hd
  by_cases hn : cs.2.2 = 2 ∨ cs.2.2 = 10 ∨ cs.2.2 = 11
  · rw [if_pos hn] at h
    cases h
  · rw [if_neg hn] at h
    by_cases h0 : cs.2.2 = 0
    · rw [if_pos h0] at h
      have hl : c = 0 := (congrArg Prod.snd (Option.some.inj h)).symm
      subst hl
      exact zero64
    · rw [if_neg h0] at h
      obtain ⟨hz, hv, l, k, k1, k2, k3, k4, k5, k6⟩ := hf h0 (fun h => hn (.inl h)) (fun h => hn (.inr (.inl h))) (fun h => hn (.inr (.inr h)))
      have hl : c = cs.2.2 := (congrArg Prod.snd (Option.some.inj h)).symm
      subst hl
      unfold In64
      rcases k5 with ⟨_, h14⟩ | ⟨_, h14⟩
      · omega
      · have := tok_err64 _ h14
        omega
theorem rr_new {z : Nat} {w1 : World} {B : Nat} {v : Value} {L : List Tk} {c : Int} (hT : Toks w1 B v L) (hL : TL z L) (hc : In64 c) :
    ∃ g cap, v = .slice (some ⟨g, 0, none⟩) L.length cap ∧ B ≤ g ∧ g < w1.heap.size ∧ Rr z (w1.alloc (.cells (rrL g 0 L.length cap 0 0 c 0 0).toArray 51)) w1.heap.size g L c ⟨none, L⟩ 0 := by
  have hpos := hL.pos
  have hcl := fun (g : Nat) h => hT.cells (g := g) h
  have hlt := hT.lt
  obtain ⟨h1, h2⟩ := hT
  rcases h2 with ⟨_, h3⟩ | ⟨g, cap, cur, rfl, h3, h4, h5, h6, h7, h8⟩
  · omega
  · have hg := (hlt g rfl).2
    refine ⟨g, cap, rfl, h3, hg, 0, cap, 0, 0, Box.new w1 _ _, h5, by unfold maxLen at h6; omega, fun q u hu => ?_, by omega, by simp; omega, hpos, rfl, hL, fun f hf => (by cases hf), fun _ => rfl, zero64, by omega, hc⟩
    have hc0 := hcl g rfl q u hu
    have hadd : (⟨g, 0, none⟩ : Addr).add q = ⟨g, q, none⟩ := by unfold Addr.add; split <;> simp_all
    rw [hadd] at hc0
    rw [Nat.zero_add, World.cell?_alloc_lt _ _ _ hg]
    exact hc0
def BgP (s : ByteArray) (w : World) (e : Ending) (w' : World) : Prop := Below w.heap.size w w' ∧
  match rdS s with
  | none => e = .returned (.tuple #[.pointer none, .int .i64 ((cutS s).2.1 : Nat), .int .i64 (cutS s).2.2])
  | some r => ∃ rb tb, e = .returned (.tuple #[.pointer (some ⟨rb, 0, none⟩), .int .i64 0, .int .i64 0]) ∧ Rr s.size w' rb tb r.1 r.2 ⟨none, r.1⟩ 0 ∧ w.heap.size ≤ rb ∧ w.heap.size ≤ tb
set_option maxHeartbeats 4000000 in
theorem qBegin_c (s : ByteArray) (w : World) : Calls Tryz.prog 15 #[.string s] w (BgP s w) := by
  have H1 := hid2 (upTo_c s w)
  unfold UpP at H1
  cases hr : rdS s with
  | none =>
    rw [hr] at H1
    have hP : Hid (∀ w', Below w.heap.size w w' → BgP s w (.returned (.tuple #[.pointer none, .int .i64 ((cutS s).2.1 : Nat), .int .i64 (cutS s).2.2])) w') := fun w' b => ⟨b, by rw [hr]⟩
    generalize BgP s w = Post at *
    clear hr
    generalize (cutS s).2.1 = a at *
    generalize (cutS s).2.2 = k at *
    go_enter Tryz.func15, Tryz.ntmps15
    go_wp2_with fail
    refine Calls.mono H1.out ?_
    rintro e w1 ⟨b1, rfl⟩
    go_wp2_with fail
    go_ret3
    exact hP.out _ b1
  | some r =>
    rw [hr] at H1
    have hL := rdS_tl (show rdS s = some (r.1, r.2) from hr)
    have hc0 := rdS_c64 (show rdS s = some (r.1, r.2) from hr)
    have hP : Hid (∀ w' rb tb, Below w.heap.size w w' → Rr s.size w' rb tb r.1 r.2 ⟨none, r.1⟩ 0 → w.heap.size ≤ rb ∧ w.heap.size ≤ tb → BgP s w (.returned (.tuple #[.pointer (some ⟨rb, 0, none⟩), .int .i64 0, .int .i64 0])) w') := fun w' rb tb b h1 h2 => ⟨b, by rw [hr]; exact ⟨rb, tb, rfl, h1, h2⟩⟩
    generalize BgP s w = Post at *
    clear hr
    go_enter Tryz.func15, Tryz.ntmps15
    go_wp2_with fail
    refine Calls.mono H1.out ?_
    rintro e w1 ⟨b1, v, a, rfl, T1⟩
    obtain ⟨g, cap, rfl, hg1, hg2, RR⟩ := rr_new T1 hL hc0
    have hpos := hL.pos
    have hlen : ((r.1.length : Nat) : Int) ≠ 0 := by omega
    have hlen2 : (((r.1.length : Nat) : Int) == 0) = false := by simpa using hlen
    have HB := hid2 b1
    have HR := hid2 RR
    have hsz := b1.size
    clear T1 b1 RR H1
    generalize hn : r.1.length = n at *
    go_wp2_with fail
    go_ret3
    exact hP.out _ _ _ (HB.out.alloc hsz _) HR.out ⟨hsz, hg1⟩
theorem below_turned {B rb : Nat} {w W W' : World} (h : Below B w W) (k : Turn [rb] W W') (hr : B ≤ rb) (hB : B ≤ W.heap.size) : Below B w W' :=
  ⟨k.os.trans h.os, k.tape.trans h.tape, k.output.trans h.output, Nat.le_trans h.size k.size, fun i hi => (k.block i (by omega) (by simp; omega)).trans (h.block i hi)⟩
set_option maxHeartbeats 4000000 in
theorem qExprTop_c (s : ByteArray) (w : World) : Calls Tryz.prog 11 #[.string s] w (ExP s w) := by
  have H1 := hid2 (fun W => qBegin_c s W)
  cases hr : rdS s with
  | none =>
    have H2 : Hid (∀ W, Calls Tryz.prog 15 #[.string s] W fun e w' => Below W.heap.size W w' ∧ e = .returned (.tuple #[.pointer none, .int .i64 ((cutS s).2.1 : Nat), .int .i64 (cutS s).2.2])) := fun W => (H1.out W).mono fun e w' h => by
      unfold BgP at h
      rw [hr] at h
      exact h
    have hP : Hid (∀ w', Below w.heap.size w w' → ExP s w (.returned (.tuple #[.agg (zs6).toArray, .int .i64 ((cutS s).2.1 : Nat), .int .i64 (cutS s).2.2])) w') := fun w' hb => ⟨hb, by unfold exprS; rw [hr]⟩
    generalize ExP s w = Post at *
    generalize (cutS s).2.1 = a at *
    generalize (cutS s).2.2 = k at *
    clear H1 hr
    go_enter Tryz.func11, Tryz.ntmps11
    go_wp2_with fail
    refine Calls.mono (H2.out _) ?_
    rintro e w1 ⟨b1, rfl⟩
    have X0 := (Box.new w zs6 33).next b1
    obtain ⟨x0, x1, x2, x3, x4, x5, y0, y1, y2, y3, y4, y5⟩ := X0.six
    have xl := X0.lt
    have B1 : Hid (Below w.heap.size w w1) := below_on ((Below.refl _ _).alloc (Nat.le_refl _) _) b1 (by simp)
    clear b1 X0
    go_wp2_with fail
    refine bodyPost_ret (v := .tuple #[.agg (zs6).toArray, .int .i64 (a : Nat), .int .i64 k]) (by simp [results, Tryz.results11, go_sem, *]) rfl (hP.out _ ?_)
    exact (((((B1.out.setCell (Nat.le_refl _) _).setCell (Nat.le_refl _) _).setCell (Nat.le_refl _) _).setCell (Nat.le_refl _) _).setCell (Nat.le_refl _) _).setCell (Nat.le_refl _) _
  | some r =>
    have H2 : Hid (∀ W, Calls Tryz.prog 15 #[.string s] W fun e w' => Below W.heap.size W w' ∧ ∃ rb tb, e = .returned (.tuple #[.pointer (some ⟨rb, 0, none⟩), .int .i64 0, .int .i64 0]) ∧ Rr s.size w' rb tb r.1 r.2 ⟨none, r.1⟩ 0 ∧ W.heap.size ≤ rb ∧ W.heap.size ≤ tb) := fun W => (H1.out W).mono fun e w' h => by
      unfold BgP at h
      rw [hr] at h
      exact h
    have hz := rdS_small (show rdS s = some (r.1, r.2) from hr)
    have hD := hid2 (doc_end (eqv_expr r.2 64 r.1 (rdS_ts (show rdS s = some (r.1, r.2) from hr))))
    have HX := hid2 (fun rb tb => qExprD_c (z := s.size) (rb := rb) (tb := tb) (LL := r.1) (c := r.2) (by omega) 64 0 rfl)
    have hP : Hid (∀ e w', Below w.heap.size w w' → (match bnd (exprD r.2 64 r.1) (endP r.2) with
      | .ok t => ∃ u, e = .returned (.tuple #[tmV t u, .int .i64 0, .int .i64 0]) ∧ SitB w.heap.size s.size w' t u
      | .error f => e = .returned (.tuple #[.agg (zs6).toArray, .int .i64 (f.1 : Nat), .int .i64 f.2])) → ExP s w e w') := fun e w' hb h => ⟨hb, by unfold exprS; rw [hr]; exact h⟩
    generalize ExP s w = Post at *
    clear H1 hr
    generalize bnd (exprD r.2 64 r.1) (endP r.2) = ans at *
    generalize exprR r.2 64 = E at *
    go_enter Tryz.func11, Tryz.ntmps11
    go_wp2_with fail
    refine Calls.mono (H2.out _) ?_
    rintro e w1 ⟨b1, rb, tb, rfl, R1, hrb, htb⟩
    have hrb' : w.heap.size + 1 ≤ rb := by simpa using hrb
    have htb' : w.heap.size + 1 ≤ tb := by simpa using htb
    have X1 := hid2 ((Box.new w zs6 33).next b1)
    have B1 : Hid (Below w.heap.size w w1) := below_on ((Below.refl _ _).alloc (Nat.le_refl _) _) b1 (by simp)
    have R1' := hid2 R1
    have hl1r := R1.lts
    have hs1 := b1.size
    clear b1 R1 H2 hrb htb
    go_wp2_with fail
    refine Calls.mono (HX.out rb tb ⟨none, r.1⟩ _ R1'.out) ?_
    rintro e w2 ⟨t2, ⟨v, rfl, u, rfl, s2⟩, r2⟩
    obtain ⟨ad, cp, rfl, hcp1, hcp2⟩ := s2.parts.shape
    have X2 := hid2 (X1.out.turn t2 (by simp; omega))
    have B2 := hid2 (below_turned B1.out t2 (by omega) B1.out.size)
    have R2 := hid2 r2
    have S2 := hid2 s2
    have hs2 := t2.size
    have hl1 := X1.out.lt
    clear t2 r2 s2 R1' HX
    simp only [tmV]
    generalize E ⟨none, r.1⟩ = y at *
    have ka := hid2 ((Below.refl w2.heap.size w2).alloc (Nat.le_refl _) (.cells (tmQ y.1 (.slice ad y.1.parts.length cp)).toArray 33))
    have L3 := hid2 (Box.new w2 (tmQ y.1 (.slice ad y.1.parts.length cp)) 33)
    have S3 : Hid (SitB w1.heap.size s.size _ y.1 (.slice ad y.1.parts.length cp)) := SitQ.keep ka.out.size (fun b hb hq => ⟨hq, fun j => cell_of_below ka.out hb j⟩) _ _ S2.out
    have R3 := hid2 (R2.out.next ka.out)
    have X3 := hid2 (X2.out.next ka.out)
    have B3 := hid2 (below_on B2.out ka.out B2.out.size)
    go_wp2_with fail
    refine Calls.mono (qEnd_c _ R3.out) ?_
    rintro e w4 ⟨rfl, t4, r4⟩
    have hr2 := R2.out.lts
    have L4 := hid2 (L3.out.turn t4 (by simp; omega))
    have X4 := hid2 (X3.out.turn t4 (by simp; omega))
    have B4 := hid2 (below_turned B3.out t4 (by omega) B3.out.size)
    have S4 : Hid (SitB w1.heap.size s.size w4 y.1 (.slice ad y.1.parts.length cp)) := SitQ.keep t4.size (fun b hb hq => ⟨hq, fun j => turn_cell t4 hb (by have hq' : w1.heap.size ≤ b := hq; simp; omega)⟩) _ _ S3.out
    obtain ⟨off, cap, i, ov, h⟩ := r4
    have c4 := h.box.cell 4 _ rfl
    have c5 := h.box.cell 5 _ rfl
    have hl4 := h.box.lt
    have her := h.er
    obtain ⟨l0, l1, l2, l3, l4, l5, _, _, _, _, _, _⟩ := L4.out.six
    have ll4 := L4.out.lt
    obtain ⟨x0, x1, x2, x3, x4, x5, y0, y1, y2, y3, y4, y5⟩ := X4.out.six
    have xl4 := X4.out.lt
    have k6 := hid2 (turn_six w4 w.heap.size (.int .i64 y.1.kind) (.string y.1.text) (.int .i64 y.1.n) (.int .i64 y.1.m) (.int .i64 y.1.pl) (.slice ad y.1.parts.length cp))
    clear h t4 S3 S2 L3 L4 X1 X2 X3 X4 R2 R3 ka B1 B2 B3
    cases ans with
    | ok t =>
      obtain ⟨hd1, hd2⟩ : y.1 = t ∧ (endRd r.2 y.2).er = none := hD.out
      rw [hd2] at c4 c5
      simp only [erI, erW] at c4 c5
      have hQ : Hid (∀ e w', Below w.heap.size w w' → (∃ u, e = .returned (.tuple #[tmV y.1 u, .int .i64 0, .int .i64 0]) ∧ SitB w.heap.size s.size w' y.1 u) → Post e w') := fun e w' hb h => hP.out e w' hb (by rw [← hd1]; exact h)
      clear hd1 hd2 hD hP her
      go_wp2_with fail
      refine bodyPost_ret (v := .tuple #[tmV y.1 (.slice ad y.1.parts.length cp), .int .i64 0, .int .i64 0]) (by simp [results, Tryz.results11, go_sem, *]) rfl (hQ.out _ _ ?_ ⟨_, rfl, ?_⟩)
      · exact (((((B4.out.setCell (Nat.le_refl _) _).setCell (Nat.le_refl _) _).setCell (Nat.le_refl _) _).setCell (Nat.le_refl _) _).setCell (Nat.le_refl _) _).setCell (Nat.le_refl _) _
      · exact SitQ.keep k6.out.size (fun b hb hq => ⟨by have hq' : w1.heap.size ≤ b := hq; show w.heap.size ≤ b; omega, fun j => turn_cell k6.out hb (by have hq' : w1.heap.size ≤ b := hq; simp; omega)⟩) _ _ S4.out
    | error f =>
      have hd : (endRd r.2 y.2).er = some f := hD.out
      rw [hd] at c4 c5
      simp only [erI, erW] at c4 c5
      have hf := (her f hd).1
      have hf2 : (f.2 != 0) = true := by simpa using hf
      have hQ : Hid (∀ w', Below w.heap.size w w' → Post (.returned (.tuple #[.agg (zs6).toArray, .int .i64 (f.1 : Nat), .int .i64 f.2])) w') := fun w' hb => hP.out _ w' hb rfl
      have hne : rb ≠ w.heap.size := by omega
      have hne2 : ¬ w.heap.size = rb := by omega
      clear hd hD hP her
      go_wp2_with fail
      go_region_held3 (fun w' => w'.cell? ⟨rb, 4, none⟩ = some (.int .i64 f.2) ∧ w'.cell? ⟨rb, 5, none⟩ = some (.int .i64 (f.1 : Nat))) (simp [go_sem, *]) (fail)
      rename_i hh
      clear hh
      go_wp2_with fail
      refine bodyPost_ret (v := .tuple #[.agg (zs6).toArray, .int .i64 (f.1 : Nat), .int .i64 f.2]) (by simp [results, Tryz.results11, go_sem, *]) rfl (hQ.out _ ?_)
      exact ((((((B4.out.setCell (Nat.le_refl _) _).setCell (Nat.le_refl _) _).setCell (Nat.le_refl _) _).setCell (Nat.le_refl _) _).setCell (Nat.le_refl _) _).setCell (Nat.le_refl _) _).drew
end Go.Proofs.YtecdfnpbcabdnaaGreatDoor
