/- The document's Placed, of one term at two places. The document's reader: begin; Expr over a text. ParseExprs. ParseDeep. -/
import Derived.Test.YtecdfnpbcabdnaaGreatDoorMhI
import Derived.Deep.RegionHeld3
import Derived.Test.YtecdfnpbcabdnaaGreatDoorPrU
import Derived.Test.YtecdfnpbcabdnaaGreatDoorPrQ
import Derived.Test.YtecdfnpbcabdnaaGreatDoorMgX
section
namespace Go.Proofs.YtecdfnpbcabdnaaGreatDoor
open Go.RowKit

def PlC (z : Nat) (t : Tm) : Prop := ∀ (v v' : Value) (w : World), Sits z w t v → Sits z w t v' → Calls Tryz.prog 12 #[tmV t v, tmV t v'] w fun e w' => e = .returned (.bool true) ∧ Below w.heap.size w w'
set_option maxHeartbeats 4000000 in
theorem placed_step {z : Nat} (t : Tm) (ih : ∀ x, x ∈ t.parts → PlC z x) : PlC z t := by
  intro v v' w hs hs'
  have HL := hid2 hs.parts
  have HK := hid2 hs'.parts
  have HI := hid2 ih
  obtain ⟨ad, cap, rfl, hc1, hc2⟩ := hs.parts.shape
  obtain ⟨ad', cap', rfl, hc1', hc2'⟩ := hs'.parts.shape
  obtain ⟨N, hN⟩ : ∃ N, Hid (N = t.parts.length) := ⟨_, rfl⟩
  rw [← hN.out] at hc1 hc1' HL HK ⊢
  clear hs hs' ih
  obtain ⟨X0, X1, XB⟩ := two_boxes w 33 33 (tmL t (.slice ad N cap)) (tmL t (.slice ad' N cap'))
  have BX := hid2 X0
  have BY := hid2 X1
  have BB := hid2 XB
  clear X0 X1 XB
  go_enter Tryz.func12, Tryz.ntmps12
  go_wp2_with fail
  go_loopw [5] (fun i wr => ∃ j : Nat, i = .int .i64 (j : Nat) ∧ j ≤ N ∧ Hid (Below w.heap.size w wr) ∧ Hid (Box wr w.heap.size (tmL t (.slice ad N cap))) ∧ Hid (Box wr (w.heap.size + 1) (tmL t (.slice ad' N cap')))) (fun i _ => match i with | .int _ p => ((N : Int) - p).toNat | _ => 0)
  case atStart => exact ⟨0, rfl, by omega, BB, BX, BY⟩
  case round =>
    obtain ⟨j, rfl, hj, HB, HX, HY⟩ := hrel
    have x5 := HX.out.cell 5 _ rfl
    have y5 := HY.out.cell 5 _ rfl
    have lx := HX.out.lt
    have ly := HY.out.lt
    by_cases hlt : j < N
    · have hlt' : (j : Int) < (N : Int) := by omega
      have h1 : j < t.parts.length := by rw [← hN.out]; exact hlt
      obtain ⟨b, off, c1, hv, -, -, hbl, hx⟩ := HL.out.open (by omega)
      simp only [Value.slice.injEq] at hv
      obtain ⟨rfl, -, rfl⟩ := hv
      obtain ⟨b', off', c1', hv', -, -, hbl', hx'⟩ := HK.out.open (by omega)
      simp only [Value.slice.injEq] at hv'
      obtain ⟨rfl, -, rfl⟩ := hv'
      obtain ⟨u, h6, hu⟩ := hx j h1
      obtain ⟨u', h6', hu'⟩ := hx' j h1
      obtain ⟨c0, c1, c2, c3, c4, c5⟩ := h6.keep (w' := wr) (fun q => HB.out.cell (p := ⟨b, q, none⟩) hbl)
      obtain ⟨e0, e1, e2, e3, e4, e5⟩ := h6'.keep (w' := wr) (fun q => HB.out.cell (p := ⟨b', q, none⟩) hbl')
      have lb : b < wr.heap.size := Nat.lt_of_lt_of_le hbl HB.out.size
      have lb' : b' < wr.heap.size := Nat.lt_of_lt_of_le hbl' HB.out.size
      have HC : Hid (∀ wx, Below wr.heap.size wr wx → Calls Tryz.prog 12 #[tmV t.parts[j] u, tmV t.parts[j] u'] wx fun e w' => e = .returned (.bool true) ∧ Hid (Below wr.heap.size wr w')) := fun wx hb => by
        have A : Below w.heap.size w wx := below_on HB.out hb HB.out.size
        exact (HI.out _ (List.getElem_mem h1) u u' _ (hu.next A) (hu'.next A)).mono fun e w' h => ⟨h.1, below_on hb h.2 hb.size⟩
      clear h6 h6' hu hu' hx hx'
      generalize t.parts[j] = x at *
      clear h1
      go_wp2_with fail
      go_region_held3 (fun w' => w'.cell? ⟨w.heap.size, 5, none⟩ = some (.slice (some ⟨b, off, none⟩) N cap) ∧ w'.cell? ⟨w.heap.size + 1, 5, none⟩ = some (.slice (some ⟨b', off', none⟩) N cap') ∧ (w'.cell? ⟨b, off + j * 6, none⟩ = some (.int .i64 x.kind) ∧ w'.cell? ⟨b, off + j * 6 + 1, none⟩ = some (.string x.text) ∧ w'.cell? ⟨b, off + j * 6 + 2, none⟩ = some (.int .i64 x.n) ∧ w'.cell? ⟨b, off + j * 6 + 3, none⟩ = some (.int .i64 x.m) ∧ w'.cell? ⟨b, off + j * 6 + 4, none⟩ = some (.int .i64 x.pl) ∧ w'.cell? ⟨b, off + j * 6 + 5, none⟩ = some u) ∧ w'.cell? ⟨b', off' + j * 6, none⟩ = some (.int .i64 x.kind) ∧ w'.cell? ⟨b', off' + j * 6 + 1, none⟩ = some (.string x.text) ∧ w'.cell? ⟨b', off' + j * 6 + 2, none⟩ = some (.int .i64 x.n) ∧ w'.cell? ⟨b', off' + j * 6 + 3, none⟩ = some (.int .i64 x.m) ∧ w'.cell? ⟨b', off' + j * 6 + 4, none⟩ = some (.int .i64 x.pl) ∧ w'.cell? ⟨b', off' + j * 6 + 5, none⟩ = some u') (simp [go_sem, *]) (first | (go_at_call 12; refine Calls.mono (HC.out _ (by exact below_drewN (Below.refl _ _) _)) ?_; rintro e w1 ⟨rfl, B1⟩; have g0 := fun p v hp hv => (B1.out.cell (p := p) hp).trans (hv : wr.cell? p = some v); replace x5 := g0 _ _ lx x5; replace y5 := g0 _ _ ly y5; replace c0 := g0 _ _ lb c0; replace c1 := g0 _ _ lb c1; replace c2 := g0 _ _ lb c2; replace c3 := g0 _ _ lb c3; replace c4 := g0 _ _ lb c4; replace c5 := g0 _ _ lb c5; replace e0 := g0 _ _ lb' e0; replace e1 := g0 _ _ lb' e1; replace e2 := g0 _ _ lb' e2; replace e3 := g0 _ _ lb' e3; replace e4 := g0 _ _ lb' e4; replace e5 := g0 _ _ lb' e5; clear g0))
      have HX1 := hid2 (HX.out.next B1.out)
      have HY1 := hid2 (HY.out.next B1.out)
      have HB1 := hid2 (below_on HB.out B1.out HB.out.size)
      clear c0 c1 c2 c3 c4 c5 e0 e1 e2 e3 e4 e5 HC x5 y5
      go_wp2_with fail
      go_roundw
      case rel => exact ⟨j + 1, by go_num, by omega, HB1, HX1, HY1⟩
      case measure => simp; omega
    · have hlt' : ¬ (j : Int) < (N : Int) := by omega
      go_wp2_with fail
      go_ret
      exact ⟨rfl, HB.out⟩
theorem placed_all {z : Nat} (t : Tm) : PlC z t := by
  induction t using Tm.ind with
  | h t ih => exact placed_step t ih
end Go.Proofs.YtecdfnpbcabdnaaGreatDoor
end
section
namespace Go.Proofs.YtecdfnpbcabdnaaGreatDoor
open Go.RowKit Go.Lib

theorem rdS_c64 {s : ByteArray} {L : List Tk} {c : Int} (h : rdS s = some (L, c)) : In64 c := by
  have hf := cutS_fault (s := s)
  unfold rdS at h
  generalize hc : cutS s = cs at *
  generalize hd : cutS (s.extract 0 cs.2.1) = ds at *
  clear hc hd
  by_cases hn : cs.2.2 = 2 ∨ cs.2.2 = 10 ∨ cs.2.2 = 11
  · rw [if_pos hn] at h
    cases h
  · rw [if_neg hn] at h
    by_cases h0 : cs.2.2 = 0
    · rw [if_pos h0] at h
      have hl : c = 0 := (congrArg Prod.snd (Option.some.inj h)).symm
      subst hl
      exact zero64
    · rw [if_neg h0] at h
      obtain ⟨hz, hv, l, k, k1, k2, k3, k4, k5, k6⟩ := hf h0 (fun h => hn (.inl h)) (fun h => hn (.inr (.inl h))) (fun h => hn (.inr (.inr h)))
      have hl : c = cs.2.2 := (congrArg Prod.snd (Option.some.inj h)).symm
      subst hl
      unfold In64
      rcases k5 with ⟨_, h14⟩ | ⟨_, h14⟩
      · omega
      · have := tok_err64 _ h14
        omega
theorem rr_new {z : Nat} {w1 : World} {B : Nat} {v : Value} {L : List Tk} {c : Int} (hT : Toks w1 B v L) (hL : TL z L) (hc : In64 c) :
    ∃ g cap, v = .slice (some ⟨g, 0, none⟩) L.length cap ∧ B ≤ g ∧ g < w1.heap.size ∧ Rr z (w1.alloc (.cells (rrL g 0 L.length cap 0 0 c 0 0).toArray 51)) w1.heap.size g L c ⟨none, L⟩ 0 := by
  have hpos := hL.pos
  have hcl := fun (g : Nat) h => hT.cells (g := g) h
  have hlt := hT.lt
  obtain ⟨h1, h2⟩ := hT
  rcases h2 with ⟨_, h3⟩ | ⟨g, cap, cur, rfl, h3, h4, h5, h6, h7, h8⟩
  · omega
  · have hg := (hlt g rfl).2
    refine ⟨g, cap, rfl, h3, hg, 0, cap, 0, 0, Box.new w1 _ _, h5, by unfold maxLen at h6; omega, fun q u hu => ?_, by omega, by simp; omega, hpos, rfl, hL, fun f hf => (by cases hf), fun _ => rfl, zero64, by omega, hc⟩
    have hc0 := hcl g rfl q u hu
    have hadd : (⟨g, 0, none⟩ : Addr).add q = ⟨g, q, none⟩ := by unfold Addr.add; split <;> simp_all
    rw [hadd] at hc0
    rw [Nat.zero_add, World.cell?_alloc_lt _ _ _ hg]
    exact hc0
def BgP (s : ByteArray) (w : World) (e : Ending) (w' : World) : Prop := Below w.heap.size w w' ∧
  match rdS s with
  | none => e = .returned (.tuple #[.pointer none, .int .i64 ((cutS s).2.1 : Nat), .int .i64 (cutS s).2.2])
  | some r => ∃ rb tb, e = .returned (.tuple #[.pointer (some ⟨rb, 0, none⟩), .int .i64 0, .int .i64 0]) ∧ Rr s.size w' rb tb r.1 r.2 ⟨none, r.1⟩ 0 ∧ w.heap.size ≤ rb ∧ w.heap.size ≤ tb
set_option maxHeartbeats 4000000 in
theorem qBegin_c (s : ByteArray) (w : World) : Calls Tryz.prog 15 #[.string s] w (BgP s w) := by
  have H1 := hid2 (upTo_c s w)
  unfold UpP at H1
  cases hr : rdS s with
  | none =>
    rw [hr] at H1
    have hP : Hid (∀ w', Below w.heap.size w w' → BgP s w (.returned (.tuple #[.pointer none, .int .i64 ((cutS s).2.1 : Nat), .int .i64 (cutS s).2.2])) w') := fun w' b => ⟨b, by rw [hr]⟩
    generalize BgP s w = Post at *
    clear hr
    generalize (cutS s).2.1 = a at *
    generalize (cutS s).2.2 = k at *
    go_enter Tryz.func15, Tryz.ntmps15
    go_wp2_with fail
    refine Calls.mono H1.out ?_
    rintro e w1 ⟨b1, rfl⟩
    go_wp2_with fail
    go_ret3
    exact hP.out _ b1
  | some r =>
    rw [hr] at H1
    have hL := rdS_tl (show rdS s = some (r.1, r.2) from hr)
    have hc0 := rdS_c64 (show rdS s = some (r.1, r.2) from hr)
    have hP : Hid (∀ w' rb tb, Below w.heap.size w w' → Rr s.size w' rb tb r.1 r.2 ⟨none, r.1⟩ 0 → w.heap.size ≤ rb ∧ w.heap.size ≤ tb → BgP s w (.returned (.tuple #[.pointer (some ⟨rb, 0, none⟩), .int .i64 0, .int .i64 0])) w') := fun w' rb tb b h1 h2 => ⟨b, by rw [hr]; exact ⟨rb, tb, rfl, h1, h2⟩⟩
    generalize BgP s w = Post at *
    clear hr
    go_enter Tryz.func15, Tryz.ntmps15
    go_wp2_with fail
    refine Calls.mono H1.out ?_
    rintro e w1 ⟨b1, v, a, rfl, T1⟩
    obtain ⟨g, cap, rfl, hg1, hg2, RR⟩ := rr_new T1 hL hc0
    have hpos := hL.pos
    have hlen : ((r.1.length : Nat) : Int) ≠ 0 := by omega
    have hlen2 : (((r.1.length : Nat) : Int) == 0) = false := by simpa using hlen
    have HB := hid2 b1
    have HR := hid2 RR
    have hsz := b1.size
    clear T1 b1 RR H1
    generalize hn : r.1.length = n at *
    go_wp2_with fail
    go_ret3
    exact hP.out _ _ _ (HB.out.alloc hsz _) HR.out ⟨hsz, hg1⟩
theorem below_turned {B rb : Nat} {w W W' : World} (h : Below B w W) (k : Turn [rb] W W') (hr : B ≤ rb) (hB : B ≤ W.heap.size) : Below B w W' :=
  ⟨k.os.trans h.os, k.tape.trans h.tape, k.output.trans h.output, Nat.le_trans h.size k.size, fun i hi => (k.block i (by omega) (by simp; omega)).trans (h.block i hi)⟩
set_option maxHeartbeats 4000000 in
theorem qExprTop_c (s : ByteArray) (w : World) : Calls Tryz.prog 11 #[.string s] w (ExP s w) := by
  have H1 := hid2 (fun W => qBegin_c s W)
  cases hr : rdS s with
  | none =>
    have H2 : Hid (∀ W, Calls Tryz.prog 15 #[.string s] W fun e w' => Below W.heap.size W w' ∧ e = .returned (.tuple #[.pointer none, .int .i64 ((cutS s).2.1 : Nat), .int .i64 (cutS s).2.2])) := fun W => (H1.out W).mono fun e w' h => by
      unfold BgP at h
      rw [hr] at h
      exact h
    have hP : Hid (∀ w', Below w.heap.size w w' → ExP s w (.returned (.tuple #[.agg (zs6).toArray, .int .i64 ((cutS s).2.1 : Nat), .int .i64 (cutS s).2.2])) w') := fun w' hb => ⟨hb, by unfold exprS; rw [hr]⟩
    generalize ExP s w = Post at *
    generalize (cutS s).2.1 = a at *
    generalize (cutS s).2.2 = k at *
    clear H1 hr
    go_enter Tryz.func11, Tryz.ntmps11
    go_wp2_with fail
    refine Calls.mono (H2.out _) ?_
    rintro e w1 ⟨b1, rfl⟩
    have X0 := (Box.new w zs6 33).next b1
    obtain ⟨x0, x1, x2, x3, x4, x5, y0, y1, y2, y3, y4, y5⟩ := X0.six
    have xl := X0.lt
    have B1 : Hid (Below w.heap.size w w1) := below_on ((Below.refl _ _).alloc (Nat.le_refl _) _) b1 (by simp)
    clear b1 X0
    go_wp2_with fail
    refine bodyPost_ret (v := .tuple #[.agg (zs6).toArray, .int .i64 (a : Nat), .int .i64 k]) (by simp [results, Tryz.results11, go_sem, *]) rfl (hP.out _ ?_)
    exact (((((B1.out.setCell (Nat.le_refl _) _).setCell (Nat.le_refl _) _).setCell (Nat.le_refl _) _).setCell (Nat.le_refl _) _).setCell (Nat.le_refl _) _).setCell (Nat.le_refl _) _
  | some r =>
    have H2 : Hid (∀ W, Calls Tryz.prog 15 #[.string s] W fun e w' => Below W.heap.size W w' ∧ ∃ rb tb, e = .returned (.tuple #[.pointer (some ⟨rb, 0, none⟩), .int .i64 0, .int .i64 0]) ∧ Rr s.size w' rb tb r.1 r.2 ⟨none, r.1⟩ 0 ∧ W.heap.size ≤ rb ∧ W.heap.size ≤ tb) := fun W => (H1.out W).mono fun e w' h => by
      unfold BgP at h
      rw [hr] at h
      exact h
    have hz := rdS_small (show rdS s = some (r.1, r.2) from hr)
    have hD := hid2 (doc_end (eqv_expr r.2 64 r.1 (rdS_ts (show rdS s = some (r.1, r.2) from hr))))
    have HX := hid2 (fun rb tb => qExprD_c (z := s.size) (rb := rb) (tb := tb) (LL := r.1) (c := r.2) (by omega) 64 0 rfl)
    have hP : Hid (∀ e w', Below w.heap.size w w' → (match bnd (exprD r.2 64 r.1) (endP r.2) with
      | .ok t => ∃ u, e = .returned (.tuple #[tmV t u, .int .i64 0, .int .i64 0]) ∧ SitB w.heap.size s.size w' t u
      | .error f => e = .returned (.tuple #[.agg (zs6).toArray, .int .i64 (f.1 : Nat), .int .i64 f.2])) → ExP s w e w') := fun e w' hb h => ⟨hb, by unfold exprS; rw [hr]; exact h⟩
    generalize ExP s w = Post at *
    clear H1 hr
    generalize bnd (exprD r.2 64 r.1) (endP r.2) = ans at *
    generalize exprR r.2 64 = E at *
    go_enter Tryz.func11, Tryz.ntmps11
    go_wp2_with fail
    refine Calls.mono (H2.out _) ?_
    rintro e w1 ⟨b1, rb, tb, rfl, R1, hrb, htb⟩
    have hrb' : w.heap.size + 1 ≤ rb := by simpa using hrb
    have htb' : w.heap.size + 1 ≤ tb := by simpa using htb
    have X1 := hid2 ((Box.new w zs6 33).next b1)
    have B1 : Hid (Below w.heap.size w w1) := below_on ((Below.refl _ _).alloc (Nat.le_refl _) _) b1 (by simp)
    have R1' := hid2 R1
    have hl1r := R1.lts
    have hs1 := b1.size
    clear b1 R1 H2 hrb htb
    go_wp2_with fail
    refine Calls.mono (HX.out rb tb ⟨none, r.1⟩ _ R1'.out) ?_
    rintro e w2 ⟨t2, ⟨v, rfl, u, rfl, s2⟩, r2⟩
    obtain ⟨ad, cp, rfl, hcp1, hcp2⟩ := s2.parts.shape
    have X2 := hid2 (X1.out.turn t2 (by simp; omega))
    have B2 := hid2 (below_turned B1.out t2 (by omega) B1.out.size)
    have R2 := hid2 r2
    have S2 := hid2 s2
    have hs2 := t2.size
    have hl1 := X1.out.lt
    clear t2 r2 s2 R1' HX
    simp only [tmV]
    generalize E ⟨none, r.1⟩ = y at *
    have ka := hid2 ((Below.refl w2.heap.size w2).alloc (Nat.le_refl _) (.cells (tmQ y.1 (.slice ad y.1.parts.length cp)).toArray 33))
    have L3 := hid2 (Box.new w2 (tmQ y.1 (.slice ad y.1.parts.length cp)) 33)
    have S3 : Hid (SitB w1.heap.size s.size _ y.1 (.slice ad y.1.parts.length cp)) := SitQ.keep ka.out.size (fun b hb hq => ⟨hq, fun j => cell_of_below ka.out hb j⟩) _ _ S2.out
    have R3 := hid2 (R2.out.next ka.out)
    have X3 := hid2 (X2.out.next ka.out)
    have B3 := hid2 (below_on B2.out ka.out B2.out.size)
    go_wp2_with fail
    refine Calls.mono (qEnd_c _ R3.out) ?_
    rintro e w4 ⟨rfl, t4, r4⟩
    have hr2 := R2.out.lts
    have L4 := hid2 (L3.out.turn t4 (by simp; omega))
    have X4 := hid2 (X3.out.turn t4 (by simp; omega))
    have B4 := hid2 (below_turned B3.out t4 (by omega) B3.out.size)
    have S4 : Hid (SitB w1.heap.size s.size w4 y.1 (.slice ad y.1.parts.length cp)) := SitQ.keep t4.size (fun b hb hq => ⟨hq, fun j => turn_cell t4 hb (by have hq' : w1.heap.size ≤ b := hq; simp; omega)⟩) _ _ S3.out
    obtain ⟨off, cap, i, ov, h⟩ := r4
    have c4 := h.box.cell 4 _ rfl
    have c5 := h.box.cell 5 _ rfl
    have hl4 := h.box.lt
    have her := h.er
    obtain ⟨l0, l1, l2, l3, l4, l5, _, _, _, _, _, _⟩ := L4.out.six
    have ll4 := L4.out.lt
    obtain ⟨x0, x1, x2, x3, x4, x5, y0, y1, y2, y3, y4, y5⟩ := X4.out.six
    have xl4 := X4.out.lt
    have k6 := hid2 (turn_six w4 w.heap.size (.int .i64 y.1.kind) (.string y.1.text) (.int .i64 y.1.n) (.int .i64 y.1.m) (.int .i64 y.1.pl) (.slice ad y.1.parts.length cp))
    clear h t4 S3 S2 L3 L4 X1 X2 X3 X4 R2 R3 ka B1 B2 B3
    cases ans with
    | ok t =>
      obtain ⟨hd1, hd2⟩ : y.1 = t ∧ (endRd r.2 y.2).er = none := hD.out
      rw [hd2] at c4 c5
      simp only [erI, erW] at c4 c5
      have hQ : Hid (∀ e w', Below w.heap.size w w' → (∃ u, e = .returned (.tuple #[tmV y.1 u, .int .i64 0, .int .i64 0]) ∧ SitB w.heap.size s.size w' y.1 u) → Post e w') := fun e w' hb h => hP.out e w' hb (by rw [← hd1]; exact h)
      clear hd1 hd2 hD hP her
      go_wp2_with fail
      refine bodyPost_ret (v := .tuple #[tmV y.1 (.slice ad y.1.parts.length cp), .int .i64 0, .int .i64 0]) (by simp [results, Tryz.results11, go_sem, *]) rfl (hQ.out _ _ ?_ ⟨_, rfl, ?_⟩)
      · exact (((((B4.out.setCell (Nat.le_refl _) _).setCell (Nat.le_refl _) _).setCell (Nat.le_refl _) _).setCell (Nat.le_refl _) _).setCell (Nat.le_refl _) _).setCell (Nat.le_refl _) _
      · exact SitQ.keep k6.out.size (fun b hb hq => ⟨by have hq' : w1.heap.size ≤ b := hq; show w.heap.size ≤ b; omega, fun j => turn_cell k6.out hb (by have hq' : w1.heap.size ≤ b := hq; simp; omega)⟩) _ _ S4.out
    | error f =>
      have hd : (endRd r.2 y.2).er = some f := hD.out
      rw [hd] at c4 c5
      simp only [erI, erW] at c4 c5
      have hf := (her f hd).1
      have hf2 : (f.2 != 0) = true := by simpa using hf
      have hQ : Hid (∀ w', Below w.heap.size w w' → Post (.returned (.tuple #[.agg (zs6).toArray, .int .i64 (f.1 : Nat), .int .i64 f.2])) w') := fun w' hb => hP.out _ w' hb rfl
      have hne : rb ≠ w.heap.size := by omega
      have hne2 : ¬ w.heap.size = rb := by omega
      clear hd hD hP her
      go_wp2_with fail
      go_region_held3 (fun w' => w'.cell? ⟨rb, 4, none⟩ = some (.int .i64 f.2) ∧ w'.cell? ⟨rb, 5, none⟩ = some (.int .i64 (f.1 : Nat))) (simp [go_sem, *]) (fail)
      rename_i hh
      clear hh
      go_wp2_with fail
      refine bodyPost_ret (v := .tuple #[.agg (zs6).toArray, .int .i64 (f.1 : Nat), .int .i64 f.2]) (by simp [results, Tryz.results11, go_sem, *]) rfl (hQ.out _ ?_)
      exact ((((((B4.out.setCell (Nat.le_refl _) _).setCell (Nat.le_refl _) _).setCell (Nat.le_refl _) _).setCell (Nat.le_refl _) _).setCell (Nat.le_refl _) _).setCell (Nat.le_refl _) _).drew
end Go.Proofs.YtecdfnpbcabdnaaGreatDoor
end
section
namespace Go.Proofs.YtecdfnpbcabdnaaGreatDoor
open Go.RowKit Go.Lib

theorem errE {w w' : World} (h : ErrT w) (k : Below w.heap.size w w') : ErrT w' := (k.cell (p := ⟨0, 0, none⟩) (World.block_lt_of_cell? w _ h)).trans h
/-- What both answer: a term, or none and the fault. -/
def ansT (s : ByteArray) : Tm × Nat × Int := match exprS s with
  | .ok t => (t, 0, 0)
  | .error f => (nilM, f.1, f.2)
theorem exP_ans {s : ByteArray} {w : World} {e : Ending} {w' : World} (h : ExP s w e w') : Below w.heap.size w w' ∧ ∃ u, e = .returned (.tuple #[tmV (ansT s).1 u, .int .i64 ((ansT s).2.1 : Nat), .int .i64 (ansT s).2.2]) ∧ Sits s.size w' (ansT s).1 u := by
  obtain ⟨hb, h⟩ := h
  refine ⟨hb, ?_⟩
  unfold ansT
  rcases hx : exprS s with f | t
  · rw [hx] at h
    exact ⟨.slice none 0 0, h, SitQ.sits _ _ (sitb_leaf (Q := fun _ => True) fit_nil rfl)⟩
  · rw [hx] at h
    obtain ⟨u, h1, h2⟩ := h
    exact ⟨u, h1, SitQ.sits _ _ h2⟩
set_option maxHeartbeats 4000000 in
set_option maxRecDepth 20000 in
theorem parseExprs_c (s : ByteArray) (w : World) (hT : TabsAt w) (hE : ErrT w) : Calls Tryz.prog 4 #[.string s] w fun e w' => e = .returned (.bool true) ∧ Below w.heap.size w w' := by
  have HA := hid2 (awake13_c w hT hE)
  have HX : Hid (∀ W, Below w.heap.size w W → Calls Tryz.prog 10 #[.string s] W fun e w' => Below W.heap.size W w' ∧ ∃ u, e = .returned (.tuple #[tmV (ansT s).1 u, .int .i64 ((ansT s).2.1 : Nat), .int .i64 (ansT s).2.2]) ∧ Sits s.size w' (ansT s).1 u) := fun W k => (exprF_c s W (hT.next k) (errE hE k)).mono fun e w' h => exP_ans h
  have HD : Hid (∀ W, Calls Tryz.prog 11 #[.string s] W fun e w' => Below W.heap.size W w' ∧ ∃ u, e = .returned (.tuple #[tmV (ansT s).1 u, .int .i64 ((ansT s).2.1 : Nat), .int .i64 (ansT s).2.2]) ∧ Sits s.size w' (ansT s).1 u) := fun W => (qExprTop_c s W).mono fun e w' h => exP_ans h
  have HP := hid2 (placed_all (z := s.size) (ansT s).1)
  generalize (ansT s).1 = t at *
  generalize (ansT s).2.1 = a at *
  generalize (ansT s).2.2 = k at *
  clear hT hE
  go_enter Tryz.func4, Tryz.ntmps4
  go_wp2_with fail
  refine Calls.mono HA.out ?_
  rintro e w1 ⟨rfl, b1⟩
  go_wp2_with fail
  refine Calls.mono (HX.out _ b1) ?_
  rintro e w2 ⟨b2, u, rfl, s2⟩
  obtain ⟨ad, cp, rfl, hcp1, hcp2⟩ := s2.parts.shape
  have B2 := hid2 (below_on b1 b2 b1.size)
  have S2 := hid2 s2
  clear b1 b2 s2 HA HX
  simp only [tmV]
  have ka := hid2 ((Below.refl w2.heap.size w2).alloc (Nat.le_refl _) (.cells (tmQ t (.slice ad t.parts.length cp)).toArray 33))
  have L3 := hid2 (Box.new w2 (tmQ t (.slice ad t.parts.length cp)) 33)
  have S3 := hid2 (S2.out.next ka.out)
  have B3 := hid2 (below_on B2.out ka.out B2.out.size)
  go_wp2_with fail
  refine Calls.mono (HD.out _) ?_
  rintro e w4 ⟨b4, u', rfl, s4⟩
  obtain ⟨ad', cp', rfl, hcp1', hcp2'⟩ := s4.parts.shape
  have L4 := hid2 (L3.out.next b4)
  have S4 := hid2 (S3.out.next b4)
  have B4 := hid2 (below_on B3.out b4 B3.out.size)
  have T4 := hid2 s4
  clear b4 s4 L3 S3 B3 S2 B2 ka HD
  simp only [tmV]
  have ka := hid2 ((Below.refl w4.heap.size w4).alloc (Nat.le_refl _) (.cells (tmQ t (.slice ad' t.parts.length cp')).toArray 33))
  have S5 := hid2 (S4.out.next ka.out)
  have T5 := hid2 (T4.out.next ka.out)
  have B5 := hid2 (below_on B4.out ka.out B4.out.size)
  have ll4 := L4.out.lt
  obtain ⟨l0, l1, l2, l3, l4, l5, _, _, _, _, _, _⟩ := L4.out.six
  go_wp2_with fail
  refine Calls.mono (HP.out _ _ _ S5.out T5.out) ?_
  rintro e w6 ⟨rfl, b6⟩
  have B6 := hid2 (below_on B5.out b6 B5.out.size)
  clear b6
  go_wp2_with fail
  go_ret
  exact ⟨rfl, B6.out⟩
end Go.Proofs.YtecdfnpbcabdnaaGreatDoor
end
section
namespace Go.Proofs.YtecdfnpbcabdnaaGreatDoor
open Go.RowKit Go.Lib

set_option maxHeartbeats 4000000 in
set_option maxRecDepth 20000 in
theorem parseDeep_c (n : Nat) (hn : n < 256) (x y : ByteArray) (w : World) (hT : TabsAt w) (hE : ErrT w) : Calls Tryz.prog 5 #[.int .u8 (n : Nat), .string x, .string y] w fun e w' => e = .returned (.bool true) ∧ Below w.heap.size w w' := by
  have HA := hid2 (fun W (k : Below w.heap.size w W) => awake13_c W (hT.next k) (errE hE k))
  have HX : Hid (∀ s W, Below w.heap.size w W → Calls Tryz.prog 10 #[.string s] W fun e w' => Below W.heap.size W w' ∧ ∃ u, e = .returned (.tuple #[tmV (ansT s).1 u, .int .i64 ((ansT s).2.1 : Nat), .int .i64 (ansT s).2.2]) ∧ Sits s.size w' (ansT s).1 u) := fun s W k => (exprF_c s W (hT.next k) (errE hE k)).mono fun e w' h => exP_ans h
  have HD : Hid (∀ s W, Calls Tryz.prog 11 #[.string s] W fun e w' => Below W.heap.size W w' ∧ ∃ u, e = .returned (.tuple #[tmV (ansT s).1 u, .int .i64 ((ansT s).2.1 : Nat), .int .i64 (ansT s).2.2]) ∧ Sits s.size w' (ansT s).1 u) := fun s W => (qExprTop_c s W).mono fun e w' h => exP_ans h
  have HP := hid2 (fun s : ByteArray => placed_all (z := s.size) (ansT s).1)
  clear hT hE
  by_cases hx : x.size ≤ 200
  · by_cases hy : y.size ≤ 200
    · have hx' : ¬ (200 : Int) < (x.size : Int) := by omega
      have hy' : ¬ (200 : Int) < (y.size : Int) := by omega
      go_enter Tryz.func5, Tryz.ntmps5
      go_wp2_with fail
      refine Calls.mono (HA.out _ (Below.refl _ _)) ?_
      rintro e w1 ⟨rfl, b1⟩
      have B1 := hid2 b1
      clear b1
      go_wp2_with fail
      go_loopw [8, 9, 10] (fun s8 s9 s10 wr => ∃ (j : Nat) (a b : ByteArray), s8 = .string a ∧ s9 = .string b ∧ s10 = .int .i64 (j : Nat) ∧ j ≤ 60 + n % 9 ∧ a.size = j ∧ b.size = j ∧ wr = w1) (fun _ _ s10 _ => 100 - (RowKit.intOf s10).toNat)
      · exact ⟨0, ⟨#[]⟩, ⟨#[]⟩, rfl, rfl, rfl, Nat.zero_le _, rfl, rfl, rfl⟩
      obtain ⟨j, a, b, rfl, rfl, rfl, hj, ha, hb, rfl⟩ := hrel
      by_cases hlt : j < 60 + n % 9
      · have hlt' : (j : Int) < 60 + ((n : Int) % 9) := by omega
        go_wp2_with fail
        refine ⟨⟨j + 1, _, _, rfl, rfl, by simp, by omega, ?_, ?_, trivial⟩, ?_⟩
        · rw [ByteArray.size_append, ha]; rfl
        · rw [ByteArray.size_append, hb]; rfl
        · simp [RowKit.intOf]; omega
      · have hlt' : ¬ (j : Int) < 60 + ((n : Int) % 9) := by omega
        go_wp2_with fail
        generalize a ++ x ++ b ++ y = s
        replace HX := hid2 (HX.out s)
        replace HD := hid2 (HD.out s)
        replace HP := hid2 (HP.out s)
        generalize (ansT s).1 = t at *
        generalize (ansT s).2.1 = a' at *
        generalize (ansT s).2.2 = k at *
        refine Calls.mono (HX.out _ B1.out) ?_
        rintro e w2 ⟨b2, u, rfl, s2⟩
        obtain ⟨ad, cp, rfl, hcp1, hcp2⟩ := s2.parts.shape
        have B2 := hid2 (below_on B1.out b2 B1.out.size)
        have S2 := hid2 s2
        clear b2 s2 HA HX
        simp only [tmV]
        have ka := hid2 ((Below.refl w2.heap.size w2).alloc (Nat.le_refl _) (.cells (tmQ t (.slice ad t.parts.length cp)).toArray 33))
        have L3 := hid2 (Box.new w2 (tmQ t (.slice ad t.parts.length cp)) 33)
        have S3 := hid2 (S2.out.next ka.out)
        have B3 := hid2 (below_on B2.out ka.out B2.out.size)
        go_wp2_with fail
        refine Calls.mono (HD.out _) ?_
        rintro e w4 ⟨b4, u', rfl, s4⟩
        obtain ⟨ad', cp', rfl, hcp1', hcp2'⟩ := s4.parts.shape
        have L4 := hid2 (L3.out.next b4)
        have S4 := hid2 (S3.out.next b4)
        have B4 := hid2 (below_on B3.out b4 B3.out.size)
        have T4 := hid2 s4
        clear b4 s4 L3 S3 B3 S2 B2 ka HD
        simp only [tmV]
        have ka := hid2 ((Below.refl w4.heap.size w4).alloc (Nat.le_refl _) (.cells (tmQ t (.slice ad' t.parts.length cp')).toArray 33))
        have S5 := hid2 (S4.out.next ka.out)
        have T5 := hid2 (T4.out.next ka.out)
        have B5 := hid2 (below_on B4.out ka.out B4.out.size)
        have ll4 := L4.out.lt
        obtain ⟨l0, l1, l2, l3, l4, l5, _, _, _, _, _, _⟩ := L4.out.six
        go_wp2_with fail
        refine Calls.mono (HP.out _ _ _ S5.out T5.out) ?_
        rintro e w6 ⟨rfl, b6⟩
        have B6 := hid2 (below_on B5.out b6 B5.out.size)
        clear b6
        go_wp2_with fail
        go_ret
        exact ⟨rfl, B6.out⟩
    · have hx' : ¬ (200 : Int) < (x.size : Int) := by omega
      have hy' : (200 : Int) < (y.size : Int) := by omega
      go_enter Tryz.func5, Tryz.ntmps5
      go_wp2_with fail
      refine Calls.mono (HA.out _ (Below.refl _ _)) ?_
      rintro e w1 ⟨rfl, b1⟩
      go_wp2_with fail
      refine Calls.mono (HA.out _ b1) ?_
      rintro e w2 ⟨rfl, b2⟩
      go_wp2_with fail
      go_ret
      exact ⟨rfl, below_on b1 b2 b1.size⟩
  · have hx' : (200 : Int) < (x.size : Int) := by omega
    go_enter Tryz.func5, Tryz.ntmps5
    go_wp2_with fail
    refine Calls.mono (HA.out _ (Below.refl _ _)) ?_
    rintro e w1 ⟨rfl, b1⟩
    go_wp2_with fail
    refine Calls.mono (HA.out _ b1) ?_
    rintro e w2 ⟨rfl, b2⟩
    go_wp2_with fail
    go_ret
    exact ⟨rfl, below_on b1 b2 b1.size⟩
end Go.Proofs.YtecdfnpbcabdnaaGreatDoor
end
