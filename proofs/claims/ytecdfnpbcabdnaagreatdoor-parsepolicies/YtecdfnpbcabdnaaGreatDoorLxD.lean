/- Package lex: the reader; take, skip. -/
import Derived.Test.YtecdfnpbcabdnaaGreatDoorLxC
import Derived.Deep.RegionHeld3
namespace Go.Proofs.YtecdfnpbcabdnaaGreatDoor
open Go.RowKit Go.Lib

/-- The block b is a reader of s that stands at i. -/
abbrev Rdr (w : World) (b : Nat) (s : ByteArray) (i : Nat) : Prop := Box w b [.string s, .int .i64 (i : Nat)]
theorem clone_c (x : ByteArray) (hx : x.size ≤ 1048576) (w : World) : Calls Tryz.prog 133 #[.string x] w fun e w' => e = .returned (.string x) ∧ Below w.heap.size w w' := by
  have C := fun wx => Go.Proofs.Tryz.stringslite_Clone x wx (by omega)
  go_enter Tryz.func133, Tryz.ntmps133
  go_wp2_with fail
  refine (C _).mono ?_
  rintro e w1 ⟨rfl, b1⟩
  go_wp2_with fail
  go_ret
  exact ⟨rfl, b1⟩
theorem keepc {w0 w1 : World} {p : Addr} {v : Value} (hb : Below w0.heap.size w0 w1) (hc : w0.cell? p = some v) : w1.cell? p = some v ∧ p.block < w1.heap.size :=
  have hl := World.block_lt_of_cell? w0 p hc
  ⟨(hb.cell hl).trans hc, Nat.lt_of_lt_of_le hl hb.size⟩
theorem keepf {w0 w1 : World} {p : Addr} {v : Value} (hb : Below w0.heap.size w0 w1) (hc : w0.cell? p = some v) (hf : w0.frozen? p = false) : w1.frozen? p = false := (hb.frozen (World.block_lt_of_cell? w0 p hc)).trans hf
def tkv (k : Int) (x : ByteArray) (n : Int) (i : Nat) : Value := .agg #[.int .i64 k, .string x, .int .i64 n, .int .i64 (i : Nat)]
/-- The reader stands elsewhere; of what was there nothing else has turned. -/
def Moved (w : World) (b : Nat) (s : ByteArray) (e : Nat) (w' : World) : Prop := Rdr w' b s e ∧ Turn [b] w w'
theorem moved_set {w w1 : World} {b i e : Nat} {s : ByteArray} (h : Rdr w b s i) (t : Below w.heap.size w w1) (w2 : World) (t2 : Below w.heap.size (w1.setCell ⟨b, 1, none⟩ (.int .i64 (e : Nat))) w2) : Moved w b s e w2 := by
  have h1 : Rdr w1 b s i := h.next t
  have h2 : Rdr (w1.setCell ⟨b, 1, none⟩ (.int .i64 (e : Nat))) b s e := h1.set 1 (by simp) _
  refine ⟨h2.later t2 h.lt, ?_⟩
  have t3 : Turn [b] w (w1.setCell ⟨b, 1, none⟩ (.int .i64 (e : Nat))) := (Turn.of_below t).andSet _ _ (.inl (by simp))
  exact ⟨t2.os.trans t3.os, t2.tape.trans t3.tape, t2.output.trans t3.output, Nat.le_trans t3.size t2.size, fun k hk hn => (t2.block k hk).trans (t3.block k hk hn)⟩
theorem below_four {s q : Nat} {w w' : World} (h : Below s w w') (hq : s ≤ q) (v0 v1 v2 v3 : Value) : Below s w ((((w'.setCell ⟨q, 0, none⟩ v0).setCell ⟨q, 1, none⟩ v1).setCell ⟨q, 2, none⟩ v2).setCell ⟨q, 3, none⟩ v3) :=
  ((((h.setCell hq _).setCell hq _).setCell hq _).setCell hq _)
set_option maxHeartbeats 2000000 in
theorem take_c (b i e : Nat) (s x : ByteArray) (k n : Int) (hx : x.size ≤ 1048576) (w : World) (h : Rdr w b s i) :
    Calls Tryz.prog 116 #[.pointer (some ⟨b, 0, none⟩), .int .i64 (e : Nat), .int .i64 k, .string x, .int .i64 n] w fun r w' => r = .returned (tkv k x n i) ∧ Moved w b s e w' := by
  obtain ⟨c0, c1, f0, f1⟩ := h.two
  have hlt := h.lt
  have HC := hid2 (fun wx => clone_c x hx wx)
  have H := hid2 h
  clear h
  go_enter Tryz.func116, Tryz.ntmps116
  go_wp2_with fail
  go_region_held3 (fun w' => w'.cell? ⟨b, 1, none⟩ = some (.int .i64 (i : Nat)) ∧ w'.frozen? ⟨b, 1, none⟩ = false) (simp [go_sem, *]) (first | (go_at_call 133; refine Calls.mono (HC.out _) ?_; rintro r w1 ⟨rfl, b1⟩; obtain ⟨m1, l1⟩ := keepc b1 (p := ⟨b, 1, none⟩) (v := .int .i64 (i : Nat)) (by simp [go_sem, *]); have m2 := keepf b1 (p := ⟨b, 1, none⟩) (v := .int .i64 (i : Nat)) (by simp [go_sem, *]) (by simp [go_sem, *]); have p0 := b1.cell (p := ⟨w.heap.size, 0, none⟩); simp [go_sem] at p0; have pf0 := b1.frozen (p := ⟨w.heap.size, 0, none⟩); simp [go_sem] at pf0; have p1 := b1.cell (p := ⟨w.heap.size, 1, none⟩); simp [go_sem] at p1; have pf1 := b1.frozen (p := ⟨w.heap.size, 1, none⟩); simp [go_sem] at pf1; have p2 := b1.cell (p := ⟨w.heap.size, 2, none⟩); simp [go_sem] at p2; have pf2 := b1.frozen (p := ⟨w.heap.size, 2, none⟩); simp [go_sem] at pf2; have p3 := b1.cell (p := ⟨w.heap.size, 3, none⟩); simp [go_sem] at p3; have pf3 := b1.frozen (p := ⟨w.heap.size, 3, none⟩); simp [go_sem] at pf3; have q0 := b1.cell (p := ⟨w.heap.size + 1, 0, none⟩); simp [go_sem] at q0; have qf0 := b1.frozen (p := ⟨w.heap.size + 1, 0, none⟩); simp [go_sem] at qf0; have q1 := b1.cell (p := ⟨w.heap.size + 1, 1, none⟩); simp [go_sem] at q1; have qf1 := b1.frozen (p := ⟨w.heap.size + 1, 1, none⟩); simp [go_sem] at qf1; have q2 := b1.cell (p := ⟨w.heap.size + 1, 2, none⟩); simp [go_sem] at q2; have qf2 := b1.frozen (p := ⟨w.heap.size + 1, 2, none⟩); simp [go_sem] at qf2; have q3 := b1.cell (p := ⟨w.heap.size + 1, 3, none⟩); simp [go_sem] at q3; have qf3 := b1.frozen (p := ⟨w.heap.size + 1, 3, none⟩); simp [go_sem] at qf3; have l2 : w.heap.size < w1.heap.size := (keepc b1 (p := ⟨w.heap.size, 0, none⟩) (v := .int .i64 0) (by simp [go_sem])).2; have l3 := b1.size; simp at l3; have n1 : b ≠ w.heap.size := (by omega); have n2 : b ≠ w.heap.size + 1 := (by omega); have n3 : w.heap.size ≠ b := (by omega); have n4 : w.heap.size + 1 ≠ b := (by omega); have n5 : b ≠ w1.heap.size := (by omega); have n6 : w.heap.size ≠ w1.heap.size := (by omega); have B1 := hid2 b1; clear b1))
  all_goals go_wp2_with fail
  all_goals refine bodyPost_ret (v := tkv k x n i) (by simp [results, Tryz.results116, go_sem, *]; rfl) rfl ⟨rfl, ?_⟩
  all_goals have t1 : Below w.heap.size w w1 := below_on (by first | exact ((Below.refl _ _).alloc (Nat.le_refl _) _).drew | exact ((Below.refl _ _).alloc (Nat.le_refl _) _).drew.alloc (by simp) _ | exact (((Below.refl _ _).alloc (Nat.le_refl _) _).alloc (by simp) _).drew) B1.out (by simp <;> omega)
  · refine moved_set H.out t1 _ ?_
    exact (below_four (Below.refl _ _) (Nat.le_refl _) _ _ _ _).alloc (by simp <;> omega) _
  · exact moved_set H.out (below_four t1 (Nat.le_add_right _ 1) (.int .i64 k) (.string x) (.int .i64 n) (.int .i64 (i : Nat))) _ <| below_four (Below.refl _ _) (Nat.le_refl _) _ _ _ _
theorem Moved.rdr {w w' : World} {b e : Nat} {s : ByteArray} (h : Moved w b s e w') : Rdr w' b s e := h.1
theorem Moved.trans {w w1 w2 : World} {b e e2 : Nat} {s : ByteArray} (h : Moved w b s e w1) (k : Moved w1 b s e2 w2) : Moved w b s e2 w2 := ⟨k.1, h.2.trans k.2 (fun _ hi => .inl hi)⟩
theorem Moved.below {w w1 w2 : World} {b e : Nat} {s : ByteArray} (h : Moved w b s e w1) (k : Below w1.heap.size w1 w2) : Moved w b s e w2 := ⟨h.1.next k, h.2.andBelow k⟩
theorem Moved.stay {w w1 : World} {b e : Nat} {s : ByteArray} (h : Rdr w b s e) (k : Below w.heap.size w w1) : Moved w b s e w1 := ⟨h.next k, Turn.of_below k⟩
/-- A run is gone over. -/
theorem moved_run {w w1 : World} {b i e : Nat} {s : ByteArray} (h : Rdr w b s i) (t : Below w.heap.size w w1) : Moved w b s e (w1.setCell ⟨b, 1, none⟩ (.int .i64 (e : Nat))) := moved_set h t _ (Below.refl _ _)
/-- Where it stands. -/
def rdAt (w : World) (b : Nat) : Nat := match w.cell? ⟨b, 1, none⟩ with
  | some (.int _ n) => n.toNat
  | _ => 0
theorem rdAt_of {w : World} {b i : Nat} {s : ByteArray} (h : Rdr w b s i) : rdAt w b = i := by
  unfold rdAt
  rw [h.two.2.1]
  exact Int.toNat_natCast i
set_option maxHeartbeats 3000000 in
theorem skip_c (b i : Nat) (s : ByteArray) (hi : i ≤ s.size) (hz : s.size ≤ 1048576) (hv : Vd s i) (w : World) (h : Rdr w b s i) :
    Calls Tryz.prog 95 #[.pointer (some ⟨b, 0, none⟩)] w fun r w' => r = .returned (.tuple #[]) ∧ Moved w b s (skp s i) w' := by
  obtain ⟨c0, c1, f0, f1⟩ := h.two
  have hlt := h.lt
  have H := hid2 h
  have HR := hid2 (fun wx => run_at s i 4 hi hz wx)
  obtain ⟨j0, hj0⟩ : ∃ j, Hid (j = cls s 4 i) := ⟨_, rfl⟩
  rw [← hj0.out] at HR
  have hin := cls_in s 4 i hi
  rw [← hj0.out] at hin
  obtain ⟨fin, hfin⟩ : ∃ j, Hid (j = skp s i) := ⟨_, rfl⟩
  have hst : Hid ((if s.get! j0 = 35 then skp s (lineEnd s j0) else j0) = fin) := by
    show _ = _
    rw [hfin.out, skp_eq hi, hj0.out]
  rw [← hfin.out]
  have hv0 : Hid (Vd s j0) := by rw [hj0.out]; exact rn_vd _ _ hv
  clear h hj0 hv hfin
  go_enter Tryz.func95, Tryz.ntmps95
  go_wp2_with fail
  go_region_with (first | (go_at_call 114; refine Calls.mono (HR.out _) ?_; rintro r w1 ⟨rfl, b1⟩; obtain ⟨m1, l1⟩ := keepc b1 (p := ⟨b, 1, none⟩) (v := .int .i64 (i : Nat)) (by simp [go_sem, *]); have m2 := keepf b1 (p := ⟨b, 1, none⟩) (v := .int .i64 (i : Nat)) (by simp [go_sem, *]) (by simp [go_sem, *]); have B1 := hid2 b1; clear b1))
  all_goals have M : Hid (Moved w b s j0 (w1.setCell ⟨b, 1, none⟩ (.int .i64 (j0 : Nat)))) := moved_run H.out (below_on (Below.refl _ _).drew B1.out (Nat.le_refl _))
  all_goals generalize w1.setCell ⟨b, 1, none⟩ (.int .i64 (j0 : Nat)) = W at *
  all_goals clear m1 l1 m2 B1 c0 c1 f0 f1 HR H
  all_goals go_wp2_with fail
  all_goals go_loopw [] (fun wr => ∃ j : Nat, Hid (Moved w b s j wr) ∧ j ≤ s.size ∧ Hid (Vd s j) ∧ Hid ((if s.get! j = 35 then skp s (lineEnd s j) else j) = fin)) (fun wr => s.size - rdAt wr b)
  all_goals try exact ⟨j0, M, hin.2, hv0, hst⟩
  all_goals (
    obtain ⟨j, HM, hj, HV, HS⟩ := hrel
    have hrd := HM.out.rdr
    obtain ⟨c0, c1, f0, f1⟩ := hrd.two
    have hlt2 := hrd.lt
    have HAt := hid2 (rdAt_of hrd)
    have hs := fun wx => sl_l s j hj wx
    have HP := hid2 (fun wx => prefix_at s j hj 35 (by decide) wx)
    obtain ⟨a, bb, f, ha, hC⟩ := cut_line s j hj hz HV.out
    have HC := hid2 hC
    have HA := hid2 ha
    clear hC ha hst hv0 M hrd
    by_cases h35 : s.get! j = 35
    · have hl := line_past h35
      have HS2 := HS.out
      rw [if_pos h35, skp_eq hl.2] at HS2
      have HS3 := hid2 HS2
      have HR2 := hid2 (fun wx => run_at s (lineEnd s j) 4 hl.2 hz wx)
      have hb1 : (s.get! j == 35) = true := by rw [h35]; rfl
      rw [hb1] at HP
      have hv2 : Hid (Vd s (cls s 4 (lineEnd s j))) := rn_vd _ _ (rn_vd _ _ HV.out)
      have hc2 := cls_in s 4 (lineEnd s j) hl.2
      generalize hk2 : cls s 4 (lineEnd s j) = j2 at *
      clear hk2 HS2 h35 hb1 HS HV
      have he : (j : Int) + (a.size : Int) = ((lineEnd s j : Nat) : Int) := by rw [HA.out]; omega
      generalize lineEnd s j = le at *
      have hw1 : IntKind.i64.wrap ((j : Int) + (a.size : Int)) = (le : Int) := by rw [IntKind.wrap_i64]; omega
      rw [← hw1] at HR2
      clear he hw1
      go_wp2_with fail
      go_quiet (exact Calls.quiet_of_same (HP.out _))
      have q0 := drewN_b2 wr nq
      obtain ⟨W2, hW2⟩ : ∃ W2, W2 = wr.drewN nq := ⟨_, rfl⟩
      rw [← hW2] at q0 ⊢
      have HM2 := hid2 (HM.out.below q0)
      clear hW2 c0 c1 f0 f1
      obtain ⟨c0, c1, f0, f1⟩ := HM2.out.rdr.two
      go_wp2_with fail
      go_quiet (exact Calls.quiet_of (HC.out _))
      have q1 := drewN_b2 W2 nq
      obtain ⟨W3, hW3⟩ : ∃ W3, W3 = W2.drewN nq := ⟨_, rfl⟩
      rw [← hW3] at q1 ⊢
      have HM3 := hid2 (HM2.out.below q1)
      clear hW3 c0 c1 f0 f1 HM2 HM q0 q1 HC HP
      obtain ⟨c0, c1, f0, f1⟩ := HM3.out.rdr.two
      have hlt3 := HM3.out.rdr.lt
      go_wp2_with fail
      go_region_with (first | (go_at_call 114; refine Calls.mono (HR2.out _) ?_; rintro r w1 ⟨rfl, b1⟩; obtain ⟨m1, l1⟩ := keepc b1 (p := ⟨b, 1, none⟩) (v := .int .i64 (j : Nat)) (by simp [go_sem, *]); have m2 := keepf b1 (p := ⟨b, 1, none⟩) (v := .int .i64 (j : Nat)) (by simp [go_sem, *]) (by simp [go_sem, *]); have B1 := hid2 b1; clear b1))
      all_goals have M : Moved w b s j2 (w1.setCell ⟨b, 1, none⟩ (.int .i64 (j2 : Nat))) := HM3.out.trans (moved_run HM3.out.rdr (below_on (Below.refl _ _).drew B1.out (Nat.le_refl _)))
      all_goals go_wp2_with fail
      all_goals go_roundw
      all_goals first
        | exact ⟨j2, M, hc2.2, hv2, HS3⟩
        | (rw [rdAt_of M.rdr, HAt.out]; omega)
    · have hb1 : (s.get! j == 35) = false := beq_eq_false_iff_ne.2 h35
      rw [hb1] at HP
      have HS2 := HS.out
      rw [if_neg h35] at HS2
      subst HS2
      clear h35 hb1 HS HC HA
      go_wp2_with fail
      go_quiet (exact Calls.quiet_of_same (HP.out _))
      have q0 := drewN_b2 wr nq
      go_wp2_with fail
      go_end0
      exact ⟨rfl, HM.out.below q0⟩)
end Go.Proofs.YtecdfnpbcabdnaaGreatDoor
