/- Package lex: the reader; take, skip. Package lex: names and words, signs. Package num: digits. The library's Cut at a point. Package num: Read and Text. Package num: ReadSpan. Package lex: numbers and durations. Package lex: quoted texts and brackets. Package lex: signs. Package lex: the cuts, tried one behind the other. Package lex: all tokens; Cut. Package lex: Cut. Package lex: awake. LexBack: a row of bytes; two lists of tokens side by side. -/
import Derived.Test.YtalmagpikacafaaGreatDoorLxC
import Derived.Deep.RegionHeld3
import Derived.Test.YtalmagpikacafaaGreatDoorNuS
import Derived.Test.YtalmagpikacafaaGreatDoorProg
import Derived.Test.YtalmagpikacafaaGreatDoorBoxes
import Derived.WalkKit
import Derived.Test.YtalmagpikacafaaGreatDoorShelfI
import Derived.Lib.TrimByte
import Derived.Shelf.RegionOpenPlain
import Derived.Test.YtalmagpikacafaaGreatDoorScX
import Derived.Lib.AppendStr
import Derived.Laws.IdiomStrings
import Derived.Laws.BytesArg
section
namespace Go.Proofs.YtalmagpikacafaaGreatDoor
open Go.RowKit Go.Lib

/-- The block b is a reader of s that stands at i. -/
abbrev Rdr (w : World) (b : Nat) (s : ByteArray) (i : Nat) : Prop := Box w b [.string s, .int .i64 (i : Nat)]
theorem clone_c (x : ByteArray) (hx : x.size ≤ 1048576) (w : World) : Calls Tryz.prog 148 #[.string x] w fun e w' => e = .returned (.string x) ∧ Below w.heap.size w w' := by
  have C := fun wx => Go.Proofs.Tryz.stringslite_Clone x wx (by omega)
  go_enter Tryz.func148, Tryz.ntmps148
  go_wp2_with fail
  refine (C _).mono ?_
  rintro e w1 ⟨rfl, b1⟩
  go_wp2_with fail
  go_ret
  exact ⟨rfl, b1⟩
theorem keepc {w0 w1 : World} {p : Addr} {v : Value} (hb : Below w0.heap.size w0 w1) (hc : w0.cell? p = some v) : w1.cell? p = some v ∧ p.block < w1.heap.size :=
  have hl := World.block_lt_of_cell? w0 p hc
  ⟨(hb.cell hl).trans hc, Nat.lt_of_lt_of_le hl hb.size⟩
theorem keepf {w0 w1 : World} {p : Addr} {v : Value} (hb : Below w0.heap.size w0 w1) (hc : w0.cell? p = some v) (hf : w0.frozen? p = false) : w1.frozen? p = false := (hb.frozen (World.block_lt_of_cell? w0 p hc)).trans hf
def tkv (k : Int) (x : ByteArray) (n : Int) (i : Nat) : Value := .agg #[.int .i64 k, .string x, .int .i64 n, .int .i64 (i : Nat)]
/-- The reader stands elsewhere; of what was there nothing else has turned. -/
def Moved (w : World) (b : Nat) (s : ByteArray) (e : Nat) (w' : World) : Prop := Rdr w' b s e ∧ Turn [b] w w'
theorem moved_set {w w1 : World} {b i e : Nat} {s : ByteArray} (h : Rdr w b s i) (t : Below w.heap.size w w1) (w2 : World) (t2 : Below w.heap.size (w1.setCell ⟨b, 1, none⟩ (.int .i64 (e : Nat))) w2) : Moved w b s e w2 := by
  have h1 : Rdr w1 b s i := h.next t
  have h2 : Rdr (w1.setCell ⟨b, 1, none⟩ (.int .i64 (e : Nat))) b s e := h1.set 1 (by simp) _
  refine ⟨h2.later t2 h.lt, ?_⟩
  have t3 : Turn [b] w (w1.setCell ⟨b, 1, none⟩ (.int .i64 (e : Nat))) := (Turn.of_below t).andSet _ _ (.inl (by simp))
  exact ⟨t2.os.trans t3.os, t2.tape.trans t3.tape, t2.output.trans t3.output, Nat.le_trans t3.size t2.size, fun k hk hn => (t2.block k hk).trans (t3.block k hk hn)⟩
theorem below_four {s q : Nat} {w w' : World} (h : Below s w w') (hq : s ≤ q) (v0 v1 v2 v3 : Value) : Below s w ((((w'.setCell ⟨q, 0, none⟩ v0).setCell ⟨q, 1, none⟩ v1).setCell ⟨q, 2, none⟩ v2).setCell ⟨q, 3, none⟩ v3) :=
  ((((h.setCell hq _).setCell hq _).setCell hq _).setCell hq _)
set_option maxHeartbeats 2000000 in
theorem take_c (b i e : Nat) (s x : ByteArray) (k n : Int) (hx : x.size ≤ 1048576) (w : World) (h : Rdr w b s i) :
    Calls Tryz.prog 131 #[.pointer (some ⟨b, 0, none⟩), .int .i64 (e : Nat), .int .i64 k, .string x, .int .i64 n] w fun r w' => r = .returned (tkv k x n i) ∧ Moved w b s e w' := by
  obtain ⟨c0, c1, f0, f1⟩ := h.two
  have hlt := h.lt
  have HC := hid2 (fun wx => clone_c x hx wx)
  have H := hid2 h
  clear h
  go_enter Tryz.func131, Tryz.ntmps131
  go_wp2_with fail
  go_region_held3 (fun w' => w'.cell? ⟨b, 1, none⟩ = some (.int .i64 (i : Nat)) ∧ w'.frozen? ⟨b, 1, none⟩ = false) (simp [go_sem, *]) (first | (go_at_call 148; refine Calls.mono (HC.out _) ?_; rintro r w1 ⟨rfl, b1⟩; obtain ⟨m1, l1⟩ := keepc b1 (p := ⟨b, 1, none⟩) (v := .int .i64 (i : Nat)) (by simp [go_sem, *]); have m2 := keepf b1 (p := ⟨b, 1, none⟩) (v := .int .i64 (i : Nat)) (by simp [go_sem, *]) (by simp [go_sem, *]); have p0 := b1.cell (p := ⟨w.heap.size, 0, none⟩); simp [go_sem] at p0; have pf0 := b1.frozen (p := ⟨w.heap.size, 0, none⟩); simp [go_sem] at pf0; have p1 := b1.cell (p := ⟨w.heap.size, 1, none⟩); simp [go_sem] at p1; have pf1 := b1.frozen (p := ⟨w.heap.size, 1, none⟩); simp [go_sem] at pf1; have p2 := b1.cell (p := ⟨w.heap.size, 2, none⟩); simp [go_sem] at p2; have pf2 := b1.frozen (p := ⟨w.heap.size, 2, none⟩); simp [go_sem] at pf2; have p3 := b1.cell (p := ⟨w.heap.size, 3, none⟩); simp [go_sem] at p3; have pf3 := b1.frozen (p := ⟨w.heap.size, 3, none⟩); simp [go_sem] at pf3; have q0 := b1.cell (p := ⟨w.heap.size + 1, 0, none⟩); simp [go_sem] at q0; have qf0 := b1.frozen (p := ⟨w.heap.size + 1, 0, none⟩); simp [go_sem] at qf0; have q1 := b1.cell (p := ⟨w.heap.size + 1, 1, none⟩); simp [go_sem] at q1; have qf1 := b1.frozen (p := ⟨w.heap.size + 1, 1, none⟩); simp [go_sem] at qf1; have q2 := b1.cell (p := ⟨w.heap.size + 1, 2, none⟩); simp [go_sem] at q2; have qf2 := b1.frozen (p := ⟨w.heap.size + 1, 2, none⟩); simp [go_sem] at qf2; have q3 := b1.cell (p := ⟨w.heap.size + 1, 3, none⟩); simp [go_sem] at q3; have qf3 := b1.frozen (p := ⟨w.heap.size + 1, 3, none⟩); simp [go_sem] at qf3; have l2 : w.heap.size < w1.heap.size := (keepc b1 (p := ⟨w.heap.size, 0, none⟩) (v := .int .i64 0) (by simp [go_sem])).2; have l3 := b1.size; simp at l3; have n1 : b ≠ w.heap.size := (by omega); have n2 : b ≠ w.heap.size + 1 := (by omega); have n3 : w.heap.size ≠ b := (by omega); have n4 : w.heap.size + 1 ≠ b := (by omega); have n5 : b ≠ w1.heap.size := (by omega); have n6 : w.heap.size ≠ w1.heap.size := (by omega); have B1 := hid2 b1; clear b1))
  all_goals go_wp2_with fail
  all_goals refine bodyPost_ret (v := tkv k x n i) (by simp [results, Tryz.results131, go_sem, *]; rfl) rfl ⟨rfl, ?_⟩
  all_goals have t1 : Below w.heap.size w w1 := below_on (by first | exact ((Below.refl _ _).alloc (Nat.le_refl _) _).drew | exact ((Below.refl _ _).alloc (Nat.le_refl _) _).drew.alloc (by simp) _ | exact (((Below.refl _ _).alloc (Nat.le_refl _) _).alloc (by simp) _).drew) B1.out (by simp <;> omega)
  · refine moved_set H.out t1 _ ?_
    exact (below_four (Below.refl _ _) (Nat.le_refl _) _ _ _ _).alloc (by simp <;> omega) _
  · exact moved_set H.out (below_four t1 (Nat.le_add_right _ 1) (.int .i64 k) (.string x) (.int .i64 n) (.int .i64 (i : Nat))) _ <| below_four (Below.refl _ _) (Nat.le_refl _) _ _ _ _
theorem Moved.rdr {w w' : World} {b e : Nat} {s : ByteArray} (h : Moved w b s e w') : Rdr w' b s e := h.1
theorem Moved.trans {w w1 w2 : World} {b e e2 : Nat} {s : ByteArray} (h : Moved w b s e w1) (k : Moved w1 b s e2 w2) : Moved w b s e2 w2 := ⟨k.1, h.2.trans k.2 (fun _ hi => .inl hi)⟩
theorem Moved.below {w w1 w2 : World} {b e : Nat} {s : ByteArray} (h : Moved w b s e w1) (k : Below w1.heap.size w1 w2) : Moved w b s e w2 := ⟨h.1.next k, h.2.andBelow k⟩
theorem Moved.stay {w w1 : World} {b e : Nat} {s : ByteArray} (h : Rdr w b s e) (k : Below w.heap.size w w1) : Moved w b s e w1 := ⟨h.next k, Turn.of_below k⟩
/-- A run is gone over. -/
theorem moved_run {w w1 : World} {b i e : Nat} {s : ByteArray} (h : Rdr w b s i) (t : Below w.heap.size w w1) : Moved w b s e (w1.setCell ⟨b, 1, none⟩ (.int .i64 (e : Nat))) := moved_set h t _ (Below.refl _ _)
/-- Where it stands. -/
def rdAt (w : World) (b : Nat) : Nat := match w.cell? ⟨b, 1, none⟩ with
  | some (.int _ n) => n.toNat
  | _ => 0
theorem rdAt_of {w : World} {b i : Nat} {s : ByteArray} (h : Rdr w b s i) : rdAt w b = i := by
  unfold rdAt
  rw [h.two.2.1]
  exact Int.toNat_natCast i
set_option maxHeartbeats 3000000 in
theorem skip_c (b i : Nat) (s : ByteArray) (hi : i ≤ s.size) (hz : s.size ≤ 1048576) (hv : Vd s i) (w : World) (h : Rdr w b s i) :
    Calls Tryz.prog 112 #[.pointer (some ⟨b, 0, none⟩)] w fun r w' => r = .returned (.tuple #[]) ∧ Moved w b s (skp s i) w' := by
  obtain ⟨c0, c1, f0, f1⟩ := h.two
  have hlt := h.lt
  have H := hid2 h
  have HR := hid2 (fun wx => run_at s i 4 hi hz wx)
  obtain ⟨j0, hj0⟩ : ∃ j, Hid (j = cls s 4 i) := ⟨_, rfl⟩
  rw [← hj0.out] at HR
  have hin := cls_in s 4 i hi
  rw [← hj0.out] at hin
  obtain ⟨fin, hfin⟩ : ∃ j, Hid (j = skp s i) := ⟨_, rfl⟩
  have hst : Hid ((if s.get! j0 = 35 then skp s (lineEnd s j0) else j0) = fin) := by
    show _ = _
    rw [hfin.out, skp_eq hi, hj0.out]
  rw [← hfin.out]
  have hv0 : Hid (Vd s j0) := by rw [hj0.out]; exact rn_vd _ _ hv
  clear h hj0 hv hfin
  go_enter Tryz.func112, Tryz.ntmps112
  go_wp2_with fail
  go_region_with (first | (go_at_call 129; refine Calls.mono (HR.out _) ?_; rintro r w1 ⟨rfl, b1⟩; obtain ⟨m1, l1⟩ := keepc b1 (p := ⟨b, 1, none⟩) (v := .int .i64 (i : Nat)) (by simp [go_sem, *]); have m2 := keepf b1 (p := ⟨b, 1, none⟩) (v := .int .i64 (i : Nat)) (by simp [go_sem, *]) (by simp [go_sem, *]); have B1 := hid2 b1; clear b1))
  all_goals have M : Hid (Moved w b s j0 (w1.setCell ⟨b, 1, none⟩ (.int .i64 (j0 : Nat)))) := moved_run H.out (below_on (Below.refl _ _).drew B1.out (Nat.le_refl _))
  all_goals generalize w1.setCell ⟨b, 1, none⟩ (.int .i64 (j0 : Nat)) = W at *
  all_goals clear m1 l1 m2 B1 c0 c1 f0 f1 HR H
  all_goals go_wp2_with fail
  all_goals go_loopw [] (fun wr => ∃ j : Nat, Hid (Moved w b s j wr) ∧ j ≤ s.size ∧ Hid (Vd s j) ∧ Hid ((if s.get! j = 35 then skp s (lineEnd s j) else j) = fin)) (fun wr => s.size - rdAt wr b)
  all_goals try exact ⟨j0, M, hin.2, hv0, hst⟩
  all_goals (
    obtain ⟨j, HM, hj, HV, HS⟩ := hrel
    have hrd := HM.out.rdr
    obtain ⟨c0, c1, f0, f1⟩ := hrd.two
    have hlt2 := hrd.lt
    have HAt := hid2 (rdAt_of hrd)
    have hs := fun wx => sl_l s j hj wx
    have HP := hid2 (fun wx => prefix_at s j hj 35 (by decide) wx)
    obtain ⟨a, bb, f, ha, hC⟩ := cut_line s j hj hz HV.out
    have HC := hid2 hC
    have HA := hid2 ha
    clear hC ha hst hv0 M hrd
    by_cases h35 : s.get! j = 35
    · have hl := line_past h35
      have HS2 := HS.out
      rw [if_pos h35, skp_eq hl.2] at HS2
      have HS3 := hid2 HS2
      have HR2 := hid2 (fun wx => run_at s (lineEnd s j) 4 hl.2 hz wx)
      have hb1 : (s.get! j == 35) = true := by rw [h35]; rfl
      rw [hb1] at HP
      have hv2 : Hid (Vd s (cls s 4 (lineEnd s j))) := rn_vd _ _ (rn_vd _ _ HV.out)
      have hc2 := cls_in s 4 (lineEnd s j) hl.2
      generalize hk2 : cls s 4 (lineEnd s j) = j2 at *
      clear hk2 HS2 h35 hb1 HS HV
      have he : (j : Int) + (a.size : Int) = ((lineEnd s j : Nat) : Int) := by rw [HA.out]; omega
      generalize lineEnd s j = le at *
      have hw1 : IntKind.i64.wrap ((j : Int) + (a.size : Int)) = (le : Int) := by rw [IntKind.wrap_i64]; omega
      rw [← hw1] at HR2
      clear he hw1
      go_wp2_with fail
      go_quiet (exact Calls.quiet_of_same (HP.out _))
      have q0 := drewN_b2 wr nq
      obtain ⟨W2, hW2⟩ : ∃ W2, W2 = wr.drewN nq := ⟨_, rfl⟩
      rw [← hW2] at q0 ⊢
      have HM2 := hid2 (HM.out.below q0)
      clear hW2 c0 c1 f0 f1
      obtain ⟨c0, c1, f0, f1⟩ := HM2.out.rdr.two
      go_wp2_with fail
      go_quiet (exact Calls.quiet_of (HC.out _))
      have q1 := drewN_b2 W2 nq
      obtain ⟨W3, hW3⟩ : ∃ W3, W3 = W2.drewN nq := ⟨_, rfl⟩
      rw [← hW3] at q1 ⊢
      have HM3 := hid2 (HM2.out.below q1)
      clear hW3 c0 c1 f0 f1 HM2 HM q0 q1 HC HP
      obtain ⟨c0, c1, f0, f1⟩ := HM3.out.rdr.two
      have hlt3 := HM3.out.rdr.lt
      go_wp2_with fail
      go_region_with (first | (go_at_call 129; refine Calls.mono (HR2.out _) ?_; rintro r w1 ⟨rfl, b1⟩; obtain ⟨m1, l1⟩ := keepc b1 (p := ⟨b, 1, none⟩) (v := .int .i64 (j : Nat)) (by simp [go_sem, *]); have m2 := keepf b1 (p := ⟨b, 1, none⟩) (v := .int .i64 (j : Nat)) (by simp [go_sem, *]) (by simp [go_sem, *]); have B1 := hid2 b1; clear b1))
      all_goals have M : Moved w b s j2 (w1.setCell ⟨b, 1, none⟩ (.int .i64 (j2 : Nat))) := HM3.out.trans (moved_run HM3.out.rdr (below_on (Below.refl _ _).drew B1.out (Nat.le_refl _)))
      all_goals go_wp2_with fail
      all_goals go_roundw
      all_goals first
        | exact ⟨j2, M, hc2.2, hv2, HS3⟩
        | (rw [rdAt_of M.rdr, HAt.out]; omega)
    · have hb1 : (s.get! j == 35) = false := beq_eq_false_iff_ne.2 h35
      rw [hb1] at HP
      have HS2 := HS.out
      rw [if_neg h35] at HS2
      subst HS2
      clear h35 hb1 HS HC HA
      go_wp2_with fail
      go_quiet (exact Calls.quiet_of_same (HP.out _))
      have q0 := drewN_b2 wr nq
      go_wp2_with fail
      go_end0
      exact ⟨rfl, HM.out.below q0⟩)
end Go.Proofs.YtalmagpikacafaaGreatDoor
end
section
namespace Go.Proofs.YtalmagpikacafaaGreatDoor
open Go.RowKit Go.Lib

def tkV (t : Tk) : Value := .agg #[.int .i64 t.kind, .string t.text, .int .i64 t.n, .int .i64 (t.at_ : Nat)]
def noV : Value := .agg #[.int .i64 0, .string ⟨#[]⟩, .int .i64 0, .int .i64 0]
/-- What a cut answers: a token and gone over it, a fault, or nothing: then the reader stands where it stood. -/
def CutPost (w : World) (b : Nat) (s : ByteArray) (i : Nat) (own : Bool) (r : TR) (e : Ending) (w' : World) : Prop :=
  if own = true then
    match r with
    | .ok te => e = .returned (.tuple #[tkV te.1, .int .i64 0]) ∧ Moved w b s te.2 w'
    | .error k => e = .returned (.tuple #[noV, .int .i64 k]) ∧ Moved w b s i w'
  else e = .returned (.tuple #[noV, .int .i64 0]) ∧ Moved w b s i w'
theorem keep2 {w0 w1 : World} {b i : Nat} {s : ByteArray} (hb : Below w0.heap.size w0 w1) (h : Rdr w0 b s i) : w1.cell? ⟨b, 0, none⟩ = some (.string s) ∧ w1.cell? ⟨b, 1, none⟩ = some (.int .i64 (i : Nat)) ∧ w1.frozen? ⟨b, 0, none⟩ = false ∧ w1.frozen? ⟨b, 1, none⟩ = false := (h.next hb).two
/-- The name at a place is a name by itself. -/
theorem isN_cut {s : ByteArray} {i : Nat} (hi : i < s.size) (hv : Vd s i) (h1 : cls s 1 i ≠ i) : isN (s.extract i (cls s 3 i)) = (decide ((seg s (fun r => isC (r : Int) 3) i).length ≤ 32) && !(resv (s.extract i (cls s 3 i)).data.toList)) := by
  have hin := cls_in s 3 i (by omega)
  have hsz := size_cut s i (cls s 3 i) hin.2
  have hc := count_cut (fun r => isC (r : Int) 3) i (by omega) hv
  have hs := seg_cut (fun r => isC (r : Int) 3) i (cls s 3 i) hin.2 i (by omega) (Nat.le_refl _) rfl hv
  rw [Nat.sub_self] at hs
  have hy : isC ((Utf8.decode s i).1 : Int) 1 = true := by
    rcases cls_step (c := 1) hi with ⟨h, _⟩ | ⟨_, h⟩
    · exact absurd h h1
    · exact h
  have hy3 : isC ((Utf8.decode s i).1 : Int) 3 = true := by
    unfold isC at hy ⊢
    simp only [if_true, Int.reduceEq, if_false] at hy ⊢
    simp only [decide_eq_true_eq] at hy ⊢
    exact .inl hy
  have hp := seg_yes (p := fun r => isC (r : Int) 3) hi hy3
  have hall := seg_all s (fun r => isC (r : Int) 3) i
  generalize hT : s.extract i (cls s 3 i) = t at *
  have e3 : cls t 3 0 = t.size := by
    show rne t.size _ (rs t 0) = _
    rw [hs]
    generalize seg s (fun r => isC (r : Int) 3) i = L at *
    clear hp hs hc
    induction L with
    | nil => rfl
    | cons q r ih =>
      simp only [List.map_cons, rne]
      have := hall q List.mem_cons_self
      rw [if_pos this]
      exact ih (fun x hx => hall x (List.mem_cons_of_mem _ hx))
  have e1 : ¬ cls t 1 0 = 0 := by
    show ¬ rne t.size _ (rs t 0) = 0
    rw [hs, hp]
    simp only [List.map_cons, rne]
    rw [if_pos hy]
    intro e0
    have ht0 : 0 < t.size := by
      have := width_pos s i
      have hw := width_in s i hi
      have h3 : cls s 3 i = cls s 3 (i + (Utf8.decode s i).2) := rn_yes (p := fun r => isC (r : Int) 3) hi hy3
      have := cls_in s 3 _ hw
      omega
    have h5 : rs t 0 = ((Utf8.decode t 0).1, 0) :: rs t (0 + (Utf8.decode t 0).2) := rs_step ht0
    rw [hs, hp] at h5
    simp only [List.map_cons, List.cons.injEq] at h5
    rw [h5.2] at e0
    have hw := width_in t 0 ht0
    have := (rne_in (fun r => isC (r : Int) 1) t _ hw).1
    have := width_pos t 0
    omega
  unfold isN
  rw [decide_eq_false e1, decide_eq_true e3]
  rw [hc]
  rfl
abbrev zs : List Value := [.int .i64 0, .string ⟨#[]⟩, .int .i64 0, .int .i64 0]
/-- Inside of a cut: the reader, the place of the answer; nothing else has turned. -/
structure St (w W : World) (b i : Nat) (s : ByteArray) (vs : List Value) : Prop where
  rd : Rdr W b s i
  rb : Box W w.heap.size vs
  bel : Below w.heap.size w W
  lt : b < w.heap.size
theorem St.next {w W W' : World} {b i : Nat} {s : ByteArray} {vs : List Value} (h : St w W b i s vs) (k : Below W.heap.size W W') : St w W' b i s vs := ⟨h.rd.next k, h.rb.next k, below_on h.bel k h.bel.size, h.lt⟩
theorem St.made {w : World} {b i : Nat} {s : ByteArray} (h : Rdr w b s i) (t : TypeId) : St w (w.alloc (.cells zs.toArray t)) b i s zs := ⟨h.next ((Below.refl _ _).alloc (Nat.le_refl _) _), Box.new w zs t, (Below.refl _ _).alloc (Nat.le_refl _) _, h.lt⟩
theorem St.set {w W : World} {b i : Nat} {s : ByteArray} {u0 u1 u2 u3 : Value} (h : St w W b i s [u0, u1, u2, u3]) (v0 v1 v2 v3 : Value) : St w ((((W.setCell ⟨w.heap.size, 0, none⟩ v0).setCell ⟨w.heap.size, 1, none⟩ v1).setCell ⟨w.heap.size, 2, none⟩ v2).setCell ⟨w.heap.size, 3, none⟩ v3) b i s [v0, v1, v2, v3] := by
  have hn : b ≠ w.heap.size := by have := h.lt; omega
  exact ⟨((((h.rd.other hn).other hn).other hn).other hn), ((((h.rb.set 0 (by simp) v0).set 1 (by simp) v1).set 2 (by simp) v2).set 3 (by simp) v3), below_four h.bel (Nat.le_refl _) _ _ _ _, h.lt⟩
theorem St.stay {w W : World} {b i : Nat} {s : ByteArray} {vs : List Value} (h : St w W b i s vs) : Moved w b s i W := ⟨h.rd, Turn.of_below h.bel⟩
theorem St.took {w W w2 : World} {b i e : Nat} {s : ByteArray} {u0 u1 u2 u3 : Value} (h : St w W b i s [u0, u1, u2, u3]) (m : Moved W b s e w2) : Box w2 w.heap.size [u0, u1, u2, u3] ∧ ∀ v0 v1 v2 v3, Moved w b s e ((((w2.setCell ⟨w.heap.size, 0, none⟩ v0).setCell ⟨w.heap.size, 1, none⟩ v1).setCell ⟨w.heap.size, 2, none⟩ v2).setCell ⟨w.heap.size, 3, none⟩ v3) := by
  have hn : b ≠ w.heap.size := by have := h.lt; omega
  refine ⟨h.rb.turn m.2 (by simp; omega), fun v0 v1 v2 v3 => ?_⟩
  have t3 : Turn [b] w w2 := (Turn.of_below h.bel).trans m.2 (fun i hi => .inl hi)
  have t2 : Below w.heap.size w2 ((((w2.setCell ⟨w.heap.size, 0, none⟩ v0).setCell ⟨w.heap.size, 1, none⟩ v1).setCell ⟨w.heap.size, 2, none⟩ v2).setCell ⟨w.heap.size, 3, none⟩ v3) := below_four (Below.refl _ _) (Nat.le_refl _) _ _ _ _
  exact ⟨((((m.1.other hn).other hn).other hn).other hn), t2.os.trans t3.os, t2.tape.trans t3.tape, t2.output.trans t3.output, Nat.le_trans t3.size t2.size, fun k hk hn => (t2.block k hk).trans (t3.block k hk hn)⟩
set_option maxHeartbeats 4000000 in
theorem nameOrWord_c (b i : Nat) (s : ByteArray) (hi : i < s.size) (hz : s.size ≤ 1048576) (hv : Vd s i) (w : World) (h : Rdr w b s i) :
    Calls Tryz.prog 107 #[.pointer (some ⟨b, 0, none⟩)] w (CutPost w b s i (decide (cls s 1 i ≠ i)) (wordT s i)) := by
  have ST := hid2 (St.made h 51)
  have hlt := h.lt
  have hin := cls_in s 3 i (by omega)
  have R1 := hid2 (fun wx => run_at s i 1 (by omega) hz wx)
  have R3 := hid2 (fun wx => run_at s i 3 (by omega) hz wx)
  have hs := fun wx => sl_lh s i (cls s 3 i) hin.1 hin.2 wx
  have hxz : (s.extract i (cls s 3 i)).size ≤ 1048576 := by rw [size_cut s i _ hin.2]; omega
  have V := hid2 (fun wx => reserved_c (s.extract i (cls s 3 i)) wx)
  have N := hid2 (fun wx => isName_c (s.extract i (cls s 3 i)) (by omega) wx)
  have T := hid2 (fun (k : Int) w' (hw : Rdr w' b s i) => take_c b i (cls s 3 i) s (s.extract i (cls s 3 i)) k 0 hxz w' hw)
  have hnn := fun h1 => isN_cut hi hv h1
  by_cases h1 : cls s 1 i = i
  · rw [h1] at R1
    have hP : ∀ e w', e = Ending.returned (.tuple #[noV, .int .i64 0]) ∧ Moved w b s i w' → CutPost w b s i (decide (cls s 1 i ≠ i)) (wordT s i) e w' := fun e w' hh => by
      unfold CutPost
      rw [if_neg (by simp [h1])]
      exact hh
    refine Calls.mono ?_ hP
    clear hP h1 hnn T N V hxz hs R3 hin hv hi hz h
    go_enter Tryz.func107, Tryz.ntmps107
    go_wp2_with fail
    obtain ⟨c0, c1, f0, f1⟩ := ST.out.rd.two
    generalize w.alloc _ = W at *
    go_region_held3 (fun w' => w'.cell? ⟨b, 0, none⟩ = some (.string s) ∧ w'.cell? ⟨b, 1, none⟩ = some (.int .i64 (i : Nat))) (simp [go_sem, *]) (first | (go_at_call 129; refine Calls.mono (R1.out _) ?_; rintro r w1 ⟨rfl, b1⟩; have S1 := hid2 (ST.out.next (below_on (Below.refl _ _).drew b1 (Nat.le_refl _))); obtain ⟨m0, m1, _, _⟩ := S1.out.rd.two; obtain ⟨p0, p1, p2, p3, g0, g1, g2, g3⟩ := S1.out.rb.four; clear b1))
    go_wp2_with fail
    refine bodyPost_ret (v := .tuple #[noV, .int .i64 0]) (by simp [results, Tryz.results107, go_sem, *]; rfl) rfl ⟨rfl, ?_⟩
    exact (S1.out.set _ _ _ _).stay
  · have own : decide (cls s 1 i ≠ i) = true := by simp [h1]
    rw [own]
    replace hnn := hnn h1
    have hne : (((cls s 1 i : Nat) : Int) == (i : Int)) = false := beq_eq_false_iff_ne.2 (by omega)
    obtain ⟨tr, HWd⟩ : ∃ tr, Hid (tr = wordT s i) := ⟨_, rfl⟩
    rw [← HWd.out]
    unfold wordT at HWd
    generalize hx : s.extract i (cls s 3 i) = x at *
    generalize cls s 3 i = e at *
    generalize cls s 1 i = e1 at *
    generalize hrs : resv x.data.toList = rv at *
    generalize (seg s (fun r => isC (r : Int) 3) i).length = cn at *
    clear hx hrs own h1 hv
    cases rv with
    | true =>
      have hP : ∀ r w', r = Ending.returned (.tuple #[tkV ⟨6, x, 0, i⟩, .int .i64 0]) ∧ Moved w b s e w' → CutPost w b s i true tr r w' := fun r w' hh => by
        unfold CutPost
        rw [HWd.out]
        exact hh
      refine Calls.mono ?_ hP
      clear hP HWd N hnn
      go_enter Tryz.func107, Tryz.ntmps107
      go_wp2_with fail
      obtain ⟨c0, c1, f0, f1⟩ := ST.out.rd.two
      generalize w.alloc _ = W at *
      go_region_held3 (fun w' => w'.cell? ⟨b, 0, none⟩ = some (.string s) ∧ w'.cell? ⟨b, 1, none⟩ = some (.int .i64 (i : Nat))) (simp [go_sem, *]) (first | (go_at_call 129; refine Calls.mono (R1.out _) ?_; rintro r w1 ⟨rfl, b1⟩; have S1 := hid2 (ST.out.next (below_on (Below.refl _ _).drew b1 (Nat.le_refl _))); obtain ⟨m0, m1, _, _⟩ := S1.out.rd.two; obtain ⟨m2, m3, m4, m5, m6, m7, m8, m9⟩ := S1.out.rb.four; clear b1))
      clear c0 c1 f0 f1
      go_wp2_with fail
      go_region_held3 (fun w' => w'.cell? ⟨b, 0, none⟩ = some (.string s) ∧ w'.cell? ⟨b, 1, none⟩ = some (.int .i64 (i : Nat))) (simp [go_sem, *]) (first | (go_at_call 129; refine Calls.mono (R3.out _) ?_; rintro r w2 ⟨rfl, b1⟩; have S2 := hid2 (S1.out.next (below_on (Below.refl _ _).drew b1 (Nat.le_refl _))); obtain ⟨n0, n1, _, _⟩ := S2.out.rd.two; obtain ⟨n2, n3, n4, n5, n6, n7, n8, n9⟩ := S2.out.rb.four; clear b1))
      clear m0 m1 m2 m3 m4 m5 m6 m7 m8 m9
      go_wp2_with fail
      go_quiet (fail)
      have S3 := hid2 (S2.out.next (drewN_b2 w2 nq))
      generalize w2.drewN nq = W3 at *
      clear n0 n1 n2 n3 n4 n5 n6 n7 n8 n9
      go_wp2_with fail
      refine Calls.mono (V.out _) ?_
      rintro r w4 ⟨rfl, rfl⟩
      go_wp2_with fail
      refine Calls.mono (T.out 6 _ S3.out.rd) ?_
      rintro r w5 ⟨rfl, M5⟩
      obtain ⟨bx, fin⟩ := S3.out.took M5
      obtain ⟨p0, p1, p2, p3, g0, g1, g2, g3⟩ := bx.four
      have bl := bx.lt
      have FIN := hid2 fin
      clear bx fin M5
      unfold tkv
      go_wp2_with fail
      refine bodyPost_ret (v := .tuple #[tkV ⟨6, x, 0, i⟩, .int .i64 0]) (by simp [results, Tryz.results107, go_sem, *]; rfl) rfl ⟨rfl, ?_⟩
      exact FIN.out _ _ _ _
    | false =>
      by_cases hcn : cn ≤ 32
      · have hP : ∀ r w', r = Ending.returned (.tuple #[tkV ⟨1, x, 0, i⟩, .int .i64 0]) ∧ Moved w b s e w' → CutPost w b s i true tr r w' := fun r w' hh => by
          unfold CutPost
          rw [HWd.out]
          simp only [if_pos hcn]
          exact hh
        refine Calls.mono ?_ hP
        have hnt : isN x = true := by rw [hnn]; simp [hcn]
        rw [hnt] at N
        clear hP HWd hnn hnt hcn
        go_enter Tryz.func107, Tryz.ntmps107
        go_wp2_with fail
        obtain ⟨c0, c1, f0, f1⟩ := ST.out.rd.two
        generalize w.alloc _ = W at *
        go_region_held3 (fun w' => w'.cell? ⟨b, 0, none⟩ = some (.string s) ∧ w'.cell? ⟨b, 1, none⟩ = some (.int .i64 (i : Nat))) (simp [go_sem, *]) (first | (go_at_call 129; refine Calls.mono (R1.out _) ?_; rintro r w1 ⟨rfl, b1⟩; have S1 := hid2 (ST.out.next (below_on (Below.refl _ _).drew b1 (Nat.le_refl _))); obtain ⟨m0, m1, _, _⟩ := S1.out.rd.two; obtain ⟨m2, m3, m4, m5, m6, m7, m8, m9⟩ := S1.out.rb.four; clear b1))
        clear c0 c1 f0 f1
        go_wp2_with fail
        go_region_held3 (fun w' => w'.cell? ⟨b, 0, none⟩ = some (.string s) ∧ w'.cell? ⟨b, 1, none⟩ = some (.int .i64 (i : Nat))) (simp [go_sem, *]) (first | (go_at_call 129; refine Calls.mono (R3.out _) ?_; rintro r w2 ⟨rfl, b1⟩; have S2 := hid2 (S1.out.next (below_on (Below.refl _ _).drew b1 (Nat.le_refl _))); obtain ⟨n0, n1, _, _⟩ := S2.out.rd.two; obtain ⟨n2, n3, n4, n5, n6, n7, n8, n9⟩ := S2.out.rb.four; clear b1))
        clear m0 m1 m2 m3 m4 m5 m6 m7 m8 m9
        go_wp2_with fail
        go_quiet (fail)
        have S3 := hid2 (S2.out.next (drewN_b2 w2 nq))
        generalize w2.drewN nq = W3 at *
        clear n0 n1 n2 n3 n4 n5 n6 n7 n8 n9
        go_wp2_with fail
        refine Calls.mono (V.out _) ?_
        rintro r w4 ⟨rfl, rfl⟩
        go_wp2_with fail
        refine Calls.mono (N.out _) ?_
        rintro r w4 ⟨rfl, b4⟩
        have S4 := hid2 (S3.out.next b4)
        clear b4 S3
        go_wp2_with fail
        refine Calls.mono (T.out 1 _ S4.out.rd) ?_
        rintro r w5 ⟨rfl, M5⟩
        obtain ⟨bx, fin⟩ := S4.out.took M5
        obtain ⟨p0, p1, p2, p3, g0, g1, g2, g3⟩ := bx.four
        have bl := bx.lt
        have FIN := hid2 fin
        clear bx fin M5
        unfold tkv
        go_wp2_with fail
        refine bodyPost_ret (v := .tuple #[tkV ⟨1, x, 0, i⟩, .int .i64 0]) (by simp [results, Tryz.results107, go_sem, *]; rfl) rfl ⟨rfl, ?_⟩
        exact FIN.out _ _ _ _
      · have hP : ∀ r w', r = Ending.returned (.tuple #[noV, .int .i64 12]) ∧ Moved w b s i w' → CutPost w b s i true tr r w' := fun r w' hh => by
          unfold CutPost
          rw [HWd.out]
          simp only [if_neg hcn]
          exact hh
        refine Calls.mono ?_ hP
        have hnt : isN x = false := by rw [hnn]; simp [hcn]
        rw [hnt] at N
        clear hP HWd hnn hnt hcn
        go_enter Tryz.func107, Tryz.ntmps107
        go_wp2_with fail
        obtain ⟨c0, c1, f0, f1⟩ := ST.out.rd.two
        generalize w.alloc _ = W at *
        go_region_held3 (fun w' => w'.cell? ⟨b, 0, none⟩ = some (.string s) ∧ w'.cell? ⟨b, 1, none⟩ = some (.int .i64 (i : Nat))) (simp [go_sem, *]) (first | (go_at_call 129; refine Calls.mono (R1.out _) ?_; rintro r w1 ⟨rfl, b1⟩; have S1 := hid2 (ST.out.next (below_on (Below.refl _ _).drew b1 (Nat.le_refl _))); obtain ⟨m0, m1, _, _⟩ := S1.out.rd.two; obtain ⟨m2, m3, m4, m5, m6, m7, m8, m9⟩ := S1.out.rb.four; clear b1))
        clear c0 c1 f0 f1
        go_wp2_with fail
        go_region_held3 (fun w' => w'.cell? ⟨b, 0, none⟩ = some (.string s) ∧ w'.cell? ⟨b, 1, none⟩ = some (.int .i64 (i : Nat))) (simp [go_sem, *]) (first | (go_at_call 129; refine Calls.mono (R3.out _) ?_; rintro r w2 ⟨rfl, b1⟩; have S2 := hid2 (S1.out.next (below_on (Below.refl _ _).drew b1 (Nat.le_refl _))); obtain ⟨n0, n1, _, _⟩ := S2.out.rd.two; obtain ⟨n2, n3, n4, n5, n6, n7, n8, n9⟩ := S2.out.rb.four; clear b1))
        clear m0 m1 m2 m3 m4 m5 m6 m7 m8 m9
        go_wp2_with fail
        go_quiet (fail)
        have S3 := hid2 (S2.out.next (drewN_b2 w2 nq))
        generalize w2.drewN nq = W3 at *
        clear n0 n1 n2 n3 n4 n5 n6 n7 n8 n9
        go_wp2_with fail
        refine Calls.mono (V.out _) ?_
        rintro r w4 ⟨rfl, rfl⟩
        go_wp2_with fail
        refine Calls.mono (N.out _) ?_
        rintro r w4 ⟨rfl, b4⟩
        have S4 := hid2 (S3.out.next b4)
        clear b4 S3
        obtain ⟨p0, p1, p2, p3, g0, g1, g2, g3⟩ := S4.out.rb.four
        have bl := S4.out.rb.lt
        go_wp2_with fail
        refine bodyPost_ret (v := .tuple #[noV, .int .i64 12]) (by simp [results, Tryz.results107, go_sem, *]; rfl) rfl ⟨rfl, ?_⟩
        exact (S4.out.set _ _ _ _).stay
end Go.Proofs.YtalmagpikacafaaGreatDoor
end
section
namespace Go.Proofs.YtalmagpikacafaaGreatDoor
open Go.RowKit

abbrev strV (l : List UInt8) : Value := .string ⟨l.toArray⟩
theorem idx_at (l : List UInt8) (k : Nat) (h : k < l.length) (w : World) : (Instr.index 9 (strV l) (.int .i64 k)).run Tryz.prog w = .ok (.int .u8 (l[k].toNat : Nat)) w := by
  have hz : (ByteArray.mk l.toArray).size = l.length := by simp [ByteArray.size]
  rw [run_index_string w 9 ⟨l.toArray⟩ .i64 _ Tryz.underlying9, dif_pos ⟨by omega, by omega⟩]
  rfl
theorem isDigit_any (b : UInt8) (w : World) : Calls Tryz.prog 154 #[.int .u8 (b.toNat : Nat)] w fun e w' => e = .returned (.bool (isD b)) ∧ w = w' := by
  have h1 : isD b = (decide ((48 : Int) ≤ (b.toNat : Int)) && decide ((b.toNat : Int) ≤ 57)) := by
    unfold isD
    rw [Bool.eq_iff_iff]
    simp only [Bool.and_eq_true, decide_eq_true_eq]
    omega
  rw [h1]
  generalize (b.toNat : Int) = n
  clear h1
  go_enter Tryz.func154, Tryz.ntmps154
  go_wp2_with fail
  · go_ret
    refine ⟨?_, rfl⟩
    rw [decide_eq_true (by assumption : 48 ≤ n)]
    rfl
  · go_ret
    refine ⟨?_, rfl⟩
    rw [decide_eq_false (show ¬ 48 ≤ n by omega)]
    rfl
theorem all_drop (l : List UInt8) (k : Nat) (h : k < l.length) : (l.drop k).all isD = (isD l[k] && (l.drop (k + 1)).all isD) := by
  rw [List.drop_eq_getElem_cons h, List.all_cons]
theorem areDigits_any (l : List UInt8) (hz : l.length ≤ 281474976710656) (w : World) : Calls Tryz.prog 167 #[strV l] w fun e w' => e = .returned (.bool (l.all isD)) ∧ w = w' := by
  go_enter Tryz.func167, Tryz.ntmps167
  go_wp2_with fail
  go_loopw [6] (fun i wr => ∃ k : Nat, i = .int .i64 k ∧ k ≤ l.length ∧ Hid (l.all isD = (l.drop k).all isD) ∧ w = wr) (fun i _ => l.length - (intOf i).toNat)
  case atStart => exact ⟨0, rfl, Nat.zero_le _, (rfl : l.all isD = (l.drop 0).all isD), rfl⟩
  case round =>
    obtain ⟨k, rfl, hk, hl, rfl⟩ := hrel
    by_cases hlt : k < l.length
    · have hix := fun wx => idx_at l k hlt wx
      have hd := fun wx => isDigit_any l[k] wx
      have k1 : (k : Int) < (l.length : Int) := by omega
      have hs := all_drop l k hlt
      cases hb : isD l[k] with
      | true =>
        have hl2 : Hid (l.all isD = (l.drop (k + 1)).all isD) := by
          have := hl.out
          rw [hs, hb, Bool.true_and] at this
          exact this
        rw [hb] at hd
        clear hl hs hb
        generalize l[k] = b at *
        go_wp2_with fail
        refine (hd _).mono ?_
        rintro e w1 ⟨rfl, rfl⟩
        go_wp2_with fail
        go_roundw
        case rel => exact ⟨k + 1, by go_num, by omega, hl2, trivial⟩
        case measure => simp [intOf]; omega
      | false =>
        have hl2 : Hid (l.all isD = false) := by
          have := hl.out
          rw [hs, hb, Bool.false_and] at this
          exact this
        rw [hb] at hd
        clear hl hs hb
        generalize l[k] = b at *
        go_wp2_with fail
        refine (hd _).mono ?_
        rintro e w1 ⟨rfl, rfl⟩
        go_wp2_with fail
        go_ret
        exact ⟨by rw [hl2.out]; rfl, rfl⟩
    · have e : k = l.length := by omega
      subst e
      have hl2 : Hid (l.all isD = true) := by
        have := hl.out
        rw [List.drop_length] at this
        exact this
      clear hl hlt hk
      go_wp2_with fail
      go_ret
      exact ⟨by rw [hl2.out]; rfl, rfl⟩
theorem okP_eq (l : List UInt8) : okP l = (!decide (l = []) && (decide ((l.length : Int) ≤ 6) && l.all isD)) := by
  unfold okP
  rw [Bool.eq_iff_iff]
  simp only [Bool.and_eq_true, decide_eq_true_eq, Bool.not_eq_true', decide_eq_false_iff_not, and_assoc]
  constructor
  · rintro ⟨h1, h2, h3⟩; exact ⟨h1, by omega, h3⟩
  · rintro ⟨h1, h2, h3⟩; exact ⟨h1, by omega, h3⟩
theorem arePlaces_any (l : List UInt8) (hz : l.length ≤ 281474976710656) (w : World) : Calls Tryz.prog 152 #[strV l] w fun e w' => e = .returned (.bool (okP l)) ∧ w = w' := by
  have hd := areDigits_any l hz
  have he := okP_eq l
  generalize l.all isD = a at *
  generalize okP l = r at *
  cases l with
  | nil =>
    have HE : Hid _ := he
    clear he
    go_enter Tryz.func152, Tryz.ntmps152
    go_wp2_with fail
    go_ret
    exact ⟨by rw [HE.out]; rfl, rfl⟩
  | cons b t =>
    rw [decide_eq_false (by simp : ¬ b :: t = []), Bool.not_false, Bool.true_and] at he
    have q1 : (b :: t).isEmpty = false := rfl
    have q2 : ¬ (b :: t) = [] := by simp
    have HE : Hid _ := he
    clear he
    generalize b :: t = l at *
    go_enter Tryz.func152, Tryz.ntmps152
    go_wp2_with fail
    · refine (hd _).mono ?_
      rintro e w1 ⟨rfl, rfl⟩
      go_wp2_with fail
      go_ret
      exact ⟨by rw [HE.out, decide_eq_true (by assumption), Bool.true_and]; rfl, rfl⟩
    · go_ret
      exact ⟨by rw [HE.out, decide_eq_false (by omega), Bool.false_and]; rfl, rfl⟩
theorem head_at (l : List UInt8) (h : 0 < l.length) : l.head? = some l[0] := by
  cases l with
  | nil => simp at h
  | cons b t => rfl
theorem okW_eq (l : List UInt8) (h : 0 < l.length) : okW l = (decide ((l.length : Int) ≤ 13) && (l.all isD && (((l[0].toNat : Int) != 48) || decide ((l.length : Int) = 1)))) := by
  unfold okW
  rw [head_at l h, Bool.eq_iff_iff]
  have hn : l ≠ [] := fun e => by rw [e] at h; simp at h
  have q : (some l[0] ≠ some (48 : UInt8)) ↔ (l[0].toNat : Int) ≠ 48 := by
    rw [ne_eq, ne_eq, Option.some.injEq, ← UInt8.toNat_inj]
    have : (48 : UInt8).toNat = 48 := rfl
    omega
  simp only [Bool.and_eq_true, Bool.or_eq_true, decide_eq_true_eq, bne_iff_ne, and_assoc, q]
  constructor
  · rintro ⟨_, h2, h3, h4⟩; exact ⟨by omega, h3, h4.imp id (by omega)⟩
  · rintro ⟨h2, h3, h4⟩; exact ⟨hn, by omega, h3, h4.imp id (by omega)⟩
theorem isWhole_any (l : List UInt8) (hz : l.length ≤ 281474976710656) (w : World) : Calls Tryz.prog 151 #[strV l] w fun e w' => e = .returned (.bool (okW l)) ∧ w = w' := by
  have hd := areDigits_any l hz
  by_cases hn : l = []
  · subst hn
    have he : Hid (okW [] = false) := (rfl : okW [] = false)
    generalize okW [] = r at *
    go_enter Tryz.func151, Tryz.ntmps151
    go_wp2_with fail
    go_ret
    exact ⟨by rw [he.out]; rfl, rfl⟩
  · have h0 : 0 < l.length := by cases l with | nil => exact absurd rfl hn | cons _ _ => simp
    have he := okW_eq l h0
    have hix : ∀ wx, (Instr.index 9 (strV l) (.int .i64 0)).run Tryz.prog wx = .ok (.int .u8 (l[0].toNat : Nat)) wx := fun wx => idx_at l 0 h0 wx
    have q1 : l.isEmpty = false := by cases l with | nil => exact absurd rfl hn | cons _ _ => rfl
    generalize l.all isD = a at *
    generalize okW l = r at *
    generalize (l[0].toNat : Nat) = b at *
    have HE : Hid _ := he
    clear he
    go_enter Tryz.func151, Tryz.ntmps151
    go_wp2_with fail
    · go_ret
      exact ⟨by rw [HE.out, decide_eq_false (show ¬ (l.length : Int) ≤ 13 by omega), Bool.false_and]; rfl, rfl⟩
    · refine (hd _).mono ?_
      rintro e w1 ⟨rfl, rfl⟩
      have h13 : (l.length : Int) ≤ 13 := by assumption
      rw [decide_eq_true h13, Bool.true_and] at HE
      clear hd
      cases a with
      | false =>
        go_wp2_with fail
        go_ret
        exact ⟨by rw [HE.out]; rfl, rfl⟩
      | true =>
        by_cases hb : b = 48
        · subst hb
          go_wp2_with fail
          go_ret
          exact ⟨by rw [HE.out]; rfl, rfl⟩
        · have k2 : ((b : Int) != 48) = true := bne_iff_ne.2 (by omega)
          rw [k2] at HE
          go_wp2_with fail
          go_ret
          exact ⟨by rw [HE.out]; rfl, rfl⟩
theorem val_take_succ (L : List UInt8) (k : Nat) (h : k < L.length) : val (L.take (k + 1)) = val (L.take k) * 10 + (L[k].toNat - 48) := by
  rw [List.take_succ_eq_append_getElem h, val_snoc]
theorem val_take_bd (L : List UInt8) (h : L.all isD = true) (hl : L.length ≤ 13) (k : Nat) (hk : k < L.length) : val (L.take k) < 1000000000000 := by
  have ha : (L.take k).all isD = true := by
    rw [List.all_eq_true] at h ⊢
    exact fun x hx => h x (List.mem_of_mem_take hx)
  have h1 := val_lt _ ha
  have : 10 ^ (L.take k).length ≤ 10 ^ 12 := Nat.pow_le_pow_right (by decide) (by rw [List.length_take]; omega)
  have : 10 ^ 12 = 1000000000000 := by decide
  omega
theorem isD_at (l : List UInt8) (h : l.all isD = true) (k : Nat) (hk : k < l.length) : 48 ≤ l[k].toNat ∧ l[k].toNat ≤ 57 := isD_iff.1 (List.all_eq_true.1 h _ (List.getElem_mem hk))
theorem worth_any (l : List UInt8) (m : Nat) (ha : l.all isD = true) (hl : l.length ≤ 13) (hm : m ≤ 13) (w : World) :
    Calls Tryz.prog 153 #[strV l, .int .i64 m] w fun e w' => e = .returned (.int .u64 (val l * 10 ^ (m - l.length) : Nat)) ∧ w = w' := by
  have eL := val_pad l (m - l.length)
  rw [← eL]
  clear eL
  obtain ⟨L, hL⟩ : ∃ L, L = l ++ List.replicate (m - l.length) 48 := ⟨_, rfl⟩
  rw [← hL]
  have hlen : L.length = max l.length m := by rw [hL, List.length_append, List.length_replicate]; omega
  have haL : L.all isD = true := by
    rw [hL, List.all_append, ha, List.all_replicate]
    simp
    exact .inr (by decide)
  have hin : ∀ k (h : k < l.length) (h2 : k < L.length), L[k] = l[k] := by
    intro k h h2
    simp only [hL, List.getElem_append_left h]
  have hout : ∀ k (_ : ¬ k < l.length) (h2 : k < L.length), L[k] = 48 := by
    intro k h h2
    simp only [hL, List.getElem_append_right (by omega : l.length ≤ k), List.getElem_replicate]
  have HL : Hid _ := hL
  have HA : Hid _ := haL
  clear hL haL
  by_cases hlm : l.length < m
  · obtain rfl : m = L.length := by omega
    have hL13 : L.length ≤ 13 := hm
    clear hlen
    go_enter Tryz.func153, Tryz.ntmps153
    go_wp2_with fail
    go_loopw [5, 11] (fun n i wr => ∃ k : Nat, i = .int .i64 k ∧ k ≤ L.length ∧ n = .int .u64 (val (L.take k) : Nat) ∧ w = wr) (fun _ i _ => L.length - (intOf i).toNat)
    case atStart => exact ⟨0, rfl, Nat.zero_le _, rfl, rfl⟩
    case round =>
      obtain ⟨k, rfl, hk, rfl, rfl⟩ := hrel
      by_cases hlt : k < L.length
      · have hb := val_take_bd L HA.out (by omega) k hlt
        have hs := val_take_succ L k hlt
        have k1 : (k : Int) < (L.length : Int) := by omega
        by_cases hk2 : k < l.length
        · have hix := fun wx => idx_at l k hk2 wx
          have hd := isD_at l ha k hk2
          rw [hin k hk2 hlt] at hs
          generalize l[k].toNat = b at *
          generalize val (L.take k) = n at *
          have k2 : (k : Int) < (l.length : Int) := by omega
          have HS : Hid _ := hs
          clear hs hin hout
          go_wp2_with fail
          go_roundw
          case rel => exact ⟨k + 1, by go_num, by omega, by rw [HS.out]; go_num, trivial⟩
          case measure => simp [intOf]; omega
        · rw [hout k hk2 hlt] at hs
          generalize val (L.take k) = n at *
          have k2 : ¬ (k : Int) < (l.length : Int) := by omega
          have HS : Hid _ := hs
          clear hs hin hout
          go_wp2_with fail
          go_roundw
          case rel => exact ⟨k + 1, by go_num, by omega, by rw [HS.out]; go_num, trivial⟩
          case measure => simp [intOf]; omega
      · have e : k = L.length := by omega
        subst e
        have ev : L.take L.length = L := List.take_length
        rw [ev]
        clear ev hin hout
        go_wp2_with fail
        go_ret
        exact ⟨rfl, rfl⟩
  · have elL : L.length = l.length := by omega
    go_enter Tryz.func153, Tryz.ntmps153
    go_wp2_with fail
    go_loopw [5, 11] (fun n i wr => ∃ k : Nat, i = .int .i64 k ∧ k ≤ L.length ∧ n = .int .u64 (val (L.take k) : Nat) ∧ w = wr) (fun _ i _ => L.length - (intOf i).toNat)
    case atStart => exact ⟨0, rfl, Nat.zero_le _, rfl, rfl⟩
    case round =>
      obtain ⟨k, rfl, hk, rfl, rfl⟩ := hrel
      by_cases hlt : k < L.length
      · have hb := val_take_bd L HA.out (by omega) k hlt
        have hs := val_take_succ L k hlt
        have k1 : (k : Int) < (l.length : Int) := by omega
        by_cases hk2 : k < l.length
        · have hix := fun wx => idx_at l k hk2 wx
          have hd := isD_at l ha k hk2
          rw [hin k hk2 hlt] at hs
          generalize l[k].toNat = b at *
          generalize val (L.take k) = n at *
          have k2 : (k : Int) < (l.length : Int) := by omega
          have HS : Hid _ := hs
          clear hs hin hout
          go_wp2_with fail
          go_roundw
          case rel => exact ⟨k + 1, by go_num, by omega, by rw [HS.out]; go_num, trivial⟩
          case measure => simp [intOf]; omega
        · rw [hout k hk2 hlt] at hs
          generalize val (L.take k) = n at *
          have k2 : ¬ (k : Int) < (l.length : Int) := by omega
          have HS : Hid _ := hs
          clear hs hin hout
          go_wp2_with fail
          go_roundw
          case rel => exact ⟨k + 1, by go_num, by omega, by rw [HS.out]; go_num, trivial⟩
          case measure => simp [intOf]; omega
      · have e : k = L.length := by omega
        subst e
        have ev : L.take L.length = L := List.take_length
        rw [ev]
        clear ev hin hout
        go_wp2_with fail
        go_ret
        exact ⟨rfl, rfl⟩
end Go.Proofs.YtalmagpikacafaaGreatDoor
end
section
namespace Go.Proofs.YtalmagpikacafaaGreatDoor
open Go.RowKit Go.Lib

theorem drewN_b (w : World) (n : Nat) : Below w.heap.size w (w.drewN n) := ⟨rfl, rfl, rfl, Nat.le_refl _, fun _ _ => rfl⟩
theorem index_pt (l : List UInt8) : indexByte l 46 = if hasPt l = true then ((pre l).length : Int) else -1 := by
  induction l with
  | nil => rfl
  | cons b r ih =>
    unfold indexByte
    by_cases hb : b = 46
    · subst hb; rfl
    · have e1 : hasPt (b :: r) = hasPt r := by
        unfold hasPt
        rw [List.contains_cons, beq_eq_false_iff_ne.2 (fun e => hb e.symm), Bool.false_or]
      have e2 : pre (b :: r) = b :: pre r := by unfold pre; rw [List.takeWhile_cons, if_pos (bne_iff_ne.2 hb)]
      rw [e1, e2, ih, beq_eq_false_iff_ne.2 hb]
      by_cases h : hasPt r = true
      · rw [if_pos h, if_pos h, List.length_cons]
        have : (((pre r).length : Int) == -1) = false := beq_eq_false_iff_ne.2 (by omega)
        simp [this]
      · rw [if_neg h, if_neg h]; rfl
theorem pre_take (l : List UInt8) : l.take (pre l).length = pre l := by
  unfold pre
  have := List.takeWhile_append_dropWhile (p := (· != (46 : UInt8))) (l := l)
  conv => lhs; rw [← this]
  conv => lhs; lhs; rw [this]
  rw [List.take_left]
theorem pre_app2 (l : List UInt8) (h : ∀ b ∈ l, (b != 46) = true) : pre l = l := by
  have := List.takeWhile_append_of_pos (p := (· != (46 : UInt8))) (l₁ := l) (l₂ := []) h
  rw [List.append_nil] at this
  unfold pre
  rw [this]
  simp
theorem pre_all (l : List UInt8) (h : hasPt l = false) : pre l = l ∧ post l = [] := by
  have e : pre l = l := by
    have := pre_app2 l (fun b hb => bne_iff_ne.2 (fun e => by unfold hasPt at h; subst e; simp [hb] at h))
    exact this
  refine ⟨e, ?_⟩
  unfold post
  rw [e]
  simp
theorem pre_lt (l : List UInt8) (h : hasPt l = true) : (pre l).length + 1 ≤ l.length := by
  by_cases hc : (pre l).length < l.length
  · exact hc
  · exfalso
    have e := pre_take l
    rw [List.take_of_length_le (by omega)] at e
    unfold hasPt at h
    simp only [List.contains_eq_mem, decide_eq_true_eq] at h
    rw [e] at h
    unfold pre at h
    have key : ∀ m : List UInt8, (46 : UInt8) ∉ m.takeWhile (· != 46) := by
      intro m
      induction m with
      | nil => simp
      | cons b r ih =>
        rw [List.takeWhile_cons]
        split
        · rename_i hb
          intro hm
          rcases List.mem_cons.1 hm with rfl | hm
          · simp at hb
          · exact ih hm
        · simp
    exact key l h
theorem slice_h (l : List UInt8) (k : Nat) (h : k ≤ l.length) (w : World) : (Instr.slice 9 (strV l) none (some (.int .i64 k)) none).run Tryz.prog w = .ok (strV (l.take k)) w := by
  rw [run_slice_string_h w 9 ⟨l.toArray⟩ Tryz.underlying9 .i64 k (by omega) (by rw [Lib.size_mk]; omega), Lib.extract_mk]
  simp
theorem slice_l (l : List UInt8) (k : Nat) (h : k ≤ l.length) (w : World) : (Instr.slice 9 (strV l) (some (.int .i64 k)) none none).run Tryz.prog w = .ok (strV (l.drop k)) w := by
  rw [run_slice_string_l w 9 ⟨l.toArray⟩ Tryz.underlying9 .i64 k (by omega) (by rw [Lib.size_mk]; omega), Lib.extract_mk, Lib.size_mk, Int.toNat_natCast, List.take_of_length_le (by rw [List.length_drop]; omega)]
theorem slice_lh (l : List UInt8) (a b : Nat) (h : a ≤ b) (hb : b ≤ l.length) (w : World) : (Instr.slice 9 (strV l) (some (.int .i64 a)) (some (.int .i64 b)) none).run Tryz.prog w = .ok (strV ((l.drop a).take (b - a))) w := by
  rw [run_slice_string_if w 9 ⟨l.toArray⟩ .i64 .i64 a b Tryz.underlying9, if_pos ⟨by omega, by rw [Lib.size_mk]; omega⟩, if_pos ⟨by omega, by omega⟩, Lib.extract_mk]
  simp
/-- The library's Cut at a point. -/
def cutPost (l : List UInt8) (w : World) (e : Ending) (w' : World) : Prop := e = .returned (.tuple #[strV (pre l), strV (post l), .bool (hasPt l)]) ∧ Below w.heap.size w w'
theorem cut_in (l : List UInt8) (hz : l.length ≤ 281474976710656) (w : World) :
    Calls Tryz.prog 158 #[strV l, .string ⟨#[46]⟩] w (cutPost l w) := by
  have hI := fun wx => Go.Proofs.Tryz.stringslite_Index_one ⟨l.toArray⟩ 46 wx
  have ei : indexByte (ByteArray.mk l.toArray).data.toList 46 = if hasPt l = true then ((pre l).length : Int) else -1 := index_pt l
  cases hp : hasPt l with
  | true =>
    have hlt := pre_lt l hp
    have s1 := fun wx => slice_h l (pre l).length (by omega) wx
    have s2 := fun wx => slice_l l ((pre l).length + 1) hlt wx
    rw [pre_take] at s1
    rw [hp, if_pos rfl] at ei
    rw [ei] at hI
    have hq : ∀ e w', e = Ending.returned (.tuple #[strV (pre l), strV (l.drop ((pre l).length + 1)), .bool true]) ∧ Below w.heap.size w w' → cutPost l w e w' := by
      rintro e w' ⟨h1, h2⟩
      exact ⟨by rw [h1, hp]; rfl, h2⟩
    have e1 : (((pre l).length + 1 : Nat) : Int) = ((pre l).length : Int) + 1 := by omega
    rw [e1] at s2
    generalize l.drop ((pre l).length + 1) = po at *
    generalize (pre l).length = k at *
    generalize pre l = pr at *
    refine Calls.mono ?_ hq
    clear hq ei hp e1
    go_enter Tryz.func158, Tryz.ntmps158
    go_wp2_with fail
    refine (hI _).mono ?_
    rintro e w1 ⟨rfl, rfl⟩
    go_wp2_with fail
    go_quiet (fail)
    go_wp2_with fail
    go_ret3
    exact ⟨rfl, drewN_b _ _⟩
  | false =>
    rw [hp, if_neg (by simp)] at ei
    rw [ei] at hI
    obtain ⟨e1, e2⟩ := pre_all l hp
    have hq : ∀ e w', e = Ending.returned (.tuple #[strV l, strV [], .bool false]) ∧ Below w.heap.size w w' → cutPost l w e w' := by
      rintro e w' ⟨h1, h2⟩
      exact ⟨by rw [h1, hp, e1, e2], h2⟩
    refine Calls.mono ?_ hq
    clear hq ei hp e1 e2
    go_enter Tryz.func158, Tryz.ntmps158
    go_wp2_with fail
    refine (hI _).mono ?_
    rintro e w1 ⟨rfl, rfl⟩
    go_wp2_with fail
    go_ret3
    exact ⟨rfl, Below.refl _ _⟩
theorem cut_any (l : List UInt8) (hz : l.length ≤ 281474976710656) (w : World) :
    Calls Tryz.prog 138 #[strV l, .string ⟨#[46]⟩] w (cutPost l w) := by
  have h := cut_in l hz w
  have hq : ∀ e w', e = Ending.returned (.tuple #[strV (pre l), strV (post l), .bool (hasPt l)]) ∧ Below w.heap.size w w' → cutPost l w e w' := fun _ _ h => h
  refine Calls.mono ?_ hq
  unfold cutPost at h
  clear hq
  generalize pre l = p at *
  generalize post l = q at *
  generalize hasPt l = r at *
  go_enter Tryz.func138, Tryz.ntmps138
  go_wp2_with fail
  refine h.mono ?_
  rintro e w1 ⟨rfl, hb⟩
  go_wp2_with fail
  go_ret3
  exact ⟨rfl, hb⟩
end Go.Proofs.YtalmagpikacafaaGreatDoor
end
section
namespace Go.Proofs.YtalmagpikacafaaGreatDoor
open Go.RowKit Go.Lib

def readV (l : List UInt8) : Value := match readN l with
  | some v => .tuple #[.int .i64 (v : Nat), .int .i64 0]
  | none => .tuple #[.int .i64 0, .int .i64 13]
theorem readV_no {l : List UInt8} (h : readN l = none) : readV l = .tuple #[.int .i64 0, .int .i64 13] := by unfold readV; rw [h]
theorem readV_ok {l : List UInt8} {v : Nat} (h : readN l = some v) : readV l = .tuple #[.int .i64 (v : Nat), .int .i64 0] := by unfold readV; rw [h]
theorem post_len (l : List UInt8) : (post l).length ≤ l.length := by unfold post; rw [List.length_drop]; omega
theorem pre_len (l : List UInt8) : (pre l).length ≤ l.length := by rw [← pre_take l, List.length_take]; omega
theorem okP_parts {p : List UInt8} (h : okP p = true) : p.length ≤ 6 ∧ p.all isD = true := by
  unfold okP at h
  simp only [Bool.and_eq_true, decide_eq_true_eq] at h
  exact ⟨h.1.2, h.2⟩
theorem okW_parts {p : List UInt8} (h : okW p = true) : p.length ≤ 13 ∧ p.all isD = true := by
  unfold okW at h
  simp only [Bool.and_eq_true, decide_eq_true_eq] at h
  exact ⟨h.1.1.2, h.1.2⟩
theorem Read_num (l : List UInt8) (w : World) (pr po : List UInt8) (pt : Bool) (cut : ∀ wx, Calls Tryz.prog 138 #[strV l, .string ⟨#[46]⟩] wx fun e w' => e = .returned (.tuple #[strV pr, strV po, .bool pt]) ∧ Below wx.heap.size wx w')
    (hw : ∀ wx, Calls Tryz.prog 151 #[strV pr] wx fun e w' => e = .returned (.bool true) ∧ wx = w') (hp : pt = true → ∀ wx, Calls Tryz.prog 152 #[strV po] wx fun e w' => e = .returned (.bool true) ∧ wx = w')
    (a b : Nat) (ha : ∀ wx, Calls Tryz.prog 153 #[strV pr, .int .i64 0] wx fun e w' => e = .returned (.int .u64 a) ∧ wx = w') (hb : ∀ wx, Calls Tryz.prog 153 #[strV po, .int .i64 6] wx fun e w' => e = .returned (.int .u64 b) ∧ wx = w')
    (ba : a < 10000000000000) (bb : b < 1000000) :
    Calls Tryz.prog 134 #[strV l] w fun e w' => e = .returned (if a * 1000000 + b < 9223372036854775808 then .tuple #[.int .i64 (a * 1000000 + b : Nat), .int .i64 0] else .tuple #[.int .i64 0, .int .i64 13]) ∧ Below w.heap.size w w' := by
  have cut := cut w
  by_cases hlt : a * 1000000 + b < 9223372036854775808
  · rw [if_pos hlt]
    go_enter Tryz.func134, Tryz.ntmps134
    go_wp2_with fail
    refine cut.mono ?_
    rintro e w1 ⟨rfl, h1⟩
    cases pt with
    | false =>
      go_wp2_with fail
      refine (hw _).mono ?_
      rintro e w2 ⟨rfl, rfl⟩
      go_wp2_with fail
      refine (ha _).mono ?_
      rintro e w2 ⟨rfl, rfl⟩
      go_wp2_with fail
      refine (hb _).mono ?_
      rintro e w2 ⟨rfl, rfl⟩
      go_wp2_with fail
      go_ret2
      exact ⟨rfl, h1⟩
    | true =>
      replace hp := hp rfl
      go_wp2_with fail
      refine (hw _).mono ?_
      rintro e w2 ⟨rfl, rfl⟩
      go_wp2_with fail
      refine (hp _).mono ?_
      rintro e w2 ⟨rfl, rfl⟩
      go_wp2_with fail
      refine (ha _).mono ?_
      rintro e w2 ⟨rfl, rfl⟩
      go_wp2_with fail
      refine (hb _).mono ?_
      rintro e w2 ⟨rfl, rfl⟩
      go_wp2_with fail
      go_ret2
      exact ⟨rfl, h1⟩
  · rw [if_neg hlt]
    go_enter Tryz.func134, Tryz.ntmps134
    go_wp2_with fail
    refine cut.mono ?_
    rintro e w1 ⟨rfl, h1⟩
    cases pt with
    | false =>
      go_wp2_with fail
      refine (hw _).mono ?_
      rintro e w2 ⟨rfl, rfl⟩
      go_wp2_with fail
      refine (ha _).mono ?_
      rintro e w2 ⟨rfl, rfl⟩
      go_wp2_with fail
      refine (hb _).mono ?_
      rintro e w2 ⟨rfl, rfl⟩
      go_wp2_with fail
      go_ret2
      exact ⟨rfl, h1⟩
    | true =>
      replace hp := hp rfl
      go_wp2_with fail
      refine (hw _).mono ?_
      rintro e w2 ⟨rfl, rfl⟩
      go_wp2_with fail
      refine (hp _).mono ?_
      rintro e w2 ⟨rfl, rfl⟩
      go_wp2_with fail
      refine (ha _).mono ?_
      rintro e w2 ⟨rfl, rfl⟩
      go_wp2_with fail
      refine (hb _).mono ?_
      rintro e w2 ⟨rfl, rfl⟩
      go_wp2_with fail
      go_ret2
      exact ⟨rfl, h1⟩
theorem Read_any (l : List UInt8) (hz : l.length ≤ 281474976710656) (w : World) :
    Calls Tryz.prog 134 #[strV l] w fun e w' => e = .returned (readV l) ∧ Below w.heap.size w w' := by
  have cut := fun wx => cut_any l hz wx
  have z1 := post_len l
  have z2 := pre_len l
  have hw := isWhole_any (pre l) (by omega)
  have hp := arePlaces_any (post l) (by omega)
  by_cases h : okW (pre l) = true ∧ (hasPt l = true → okP (post l) = true)
  · obtain ⟨a1, a2⟩ := okW_parts h.1
    have pp : (post l).length ≤ 6 ∧ (post l).all isD = true := by
      cases hh : hasPt l with
      | true => exact okP_parts (h.2 hh)
      | false => rw [(pre_all l hh).2]; exact ⟨by simp, rfl⟩
    have wa := worth_any (pre l) 0 a2 a1 (by omega)
    have wb := worth_any (post l) 6 pp.2 (by omega) (by omega)
    rw [show 0 - (pre l).length = 0 by omega, Nat.pow_zero, Nat.mul_one] at wa
    have ba : val (pre l) < 10000000000000 := by
      have := val_lt _ a2
      have : 10 ^ (pre l).length ≤ 10 ^ 13 := Nat.pow_le_pow_right (by decide) a1
      have : 10 ^ 13 = 10000000000000 := by decide
      omega
    have bb : val (post l) * 10 ^ (6 - (post l).length) < 1000000 := by
      have := val_lt _ pp.2
      have e6 : 10 ^ (post l).length * 10 ^ (6 - (post l).length) = 1000000 := by rw [← Nat.pow_add, show (post l).length + (6 - (post l).length) = 6 by omega]
      have : val (post l) * 10 ^ (6 - (post l).length) < 10 ^ (post l).length * 10 ^ (6 - (post l).length) := Nat.mul_lt_mul_of_pos_right this (Nat.pow_pos (by decide))
      omega
    refine (Read_num l w (pre l) (post l) (hasPt l) cut (by rw [h.1] at hw; exact hw) (fun hh => by rw [h.2 hh] at hp; exact hp) _ _ wa wb ba bb).mono ?_
    rintro e w' ⟨rfl, hb⟩
    refine ⟨?_, hb⟩
    have er : readN l = lim (sizeN (pre l) (post l)) := if_pos h
    unfold readV
    rw [er]
    unfold lim sizeN
    split
    · rfl
    · rfl
  · have er : readV l = .tuple #[.int .i64 0, .int .i64 13] := readV_no (if_neg h)
    rw [er]
    unfold cutPost at cut
    have cut := cut w
    clear er
    by_cases hW : okW (pre l) = true
    · have hP : hasPt l = true ∧ okP (post l) = false := by
        cases h1 : hasPt l with
        | false => exact absurd ⟨hW, fun hh => by rw [h1] at hh; cases hh⟩ h
        | true =>
          refine ⟨rfl, ?_⟩
          cases h2 : okP (post l) with
          | false => rfl
          | true => exact absurd ⟨hW, fun _ => h2⟩ h
      rw [hP.2] at hp
      rw [hP.1] at cut
      rw [hW] at hw
      clear hP hW h z1 z2
      generalize pre l = pr at *
      generalize post l = po at *
      go_enter Tryz.func134, Tryz.ntmps134
      go_wp2_with fail
      refine cut.mono ?_
      rintro e w1 ⟨rfl, h1⟩
      go_wp2_with fail
      refine (hw _).mono ?_
      rintro e w2 ⟨rfl, rfl⟩
      go_wp2_with fail
      refine (hp _).mono ?_
      rintro e w2 ⟨rfl, rfl⟩
      go_wp2_with fail
      go_ret2
      exact ⟨rfl, h1⟩
    · have hW : okW (pre l) = false := by simpa using hW
      rw [hW] at hw
      clear hW h z1 z2 hp
      generalize pre l = pr at *
      generalize post l = po at *
      generalize hasPt l = pt at *
      go_enter Tryz.func134, Tryz.ntmps134
      go_wp2_with fail
      refine cut.mono ?_
      rintro e w1 ⟨rfl, h1⟩
      go_wp2_with fail
      refine (hw _).mono ?_
      rintro e w2 ⟨rfl, rfl⟩
      go_wp2_with fail
      go_ret2
      exact ⟨rfl, h1⟩
end Go.Proofs.YtalmagpikacafaaGreatDoor
end
section
namespace Go.Proofs.YtalmagpikacafaaGreatDoor
open Go.RowKit Go.Lib

def partV (n nx : Nat) : Value := match part n nx with
  | some j => .tuple #[.int .i64 (wrt j : Nat), .int .i64 (wrt (j + 1) : Nat)]
  | none => .tuple #[.int .i64 0, .int .i64 0]
theorem partOf_any (n nx : Nat) (hx : nx ≤ 4) (w : World) :
    Calls Tryz.prog 155 #[.int .u8 (n : Nat), .int .i64 (wrt nx : Nat)] w fun e w' => e = .returned (partV n nx) ∧ w = w' := by
  have h0 : partV n 0 = if n = 100 then .tuple #[.int .i64 86400, .int .i64 3600] else partV n 1 := by
    by_cases h : n = 100
    · subst h; rfl
    · rw [if_neg h]; unfold partV; rw [part_miss n 0 (by decide) h]
  have h1 : partV n 1 = if n = 104 then .tuple #[.int .i64 3600, .int .i64 60] else partV n 2 := by
    by_cases h : n = 104
    · subst h; rfl
    · rw [if_neg h]; unfold partV; rw [part_miss n 1 (by decide) h]
  have h2 : partV n 2 = if n = 109 then .tuple #[.int .i64 60, .int .i64 1] else partV n 3 := by
    by_cases h : n = 109
    · subst h; rfl
    · rw [if_neg h]; unfold partV; rw [part_miss n 2 (by decide) h]
  have h3 : partV n 3 = if n = 115 then .tuple #[.int .i64 1, .int .i64 0] else partV n 4 := by
    by_cases h : n = 115
    · subst h; rfl
    · rw [if_neg h]; unfold partV; rw [part_miss n 3 (by decide) h]
  have h4 : partV n 4 = .tuple #[.int .i64 0, .int .i64 0] := by unfold partV; rw [part_four n 4 (by decide)]
  rw [h4] at h3
  rw [h3] at h2
  rw [h2] at h1
  rw [h1] at h0
  rcases (show nx = 0 ∨ nx = 1 ∨ nx = 2 ∨ nx = 3 ∨ nx = 4 by omega) with rfl | rfl | rfl | rfl | rfl
  · generalize partV n 0 = v at *
    have HV : Hid _ := h0
    clear h0 h1 h2 h3 h4 hx
    simp only [wrt]
    go_enter Tryz.func155, Tryz.ntmps155
    go_wp2_with fail
    all_goals
      go_ret2
      refine ⟨?_, rfl⟩
      rw [HV.out]
      simp only [beq_iff_eq, beq_eq_false_iff_ne, ne_eq] at *
      repeat first | rw [if_pos (by omega)] | rw [if_neg (by omega)]
      rfl
  · generalize partV n 1 = v at *
    have HV : Hid _ := h1
    clear h0 h1 h2 h3 h4 hx
    simp only [wrt]
    go_enter Tryz.func155, Tryz.ntmps155
    go_wp2_with fail
    all_goals
      go_ret2
      refine ⟨?_, rfl⟩
      rw [HV.out]
      simp only [beq_iff_eq, beq_eq_false_iff_ne, ne_eq] at *
      repeat first | rw [if_pos (by omega)] | rw [if_neg (by omega)]
      rfl
  · generalize partV n 2 = v at *
    have HV : Hid _ := h2
    clear h0 h1 h2 h3 h4 hx
    simp only [wrt]
    go_enter Tryz.func155, Tryz.ntmps155
    go_wp2_with fail
    all_goals
      go_ret2
      refine ⟨?_, rfl⟩
      rw [HV.out]
      simp only [beq_iff_eq, beq_eq_false_iff_ne, ne_eq] at *
      repeat first | rw [if_pos (by omega)] | rw [if_neg (by omega)]
      rfl
  · generalize partV n 3 = v at *
    have HV : Hid _ := h3
    clear h0 h1 h2 h3 h4 hx
    simp only [wrt]
    go_enter Tryz.func155, Tryz.ntmps155
    go_wp2_with fail
    all_goals
      go_ret2
      refine ⟨?_, rfl⟩
      rw [HV.out]
      simp only [beq_iff_eq, beq_eq_false_iff_ne, ne_eq] at *
      repeat first | rw [if_pos (by omega)] | rw [if_neg (by omega)]
      rfl
  · rw [h4]
    clear h0 h1 h2 h3 h4 hx
    simp only [wrt]
    go_enter Tryz.func155, Tryz.ntmps155
    go_wp2_with fail
    go_ret2
    exact ⟨rfl, rfl⟩
def spanR (l : List UInt8) : Value := match spanN l with
  | some v => .tuple #[.int .i64 (v : Nat), .int .i64 0]
  | none => .tuple #[.int .i64 0, .int .i64 13]
theorem spanR_no {l : List UInt8} (h : spanN l = none) : spanR l = .tuple #[.int .i64 0, .int .i64 13] := by unfold spanR; rw [h]
theorem spanR_ok {l : List UInt8} {v : Nat} (h : spanN l = some v) : spanR l = .tuple #[.int .i64 (v : Nat), .int .i64 0] := by unfold spanR; rw [h]
/-- Where the reading stands. -/
structure At10 (l : List UInt8) (k sm cn nx : Nat) : Prop where
  x : nx ≤ 4
  c : cn ≤ 999999
  s : sm ≤ nx * 86399913600
  e : spanN l = sp sm cn nx (l.drop k)
theorem At10.cons {l : List UInt8} {k sm cn nx : Nat} (h : At10 l k sm cn nx) (hk : k < l.length) : spanN l = sp sm cn nx (l[k] :: l.drop (k + 1)) := by
  rw [h.e, ← List.drop_eq_getElem_cons hk]
theorem At10.dig {l : List UInt8} {k sm cn nx : Nat} (h : At10 l k sm cn nx) (hk : k < l.length) (hd : isD l[k] = true) (h0 : ¬ (vstep cn l[k] = 0 ∨ 999999 < vstep cn l[k])) : At10 l (k + 1) sm (vstep cn l[k]) nx :=
  ⟨h.x, by omega, h.s, by rw [h.cons hk, sp_dig _ _ _ _ _ hd, if_neg h0]⟩
theorem At10.digNo {l : List UInt8} {k sm cn nx : Nat} (h : At10 l k sm cn nx) (hk : k < l.length) (hd : isD l[k] = true) (h0 : vstep cn l[k] = 0 ∨ 999999 < vstep cn l[k]) : spanR l = .tuple #[.int .i64 0, .int .i64 13] :=
  spanR_no (by rw [h.cons hk, sp_dig _ _ _ _ _ hd, if_pos h0])
theorem At10.no {l : List UInt8} {k sm cn nx : Nat} (h : At10 l k sm cn nx) (hk : k < l.length) (hd : isD l[k] = false) (hp : part l[k].toNat nx = none ∨ cn = 0) : spanR l = .tuple #[.int .i64 0, .int .i64 13] :=
  spanR_no (by rw [h.cons hk, sp_no _ _ _ _ _ hd hp])
theorem At10.part {l : List UInt8} {k sm cn nx j : Nat} (h : At10 l k sm cn nx) (hk : k < l.length) (hd : isD l[k] = false) (hp : part l[k].toNat nx = some j) (hc : cn ≠ 0) : At10 l (k + 1) (sm + cn * wrt j) 0 (j + 1) := by
  obtain ⟨h1, h2, _⟩ := part_some hp
  have h3 : cn * wrt j ≤ 999999 * 86400 := Nat.mul_le_mul h.c (wrt_le j)
  have h4 := h.s
  have h5 : nx * 86399913600 ≤ j * 86399913600 := Nat.mul_le_mul_right _ h1
  exact ⟨by omega, by omega, by omega, by rw [h.cons hk, sp_part _ _ _ _ _ _ hd hp hc]⟩
theorem At10.end_no {l : List UInt8} {sm cn nx : Nat} (h : At10 l l.length sm cn nx) (hc : ¬ (cn = 0 ∧ 1 ≤ sm ∧ sm ≤ 604800)) : spanR l = .tuple #[.int .i64 0, .int .i64 13] :=
  spanR_no (by rw [h.e, List.drop_length, sp_nil, if_neg hc])
theorem At10.end_ok {l : List UInt8} {sm cn nx : Nat} (h : At10 l l.length sm cn nx) (hc : cn = 0 ∧ 1 ≤ sm ∧ sm ≤ 604800) : spanR l = .tuple #[.int .i64 (sm : Nat), .int .i64 0] :=
  spanR_ok (by rw [h.e, List.drop_length, sp_nil, if_pos hc])
theorem partV_some {n nx j : Nat} (h : part n nx = some j) : partV n nx = .tuple #[.int .i64 (wrt j : Nat), .int .i64 (wrt (j + 1) : Nat)] := by unfold partV; rw [h]
theorem partV_none {n nx : Nat} (h : part n nx = none) : partV n nx = .tuple #[.int .i64 0, .int .i64 0] := by unfold partV; rw [h]
theorem wrt_pos (j : Nat) (h : j < 4) : 1 ≤ wrt j := by rcases four h with rfl | rfl | rfl | rfl <;> decide

set_option maxHeartbeats 4000000 in
theorem ReadSpan_any (l : List UInt8) (hz : l.length ≤ 281474976710656) (w : World) :
    Calls Tryz.prog 135 #[strV l] w fun e w' => e = .returned (spanR l) ∧ w = w' := by
  go_enter Tryz.func135, Tryz.ntmps135
  go_wp2_with fail
  go_loopw [4, 5, 6, 12] (fun s c n i wr => ∃ k sm cn nx : Nat, s = .int .i64 sm ∧ c = .int .i64 cn ∧ n = .int .i64 (wrt nx : Nat) ∧ i = .int .i64 k ∧ k ≤ l.length ∧ Hid (At10 l k sm cn nx) ∧ w = wr) (fun _ _ _ i _ => l.length - (intOf i).toNat)
  case atStart => exact ⟨0, 0, 0, 0, rfl, rfl, rfl, rfl, Nat.zero_le _, (⟨by decide, by decide, by decide, rfl⟩ : At10 l 0 0 0 0), rfl⟩
  case round =>
    obtain ⟨k, sm, cn, nx, rfl, rfl, rfl, rfl, hk, hA, rfl⟩ := hrel
    have bc := hA.out.c
    have bx := hA.out.x
    have bs : sm ≤ 345599654400 := by
      have h1 := hA.out.s
      have : nx * 86399913600 ≤ 4 * 86399913600 := Nat.mul_le_mul_right _ bx
      omega
    by_cases hlt : k < l.length
    · have hix := fun wx => idx_at l k hlt wx
      have hd := fun wx => isDigit_any l[k] wx
      have k1 : (k : Int) < (l.length : Int) := by omega
      have q1 := hA.out.dig hlt
      have q2 := hA.out.digNo hlt
      have q3 := fun a b => hA.out.no hlt a b
      have q4 := fun j a b c => hA.out.part (j := j) hlt a b c
      have hp := fun wx => partOf_any l[k].toNat nx bx wx
      cases hb : isD l[k] with
      | true =>
        rw [hb] at hd
        have dg := isD_iff.1 hb
        replace q1 := q1 hb
        replace q2 := q2 hb
        clear q3 q4 hp hb
        have ev : vstep cn l[k] = cn * 10 + (l[k].toNat - 48) := rfl
        generalize vstep cn l[k] = c2 at *
        generalize l[k].toNat = b at *
        generalize hX : wrt nx = X at *
        have HX : Hid _ := hX
        clear hX
        have h1 : (cn : Int) * 10 + ((b : Int) - 48) = c2 := by omega
        by_cases h0 : c2 = 0
        · have HQ : Hid _ := q2 (.inl h0)
          have h2 : (c2 : Int) = 0 := by omega
          have HE : Hid _ := ev
          clear q1 q2 h0 ev
          go_wp2_with fail
          refine (hd _).mono ?_
          rintro e w1 ⟨rfl, rfl⟩
          go_wp2_with fail
          go_ret2
          exact ⟨by rw [HQ.out]; rfl, rfl⟩
        · have h2 : ((c2 : Int) == 0) = false := beq_eq_false_iff_ne.2 (by omega)
          by_cases h3 : 999999 < c2
          · have HQ : Hid _ := q2 (.inr h3)
            have h4 : (999999 : Int) < (c2 : Int) := by omega
            have HE : Hid _ := ev
            clear q1 q2 h0 ev h3
            go_wp2_with fail
            refine (hd _).mono ?_
            rintro e w1 ⟨rfl, rfl⟩
            go_wp2_with fail
            go_ret2
            exact ⟨by rw [HQ.out]; rfl, rfl⟩
          · have HQ : Hid _ := q1 (by omega)
            have HE : Hid _ := ev
            clear q1 q2 h0 ev
            go_wp2_with fail
            refine (hd _).mono ?_
            rintro e w1 ⟨rfl, rfl⟩
            go_wp2_with fail
            go_roundw
            case rel => exact ⟨k + 1, sm, c2, nx, rfl, rfl, by rw [HX.out], by go_num, by omega, HQ, trivial⟩
            case measure => simp [intOf]; omega
      | false =>
        rw [hb] at hd
        replace q3 := q3 hb
        replace q4 := fun j => q4 j hb
        clear q1 q2 hb
        generalize l[k].toNat = b at *
        cases hpt : part b nx with
        | none =>
          have HQ : Hid _ := q3 (.inl hpt)
          rw [partV_none hpt] at hp
          clear q3 q4 hpt
          generalize wrt nx = X at *
          go_wp2_with fail
          refine (hd _).mono ?_
          rintro e w1 ⟨rfl, rfl⟩
          go_wp2_with fail
          refine (hp _).mono ?_
          rintro e w1 ⟨rfl, rfl⟩
          go_wp2_with fail
          go_ret2
          exact ⟨by rw [HQ.out]; rfl, rfl⟩
        | some j =>
          rw [partV_some hpt] at hp
          have hj := part_some hpt
          have wp := wrt_pos j hj.2.1
          have wl := wrt_le j
          by_cases h0 : cn = 0
          · have HQ : Hid _ := q3 (.inr h0)
            have hw0 : ((wrt j : Int) == 0) = false := beq_eq_false_iff_ne.2 (by omega)
            clear q3 q4 hpt hj
            subst h0
            generalize wrt nx = X at *
            generalize wrt j = Y at *
            generalize wrt (j + 1) = Z at *
            go_wp2_with fail
            refine (hd _).mono ?_
            rintro e w1 ⟨rfl, rfl⟩
            go_wp2_with fail
            refine (hp _).mono ?_
            rintro e w1 ⟨rfl, rfl⟩
            go_wp2_with fail
            go_ret2
            exact ⟨by rw [HQ.out]; rfl, rfl⟩
          · have HQ : Hid _ := q4 j hpt h0
            have hw0 : ((wrt j : Int) == 0) = false := beq_eq_false_iff_ne.2 (by omega)
            have hc0 : ((cn : Int) == 0) = false := beq_eq_false_iff_ne.2 (by omega)
            have hm : cn * wrt j ≤ 999999 * 86400 := Nat.mul_le_mul bc wl
            have em : (cn : Int) * (wrt j : Int) = ((cn * wrt j : Nat) : Int) := by simp
            clear q3 q4 hpt hj h0
            generalize cn * wrt j = M at *
            generalize wrt nx = X at *
            generalize wrt j = Y at *
            generalize hZ : wrt (j + 1) = Z at *
            have HZ : Hid _ := hZ
            clear hZ
            go_wp2_with fail
            refine (hd _).mono ?_
            rintro e w1 ⟨rfl, rfl⟩
            go_wp2_with fail
            refine (hp _).mono ?_
            rintro e w1 ⟨rfl, rfl⟩
            go_wp2_with fail
            go_roundw
            case rel => exact ⟨k + 1, sm + M, 0, j + 1, by go_num, rfl, by rw [HZ.out], by go_num, by omega, HQ, trivial⟩
            case measure => simp [intOf]; omega
    · have e : k = l.length := by omega
      subst e
      have q1 := hA.out.end_no
      have q2 := hA.out.end_ok
      generalize wrt nx = X at *
      by_cases hc : cn = 0 ∧ 1 ≤ sm ∧ sm ≤ 604800
      · have HQ : Hid _ := q2 hc
        clear q1 q2 hA
        obtain ⟨rfl, h1, h2⟩ := hc
        have h3 : ((sm : Int) == 0) = false := beq_eq_false_iff_ne.2 (by omega)
        go_wp2_with fail
        go_ret2
        exact ⟨by rw [HQ.out]; rfl, rfl⟩
      · have HQ : Hid _ := q1 hc
        clear q1 q2 hA
        by_cases h0 : cn = 0
        · subst h0
          by_cases h1 : sm = 0
          · subst h1
            clear hc
            go_wp2_with fail
            go_ret2
            exact ⟨by rw [HQ.out]; rfl, rfl⟩
          · have h2 : (604800 : Int) < sm := by omega
            have h3 : ((sm : Int) == 0) = false := beq_eq_false_iff_ne.2 (by omega)
            clear hc
            go_wp2_with fail
            go_ret2
            exact ⟨by rw [HQ.out]; rfl, rfl⟩
        · have h3 : ((cn : Int) != 0) = true := bne_iff_ne.2 (by omega)
          clear hc
          go_wp2_with fail
          go_ret2
          exact ⟨by rw [HQ.out]; rfl, rfl⟩
end Go.Proofs.YtalmagpikacafaaGreatDoor
end
section
namespace Go.Proofs.YtalmagpikacafaaGreatDoor
open Go.RowKit Go.Lib

theorem str_eta (x : ByteArray) : Value.string x = strV x.data.toList := rfl
theorem read_at (x : ByteArray) (hx : x.size ≤ 1048576) (w : World) : Calls Tryz.prog 134 #[.string x] w fun e w' => e = .returned (readV x.data.toList) ∧ Below w.heap.size w w' := by
  rw [str_eta]
  exact Read_any _ (by rw [← Lib.size_eq]; omega) w
theorem span_at (x : ByteArray) (hx : x.size ≤ 1048576) (w : World) : Calls Tryz.prog 135 #[.string x] w fun e w' => e = .returned (spanR x.data.toList) ∧ Below w.heap.size w w' := by
  rw [str_eta]
  refine (ReadSpan_any _ (by rw [← Lib.size_eq]; omega) w).mono ?_
  rintro e w' ⟨rfl, rfl⟩
  exact ⟨rfl, Below.refl _ _⟩

set_option maxHeartbeats 4000000 in
theorem number_none (b i : Nat) (s : ByteArray) (w : World) (h : Rdr w b s i) (R : ∀ wx, Calls Tryz.prog 129 #[.string s, .int .i64 (i : Nat), .int .i64 2] wx fun e w' => e = .returned (.int .i64 (i : Nat)) ∧ Below wx.heap.size wx w') :
    Calls Tryz.prog 108 #[.pointer (some ⟨b, 0, none⟩)] w fun e w' => e = .returned (.tuple #[noV, .int .i64 0]) ∧ Moved w b s i w' := by
  have ST := hid2 (St.made h 51)
  have hlt := h.lt
  have R2 := hid2 R
  clear h R
  go_enter Tryz.func108, Tryz.ntmps108
  go_wp2_with fail
  obtain ⟨c0, c1, f0, f1⟩ := ST.out.rd.two
  generalize w.alloc _ = W at *
  go_region_held3 (fun w' => w'.cell? ⟨b, 0, none⟩ = some (.string s) ∧ w'.cell? ⟨b, 1, none⟩ = some (.int .i64 (i : Nat))) (simp [go_sem, *]) (first | (go_at_call 129; refine Calls.mono (R2.out _) ?_; rintro r w1 ⟨rfl, b1⟩; have S1 := hid2 (ST.out.next (below_on (Below.refl _ _).drew b1 (Nat.le_refl _))); obtain ⟨m0, m1, _, _⟩ := S1.out.rd.two; obtain ⟨m2, m3, m4, m5, m6, m7, m8, m9⟩ := S1.out.rb.four; have ml := S1.out.rd.lt; clear b1))
  clear c0 c1 f0 f1
  go_wp2_with fail
  refine bodyPost_ret (v := .tuple #[noV, .int .i64 0]) (by simp [results, Tryz.results108, go_sem, *]; rfl) rfl ⟨rfl, ?_⟩
  exact (S1.out.set _ _ _ _).stay
set_option maxHeartbeats 8000000 in
theorem number_AD (b i e1 : Nat) (s : ByteArray) (hz : s.size ≤ 1048576) (hie : i < e1) (hez : e1 ≤ s.size) (w : World) (h : Rdr w b s i) (R : ∀ wx, Calls Tryz.prog 129 #[.string s, .int .i64 (i : Nat), .int .i64 2] wx fun e w' => e = .returned (.int .i64 (e1 : Nat)) ∧ Below wx.heap.size wx w')
    (hd : (s.get! e1 == 46) = false) (bh : Nat) (hbh : e1 < bh) (hbz : bh ≤ s.size) (RB : ∀ wx, Calls Tryz.prog 129 #[.string s, .int .i64 (e1 : Nat), .int .i64 3] wx fun e w' => e = .returned (.int .i64 (bh : Nat)) ∧ Below wx.heap.size wx w') (o : Option Nat)
    (RR : ∀ wx, Calls Tryz.prog 135 #[.string (s.extract i bh)] wx fun e w' => e = .returned (match o with | some v => .tuple #[.int .i64 (v : Nat), .int .i64 0] | none => .tuple #[.int .i64 0, .int .i64 13]) ∧ Below wx.heap.size wx w') :
    Calls Tryz.prog 108 #[.pointer (some ⟨b, 0, none⟩)] w (CutPost w b s i true (valT 3 s i bh o)) := by
  have ST := hid2 (St.made h 51)
  have hlt := h.lt
  have R2 := hid2 R
  have HP := prefix_at s e1 hez 46 (by decide)
  rw [hd] at HP
  have HPX := hid2 HP
  have HRB := hid2 RB
  have s1 := fun wx => sl_l s e1 hez wx
  have s2 := fun wx => sl_lh s i bh (by omega) (by omega) wx
  have hxz : (s.extract i bh).size ≤ 1048576 := by rw [size_cut s i _ (by omega)]; omega
  have T := hid2 (fun (n : Int) w' (hw : Rdr w' b s i) => take_c b i bh s (s.extract i bh) 3 n hxz w' hw)
  generalize hgx : s.extract i bh = x at *
  have HX := hid2 hgx
  clear hgx
  have HRR := hid2 RR
  have hne : ((e1 : Int) == (i : Int)) = false := beq_eq_false_iff_ne.2 (by omega)
  have hq2 : ((e1 : Nat) : Int) < (bh : Int) := by omega
  clear h R HP RB RR hd hbh
  cases o with
  | none =>
    go_enter Tryz.func108, Tryz.ntmps108
    go_wp2_with fail
    obtain ⟨c0, c1, f0, f1⟩ := ST.out.rd.two
    generalize w.alloc _ = W at *
    go_region_held3 (fun w' => w'.cell? ⟨b, 0, none⟩ = some (.string s) ∧ w'.cell? ⟨b, 1, none⟩ = some (.int .i64 (i : Nat))) (simp [go_sem, *]) (first | (go_at_call 129; refine Calls.mono (R2.out _) ?_; rintro r w1 ⟨rfl, b1⟩; have S1 := hid2 (ST.out.next (below_on (Below.refl _ _).drew b1 (Nat.le_refl _))); obtain ⟨m0, m1, _, _⟩ := S1.out.rd.two; obtain ⟨m2, m3, m4, m5, m6, m7, m8, m9⟩ := S1.out.rb.four; have ml := S1.out.rd.lt; clear b1))
    clear c0 c1 f0 f1
    go_wp2_with fail
    refine Calls.mono (HPX.out _) ?_
    rintro r w2 ⟨rfl, rfl⟩
    go_wp2_with fail
    refine Calls.mono (HRB.out _) ?_
    rintro r w4 ⟨rfl, b4⟩
    have S4 := hid2 (S1.out.next b4)
    obtain ⟨k0, k1, _, _⟩ := S4.out.rd.two
    have kl := S4.out.rd.lt
    clear b4
    go_wp2_with fail
    go_quiet (fail)
    have S5 := hid2 (S4.out.next (drewN_b2 w4 nq))
    generalize w4.drewN nq = W5 at *
    clear k0 k1 kl
    go_wp2_with fail
    refine Calls.mono (HRR.out _) ?_
    rintro r w6 ⟨rfl, b6⟩
    have S6 := hid2 (S5.out.next b6)
    clear b6
    simp only []
    obtain ⟨p0, p1, p2, p3, g0, g1, g2, g3⟩ := S6.out.rb.four
    have bl := S6.out.rb.lt
    go_wp2_with fail
    refine bodyPost_ret (v := .tuple #[noV, .int .i64 13]) (by simp [results, Tryz.results108, go_sem, *]; rfl) rfl ⟨rfl, ?_⟩
    exact (S6.out.set _ _ _ _).stay
  | some v =>
    go_enter Tryz.func108, Tryz.ntmps108
    go_wp2_with fail
    obtain ⟨c0, c1, f0, f1⟩ := ST.out.rd.two
    generalize w.alloc _ = W at *
    go_region_held3 (fun w' => w'.cell? ⟨b, 0, none⟩ = some (.string s) ∧ w'.cell? ⟨b, 1, none⟩ = some (.int .i64 (i : Nat))) (simp [go_sem, *]) (first | (go_at_call 129; refine Calls.mono (R2.out _) ?_; rintro r w1 ⟨rfl, b1⟩; have S1 := hid2 (ST.out.next (below_on (Below.refl _ _).drew b1 (Nat.le_refl _))); obtain ⟨m0, m1, _, _⟩ := S1.out.rd.two; obtain ⟨m2, m3, m4, m5, m6, m7, m8, m9⟩ := S1.out.rb.four; have ml := S1.out.rd.lt; clear b1))
    clear c0 c1 f0 f1
    go_wp2_with fail
    refine Calls.mono (HPX.out _) ?_
    rintro r w2 ⟨rfl, rfl⟩
    go_wp2_with fail
    refine Calls.mono (HRB.out _) ?_
    rintro r w4 ⟨rfl, b4⟩
    have S4 := hid2 (S1.out.next b4)
    obtain ⟨k0, k1, _, _⟩ := S4.out.rd.two
    have kl := S4.out.rd.lt
    clear b4
    go_wp2_with fail
    go_quiet (fail)
    have S5 := hid2 (S4.out.next (drewN_b2 w4 nq))
    generalize w4.drewN nq = W5 at *
    clear k0 k1 kl
    go_wp2_with fail
    refine Calls.mono (HRR.out _) ?_
    rintro r w6 ⟨rfl, b6⟩
    have S6 := hid2 (S5.out.next b6)
    clear b6
    simp only []
    go_wp2_with fail
    refine Calls.mono (T.out _ _ S6.out.rd) ?_
    rintro r w7 ⟨rfl, M7⟩
    obtain ⟨bx, fin⟩ := S6.out.took M7
    obtain ⟨p0, p1, p2, p3, g0, g1, g2, g3⟩ := bx.four
    have bl := bx.lt
    have FIN := hid2 fin
    clear bx fin M7
    unfold tkv
    go_wp2_with fail
    refine bodyPost_ret (v := .tuple #[tkV ⟨3, x, (v : Int), i⟩, .int .i64 0]) (by simp [results, Tryz.results108, go_sem, *]; rfl) rfl ⟨by rw [HX.out], ?_⟩
    exact FIN.out _ _ _ _
set_option maxHeartbeats 8000000 in
theorem number_AN (b i e1 : Nat) (s : ByteArray) (hz : s.size ≤ 1048576) (hie : i < e1) (hez : e1 ≤ s.size) (w : World) (h : Rdr w b s i) (R : ∀ wx, Calls Tryz.prog 129 #[.string s, .int .i64 (i : Nat), .int .i64 2] wx fun e w' => e = .returned (.int .i64 (e1 : Nat)) ∧ Below wx.heap.size wx w')
    (hd : (s.get! e1 == 46) = false) (bh : Nat) (hbh : ¬ e1 < bh) (_hbz : bh ≤ s.size) (RB : ∀ wx, Calls Tryz.prog 129 #[.string s, .int .i64 (e1 : Nat), .int .i64 3] wx fun e w' => e = .returned (.int .i64 (bh : Nat)) ∧ Below wx.heap.size wx w') (o : Option Nat)
    (RR : ∀ wx, Calls Tryz.prog 134 #[.string (s.extract i e1)] wx fun e w' => e = .returned (match o with | some v => .tuple #[.int .i64 (v : Nat), .int .i64 0] | none => .tuple #[.int .i64 0, .int .i64 13]) ∧ Below wx.heap.size wx w') :
    Calls Tryz.prog 108 #[.pointer (some ⟨b, 0, none⟩)] w (CutPost w b s i true (valT 2 s i e1 o)) := by
  have ST := hid2 (St.made h 51)
  have hlt := h.lt
  have R2 := hid2 R
  have HP := prefix_at s e1 hez 46 (by decide)
  rw [hd] at HP
  have HPX := hid2 HP
  have HRB := hid2 RB
  have s1 := fun wx => sl_l s e1 hez wx
  have s2 := fun wx => sl_lh s i e1 (by omega) (by omega) wx
  have hxz : (s.extract i e1).size ≤ 1048576 := by rw [size_cut s i _ (by omega)]; omega
  have T := hid2 (fun (n : Int) w' (hw : Rdr w' b s i) => take_c b i e1 s (s.extract i e1) 2 n hxz w' hw)
  generalize hgx : s.extract i e1 = x at *
  have HX := hid2 hgx
  clear hgx
  have HRR := hid2 RR
  have hne : ((e1 : Int) == (i : Int)) = false := beq_eq_false_iff_ne.2 (by omega)
  have hq2 : ¬ (((e1 : Nat) : Int) < (bh : Int)) := by omega
  clear h R HP RB RR hd hbh
  cases o with
  | none =>
    go_enter Tryz.func108, Tryz.ntmps108
    go_wp2_with fail
    obtain ⟨c0, c1, f0, f1⟩ := ST.out.rd.two
    generalize w.alloc _ = W at *
    go_region_held3 (fun w' => w'.cell? ⟨b, 0, none⟩ = some (.string s) ∧ w'.cell? ⟨b, 1, none⟩ = some (.int .i64 (i : Nat))) (simp [go_sem, *]) (first | (go_at_call 129; refine Calls.mono (R2.out _) ?_; rintro r w1 ⟨rfl, b1⟩; have S1 := hid2 (ST.out.next (below_on (Below.refl _ _).drew b1 (Nat.le_refl _))); obtain ⟨m0, m1, _, _⟩ := S1.out.rd.two; obtain ⟨m2, m3, m4, m5, m6, m7, m8, m9⟩ := S1.out.rb.four; have ml := S1.out.rd.lt; clear b1))
    clear c0 c1 f0 f1
    go_wp2_with fail
    refine Calls.mono (HPX.out _) ?_
    rintro r w2 ⟨rfl, rfl⟩
    go_wp2_with fail
    refine Calls.mono (HRB.out _) ?_
    rintro r w4 ⟨rfl, b4⟩
    have S4 := hid2 (S1.out.next b4)
    obtain ⟨k0, k1, _, _⟩ := S4.out.rd.two
    have kl := S4.out.rd.lt
    clear b4
    go_wp2_with fail
    go_quiet (fail)
    have S5 := hid2 (S4.out.next (drewN_b2 w4 nq))
    generalize w4.drewN nq = W5 at *
    clear k0 k1 kl
    go_wp2_with fail
    refine Calls.mono (HRR.out _) ?_
    rintro r w6 ⟨rfl, b6⟩
    have S6 := hid2 (S5.out.next b6)
    clear b6
    simp only []
    obtain ⟨p0, p1, p2, p3, g0, g1, g2, g3⟩ := S6.out.rb.four
    have bl := S6.out.rb.lt
    go_wp2_with fail
    refine bodyPost_ret (v := .tuple #[noV, .int .i64 13]) (by simp [results, Tryz.results108, go_sem, *]; rfl) rfl ⟨rfl, ?_⟩
    exact (S6.out.set _ _ _ _).stay
  | some v =>
    go_enter Tryz.func108, Tryz.ntmps108
    go_wp2_with fail
    obtain ⟨c0, c1, f0, f1⟩ := ST.out.rd.two
    generalize w.alloc _ = W at *
    go_region_held3 (fun w' => w'.cell? ⟨b, 0, none⟩ = some (.string s) ∧ w'.cell? ⟨b, 1, none⟩ = some (.int .i64 (i : Nat))) (simp [go_sem, *]) (first | (go_at_call 129; refine Calls.mono (R2.out _) ?_; rintro r w1 ⟨rfl, b1⟩; have S1 := hid2 (ST.out.next (below_on (Below.refl _ _).drew b1 (Nat.le_refl _))); obtain ⟨m0, m1, _, _⟩ := S1.out.rd.two; obtain ⟨m2, m3, m4, m5, m6, m7, m8, m9⟩ := S1.out.rb.four; have ml := S1.out.rd.lt; clear b1))
    clear c0 c1 f0 f1
    go_wp2_with fail
    refine Calls.mono (HPX.out _) ?_
    rintro r w2 ⟨rfl, rfl⟩
    go_wp2_with fail
    refine Calls.mono (HRB.out _) ?_
    rintro r w4 ⟨rfl, b4⟩
    have S4 := hid2 (S1.out.next b4)
    obtain ⟨k0, k1, _, _⟩ := S4.out.rd.two
    have kl := S4.out.rd.lt
    clear b4
    go_wp2_with fail
    go_quiet (fail)
    have S5 := hid2 (S4.out.next (drewN_b2 w4 nq))
    generalize w4.drewN nq = W5 at *
    clear k0 k1 kl
    go_wp2_with fail
    refine Calls.mono (HRR.out _) ?_
    rintro r w6 ⟨rfl, b6⟩
    have S6 := hid2 (S5.out.next b6)
    clear b6
    simp only []
    go_wp2_with fail
    refine Calls.mono (T.out _ _ S6.out.rd) ?_
    rintro r w7 ⟨rfl, M7⟩
    obtain ⟨bx, fin⟩ := S6.out.took M7
    obtain ⟨p0, p1, p2, p3, g0, g1, g2, g3⟩ := bx.four
    have bl := bx.lt
    have FIN := hid2 fin
    clear bx fin M7
    unfold tkv
    go_wp2_with fail
    refine bodyPost_ret (v := .tuple #[tkV ⟨2, x, (v : Int), i⟩, .int .i64 0]) (by simp [results, Tryz.results108, go_sem, *]; rfl) rfl ⟨by rw [HX.out], ?_⟩
    exact FIN.out _ _ _ _
set_option maxHeartbeats 8000000 in
theorem number_BD (b i e1 : Nat) (s : ByteArray) (hz : s.size ≤ 1048576) (hie : i < e1) (hez : e1 ≤ s.size) (w : World) (h : Rdr w b s i) (R : ∀ wx, Calls Tryz.prog 129 #[.string s, .int .i64 (i : Nat), .int .i64 2] wx fun e w' => e = .returned (.int .i64 (e1 : Nat)) ∧ Below wx.heap.size wx w')
    (hd : (s.get! e1 == 46) = true) (pl : Nat) (hpl : ¬ e1 + 1 < pl) (_hpz : pl ≤ s.size) (RP : ∀ wx, Calls Tryz.prog 129 #[.string s, .int .i64 ((e1 : Int) + 1), .int .i64 2] wx fun e w' => e = .returned (.int .i64 (pl : Nat)) ∧ Below wx.heap.size wx w') (bh : Nat) (hbh : e1 < bh) (hbz : bh ≤ s.size) (RB : ∀ wx, Calls Tryz.prog 129 #[.string s, .int .i64 (e1 : Nat), .int .i64 3] wx fun e w' => e = .returned (.int .i64 (bh : Nat)) ∧ Below wx.heap.size wx w') (o : Option Nat)
    (RR : ∀ wx, Calls Tryz.prog 135 #[.string (s.extract i bh)] wx fun e w' => e = .returned (match o with | some v => .tuple #[.int .i64 (v : Nat), .int .i64 0] | none => .tuple #[.int .i64 0, .int .i64 13]) ∧ Below wx.heap.size wx w') :
    Calls Tryz.prog 108 #[.pointer (some ⟨b, 0, none⟩)] w (CutPost w b s i true (valT 3 s i bh o)) := by
  have ST := hid2 (St.made h 51)
  have hlt := h.lt
  have R2 := hid2 R
  have HP := prefix_at s e1 hez 46 (by decide)
  rw [hd] at HP
  have HPX := hid2 HP
  have HRB := hid2 RB
  have s1 := fun wx => sl_l s e1 hez wx
  have s2 := fun wx => sl_lh s i bh (by omega) (by omega) wx
  have hxz : (s.extract i bh).size ≤ 1048576 := by rw [size_cut s i _ (by omega)]; omega
  have T := hid2 (fun (n : Int) w' (hw : Rdr w' b s i) => take_c b i bh s (s.extract i bh) 3 n hxz w' hw)
  generalize hgx : s.extract i bh = x at *
  have HX := hid2 hgx
  clear hgx
  have HRR := hid2 RR
  have hne : ((e1 : Int) == (i : Int)) = false := beq_eq_false_iff_ne.2 (by omega)
  have HRP := hid2 RP
  have hw1 : IntKind.i64.wrap ((e1 : Int) + 1) = (e1 : Int) + 1 := by rw [IntKind.wrap_i64]; omega
  have hq : ¬ ((e1 : Int) + 1 < (pl : Int)) := by omega
  clear hpl RP
  have hq2 : ((e1 : Nat) : Int) < (bh : Int) := by omega
  clear h R HP RB RR hd hbh
  cases o with
  | none =>
    go_enter Tryz.func108, Tryz.ntmps108
    go_wp2_with fail
    obtain ⟨c0, c1, f0, f1⟩ := ST.out.rd.two
    generalize w.alloc _ = W at *
    go_region_held3 (fun w' => w'.cell? ⟨b, 0, none⟩ = some (.string s) ∧ w'.cell? ⟨b, 1, none⟩ = some (.int .i64 (i : Nat))) (simp [go_sem, *]) (first | (go_at_call 129; refine Calls.mono (R2.out _) ?_; rintro r w1 ⟨rfl, b1⟩; have S1 := hid2 (ST.out.next (below_on (Below.refl _ _).drew b1 (Nat.le_refl _))); obtain ⟨m0, m1, _, _⟩ := S1.out.rd.two; obtain ⟨m2, m3, m4, m5, m6, m7, m8, m9⟩ := S1.out.rb.four; have ml := S1.out.rd.lt; clear b1))
    clear c0 c1 f0 f1
    go_wp2_with fail
    refine Calls.mono (HPX.out _) ?_
    rintro r w2 ⟨rfl, rfl⟩
    go_wp2_with fail
    refine Calls.mono (HRP.out _) ?_
    rintro r w3 ⟨rfl, b3⟩
    have S3 := hid2 (S1.out.next b3)
    obtain ⟨n0, n1, _, _⟩ := S3.out.rd.two
    have nl := S3.out.rd.lt
    clear b3 m0 m1 m2 m3 m4 m5 m6 m7 m8 m9 ml
    go_wp2_with fail
    refine Calls.mono (HRB.out _) ?_
    rintro r w4 ⟨rfl, b4⟩
    have S4 := hid2 (S3.out.next b4)
    obtain ⟨k0, k1, _, _⟩ := S4.out.rd.two
    have kl := S4.out.rd.lt
    clear b4
    go_wp2_with fail
    go_quiet (fail)
    have S5 := hid2 (S4.out.next (drewN_b2 w4 nq))
    generalize w4.drewN nq = W5 at *
    clear k0 k1 kl
    go_wp2_with fail
    refine Calls.mono (HRR.out _) ?_
    rintro r w6 ⟨rfl, b6⟩
    have S6 := hid2 (S5.out.next b6)
    clear b6
    simp only []
    obtain ⟨p0, p1, p2, p3, g0, g1, g2, g3⟩ := S6.out.rb.four
    have bl := S6.out.rb.lt
    go_wp2_with fail
    refine bodyPost_ret (v := .tuple #[noV, .int .i64 13]) (by simp [results, Tryz.results108, go_sem, *]; rfl) rfl ⟨rfl, ?_⟩
    exact (S6.out.set _ _ _ _).stay
  | some v =>
    go_enter Tryz.func108, Tryz.ntmps108
    go_wp2_with fail
    obtain ⟨c0, c1, f0, f1⟩ := ST.out.rd.two
    generalize w.alloc _ = W at *
    go_region_held3 (fun w' => w'.cell? ⟨b, 0, none⟩ = some (.string s) ∧ w'.cell? ⟨b, 1, none⟩ = some (.int .i64 (i : Nat))) (simp [go_sem, *]) (first | (go_at_call 129; refine Calls.mono (R2.out _) ?_; rintro r w1 ⟨rfl, b1⟩; have S1 := hid2 (ST.out.next (below_on (Below.refl _ _).drew b1 (Nat.le_refl _))); obtain ⟨m0, m1, _, _⟩ := S1.out.rd.two; obtain ⟨m2, m3, m4, m5, m6, m7, m8, m9⟩ := S1.out.rb.four; have ml := S1.out.rd.lt; clear b1))
    clear c0 c1 f0 f1
    go_wp2_with fail
    refine Calls.mono (HPX.out _) ?_
    rintro r w2 ⟨rfl, rfl⟩
    go_wp2_with fail
    refine Calls.mono (HRP.out _) ?_
    rintro r w3 ⟨rfl, b3⟩
    have S3 := hid2 (S1.out.next b3)
    obtain ⟨n0, n1, _, _⟩ := S3.out.rd.two
    have nl := S3.out.rd.lt
    clear b3 m0 m1 m2 m3 m4 m5 m6 m7 m8 m9 ml
    go_wp2_with fail
    refine Calls.mono (HRB.out _) ?_
    rintro r w4 ⟨rfl, b4⟩
    have S4 := hid2 (S3.out.next b4)
    obtain ⟨k0, k1, _, _⟩ := S4.out.rd.two
    have kl := S4.out.rd.lt
    clear b4
    go_wp2_with fail
    go_quiet (fail)
    have S5 := hid2 (S4.out.next (drewN_b2 w4 nq))
    generalize w4.drewN nq = W5 at *
    clear k0 k1 kl
    go_wp2_with fail
    refine Calls.mono (HRR.out _) ?_
    rintro r w6 ⟨rfl, b6⟩
    have S6 := hid2 (S5.out.next b6)
    clear b6
    simp only []
    go_wp2_with fail
    refine Calls.mono (T.out _ _ S6.out.rd) ?_
    rintro r w7 ⟨rfl, M7⟩
    obtain ⟨bx, fin⟩ := S6.out.took M7
    obtain ⟨p0, p1, p2, p3, g0, g1, g2, g3⟩ := bx.four
    have bl := bx.lt
    have FIN := hid2 fin
    clear bx fin M7
    unfold tkv
    go_wp2_with fail
    refine bodyPost_ret (v := .tuple #[tkV ⟨3, x, (v : Int), i⟩, .int .i64 0]) (by simp [results, Tryz.results108, go_sem, *]; rfl) rfl ⟨by rw [HX.out], ?_⟩
    exact FIN.out _ _ _ _
set_option maxHeartbeats 8000000 in
theorem number_BN (b i e1 : Nat) (s : ByteArray) (hz : s.size ≤ 1048576) (hie : i < e1) (hez : e1 ≤ s.size) (w : World) (h : Rdr w b s i) (R : ∀ wx, Calls Tryz.prog 129 #[.string s, .int .i64 (i : Nat), .int .i64 2] wx fun e w' => e = .returned (.int .i64 (e1 : Nat)) ∧ Below wx.heap.size wx w')
    (hd : (s.get! e1 == 46) = true) (pl : Nat) (hpl : ¬ e1 + 1 < pl) (_hpz : pl ≤ s.size) (RP : ∀ wx, Calls Tryz.prog 129 #[.string s, .int .i64 ((e1 : Int) + 1), .int .i64 2] wx fun e w' => e = .returned (.int .i64 (pl : Nat)) ∧ Below wx.heap.size wx w') (bh : Nat) (hbh : ¬ e1 < bh) (_hbz : bh ≤ s.size) (RB : ∀ wx, Calls Tryz.prog 129 #[.string s, .int .i64 (e1 : Nat), .int .i64 3] wx fun e w' => e = .returned (.int .i64 (bh : Nat)) ∧ Below wx.heap.size wx w') (o : Option Nat)
    (RR : ∀ wx, Calls Tryz.prog 134 #[.string (s.extract i e1)] wx fun e w' => e = .returned (match o with | some v => .tuple #[.int .i64 (v : Nat), .int .i64 0] | none => .tuple #[.int .i64 0, .int .i64 13]) ∧ Below wx.heap.size wx w') :
    Calls Tryz.prog 108 #[.pointer (some ⟨b, 0, none⟩)] w (CutPost w b s i true (valT 2 s i e1 o)) := by
  have ST := hid2 (St.made h 51)
  have hlt := h.lt
  have R2 := hid2 R
  have HP := prefix_at s e1 hez 46 (by decide)
  rw [hd] at HP
  have HPX := hid2 HP
  have HRB := hid2 RB
  have s1 := fun wx => sl_l s e1 hez wx
  have s2 := fun wx => sl_lh s i e1 (by omega) (by omega) wx
  have hxz : (s.extract i e1).size ≤ 1048576 := by rw [size_cut s i _ (by omega)]; omega
  have T := hid2 (fun (n : Int) w' (hw : Rdr w' b s i) => take_c b i e1 s (s.extract i e1) 2 n hxz w' hw)
  generalize hgx : s.extract i e1 = x at *
  have HX := hid2 hgx
  clear hgx
  have HRR := hid2 RR
  have hne : ((e1 : Int) == (i : Int)) = false := beq_eq_false_iff_ne.2 (by omega)
  have HRP := hid2 RP
  have hw1 : IntKind.i64.wrap ((e1 : Int) + 1) = (e1 : Int) + 1 := by rw [IntKind.wrap_i64]; omega
  have hq : ¬ ((e1 : Int) + 1 < (pl : Int)) := by omega
  clear hpl RP
  have hq2 : ¬ (((e1 : Nat) : Int) < (bh : Int)) := by omega
  clear h R HP RB RR hd hbh
  cases o with
  | none =>
    go_enter Tryz.func108, Tryz.ntmps108
    go_wp2_with fail
    obtain ⟨c0, c1, f0, f1⟩ := ST.out.rd.two
    generalize w.alloc _ = W at *
    go_region_held3 (fun w' => w'.cell? ⟨b, 0, none⟩ = some (.string s) ∧ w'.cell? ⟨b, 1, none⟩ = some (.int .i64 (i : Nat))) (simp [go_sem, *]) (first | (go_at_call 129; refine Calls.mono (R2.out _) ?_; rintro r w1 ⟨rfl, b1⟩; have S1 := hid2 (ST.out.next (below_on (Below.refl _ _).drew b1 (Nat.le_refl _))); obtain ⟨m0, m1, _, _⟩ := S1.out.rd.two; obtain ⟨m2, m3, m4, m5, m6, m7, m8, m9⟩ := S1.out.rb.four; have ml := S1.out.rd.lt; clear b1))
    clear c0 c1 f0 f1
    go_wp2_with fail
    refine Calls.mono (HPX.out _) ?_
    rintro r w2 ⟨rfl, rfl⟩
    go_wp2_with fail
    refine Calls.mono (HRP.out _) ?_
    rintro r w3 ⟨rfl, b3⟩
    have S3 := hid2 (S1.out.next b3)
    obtain ⟨n0, n1, _, _⟩ := S3.out.rd.two
    have nl := S3.out.rd.lt
    clear b3 m0 m1 m2 m3 m4 m5 m6 m7 m8 m9 ml
    go_wp2_with fail
    refine Calls.mono (HRB.out _) ?_
    rintro r w4 ⟨rfl, b4⟩
    have S4 := hid2 (S3.out.next b4)
    obtain ⟨k0, k1, _, _⟩ := S4.out.rd.two
    have kl := S4.out.rd.lt
    clear b4
    go_wp2_with fail
    go_quiet (fail)
    have S5 := hid2 (S4.out.next (drewN_b2 w4 nq))
    generalize w4.drewN nq = W5 at *
    clear k0 k1 kl
    go_wp2_with fail
    refine Calls.mono (HRR.out _) ?_
    rintro r w6 ⟨rfl, b6⟩
    have S6 := hid2 (S5.out.next b6)
    clear b6
    simp only []
    obtain ⟨p0, p1, p2, p3, g0, g1, g2, g3⟩ := S6.out.rb.four
    have bl := S6.out.rb.lt
    go_wp2_with fail
    refine bodyPost_ret (v := .tuple #[noV, .int .i64 13]) (by simp [results, Tryz.results108, go_sem, *]; rfl) rfl ⟨rfl, ?_⟩
    exact (S6.out.set _ _ _ _).stay
  | some v =>
    go_enter Tryz.func108, Tryz.ntmps108
    go_wp2_with fail
    obtain ⟨c0, c1, f0, f1⟩ := ST.out.rd.two
    generalize w.alloc _ = W at *
    go_region_held3 (fun w' => w'.cell? ⟨b, 0, none⟩ = some (.string s) ∧ w'.cell? ⟨b, 1, none⟩ = some (.int .i64 (i : Nat))) (simp [go_sem, *]) (first | (go_at_call 129; refine Calls.mono (R2.out _) ?_; rintro r w1 ⟨rfl, b1⟩; have S1 := hid2 (ST.out.next (below_on (Below.refl _ _).drew b1 (Nat.le_refl _))); obtain ⟨m0, m1, _, _⟩ := S1.out.rd.two; obtain ⟨m2, m3, m4, m5, m6, m7, m8, m9⟩ := S1.out.rb.four; have ml := S1.out.rd.lt; clear b1))
    clear c0 c1 f0 f1
    go_wp2_with fail
    refine Calls.mono (HPX.out _) ?_
    rintro r w2 ⟨rfl, rfl⟩
    go_wp2_with fail
    refine Calls.mono (HRP.out _) ?_
    rintro r w3 ⟨rfl, b3⟩
    have S3 := hid2 (S1.out.next b3)
    obtain ⟨n0, n1, _, _⟩ := S3.out.rd.two
    have nl := S3.out.rd.lt
    clear b3 m0 m1 m2 m3 m4 m5 m6 m7 m8 m9 ml
    go_wp2_with fail
    refine Calls.mono (HRB.out _) ?_
    rintro r w4 ⟨rfl, b4⟩
    have S4 := hid2 (S3.out.next b4)
    obtain ⟨k0, k1, _, _⟩ := S4.out.rd.two
    have kl := S4.out.rd.lt
    clear b4
    go_wp2_with fail
    go_quiet (fail)
    have S5 := hid2 (S4.out.next (drewN_b2 w4 nq))
    generalize w4.drewN nq = W5 at *
    clear k0 k1 kl
    go_wp2_with fail
    refine Calls.mono (HRR.out _) ?_
    rintro r w6 ⟨rfl, b6⟩
    have S6 := hid2 (S5.out.next b6)
    clear b6
    simp only []
    go_wp2_with fail
    refine Calls.mono (T.out _ _ S6.out.rd) ?_
    rintro r w7 ⟨rfl, M7⟩
    obtain ⟨bx, fin⟩ := S6.out.took M7
    obtain ⟨p0, p1, p2, p3, g0, g1, g2, g3⟩ := bx.four
    have bl := bx.lt
    have FIN := hid2 fin
    clear bx fin M7
    unfold tkv
    go_wp2_with fail
    refine bodyPost_ret (v := .tuple #[tkV ⟨2, x, (v : Int), i⟩, .int .i64 0]) (by simp [results, Tryz.results108, go_sem, *]; rfl) rfl ⟨by rw [HX.out], ?_⟩
    exact FIN.out _ _ _ _
set_option maxHeartbeats 8000000 in
theorem number_CD (b i e1 : Nat) (s : ByteArray) (hz : s.size ≤ 1048576) (hie : i < e1) (hez : e1 ≤ s.size) (w : World) (h : Rdr w b s i) (R : ∀ wx, Calls Tryz.prog 129 #[.string s, .int .i64 (i : Nat), .int .i64 2] wx fun e w' => e = .returned (.int .i64 (e1 : Nat)) ∧ Below wx.heap.size wx w')
    (hd : (s.get! e1 == 46) = true) (pl : Nat) (hpl : e1 + 1 < pl) (_hpz : pl ≤ s.size) (RP : ∀ wx, Calls Tryz.prog 129 #[.string s, .int .i64 ((e1 : Int) + 1), .int .i64 2] wx fun e w' => e = .returned (.int .i64 (pl : Nat)) ∧ Below wx.heap.size wx w') (bh : Nat) (hbh : pl < bh) (hbz : bh ≤ s.size) (RB : ∀ wx, Calls Tryz.prog 129 #[.string s, .int .i64 (pl : Nat), .int .i64 3] wx fun e w' => e = .returned (.int .i64 (bh : Nat)) ∧ Below wx.heap.size wx w') (o : Option Nat)
    (RR : ∀ wx, Calls Tryz.prog 135 #[.string (s.extract i bh)] wx fun e w' => e = .returned (match o with | some v => .tuple #[.int .i64 (v : Nat), .int .i64 0] | none => .tuple #[.int .i64 0, .int .i64 13]) ∧ Below wx.heap.size wx w') :
    Calls Tryz.prog 108 #[.pointer (some ⟨b, 0, none⟩)] w (CutPost w b s i true (valT 3 s i bh o)) := by
  have ST := hid2 (St.made h 51)
  have hlt := h.lt
  have R2 := hid2 R
  have HP := prefix_at s e1 hez 46 (by decide)
  rw [hd] at HP
  have HPX := hid2 HP
  have HRB := hid2 RB
  have s1 := fun wx => sl_l s e1 hez wx
  have s2 := fun wx => sl_lh s i bh (by omega) (by omega) wx
  have hxz : (s.extract i bh).size ≤ 1048576 := by rw [size_cut s i _ (by omega)]; omega
  have T := hid2 (fun (n : Int) w' (hw : Rdr w' b s i) => take_c b i bh s (s.extract i bh) 3 n hxz w' hw)
  generalize hgx : s.extract i bh = x at *
  have HX := hid2 hgx
  clear hgx
  have HRR := hid2 RR
  have hne : ((e1 : Int) == (i : Int)) = false := beq_eq_false_iff_ne.2 (by omega)
  have HRP := hid2 RP
  have hw1 : IntKind.i64.wrap ((e1 : Int) + 1) = (e1 : Int) + 1 := by rw [IntKind.wrap_i64]; omega
  have hq : (e1 : Int) + 1 < (pl : Int) := by omega
  clear hpl RP
  have hq2 : ((pl : Nat) : Int) < (bh : Int) := by omega
  clear h R HP RB RR hd hbh
  cases o with
  | none =>
    go_enter Tryz.func108, Tryz.ntmps108
    go_wp2_with fail
    obtain ⟨c0, c1, f0, f1⟩ := ST.out.rd.two
    generalize w.alloc _ = W at *
    go_region_held3 (fun w' => w'.cell? ⟨b, 0, none⟩ = some (.string s) ∧ w'.cell? ⟨b, 1, none⟩ = some (.int .i64 (i : Nat))) (simp [go_sem, *]) (first | (go_at_call 129; refine Calls.mono (R2.out _) ?_; rintro r w1 ⟨rfl, b1⟩; have S1 := hid2 (ST.out.next (below_on (Below.refl _ _).drew b1 (Nat.le_refl _))); obtain ⟨m0, m1, _, _⟩ := S1.out.rd.two; obtain ⟨m2, m3, m4, m5, m6, m7, m8, m9⟩ := S1.out.rb.four; have ml := S1.out.rd.lt; clear b1))
    clear c0 c1 f0 f1
    go_wp2_with fail
    refine Calls.mono (HPX.out _) ?_
    rintro r w2 ⟨rfl, rfl⟩
    go_wp2_with fail
    refine Calls.mono (HRP.out _) ?_
    rintro r w3 ⟨rfl, b3⟩
    have S3 := hid2 (S1.out.next b3)
    obtain ⟨n0, n1, _, _⟩ := S3.out.rd.two
    have nl := S3.out.rd.lt
    clear b3 m0 m1 m2 m3 m4 m5 m6 m7 m8 m9 ml
    go_wp2_with fail
    refine Calls.mono (HRB.out _) ?_
    rintro r w4 ⟨rfl, b4⟩
    have S4 := hid2 (S3.out.next b4)
    obtain ⟨k0, k1, _, _⟩ := S4.out.rd.two
    have kl := S4.out.rd.lt
    clear b4
    go_wp2_with fail
    go_quiet (fail)
    have S5 := hid2 (S4.out.next (drewN_b2 w4 nq))
    generalize w4.drewN nq = W5 at *
    clear k0 k1 kl
    go_wp2_with fail
    refine Calls.mono (HRR.out _) ?_
    rintro r w6 ⟨rfl, b6⟩
    have S6 := hid2 (S5.out.next b6)
    clear b6
    simp only []
    obtain ⟨p0, p1, p2, p3, g0, g1, g2, g3⟩ := S6.out.rb.four
    have bl := S6.out.rb.lt
    go_wp2_with fail
    refine bodyPost_ret (v := .tuple #[noV, .int .i64 13]) (by simp [results, Tryz.results108, go_sem, *]; rfl) rfl ⟨rfl, ?_⟩
    exact (S6.out.set _ _ _ _).stay
  | some v =>
    go_enter Tryz.func108, Tryz.ntmps108
    go_wp2_with fail
    obtain ⟨c0, c1, f0, f1⟩ := ST.out.rd.two
    generalize w.alloc _ = W at *
    go_region_held3 (fun w' => w'.cell? ⟨b, 0, none⟩ = some (.string s) ∧ w'.cell? ⟨b, 1, none⟩ = some (.int .i64 (i : Nat))) (simp [go_sem, *]) (first | (go_at_call 129; refine Calls.mono (R2.out _) ?_; rintro r w1 ⟨rfl, b1⟩; have S1 := hid2 (ST.out.next (below_on (Below.refl _ _).drew b1 (Nat.le_refl _))); obtain ⟨m0, m1, _, _⟩ := S1.out.rd.two; obtain ⟨m2, m3, m4, m5, m6, m7, m8, m9⟩ := S1.out.rb.four; have ml := S1.out.rd.lt; clear b1))
    clear c0 c1 f0 f1
    go_wp2_with fail
    refine Calls.mono (HPX.out _) ?_
    rintro r w2 ⟨rfl, rfl⟩
    go_wp2_with fail
    refine Calls.mono (HRP.out _) ?_
    rintro r w3 ⟨rfl, b3⟩
    have S3 := hid2 (S1.out.next b3)
    obtain ⟨n0, n1, _, _⟩ := S3.out.rd.two
    have nl := S3.out.rd.lt
    clear b3 m0 m1 m2 m3 m4 m5 m6 m7 m8 m9 ml
    go_wp2_with fail
    refine Calls.mono (HRB.out _) ?_
    rintro r w4 ⟨rfl, b4⟩
    have S4 := hid2 (S3.out.next b4)
    obtain ⟨k0, k1, _, _⟩ := S4.out.rd.two
    have kl := S4.out.rd.lt
    clear b4
    go_wp2_with fail
    go_quiet (fail)
    have S5 := hid2 (S4.out.next (drewN_b2 w4 nq))
    generalize w4.drewN nq = W5 at *
    clear k0 k1 kl
    go_wp2_with fail
    refine Calls.mono (HRR.out _) ?_
    rintro r w6 ⟨rfl, b6⟩
    have S6 := hid2 (S5.out.next b6)
    clear b6
    simp only []
    go_wp2_with fail
    refine Calls.mono (T.out _ _ S6.out.rd) ?_
    rintro r w7 ⟨rfl, M7⟩
    obtain ⟨bx, fin⟩ := S6.out.took M7
    obtain ⟨p0, p1, p2, p3, g0, g1, g2, g3⟩ := bx.four
    have bl := bx.lt
    have FIN := hid2 fin
    clear bx fin M7
    unfold tkv
    go_wp2_with fail
    refine bodyPost_ret (v := .tuple #[tkV ⟨3, x, (v : Int), i⟩, .int .i64 0]) (by simp [results, Tryz.results108, go_sem, *]; rfl) rfl ⟨by rw [HX.out], ?_⟩
    exact FIN.out _ _ _ _
set_option maxHeartbeats 8000000 in
theorem number_CN (b i e1 : Nat) (s : ByteArray) (hz : s.size ≤ 1048576) (hie : i < e1) (hez : e1 ≤ s.size) (w : World) (h : Rdr w b s i) (R : ∀ wx, Calls Tryz.prog 129 #[.string s, .int .i64 (i : Nat), .int .i64 2] wx fun e w' => e = .returned (.int .i64 (e1 : Nat)) ∧ Below wx.heap.size wx w')
    (hd : (s.get! e1 == 46) = true) (pl : Nat) (hpl : e1 + 1 < pl) (hpz : pl ≤ s.size) (RP : ∀ wx, Calls Tryz.prog 129 #[.string s, .int .i64 ((e1 : Int) + 1), .int .i64 2] wx fun e w' => e = .returned (.int .i64 (pl : Nat)) ∧ Below wx.heap.size wx w') (bh : Nat) (hbh : ¬ pl < bh) (_hbz : bh ≤ s.size) (RB : ∀ wx, Calls Tryz.prog 129 #[.string s, .int .i64 (pl : Nat), .int .i64 3] wx fun e w' => e = .returned (.int .i64 (bh : Nat)) ∧ Below wx.heap.size wx w') (o : Option Nat)
    (RR : ∀ wx, Calls Tryz.prog 134 #[.string (s.extract i pl)] wx fun e w' => e = .returned (match o with | some v => .tuple #[.int .i64 (v : Nat), .int .i64 0] | none => .tuple #[.int .i64 0, .int .i64 13]) ∧ Below wx.heap.size wx w') :
    Calls Tryz.prog 108 #[.pointer (some ⟨b, 0, none⟩)] w (CutPost w b s i true (valT 2 s i pl o)) := by
  have ST := hid2 (St.made h 51)
  have hlt := h.lt
  have R2 := hid2 R
  have HP := prefix_at s e1 hez 46 (by decide)
  rw [hd] at HP
  have HPX := hid2 HP
  have HRB := hid2 RB
  have s1 := fun wx => sl_l s e1 hez wx
  have s2 := fun wx => sl_lh s i pl (by omega) (by omega) wx
  have hxz : (s.extract i pl).size ≤ 1048576 := by rw [size_cut s i _ (by omega)]; omega
  have T := hid2 (fun (n : Int) w' (hw : Rdr w' b s i) => take_c b i pl s (s.extract i pl) 2 n hxz w' hw)
  generalize hgx : s.extract i pl = x at *
  have HX := hid2 hgx
  clear hgx
  have HRR := hid2 RR
  have hne : ((e1 : Int) == (i : Int)) = false := beq_eq_false_iff_ne.2 (by omega)
  have HRP := hid2 RP
  have hw1 : IntKind.i64.wrap ((e1 : Int) + 1) = (e1 : Int) + 1 := by rw [IntKind.wrap_i64]; omega
  have hq : (e1 : Int) + 1 < (pl : Int) := by omega
  clear hpl RP
  have hq2 : ¬ (((pl : Nat) : Int) < (bh : Int)) := by omega
  clear h R HP RB RR hd hbh
  cases o with
  | none =>
    go_enter Tryz.func108, Tryz.ntmps108
    go_wp2_with fail
    obtain ⟨c0, c1, f0, f1⟩ := ST.out.rd.two
    generalize w.alloc _ = W at *
    go_region_held3 (fun w' => w'.cell? ⟨b, 0, none⟩ = some (.string s) ∧ w'.cell? ⟨b, 1, none⟩ = some (.int .i64 (i : Nat))) (simp [go_sem, *]) (first | (go_at_call 129; refine Calls.mono (R2.out _) ?_; rintro r w1 ⟨rfl, b1⟩; have S1 := hid2 (ST.out.next (below_on (Below.refl _ _).drew b1 (Nat.le_refl _))); obtain ⟨m0, m1, _, _⟩ := S1.out.rd.two; obtain ⟨m2, m3, m4, m5, m6, m7, m8, m9⟩ := S1.out.rb.four; have ml := S1.out.rd.lt; clear b1))
    clear c0 c1 f0 f1
    go_wp2_with fail
    refine Calls.mono (HPX.out _) ?_
    rintro r w2 ⟨rfl, rfl⟩
    go_wp2_with fail
    refine Calls.mono (HRP.out _) ?_
    rintro r w3 ⟨rfl, b3⟩
    have S3 := hid2 (S1.out.next b3)
    obtain ⟨n0, n1, _, _⟩ := S3.out.rd.two
    have nl := S3.out.rd.lt
    clear b3 m0 m1 m2 m3 m4 m5 m6 m7 m8 m9 ml
    go_wp2_with fail
    refine Calls.mono (HRB.out _) ?_
    rintro r w4 ⟨rfl, b4⟩
    have S4 := hid2 (S3.out.next b4)
    obtain ⟨k0, k1, _, _⟩ := S4.out.rd.two
    have kl := S4.out.rd.lt
    clear b4
    go_wp2_with fail
    go_quiet (fail)
    have S5 := hid2 (S4.out.next (drewN_b2 w4 nq))
    generalize w4.drewN nq = W5 at *
    clear k0 k1 kl
    go_wp2_with fail
    refine Calls.mono (HRR.out _) ?_
    rintro r w6 ⟨rfl, b6⟩
    have S6 := hid2 (S5.out.next b6)
    clear b6
    simp only []
    obtain ⟨p0, p1, p2, p3, g0, g1, g2, g3⟩ := S6.out.rb.four
    have bl := S6.out.rb.lt
    go_wp2_with fail
    refine bodyPost_ret (v := .tuple #[noV, .int .i64 13]) (by simp [results, Tryz.results108, go_sem, *]; rfl) rfl ⟨rfl, ?_⟩
    exact (S6.out.set _ _ _ _).stay
  | some v =>
    go_enter Tryz.func108, Tryz.ntmps108
    go_wp2_with fail
    obtain ⟨c0, c1, f0, f1⟩ := ST.out.rd.two
    generalize w.alloc _ = W at *
    go_region_held3 (fun w' => w'.cell? ⟨b, 0, none⟩ = some (.string s) ∧ w'.cell? ⟨b, 1, none⟩ = some (.int .i64 (i : Nat))) (simp [go_sem, *]) (first | (go_at_call 129; refine Calls.mono (R2.out _) ?_; rintro r w1 ⟨rfl, b1⟩; have S1 := hid2 (ST.out.next (below_on (Below.refl _ _).drew b1 (Nat.le_refl _))); obtain ⟨m0, m1, _, _⟩ := S1.out.rd.two; obtain ⟨m2, m3, m4, m5, m6, m7, m8, m9⟩ := S1.out.rb.four; have ml := S1.out.rd.lt; clear b1))
    clear c0 c1 f0 f1
    go_wp2_with fail
    refine Calls.mono (HPX.out _) ?_
    rintro r w2 ⟨rfl, rfl⟩
    go_wp2_with fail
    refine Calls.mono (HRP.out _) ?_
    rintro r w3 ⟨rfl, b3⟩
    have S3 := hid2 (S1.out.next b3)
    obtain ⟨n0, n1, _, _⟩ := S3.out.rd.two
    have nl := S3.out.rd.lt
    clear b3 m0 m1 m2 m3 m4 m5 m6 m7 m8 m9 ml
    go_wp2_with fail
    refine Calls.mono (HRB.out _) ?_
    rintro r w4 ⟨rfl, b4⟩
    have S4 := hid2 (S3.out.next b4)
    obtain ⟨k0, k1, _, _⟩ := S4.out.rd.two
    have kl := S4.out.rd.lt
    clear b4
    go_wp2_with fail
    go_quiet (fail)
    have S5 := hid2 (S4.out.next (drewN_b2 w4 nq))
    generalize w4.drewN nq = W5 at *
    clear k0 k1 kl
    go_wp2_with fail
    refine Calls.mono (HRR.out _) ?_
    rintro r w6 ⟨rfl, b6⟩
    have S6 := hid2 (S5.out.next b6)
    clear b6
    simp only []
    go_wp2_with fail
    refine Calls.mono (T.out _ _ S6.out.rd) ?_
    rintro r w7 ⟨rfl, M7⟩
    obtain ⟨bx, fin⟩ := S6.out.took M7
    obtain ⟨p0, p1, p2, p3, g0, g1, g2, g3⟩ := bx.four
    have bl := bx.lt
    have FIN := hid2 fin
    clear bx fin M7
    unfold tkv
    go_wp2_with fail
    refine bodyPost_ret (v := .tuple #[tkV ⟨2, x, (v : Int), i⟩, .int .i64 0]) (by simp [results, Tryz.results108, go_sem, *]; rfl) rfl ⟨by rw [HX.out], ?_⟩
    exact FIN.out _ _ _ _
theorem number_c (b i : Nat) (s : ByteArray) (hi : i < s.size) (hz : s.size ≤ 1048576) (w : World) (h : Rdr w b s i) :
    Calls Tryz.prog 108 #[.pointer (some ⟨b, 0, none⟩)] w (CutPost w b s i (decide (cls s 2 i ≠ i)) (numT s i)) := by
  have R := fun wx => run_at s i 2 (by omega) hz wx
  have hin := cls_in s 2 i (by omega)
  by_cases h1 : cls s 2 i = i
  · rw [h1] at R
    refine (number_none b i s w h R).mono ?_
    intro e w' hh
    unfold CutPost
    rw [if_neg (by simp [h1])]
    exact hh
  · have own : decide (cls s 2 i ≠ i) = true := by simp [h1]
    rw [own]
    have hlt : i < cls s 2 i := by omega
    have spn : ∀ e, e ≤ s.size → ∀ wx, Calls Tryz.prog 135 #[.string (s.extract i e)] wx fun r w' => r = .returned (match spanN (s.extract i e).data.toList with | some v => .tuple #[.int .i64 (v : Nat), .int .i64 0] | none => .tuple #[.int .i64 0, .int .i64 13]) ∧ Below wx.heap.size wx w' :=
      fun e he wx => span_at (s.extract i e) (by rw [size_cut s i e he]; omega) wx
    have rdn : ∀ e, e ≤ s.size → ∀ wx, Calls Tryz.prog 134 #[.string (s.extract i e)] wx fun r w' => r = .returned (match readN (s.extract i e).data.toList with | some v => .tuple #[.int .i64 (v : Nat), .int .i64 0] | none => .tuple #[.int .i64 0, .int .i64 13]) ∧ Below wx.heap.size wx w' :=
      fun e he wx => read_at (s.extract i e) (by rw [size_cut s i e he]; omega) wx
    have hE := numE_in (s := s) (i := i) (by omega)
    have hB := cls_in s 3 (numE s i) hE.2
    have RB := fun wx => run_at s (numE s i) 3 hE.2 hz wx
    unfold numT
    by_cases hd : s.get! (cls s 2 i) = 46
    · have hj := get_in (s := s) (i := cls s 2 i) (by rw [hd]; decide)
      have hd' : (s.get! (cls s 2 i) == 46) = true := by rw [hd]; rfl
      have hP := cls_in s 2 (cls s 2 i + 1) hj
      have RP := fun wx => run_at s (cls s 2 i + 1) 2 hj hz wx
      rw [show ((cls s 2 i + 1 : Nat) : Int) = ((cls s 2 i : Nat) : Int) + 1 by omega] at RP
      by_cases hpl : cls s 2 i + 1 < cls s 2 (cls s 2 i + 1)
      · have hN : numE s i = cls s 2 (cls s 2 i + 1) := if_pos ⟨hd, hpl⟩
        rw [hN] at RB hB ⊢
        by_cases hb : cls s 2 (cls s 2 i + 1) < cls s 3 (cls s 2 (cls s 2 i + 1))
        · rw [if_pos hb]
          exact number_CD b i _ s hz hlt hin.2 w h R hd' _ hpl hP.2 RP _ hb hB.2 RB _ (spn _ hB.2)
        · rw [if_neg hb]
          exact number_CN b i _ s hz hlt hin.2 w h R hd' _ hpl hP.2 RP _ hb hB.2 RB _ (rdn _ hP.2)
      · have hN : numE s i = cls s 2 i := if_neg (fun hh => hpl hh.2)
        rw [hN] at RB hB ⊢
        by_cases hb : cls s 2 i < cls s 3 (cls s 2 i)
        · rw [if_pos hb]
          exact number_BD b i _ s hz hlt hin.2 w h R hd' _ hpl hP.2 RP _ hb hB.2 RB _ (spn _ hB.2)
        · rw [if_neg hb]
          exact number_BN b i _ s hz hlt hin.2 w h R hd' _ hpl hP.2 RP _ hb hB.2 RB _ (rdn _ hin.2)
    · have hd' : (s.get! (cls s 2 i) == 46) = false := beq_eq_false_iff_ne.2 hd
      have hN : numE s i = cls s 2 i := if_neg (fun hh => hd hh.1)
      rw [hN] at RB hB ⊢
      by_cases hb : cls s 2 i < cls s 3 (cls s 2 i)
      · rw [if_pos hb]
        exact number_AD b i _ s hz hlt hin.2 w h R hd' _ hb hB.2 RB _ (spn _ hB.2)
      · rw [if_neg hb]
        exact number_AN b i _ s hz hlt hin.2 w h R hd' _ hb hB.2 RB _ (rdn _ hin.2)
end Go.Proofs.YtalmagpikacafaaGreatDoor
end
section
namespace Go.Proofs.YtalmagpikacafaaGreatDoor
open Go.RowKit Go.Lib

theorem tail_list (s : ByteArray) (i : Nat) : (s.extract i s.size).data.toList = s.data.toList.drop i := by
  simp only [ByteArray.data_extract, Array.toList_extract, List.extract_eq_take_drop]
  rw [List.take_of_length_le]
  rw [List.length_drop, ← Lib.size_eq]
  omega
theorem tail_cons (s : ByteArray) (i : Nat) (hi : i < s.size) : (s.extract i s.size).data.toList = s.get! i :: (s.extract (i + 1) s.size).data.toList := by
  have hl : i < s.data.toList.length := by rw [← Lib.size_eq]; exact hi
  rw [tail_list, tail_list, List.drop_eq_getElem_cons hl]
  congr 1
  have := toL_get s i hi
  rw [List.getElem?_eq_getElem hl] at this
  exact Option.some.inj this
theorem prefix_yes (s : ByteArray) (i : Nat) (c : UInt8) (h : s.get! i = c) (hi : i < s.size) (w : World) : Calls Tryz.prog 156 #[.string (s.extract i s.size), .string ⟨#[c]⟩] w fun e w' => e = .returned (.tuple #[.string (s.extract (i + 1) s.size), .bool true]) ∧ w' = w := by
  refine (Go.Proofs.Tryz.strings_CutPrefix _ ⟨#[c]⟩ w).mono ?_
  rintro e w' ⟨rfl, rfl⟩
  refine ⟨?_, rfl⟩
  show Ending.returned (Value.tuple #[.string ⟨(Lib.trimPrefix (s.extract i s.size).data.toList [c]).toArray⟩, .bool (Lib.hasPrefix (s.extract i s.size).data.toList [c])]) = _
  have hp : Lib.hasPrefix (s.extract i s.size).data.toList [c] = true := by
    rw [tail_cons s i hi, h]
    simp [Lib.hasPrefix]
  have ht : Lib.trimPrefix (s.extract i s.size).data.toList [c] = (s.extract (i + 1) s.size).data.toList := by
    unfold Lib.trimPrefix
    rw [if_pos hp, tail_cons s i hi]
    rfl
  rw [hp, ht]
theorem prefix_not (s : ByteArray) (i : Nat) (c : UInt8) (h : s.get! i ≠ c) (hi : i < s.size) (w : World) : Calls Tryz.prog 156 #[.string (s.extract i s.size), .string ⟨#[c]⟩] w fun e w' => e = .returned (.tuple #[.string (s.extract i s.size), .bool false]) ∧ w' = w := by
  refine (Go.Proofs.Tryz.strings_CutPrefix _ ⟨#[c]⟩ w).mono ?_
  rintro e w' ⟨rfl, rfl⟩
  refine ⟨?_, rfl⟩
  show Ending.returned (Value.tuple #[.string ⟨(Lib.trimPrefix (s.extract i s.size).data.toList [c]).toArray⟩, .bool (Lib.hasPrefix (s.extract i s.size).data.toList [c])]) = _
  have hp : Lib.hasPrefix (s.extract i s.size).data.toList [c] = false := by
    rw [tail_cons s i hi]
    have : (c == s.get! i) = false := beq_eq_false_iff_ne.2 (fun e => h e.symm)
    show (c == s.get! i && List.isPrefixOf [] _) = false
    rw [this]
    rfl
  have ht : Lib.trimPrefix (s.extract i s.size).data.toList [c] = (s.extract i s.size).data.toList := by
    unfold Lib.trimPrefix
    rw [if_neg (by rw [hp]; decide)]
  rw [hp, ht]
theorem cut_cut (s : ByteArray) (a m : Nat) (h : a + m ≤ s.size) : (s.extract a s.size).extract 0 m = s.extract a (a + m) := by
  apply ByteArray.ext
  apply Array.ext'
  simp only [ByteArray.data_extract, Array.toList_extract, List.extract_eq_take_drop]
  rw [List.drop_zero, List.take_take]
  congr 1
  have := Lib.size_eq s
  omega
theorem cut_tail (s : ByteArray) (a m : Nat) : (s.extract a s.size).extract m (s.extract a s.size).size = s.extract (a + m) s.size := by
  apply ByteArray.ext
  apply Array.ext'
  rw [tail_list (s.extract a s.size) m, tail_list s a, tail_list s (a + m), List.drop_drop]
/-- What a cut answers, handed on. -/
theorem cut_through {w W w2 : World} {b i : Nat} {s : ByteArray} {own : Bool} {tr : TR} {r : Ending} (st : St w W b i s zs) (hh : CutPost W b s i own tr r w2) : ∃ (k : Int) (x : ByteArray) (n a e : Int), r = .returned (.tuple #[.agg #[.int .i64 k, .string x, .int .i64 n, .int .i64 a], .int .i64 e]) ∧ Box w2 w.heap.size zs ∧
    CutPost w b s i own tr (.returned (.tuple #[.agg #[.int .i64 k, .string x, .int .i64 n, .int .i64 a], .int .i64 e])) ((((w2.setCell ⟨w.heap.size, 0, none⟩ (.int .i64 k)).setCell ⟨w.heap.size, 1, none⟩ (.string x)).setCell ⟨w.heap.size, 2, none⟩ (.int .i64 n)).setCell ⟨w.heap.size, 3, none⟩ (.int .i64 a)) := by
  unfold CutPost at hh ⊢
  split at hh
  · rename_i ho
    split at hh
    · obtain ⟨rfl, m⟩ := hh
      obtain ⟨bx, fin⟩ := st.took m
      refine ⟨_, _, _, _, _, rfl, bx, ?_⟩
      rw [if_pos ho]
      exact ⟨rfl, fin _ _ _ _⟩
    · obtain ⟨rfl, m⟩ := hh
      obtain ⟨bx, fin⟩ := st.took m
      refine ⟨_, _, _, _, _, rfl, bx, ?_⟩
      rw [if_pos ho]
      exact ⟨rfl, fin _ _ _ _⟩
  · rename_i ho
    obtain ⟨rfl, m⟩ := hh
    obtain ⟨bx, fin⟩ := st.took m
    refine ⟨_, _, _, _, _, rfl, bx, ?_⟩
    rw [if_neg ho]
    exact ⟨rfl, fin _ _ _ _⟩
set_option maxHeartbeats 4000000 in
theorem enclosed_c (b i : Nat) (s : ByteArray) (hi : i < s.size) (hz : s.size ≤ 1048576) (hv : Vd s i) (k : Int) (nv : List UInt8) (c d : UInt8) (hc0 : c ≠ 0) (hc1 : c.toNat < 128) (hd0 : d ≠ 0) (hch : ∀ x ∈ nv, x.toNat < 128) (h2 : 2 ≤ nv.length) (h4 : nv.length ≤ 4) (w : World) (h : Rdr w b s i) :
    Calls Tryz.prog 136 #[.pointer (some ⟨b, 0, none⟩), .int .i64 k, .string ⟨#[c]⟩, .string ⟨#[d]⟩, .string (ofL nv)] w (CutPost w b s i (decide (s.get! i = c)) (encT k nv d s i)) := by
  have ST := hid2 (St.made h 51)
  have hlt := h.lt
  have s0 := fun wx => sl_l s i (by omega) wx
  by_cases h1 : s.get! i = c
  · have own : decide (s.get! i = c) = true := decide_eq_true h1
    rw [own]
    have HP := hid2 (fun wx => prefix_yes s i c h1 hi wx)
    have hv1 := vd_low hv (by rw [h1]; exact hc0) (by rw [h1]; exact hc1)
    have HI := fun wx => indexAny_c s nv hch h2 h4 (i + 1) hi hv1 hz wx
    have hin := rn_in s (nin nv) (i + 1) hi
    have hct := count_cut (nin nv) (i + 1) hi hv1
    obtain ⟨tr, HWd⟩ : ∃ tr, Hid (tr = encT k nv d s i) := ⟨_, rfl⟩
    rw [← HWd.out]
    unfold encT at HWd
    unfold anyI at HI
    generalize hr : rn s (nin nv) (i + 1) = rr at *
    clear hr
    by_cases hrs : rr < s.size
    · rw [if_pos hrs] at HI
      obtain ⟨m, rfl⟩ : ∃ m, rr = i + 1 + m := ⟨rr - (i + 1), by omega⟩
      rw [show i + 1 + m - (i + 1) = m by omega] at HI
      have s1 := fun wx => sl_l (s.extract (i + 1) s.size) m (by rw [size_tail]; omega) wx
      rw [cut_tail s (i + 1) m] at s1
      have s2 := fun wx => sl_h (s.extract (i + 1) s.size) m (by rw [size_tail]; omega) wx
      rw [cut_cut s (i + 1) m (by omega)] at s2
      have HQ := fun wx => prefix_at s (i + 1 + m) (by omega) d hd0 wx
      have hxz : (s.extract (i + 1) (i + 1 + m)).size = m := by rw [size_cut s _ _ (by omega)]; omega
      have C := fun wx => Go.Proofs.Tryz.utf8_RuneCountInString (s.extract (i + 1) (i + 1 + m)) wx (by omega)
      rw [hct] at C
      have T := fun w' (hw : Rdr w' b s i) => take_c b i (i + 1 + m + 1) s (s.extract (i + 1) (i + 1 + m)) k 0 (by omega) w' hw
      have hcl : (seg s (nin nv) (i + 1)).length ≤ m := by
        rw [← hct, count_all]
        have := rs_length0 (s.extract (i + 1) (i + 1 + m))
        omega
      generalize hgx : s.extract (i + 1) (i + 1 + m) = x at *
      generalize hgt : s.extract (i + 1) s.size = rest at *
      generalize hgq : s.extract (i + 1 + m) s.size = rest2 at *
      generalize (seg s (nin nv) (i + 1)).length = cn at *
      have he : ((i + 1 + m + 1 : Nat) : Int) = (i : Int) + 1 + (m : Int) + 1 := by omega
      rw [he] at T
      have HT := hid2 T
      have HHI := hid2 HI
      have HC := hid2 C
      clear T HI C hct hgx hgt hgq hxz hv hv1 own he hch h1
      cases hq : (s.get! (i + 1 + m) == d) with
      | false =>
        have ht : tr = .error 12 := by rw [HWd.out]; exact if_neg (fun hh => by rw [hh.1] at hq; simp at hq)
        refine Calls.mono ?_ (fun r w' (hh : r = Ending.returned (.tuple #[noV, .int .i64 12]) ∧ Moved w b s i w') => show CutPost w b s i true tr r w' from by unfold CutPost; rw [ht]; exact hh)
        rw [hq] at HQ
        have HHQ := hid2 HQ
        clear ht HWd hq HQ HC HT
        go_enter Tryz.func136, Tryz.ntmps136
        go_wp2_with fail
        obtain ⟨c0, c1, f0, f1⟩ := ST.out.rd.two
        generalize w.alloc _ = W at *
        go_quiet (exact Calls.quiet_of_same (HP.out _))
        have S1 := hid2 (ST.out.next (drewN_b2 W nq))
        generalize W.drewN nq = W1 at *
        clear c0 c1 f0 f1
        go_wp2_with fail
        refine Calls.mono (HHI.out _) ?_
        rintro r w2 ⟨rfl, b2⟩
        have S2 := hid2 (S1.out.next b2)
        clear b2
        go_wp2_with fail
        refine Calls.mono (HHQ.out _) ?_
        rintro r w3 ⟨rfl, rfl⟩
        obtain ⟨p0, p1, p2, p3, g0, g1, g2, g3⟩ := S2.out.rb.four
        have bl := S2.out.rb.lt
        go_wp2_with fail
        refine bodyPost_ret (v := .tuple #[noV, .int .i64 12]) (by simp [results, Tryz.results136, go_sem, *]; rfl) rfl ⟨rfl, ?_⟩
        exact (S2.out.set _ _ _ _).stay
      | true =>
        rw [hq] at HQ
        have HHQ := hid2 HQ
        have hqe : s.get! (i + 1 + m) = d := by simpa using hq
        by_cases h64 : cn ≤ 64
        · have h64' : ¬ ((64 : Int) < (cn : Int)) := by omega
          have ht : tr = .ok (⟨k, x, 0, i⟩, i + 1 + m + 1) := by rw [HWd.out]; exact if_pos ⟨hqe, h64⟩
          refine Calls.mono ?_ (fun r w' (hh : r = Ending.returned (.tuple #[tkV ⟨k, x, 0, i⟩, .int .i64 0]) ∧ Moved w b s (i + 1 + m + 1) w') => show CutPost w b s i true tr r w' from by unfold CutPost; rw [ht]; exact hh)
          clear ht HWd hq HQ hqe h64
          go_enter Tryz.func136, Tryz.ntmps136
          go_wp2_with fail
          obtain ⟨c0, c1, f0, f1⟩ := ST.out.rd.two
          generalize w.alloc _ = W at *
          go_quiet (exact Calls.quiet_of_same (HP.out _))
          have S1 := hid2 (ST.out.next (drewN_b2 W nq))
          generalize W.drewN nq = W1 at *
          clear c0 c1 f0 f1
          go_wp2_with fail
          refine Calls.mono (HHI.out _) ?_
          rintro r w2 ⟨rfl, b2⟩
          have S2 := hid2 (S1.out.next b2)
          clear b2
          go_wp2_with fail
          refine Calls.mono (HHQ.out _) ?_
          rintro r w3 ⟨rfl, rfl⟩
          go_wp2_with fail
          refine Calls.mono (HC.out _) ?_
          rintro r w4 ⟨rfl, pos, rfl⟩
          have S4 : Hid (St w (w3.iter x pos) b i s zs) := S2.out.next ((Below.refl _ _).alloc (Nat.le_refl _) _)
          generalize w3.iter x pos = w4 at *
          clear HC HHQ HHI HP
          obtain ⟨n0, n1, _, _⟩ := S4.out.rd.two
          have nl := S4.out.rd.lt
          go_wp2_with fail
          refine Calls.mono (HT.out _ S4.out.rd) ?_
          rintro r w5 ⟨rfl, M5⟩
          obtain ⟨bx, fin⟩ := S4.out.took M5
          obtain ⟨p0, p1, p2, p3, g0, g1, g2, g3⟩ := bx.four
          have bl := bx.lt
          have FIN := hid2 fin
          clear bx fin M5
          unfold tkv
          go_wp2_with fail
          refine bodyPost_ret (v := .tuple #[tkV ⟨k, x, 0, i⟩, .int .i64 0]) (by simp [results, Tryz.results136, go_sem, *]; rfl) rfl ⟨rfl, ?_⟩
          exact FIN.out _ _ _ _
        · have h64' : (64 : Int) < (cn : Int) := by omega
          have ht : tr = .error 12 := by rw [HWd.out]; exact if_neg (fun hh => h64 hh.2)
          refine Calls.mono ?_ (fun r w' (hh : r = Ending.returned (.tuple #[noV, .int .i64 12]) ∧ Moved w b s i w') => show CutPost w b s i true tr r w' from by unfold CutPost; rw [ht]; exact hh)
          clear ht HWd hq HQ hqe h64 HT
          go_enter Tryz.func136, Tryz.ntmps136
          go_wp2_with fail
          obtain ⟨c0, c1, f0, f1⟩ := ST.out.rd.two
          generalize w.alloc _ = W at *
          go_quiet (exact Calls.quiet_of_same (HP.out _))
          have S1 := hid2 (ST.out.next (drewN_b2 W nq))
          generalize W.drewN nq = W1 at *
          clear c0 c1 f0 f1
          go_wp2_with fail
          refine Calls.mono (HHI.out _) ?_
          rintro r w2 ⟨rfl, b2⟩
          have S2 := hid2 (S1.out.next b2)
          clear b2
          go_wp2_with fail
          refine Calls.mono (HHQ.out _) ?_
          rintro r w3 ⟨rfl, rfl⟩
          go_wp2_with fail
          refine Calls.mono (HC.out _) ?_
          rintro r w4 ⟨rfl, pos, rfl⟩
          have S4 : Hid (St w (w3.iter x pos) b i s zs) := S2.out.next ((Below.refl _ _).alloc (Nat.le_refl _) _)
          generalize w3.iter x pos = w4 at *
          obtain ⟨p0, p1, p2, p3, g0, g1, g2, g3⟩ := S4.out.rb.four
          have bl := S4.out.rb.lt
          go_wp2_with fail
          refine bodyPost_ret (v := .tuple #[noV, .int .i64 12]) (by simp [results, Tryz.results136, go_sem, *]; rfl) rfl ⟨rfl, ?_⟩
          exact (S4.out.set _ _ _ _).stay
    · obtain rfl : rr = s.size := by omega
      rw [if_neg hrs] at HI
      have ht : tr = .error 12 := by rw [HWd.out]; exact if_neg (fun hh => absurd (get_in (s := s) (by rw [hh.1]; exact hd0)) hrs)
      refine Calls.mono ?_ (fun r w' (hh : r = Ending.returned (.tuple #[noV, .int .i64 12]) ∧ Moved w b s i w') => show CutPost w b s i true tr r w' from by unfold CutPost; rw [ht]; exact hh)
      generalize s.extract (i + 1) s.size = rest at *
      have HHI := hid2 HI
      clear ht HWd HI hct hrs hv hv1 own hch h1
      go_enter Tryz.func136, Tryz.ntmps136
      go_wp2_with fail
      obtain ⟨c0, c1, f0, f1⟩ := ST.out.rd.two
      generalize w.alloc _ = W at *
      go_quiet (exact Calls.quiet_of_same (HP.out _))
      have S1 := hid2 (ST.out.next (drewN_b2 W nq))
      generalize W.drewN nq = W1 at *
      clear c0 c1 f0 f1
      go_wp2_with fail
      refine Calls.mono (HHI.out _) ?_
      rintro r w2 ⟨rfl, b2⟩
      have S2 := hid2 (S1.out.next b2)
      clear b2
      obtain ⟨p0, p1, p2, p3, g0, g1, g2, g3⟩ := S2.out.rb.four
      have bl := S2.out.rb.lt
      go_wp2_with fail
      refine bodyPost_ret (v := .tuple #[noV, .int .i64 12]) (by simp [results, Tryz.results136, go_sem, *]; rfl) rfl ⟨rfl, ?_⟩
      exact (S2.out.set _ _ _ _).stay
  · have hP : ∀ r w', r = Ending.returned (.tuple #[noV, .int .i64 0]) ∧ Moved w b s i w' → CutPost w b s i (decide (s.get! i = c)) (encT k nv d s i) r w' := fun r w' hh => by
      unfold CutPost
      rw [if_neg (by simp [h1])]
      exact hh
    refine Calls.mono ?_ hP
    have HP := hid2 (fun wx => prefix_not s i c h1 hi wx)
    generalize s.extract i s.size = rest at *
    clear hP h1 h hv hch hc0 hc1 hd0 h2 h4
    go_enter Tryz.func136, Tryz.ntmps136
    go_wp2_with fail
    obtain ⟨c0, c1, f0, f1⟩ := ST.out.rd.two
    generalize w.alloc _ = W at *
    go_quiet (exact Calls.quiet_of_same (HP.out _))
    have S1 := hid2 (ST.out.next (drewN_b2 W nq))
    generalize W.drewN nq = W1 at *
    clear c0 c1 f0 f1
    obtain ⟨p0, p1, p2, p3, g0, g1, g2, g3⟩ := S1.out.rb.four
    have bl := S1.out.rb.lt
    go_wp2_with fail
    refine bodyPost_ret (v := .tuple #[noV, .int .i64 0]) (by simp [results, Tryz.results136, go_sem, *]; rfl) rfl ⟨rfl, ?_⟩
    exact (S1.out.set _ _ _ _).stay
theorem quoted_c (b i : Nat) (s : ByteArray) (hi : i < s.size) (hz : s.size ≤ 1048576) (hv : Vd s i) (w : World) (h : Rdr w b s i) :
    Calls Tryz.prog 109 #[.pointer (some ⟨b, 0, none⟩)] w (CutPost w b s i (decide (s.get! i = 34)) (encT 4 [34, 10] 34 s i)) := by
  have ST := hid2 (St.made h 51)
  have hlt := h.lt
  have E := hid2 (fun w' (hw : Rdr w' b s i) => enclosed_c b i s hi hz hv 4 [34, 10] 34 34 (by decide) (by decide) (by decide) (by decide) (by decide) (by decide) w' hw)
  have hQ := hid2 (fun (W w2 : World) (st : St w W b i s zs) (r : Ending) (hh : CutPost W b s i (decide (s.get! i = 34)) (encT 4 [34, 10] 34 s i) r w2) => cut_through st hh)
  clear h hv
  generalize decide (s.get! i = 34) = own at *
  generalize encT 4 [34, 10] 34 s i = tr at *
  go_enter Tryz.func109, Tryz.ntmps109
  go_wp2_with fail
  generalize w.alloc _ = W at *
  refine Calls.mono (E.out _ ST.out.rd) ?_
  intro r w2 hh
  obtain ⟨k, x, n, a, e, rfl, bx, hp⟩ := hQ.out _ _ ST.out _ hh
  obtain ⟨p0, p1, p2, p3, g0, g1, g2, g3⟩ := bx.four
  have bl := bx.lt
  have HP := hid2 hp
  clear hh hp bx hQ E
  go_wp2_with fail
  refine bodyPost_ret (v := .tuple #[.agg #[.int .i64 k, .string x, .int .i64 n, .int .i64 a], .int .i64 e]) (by simp [results, Tryz.results109, go_sem, *]) rfl ?_
  exact HP.out
theorem bracket_c (b i : Nat) (s : ByteArray) (hi : i < s.size) (hz : s.size ≤ 1048576) (hv : Vd s i) (w : World) (h : Rdr w b s i) :
    Calls Tryz.prog 110 #[.pointer (some ⟨b, 0, none⟩)] w (CutPost w b s i (decide (s.get! i = 91)) (encT 8 [91, 93, 34, 10] 93 s i)) := by
  have ST := hid2 (St.made h 51)
  have hlt := h.lt
  have E := hid2 (fun w' (hw : Rdr w' b s i) => enclosed_c b i s hi hz hv 8 [91, 93, 34, 10] 91 93 (by decide) (by decide) (by decide) (by decide) (by decide) (by decide) w' hw)
  have hQ := hid2 (fun (W w2 : World) (st : St w W b i s zs) (r : Ending) (hh : CutPost W b s i (decide (s.get! i = 91)) (encT 8 [91, 93, 34, 10] 93 s i) r w2) => cut_through st hh)
  clear h hv
  generalize decide (s.get! i = 91) = own at *
  generalize encT 8 [91, 93, 34, 10] 93 s i = tr at *
  go_enter Tryz.func110, Tryz.ntmps110
  go_wp2_with fail
  generalize w.alloc _ = W at *
  refine Calls.mono (E.out _ ST.out.rd) ?_
  intro r w2 hh
  obtain ⟨k, x, n, a, e, rfl, bx, hp⟩ := hQ.out _ _ ST.out _ hh
  obtain ⟨p0, p1, p2, p3, g0, g1, g2, g3⟩ := bx.four
  have bl := bx.lt
  have HP := hid2 hp
  clear hh hp bx hQ E
  go_wp2_with fail
  refine bodyPost_ret (v := .tuple #[.agg #[.int .i64 k, .string x, .int .i64 n, .int .i64 a], .int .i64 e]) (by simp [results, Tryz.results110, go_sem, *]) rfl ?_
  exact HP.out
end Go.Proofs.YtalmagpikacafaaGreatDoor
end
section
namespace Go.Proofs.YtalmagpikacafaaGreatDoor
open Go.RowKit Go.Lib

theorem cut_two (s : ByteArray) (i : Nat) (h : i + 2 ≤ s.size) : (s.extract i (i + 2)).data.toList = [s.get! i, s.get! (i + 1)] := by
  have hz := size_cut s i (i + 2) h
  have e0 := toL_get (s.extract i (i + 2)) 0 (by omega)
  have e1 := toL_get (s.extract i (i + 2)) 1 (by omega)
  rw [gd_cut s i (i + 2) 0 h (by omega)] at e0
  rw [gd_cut s i (i + 2) 1 h (by omega)] at e1
  have hl : (s.extract i (i + 2)).data.toList.length = 2 := by rw [← Lib.size_eq]; omega
  match hm : (s.extract i (i + 2)).data.toList, hl with
  | [a, b], _ =>
    rw [hm] at e0 e1
    simp at e0 e1
    rw [e0, e1]
theorem cut_one (s : ByteArray) (i : Nat) (h : i + 1 ≤ s.size) : (s.extract i (i + 1)).data.toList = [s.get! i] := by
  have hz := size_cut s i (i + 1) h
  have e0 := toL_get (s.extract i (i + 1)) 0 (by omega)
  rw [gd_cut s i (i + 1) 0 h (by omega)] at e0
  have hl : (s.extract i (i + 1)).data.toList.length = 1 := by rw [← Lib.size_eq]; omega
  match hm : (s.extract i (i + 1)).data.toList, hl with
  | [a], _ =>
    rw [hm] at e0
    simp at e0
    rw [e0]
theorem sgn_two (a b : UInt8) : sgn [a, b] = two a b := by
  unfold sgn signs two
  simp only [List.contains_cons, List.contains_nil, Bool.or_false]
  have h1 : ∀ (x y : UInt8), ([a, b] == [x, y]) = (a == x && b == y) := fun x y => by rw [Bool.eq_iff_iff]; simp
  have h2 : ∀ (x : UInt8), ([a, b] == [x]) = false := fun x => by rw [beq_eq_false_iff_ne]; simp
  simp only [h1, h2, Bool.or_false]
  cases (a == 46 && b == 46) <;> cases (a == 60) <;> cases (a == 62) <;> cases (b == 61) <;> rfl
theorem sgn_one (a : UInt8) : sgn [a] = one a := by
  unfold sgn signs one
  simp only [List.contains_cons, List.contains_nil, Bool.or_false]
  have h1 : ∀ (x : UInt8), ([a] == [x]) = (a == x) := fun x => by rw [Bool.eq_iff_iff]; simp
  have h2 : ∀ (x y : UInt8), ([a] == [x, y]) = false := fun x y => by rw [beq_eq_false_iff_ne]; simp
  simp only [h1, h2, Bool.false_or]
theorem two_in {s : ByteArray} {i : Nat} (h : two (s.get! i) (s.get! (i + 1)) = true) : i + 2 ≤ s.size := by
  unfold two at h
  simp only [Bool.or_eq_true, Bool.and_eq_true, beq_iff_eq] at h
  have : s.get! (i + 1) ≠ 0 := by rcases h with ⟨_, h⟩ | ⟨_, h⟩ <;> (rw [h]; decide)
  exact get_in this
set_option maxHeartbeats 8000000 in
theorem sign_c (b i : Nat) (s : ByteArray) (hi : i < s.size) (hz : s.size ≤ 1048576) (w : World) (h : Rdr w b s i) :
    Calls Tryz.prog 111 #[.pointer (some ⟨b, 0, none⟩)] w (CutPost w b s i (two (s.get! i) (s.get! (i + 1)) || one (s.get! i)) (sigT s i)) := by
  have ST := hid2 (St.made h 51)
  have hlt := h.lt
  have hN2 : Hid (two (s.get! i) (s.get! (i + 1)) = true → i + 2 ≤ s.size) := two_in
  have HG1 : Hid (∀ wx, Calls Tryz.prog 137 #[.string (s.extract i (i + 1))] wx fun e w' => e = .returned (.bool (one (s.get! i))) ∧ w' = wx) := fun wx => by
    have := isSign_c (s.extract i (i + 1)) wx
    rw [cut_one s i hi, sgn_one] at this
    exact this.mono fun _ _ k => ⟨k.1, k.2.symm⟩
  have HG2 : Hid (i + 2 ≤ s.size → ∀ wx, Calls Tryz.prog 137 #[.string (s.extract i (i + 2))] wx fun e w' => e = .returned (.bool (two (s.get! i) (s.get! (i + 1)))) ∧ w' = wx) := fun hi2 wx => by
    have := isSign_c (s.extract i (i + 2)) wx
    rw [cut_two s i hi2, sgn_two] at this
    exact this.mono fun _ _ k => ⟨k.1, k.2.symm⟩
  have T1 : Hid (∀ w', Rdr w' b s i → Calls Tryz.prog 131 #[.pointer (some ⟨b, 0, none⟩), .int .i64 ((i : Int) + 1), .int .i64 5, .string (s.extract i (i + 1)), .int .i64 0] w' fun r w2 => r = .returned (tkv 5 (s.extract i (i + 1)) 0 i) ∧ Moved w' b s (i + 1) w2) := fun w' hw => by
    have := take_c b i (i + 1) s (s.extract i (i + 1)) 5 0 (by rw [size_cut s i _ hi]; omega) w' hw
    rw [show ((i + 1 : Nat) : Int) = (i : Int) + 1 by omega] at this
    exact this
  have T2 : Hid (i + 2 ≤ s.size → ∀ w', Rdr w' b s i → Calls Tryz.prog 131 #[.pointer (some ⟨b, 0, none⟩), .int .i64 ((i : Int) + 2), .int .i64 5, .string (s.extract i (i + 2)), .int .i64 0] w' fun r w2 => r = .returned (tkv 5 (s.extract i (i + 2)) 0 i) ∧ Moved w' b s (i + 2) w2) := fun hi2 w' hw => by
    have := take_c b i (i + 2) s (s.extract i (i + 2)) 5 0 (by rw [size_cut s i _ hi2]; omega) w' hw
    rw [show ((i + 2 : Nat) : Int) = (i : Int) + 2 by omega] at this
    exact this
  have hs1 := fun wx => sl_lh s i (i + 1) (by omega) hi wx
  have hs2 : Hid (i + 2 ≤ s.size → ∀ wx, (Instr.slice 9 (.string s) (some (.int .i64 (i : Nat))) (some (.int .i64 ((i : Int) + 2))) none).run Tryz.prog wx = .ok (.string (s.extract i (i + 2))) wx) := fun hi2 wx => by
    have := sl_lh s i (i + 2) (by omega) hi2 wx
    rw [show ((i + 2 : Nat) : Int) = (i : Int) + 2 by omega] at this
    exact this
  rw [show ((i + 1 : Nat) : Int) = (i : Int) + 1 by omega] at hs1
  have HO2 : Hid (two (s.get! i) (s.get! (i + 1)) = true → ∀ r w', r = Ending.returned (.tuple #[tkV ⟨5, s.extract i (i + 2), 0, i⟩, .int .i64 0]) ∧ Moved w b s (i + 2) w' → CutPost w b s i (two (s.get! i) (s.get! (i + 1)) || one (s.get! i)) (sigT s i) r w') := fun h2 r w' hh => by
    unfold CutPost sigT
    rw [h2]
    exact hh
  have HO1 : Hid (two (s.get! i) (s.get! (i + 1)) = false → one (s.get! i) = true → ∀ r w', r = Ending.returned (.tuple #[tkV ⟨5, s.extract i (i + 1), 0, i⟩, .int .i64 0]) ∧ Moved w b s (i + 1) w' → CutPost w b s i (two (s.get! i) (s.get! (i + 1)) || one (s.get! i)) (sigT s i) r w') := fun h2 h1 r w' hh => by
    unfold CutPost sigT
    rw [h2, h1]
    exact hh
  have HO0 : Hid (two (s.get! i) (s.get! (i + 1)) = false → one (s.get! i) = false → ∀ r w', r = Ending.returned (.tuple #[noV, .int .i64 0]) ∧ Moved w b s i w' → CutPost w b s i (two (s.get! i) (s.get! (i + 1)) || one (s.get! i)) (sigT s i) r w') := fun h2 h1 r w' hh => by
    unfold CutPost
    rw [h2, h1]
    exact hh
  generalize CutPost w b s i (two (s.get! i) (s.get! (i + 1)) || one (s.get! i)) (sigT s i) = Post at *
  generalize two (s.get! i) (s.get! (i + 1)) = t2 at *
  generalize one (s.get! i) = t1 at *
  generalize s.extract i (i + 2) = x2 at *
  generalize s.extract i (i + 1) = x1 at *
  have hw2 : IntKind.i64.wrap ((i : Int) + 2) = (i : Int) + 2 := by rw [IntKind.wrap_i64]; omega
  have hw1 : IntKind.i64.wrap ((i : Int) + 1) = (i : Int) + 1 := by rw [IntKind.wrap_i64]; omega
  clear h
  go_enter Tryz.func111, Tryz.ntmps111
  go_wp2_with fail
  have hm : Hid (St w ((w.alloc (.cells zs.toArray 51)).alloc (.cells #[.int .i64 2, .int .i64 1] 3)) b i s zs ∧ Box ((w.alloc (.cells zs.toArray 51)).alloc (.cells #[.int .i64 2, .int .i64 1] 3)) (w.heap.size + 1) [.int .i64 2, .int .i64 1]) :=
    ⟨ST.out.next ((Below.refl _ _).alloc (Nat.le_refl _) _), by simpa using Box.new (w.alloc (.cells zs.toArray 51)) [.int .i64 2, .int .i64 1] 3⟩
  go_loopw [9] (fun s9 wr => ∃ j : Nat, s9 = .int .i64 (j : Nat) ∧ j ≤ 2 ∧ Hid (St w wr b i s zs ∧ Box wr (w.heap.size + 1) [.int .i64 2, .int .i64 1]) ∧ Hid (1 ≤ j → t2 = false) ∧ Hid (2 ≤ j → t1 = false)) (fun s9 _ => 2 - (RowKit.intOf s9).toNat)
  case atStart => exact ⟨0, rfl, by omega, hm, fun h => by omega, fun h => by omega⟩
  case round =>
    obtain ⟨j, rfl, hj, HM, H2, H1⟩ := hrel
    obtain ⟨c0, c1, f0, f1⟩ := HM.out.1.rd.two
    obtain ⟨d0, d1, _, _⟩ := HM.out.2.two
    have bl0 := HM.out.1.rd.lt
    have bl1 := HM.out.2.lt
    clear hm ST
    rcases (show j = 0 ∨ j = 1 ∨ j = 2 by omega) with rfl | rfl | rfl
    · by_cases hi2 : i + 2 ≤ s.size
      · have hs2 := hs2.out hi2
        have HT2 := hid2 (T2.out hi2)
        have HG := hid2 (HG2.out hi2)
        have hle : (i : Int) + 2 ≤ (s.size : Int) := by omega
        have hle2 : decide ((i : Int) + 2 ≤ (s.size : Int)) = true := decide_eq_true hle
        cases t2 with
        | true =>
          go_wp2_with fail
          go_quiet (exact Calls.quiet_of_same (HG.out _))
          have S3 := hid2 (HM.out.1.next (drewN_b2 wr nq))
          generalize wr.drewN nq = W3 at *
          clear c0 c1 f0 f1 d0 d1
          obtain ⟨c0, c1, f0, f1⟩ := S3.out.rd.two
          go_wp2_with fail
          go_region_with (first | (go_at_call 131; refine Calls.mono (HT2.out _ (S3.out.rd.next (Below.refl _ _).drew)) ?_; rintro r w3 ⟨rfl, M3⟩; obtain ⟨bx, fin⟩ := (S3.out.next (Below.refl _ _).drew).took M3; obtain ⟨p0, p1, p2, p3, g0, g1, g2, g3⟩ := bx.four; have bl := bx.lt; have FIN := hid2 fin; unfold tkv; clear bx fin M3))
          all_goals go_wp2_with fail
          all_goals refine bodyPost_ret (v := .tuple #[tkV ⟨5, x2, 0, i⟩, .int .i64 0]) (by simp [results, Tryz.results111, go_sem, *]; rfl) rfl ?_
          all_goals exact HO2.out (by first | rfl | trivial) _ _ ⟨rfl, FIN.out _ _ _ _⟩
        | false =>
          go_wp2_with fail
          go_quiet (exact Calls.quiet_of_same (HG.out _))
          have S3 := hid2 (HM.out.1.next (drewN_b2 wr nq))
          have B3 := hid2 (HM.out.2.next (drewN_b2 wr nq))
          generalize wr.drewN nq = W3 at *
          go_wp2_with fail
          go_roundw
          case rel => exact ⟨1, rfl, by omega, ⟨S3.out, B3.out⟩, fun _ => by first | rfl | trivial, fun h => by omega⟩
          case measure => simp [RowKit.intOf]
      · have hle : ¬ ((i : Int) + 2 ≤ (s.size : Int)) := by omega
        have hle2 : decide ((i : Int) + 2 ≤ (s.size : Int)) = false := decide_eq_false hle
        have ht2 : t2 = false := by
          cases t2 with
          | false => rfl
          | true => exact absurd (hN2.out rfl) hi2
        go_wp2_with fail
        go_quiet (fail)
        have S3 := hid2 (HM.out.1.next (drewN_b2 wr nq))
        have B3 := hid2 (HM.out.2.next (drewN_b2 wr nq))
        generalize wr.drewN nq = W3 at *
        go_wp2_with fail
        go_roundw
        case rel => exact ⟨1, rfl, by omega, ⟨S3.out, B3.out⟩, fun _ => ht2, fun h => by omega⟩
        case measure => simp [RowKit.intOf]
    · have ht2 := H2.out (Nat.le_refl _)
      have hle : (i : Int) + 1 ≤ (s.size : Int) := by omega
      have hle2 : decide ((i : Int) + 1 ≤ (s.size : Int)) = true := decide_eq_true hle
      have HG := HG1
      cases t1 with
      | true =>
        go_wp2_with fail
        go_quiet (exact Calls.quiet_of_same (HG.out _))
        have S3 := hid2 (HM.out.1.next (drewN_b2 wr nq))
        generalize wr.drewN nq = W3 at *
        clear c0 c1 f0 f1 d0 d1
        obtain ⟨c0, c1, f0, f1⟩ := S3.out.rd.two
        go_wp2_with fail
        go_region_with (first | (go_at_call 131; refine Calls.mono (T1.out _ (S3.out.rd.next (Below.refl _ _).drew)) ?_; rintro r w3 ⟨rfl, M3⟩; obtain ⟨bx, fin⟩ := (S3.out.next (Below.refl _ _).drew).took M3; obtain ⟨p0, p1, p2, p3, g0, g1, g2, g3⟩ := bx.four; have bl := bx.lt; have FIN := hid2 fin; unfold tkv; clear bx fin M3))
        all_goals go_wp2_with fail
        all_goals refine bodyPost_ret (v := .tuple #[tkV ⟨5, x1, 0, i⟩, .int .i64 0]) (by simp [results, Tryz.results111, go_sem, *]; rfl) rfl ?_
        all_goals exact HO1.out ht2 (by first | rfl | trivial) _ _ ⟨rfl, FIN.out _ _ _ _⟩
      | false =>
        go_wp2_with fail
        go_quiet (exact Calls.quiet_of_same (HG.out _))
        have S3 := hid2 (HM.out.1.next (drewN_b2 wr nq))
        have B3 := hid2 (HM.out.2.next (drewN_b2 wr nq))
        generalize wr.drewN nq = W3 at *
        go_wp2_with fail
        go_roundw
        case rel => exact ⟨2, rfl, by omega, ⟨S3.out, B3.out⟩, fun _ => ht2, fun _ => by first | rfl | trivial⟩
        case measure => simp [RowKit.intOf]
    · have ht2 := H2.out (by omega)
      have ht1 := H1.out (Nat.le_refl _)
      obtain ⟨p0, p1, p2, p3, g0, g1, g2, g3⟩ := HM.out.1.rb.four
      have bl := HM.out.1.rb.lt
      go_wp2_with fail
      refine bodyPost_ret (v := .tuple #[noV, .int .i64 0]) (by simp [results, Tryz.results111, go_sem, *]; rfl) rfl ?_
      exact HO0.out ht2 ht1 _ _ ⟨rfl, (HM.out.1.set _ _ _ _).stay⟩
end Go.Proofs.YtalmagpikacafaaGreatDoor
end
section
namespace Go.Proofs.YtalmagpikacafaaGreatDoor
open Go.RowKit Go.Lib

theorem enc_kind {k : Int} {nv : List UInt8} {d : UInt8} {s : ByteArray} {i : Nat} {te : Tk × Nat} (hk : k ≠ 0) (h : encT k nv d s i = .ok te) : te.1.kind ≠ 0 := by
  unfold encT at h
  split at h
  · cases h; exact hk
  · cases h
theorem enc_err {k : Int} {nv : List UInt8} {d : UInt8} {s : ByteArray} {i : Nat} {e : Int} (h : encT k nv d s i = .error e) : e ≠ 0 := by
  unfold encT at h
  split at h
  · cases h
  · cases h; decide
theorem word_kind {s : ByteArray} {i : Nat} {te : Tk × Nat} (h : wordT s i = .ok te) : te.1.kind ≠ 0 := by
  unfold wordT at h
  split at h
  · cases h; simp
  · split at h
    · cases h; simp
    · cases h
theorem word_err {s : ByteArray} {i : Nat} {e : Int} (h : wordT s i = .error e) : e ≠ 0 := by
  unfold wordT at h
  split at h
  · cases h
  · split at h
    · cases h
    · cases h; decide
theorem val_kind {k : Int} {s : ByteArray} {i e : Nat} {o : Option Nat} {te : Tk × Nat} (hk : k ≠ 0) (h : valT k s i e o = .ok te) : te.1.kind ≠ 0 := by
  cases o with
  | none => cases h
  | some v => cases h; exact hk
theorem val_err {k : Int} {s : ByteArray} {i e : Nat} {o : Option Nat} {q : Int} (h : valT k s i e o = .error q) : q ≠ 0 := by
  cases o with
  | none => cases h; decide
  | some v => cases h
theorem num_kind {s : ByteArray} {i : Nat} {te : Tk × Nat} (h : numT s i = .ok te) : te.1.kind ≠ 0 := by
  unfold numT at h
  split at h
  · exact val_kind (by decide) h
  · exact val_kind (by decide) h
theorem num_err {s : ByteArray} {i : Nat} {e : Int} (h : numT s i = .error e) : e ≠ 0 := by
  unfold numT at h
  split at h
  · exact val_err h
  · exact val_err h
theorem sig_kind {s : ByteArray} {i : Nat} {te : Tk × Nat} (h : sigT s i = .ok te) : te.1.kind ≠ 0 := by
  unfold sigT at h
  split at h
  · cases h; simp
  · split at h
    · cases h; simp
    · cases h
theorem sig_own {s : ByteArray} {i : Nat} (h : (two (s.get! i) (s.get! (i + 1)) || one (s.get! i)) = true) : ∃ te, sigT s i = .ok te := by
  unfold sigT
  split
  · exact ⟨_, rfl⟩
  · split
    · exact ⟨_, rfl⟩
    · rename_i h1 h2
      rw [Bool.or_eq_true] at h
      rcases h with h | h
      · exact absurd h h1
      · exact absurd h h2
theorem sig_none {s : ByteArray} {i : Nat} (h : (two (s.get! i) (s.get! (i + 1)) || one (s.get! i)) = false) : sigT s i = .error 12 := by
  rw [Bool.or_eq_false_iff] at h
  unfold sigT
  rw [if_neg (by rw [h.1]; decide), if_neg (by rw [h.2]; decide)]
/-- While the cuts are tried: the reader, the place of the answer, the cuts. -/
def cutsV (b : Nat) : List Value := [.func (.func 107) #[.pointer (some ⟨b, 0, none⟩)] #[], .func (.func 108) #[.pointer (some ⟨b, 0, none⟩)] #[], .func (.func 109) #[.pointer (some ⟨b, 0, none⟩)] #[], .func (.func 110) #[.pointer (some ⟨b, 0, none⟩)] #[], .func (.func 111) #[.pointer (some ⟨b, 0, none⟩)] #[]]
structure Sf (w W : World) (b g i : Nat) (s : ByteArray) (vs : List Value) : Prop where
  rd : Rdr W b s i
  rb : Box W w.heap.size vs
  cu : Box W g (cutsV b)
  trn : Turn [b] w W
  lt : b < w.heap.size
  gb : g ≠ b
  gl : g < w.heap.size
theorem Sf.made {w : World} {b g i : Nat} {s : ByteArray} (h : Rdr w b s i) (c : Box w g (cutsV b)) (hg : g ≠ b) (t : TypeId) : Sf w (w.alloc (.cells zs.toArray t)) b g i s zs :=
  have k : Below w.heap.size w (w.alloc (.cells zs.toArray t)) := (Below.refl _ _).alloc (Nat.le_refl _) _
  ⟨h.next k, Box.new w zs t, c.next k, Turn.of_below k, h.lt, hg, c.lt⟩
theorem Sf.next {w W W' : World} {b g i : Nat} {s : ByteArray} {vs : List Value} (h : Sf w W b g i s vs) (k : Below W.heap.size W W') : Sf w W' b g i s vs := ⟨h.rd.next k, h.rb.next k, h.cu.next k, h.trn.andBelow k, h.lt, h.gb, h.gl⟩
theorem Sf.moved {w W W' : World} {b g i e : Nat} {s : ByteArray} {vs : List Value} (h : Sf w W b g i s vs) (m : Moved W b s e W') : Sf w W' b g e s vs := by
  have hn : w.heap.size ∉ [b] := by have := h.lt; simp; omega
  exact ⟨m.1, h.rb.turn m.2 hn, h.cu.turn m.2 (by simpa using h.gb), h.trn.trans m.2 (fun i hi => .inl hi), h.lt, h.gb, h.gl⟩
theorem Sf.fin {w W : World} {b g i : Nat} {s : ByteArray} {u0 u1 u2 u3 : Value} (h : Sf w W b g i s [u0, u1, u2, u3]) (v0 v1 v2 v3 : Value) : Moved w b s i ((((W.setCell ⟨w.heap.size, 0, none⟩ v0).setCell ⟨w.heap.size, 1, none⟩ v1).setCell ⟨w.heap.size, 2, none⟩ v2).setCell ⟨w.heap.size, 3, none⟩ v3) := by
  have hn : b ≠ w.heap.size := by have := h.lt; omega
  have t2 : Below w.heap.size W ((((W.setCell ⟨w.heap.size, 0, none⟩ v0).setCell ⟨w.heap.size, 1, none⟩ v1).setCell ⟨w.heap.size, 2, none⟩ v2).setCell ⟨w.heap.size, 3, none⟩ v3) := below_four (Below.refl _ _) (Nat.le_refl _) _ _ _ _
  have t3 := h.trn
  exact ⟨((((h.rd.other hn).other hn).other hn).other hn), t2.os.trans t3.os, t2.tape.trans t3.tape, t2.output.trans t3.output, Nat.le_trans t3.size t2.size, fun k hk hn => (t2.block k hk).trans (t3.block k hk hn)⟩
/-- What a cut answers, in its three ways. -/
theorem cut_ways {W w2 : World} {b i : Nat} {s : ByteArray} {own : Bool} {tr : TR} {r : Ending} (hk : ∀ te, tr = .ok te → te.1.kind ≠ 0) (he : own = true → ∀ e, tr = .error e → e ≠ 0) (hh : CutPost W b s i own tr r w2) :
    (∃ (k : Int) (x : ByteArray) (n : Int) (a e : Nat), own = true ∧ tr = .ok (⟨k, x, n, a⟩, e) ∧ k ≠ 0 ∧ r = .returned (.tuple #[.agg #[.int .i64 k, .string x, .int .i64 n, .int .i64 (a : Nat)], .int .i64 0]) ∧ Moved W b s e w2) ∨
    (∃ e : Int, own = true ∧ tr = .error e ∧ e ≠ 0 ∧ r = .returned (.tuple #[.agg #[.int .i64 0, .string ⟨#[]⟩, .int .i64 0, .int .i64 0], .int .i64 e]) ∧ Moved W b s i w2) ∨
    (own = false ∧ r = .returned (.tuple #[.agg #[.int .i64 0, .string ⟨#[]⟩, .int .i64 0, .int .i64 0], .int .i64 0]) ∧ Moved W b s i w2) := by
  unfold CutPost at hh
  split at hh
  · rename_i ho
    split at hh
    · rename_i te
      exact .inl ⟨te.1.kind, te.1.text, te.1.n, te.1.at_, te.2, ho, rfl, hk _ rfl, hh.1, hh.2⟩
    · rename_i e
      exact .inr (.inl ⟨e, ho, rfl, he ho _ rfl, hh.1, hh.2⟩)
  · rename_i ho
    exact .inr (.inr ⟨by simpa using ho, hh.1, hh.2⟩)
set_option maxHeartbeats 16000000 in
theorem firstOf_c (b g i c : Nat) (s : ByteArray) (hi : i < s.size) (hz : s.size ≤ 1048576) (hv : Vd s i) (w : World) (h : Rdr w b s i) (hc : Box w g (cutsV b)) (hg : g ≠ b) :
    Calls Tryz.prog 113 #[.slice (some ⟨g, 0, none⟩) 5 c] w (CutPost w b s i true (tok s i)) := by
  have SF := hid2 (Sf.made h hc hg 51)
  have hlt := h.lt
  have hlg := hc.lt
  have K0 := hid2 (fun W (hw : Rdr W b s i) => nameOrWord_c b i s hi hz hv W hw)
  have K1 := hid2 (fun W (hw : Rdr W b s i) => number_c b i s hi hz W hw)
  have K2 := hid2 (fun W (hw : Rdr W b s i) => quoted_c b i s hi hz hv W hw)
  have K3 := hid2 (fun W (hw : Rdr W b s i) => bracket_c b i s hi hz hv W hw)
  have K4 := hid2 (fun W (hw : Rdr W b s i) => sign_c b i s hi hz W hw)
  have W0 := hid2 (fun W w2 r hh => cut_ways (W := W) (w2 := w2) (b := b) (i := i) (s := s) (own := decide (cls s 1 i ≠ i)) (tr := wordT s i) (r := r) (fun _ => word_kind) (fun _ _ => word_err) hh)
  have W1 := hid2 (fun W w2 r hh => cut_ways (W := W) (w2 := w2) (b := b) (i := i) (s := s) (own := decide (cls s 2 i ≠ i)) (tr := numT s i) (r := r) (fun _ => num_kind) (fun _ _ => num_err) hh)
  have W2 := hid2 (fun W w2 r hh => cut_ways (W := W) (w2 := w2) (b := b) (i := i) (s := s) (own := decide (s.get! i = 34)) (tr := encT 4 [34, 10] 34 s i) (r := r) (fun _ => enc_kind (by decide)) (fun _ _ => enc_err) hh)
  have W3 := hid2 (fun W w2 r hh => cut_ways (W := W) (w2 := w2) (b := b) (i := i) (s := s) (own := decide (s.get! i = 91)) (tr := encT 8 [91, 93, 34, 10] 93 s i) (r := r) (fun _ => enc_kind (by decide)) (fun _ _ => enc_err) hh)
  have W4 := hid2 (fun W w2 r hh => cut_ways (W := W) (w2 := w2) (b := b) (i := i) (s := s) (own := (two (s.get! i) (s.get! (i + 1)) || one (s.get! i))) (tr := sigT s i) (r := r) (fun _ => sig_kind) (fun ho e he => by obtain ⟨te, ht⟩ := sig_own ho; rw [ht] at he; cases he) hh)
  have Q0 : Hid (decide (cls s 1 i ≠ i) = true → tok s i = wordT s i) := fun h => if_pos (by simpa using h)
  have Q1 : Hid (decide (cls s 1 i ≠ i) = false → decide (cls s 2 i ≠ i) = true → tok s i = numT s i) := fun h0 h => by
    unfold tok
    rw [if_neg (by simpa using h0), if_pos (by simpa using h)]
  have Q2 : Hid (decide (cls s 1 i ≠ i) = false → decide (cls s 2 i ≠ i) = false → decide (s.get! i = 34) = true → tok s i = encT 4 [34, 10] 34 s i) := fun h0 h1 h => by
    unfold tok
    rw [if_neg (by simpa using h0), if_neg (by simpa using h1), if_pos (by simpa using h)]
  have Q3 : Hid (decide (cls s 1 i ≠ i) = false → decide (cls s 2 i ≠ i) = false → decide (s.get! i = 34) = false → decide (s.get! i = 91) = true → tok s i = encT 8 [91, 93, 34, 10] 93 s i) := fun h0 h1 h2 h => by
    unfold tok
    rw [if_neg (by simpa using h0), if_neg (by simpa using h1), if_neg (by simpa using h2), if_pos (by simpa using h)]
  have Q4 : Hid (decide (cls s 1 i ≠ i) = false → decide (cls s 2 i ≠ i) = false → decide (s.get! i = 34) = false → decide (s.get! i = 91) = false → tok s i = sigT s i) := fun h0 h1 h2 h3 => by
    unfold tok
    rw [if_neg (by simpa using h0), if_neg (by simpa using h1), if_neg (by simpa using h2), if_neg (by simpa using h3)]
  have Q5 : Hid ((two (s.get! i) (s.get! (i + 1)) || one (s.get! i)) = false → sigT s i = .error 12) := sig_none
  generalize decide (cls s 1 i ≠ i) = o0 at *
  generalize decide (cls s 2 i ≠ i) = o1 at *
  generalize decide (s.get! i = 34) = o2 at *
  generalize decide (s.get! i = 91) = o3 at *
  generalize (two (s.get! i) (s.get! (i + 1)) || one (s.get! i)) = o4 at *
  generalize wordT s i = t0 at *
  generalize numT s i = t1 at *
  generalize encT 4 [34, 10] 34 s i = t2 at *
  generalize encT 8 [91, 93, 34, 10] 93 s i = t3 at *
  generalize sigT s i = t4 at *
  generalize tok s i = tr at *
  clear h hc hv hi
  go_enter Tryz.func113, Tryz.ntmps113
  go_wp2_with fail
  generalize w.alloc _ = WW at *
  go_loopw [10] (fun s10 wr => ∃ j : Nat, s10 = .int .i64 (j : Nat) ∧ j ≤ 5 ∧ Hid (Sf w wr b g i s zs) ∧ Hid (1 ≤ j → o0 = false) ∧ Hid (2 ≤ j → o1 = false) ∧ Hid (3 ≤ j → o2 = false) ∧ Hid (4 ≤ j → o3 = false) ∧ Hid (5 ≤ j → o4 = false)) (fun s10 _ => 5 - (RowKit.intOf s10).toNat)
  case atStart => exact ⟨0, rfl, by omega, SF, fun h => by omega, fun h => by omega, fun h => by omega, fun h => by omega, fun h => by omega⟩
  case round =>
    obtain ⟨j, rfl, hj, HS, N0, N1, N2, N3, N4⟩ := hrel
    clear SF
    have blr := HS.out.rb.lt
    rcases (show j = 0 ∨ j = 1 ∨ j = 2 ∨ j = 3 ∨ j = 4 ∨ j = 5 by omega) with rfl | rfl | rfl | rfl | rfl | rfl
    · have hcell := HS.out.cu.cell 0 _ rfl
      go_wp2_with fail
      refine Calls.mono (K0.out _ HS.out.rd) ?_
      intro r w2 hh
      rcases W0.out _ _ _ hh with ⟨k, x, n, a, e, ho, ht, hk, rfl, m⟩ | ⟨e, ho, ht, hk, rfl, m⟩ | ⟨ho, rfl, m⟩
      · have S2 := hid2 (HS.out.moved m)
        have hq := Q0.out  ho
        rw [ht] at hq
        have HQ := hid2 hq
        have hk2 : (k != 0) = true := by simpa using hk
        obtain ⟨p0, p1, p2, p3, g0, g1, g2, g3⟩ := S2.out.rb.four
        have bl := S2.out.rb.lt
        clear hh m ht hq hcell
        go_wp2_with fail
        refine bodyPost_ret (v := .tuple #[.agg #[.int .i64 k, .string x, .int .i64 n, .int .i64 (a : Nat)], .int .i64 0]) (by simp [results, Tryz.results113, go_sem, *]) rfl ?_
        unfold CutPost
        rw [HQ.out]
        exact ⟨rfl, (S2.out.fin _ _ _ _).below ((Below.refl _ _).alloc (Nat.le_refl _) _)⟩
      · have S2 := hid2 (HS.out.moved m)
        have hq := Q0.out  ho
        rw [ht] at hq
        have HQ := hid2 hq
        have hk2 : (e != 0) = true := by simpa using hk
        obtain ⟨p0, p1, p2, p3, g0, g1, g2, g3⟩ := S2.out.rb.four
        have bl := S2.out.rb.lt
        clear hh m ht hq hcell
        go_wp2_with fail
        refine bodyPost_ret (v := .tuple #[noV, .int .i64 e]) (by simp [results, Tryz.results113, go_sem, *]; rfl) rfl ?_
        unfold CutPost
        rw [HQ.out]
        exact ⟨rfl, (S2.out.fin _ _ _ _).below ((Below.refl _ _).alloc (Nat.le_refl _) _)⟩
      · have S2 := hid2 (HS.out.moved m)
        have HO := hid2 ho
        clear hh m hcell
        go_wp2_with fail
        go_roundw
        case rel => exact ⟨1, rfl, by omega, S2.out.next ((Below.refl _ _).alloc (Nat.le_refl _) _), fun _ => HO.out, fun h => by omega, fun h => by omega, fun h => by omega, fun h => by omega⟩
        case measure => simp [RowKit.intOf]
    · have hcell := HS.out.cu.cell 1 _ rfl
      have z0 := N0.out (by omega)
      go_wp2_with fail
      refine Calls.mono (K1.out _ HS.out.rd) ?_
      intro r w2 hh
      rcases W1.out _ _ _ hh with ⟨k, x, n, a, e, ho, ht, hk, rfl, m⟩ | ⟨e, ho, ht, hk, rfl, m⟩ | ⟨ho, rfl, m⟩
      · have S2 := hid2 (HS.out.moved m)
        have hq := Q1.out z0 ho
        rw [ht] at hq
        have HQ := hid2 hq
        have hk2 : (k != 0) = true := by simpa using hk
        obtain ⟨p0, p1, p2, p3, g0, g1, g2, g3⟩ := S2.out.rb.four
        have bl := S2.out.rb.lt
        clear hh m ht hq hcell
        go_wp2_with fail
        refine bodyPost_ret (v := .tuple #[.agg #[.int .i64 k, .string x, .int .i64 n, .int .i64 (a : Nat)], .int .i64 0]) (by simp [results, Tryz.results113, go_sem, *]) rfl ?_
        unfold CutPost
        rw [HQ.out]
        exact ⟨rfl, (S2.out.fin _ _ _ _).below ((Below.refl _ _).alloc (Nat.le_refl _) _)⟩
      · have S2 := hid2 (HS.out.moved m)
        have hq := Q1.out z0 ho
        rw [ht] at hq
        have HQ := hid2 hq
        have hk2 : (e != 0) = true := by simpa using hk
        obtain ⟨p0, p1, p2, p3, g0, g1, g2, g3⟩ := S2.out.rb.four
        have bl := S2.out.rb.lt
        clear hh m ht hq hcell
        go_wp2_with fail
        refine bodyPost_ret (v := .tuple #[noV, .int .i64 e]) (by simp [results, Tryz.results113, go_sem, *]; rfl) rfl ?_
        unfold CutPost
        rw [HQ.out]
        exact ⟨rfl, (S2.out.fin _ _ _ _).below ((Below.refl _ _).alloc (Nat.le_refl _) _)⟩
      · have S2 := hid2 (HS.out.moved m)
        have HO := hid2 ho
        clear hh m hcell
        go_wp2_with fail
        go_roundw
        case rel => exact ⟨2, rfl, by omega, S2.out.next ((Below.refl _ _).alloc (Nat.le_refl _) _), fun _ => z0, fun _ => HO.out, fun h => by omega, fun h => by omega, fun h => by omega⟩
        case measure => simp [RowKit.intOf]
    · have hcell := HS.out.cu.cell 2 _ rfl
      have z0 := N0.out (by omega)
      have z1 := N1.out (by omega)
      go_wp2_with fail
      refine Calls.mono (K2.out _ HS.out.rd) ?_
      intro r w2 hh
      rcases W2.out _ _ _ hh with ⟨k, x, n, a, e, ho, ht, hk, rfl, m⟩ | ⟨e, ho, ht, hk, rfl, m⟩ | ⟨ho, rfl, m⟩
      · have S2 := hid2 (HS.out.moved m)
        have hq := Q2.out z0 z1 ho
        rw [ht] at hq
        have HQ := hid2 hq
        have hk2 : (k != 0) = true := by simpa using hk
        obtain ⟨p0, p1, p2, p3, g0, g1, g2, g3⟩ := S2.out.rb.four
        have bl := S2.out.rb.lt
        clear hh m ht hq hcell
        go_wp2_with fail
        refine bodyPost_ret (v := .tuple #[.agg #[.int .i64 k, .string x, .int .i64 n, .int .i64 (a : Nat)], .int .i64 0]) (by simp [results, Tryz.results113, go_sem, *]) rfl ?_
        unfold CutPost
        rw [HQ.out]
        exact ⟨rfl, (S2.out.fin _ _ _ _).below ((Below.refl _ _).alloc (Nat.le_refl _) _)⟩
      · have S2 := hid2 (HS.out.moved m)
        have hq := Q2.out z0 z1 ho
        rw [ht] at hq
        have HQ := hid2 hq
        have hk2 : (e != 0) = true := by simpa using hk
        obtain ⟨p0, p1, p2, p3, g0, g1, g2, g3⟩ := S2.out.rb.four
        have bl := S2.out.rb.lt
        clear hh m ht hq hcell
        go_wp2_with fail
        refine bodyPost_ret (v := .tuple #[noV, .int .i64 e]) (by simp [results, Tryz.results113, go_sem, *]; rfl) rfl ?_
        unfold CutPost
        rw [HQ.out]
        exact ⟨rfl, (S2.out.fin _ _ _ _).below ((Below.refl _ _).alloc (Nat.le_refl _) _)⟩
      · have S2 := hid2 (HS.out.moved m)
        have HO := hid2 ho
        clear hh m hcell
        go_wp2_with fail
        go_roundw
        case rel => exact ⟨3, rfl, by omega, S2.out.next ((Below.refl _ _).alloc (Nat.le_refl _) _), fun _ => z0, fun _ => z1, fun _ => HO.out, fun h => by omega, fun h => by omega⟩
        case measure => simp [RowKit.intOf]
    · have hcell := HS.out.cu.cell 3 _ rfl
      have z0 := N0.out (by omega)
      have z1 := N1.out (by omega)
      have z2 := N2.out (by omega)
      go_wp2_with fail
      refine Calls.mono (K3.out _ HS.out.rd) ?_
      intro r w2 hh
      rcases W3.out _ _ _ hh with ⟨k, x, n, a, e, ho, ht, hk, rfl, m⟩ | ⟨e, ho, ht, hk, rfl, m⟩ | ⟨ho, rfl, m⟩
      · have S2 := hid2 (HS.out.moved m)
        have hq := Q3.out z0 z1 z2 ho
        rw [ht] at hq
        have HQ := hid2 hq
        have hk2 : (k != 0) = true := by simpa using hk
        obtain ⟨p0, p1, p2, p3, g0, g1, g2, g3⟩ := S2.out.rb.four
        have bl := S2.out.rb.lt
        clear hh m ht hq hcell
        go_wp2_with fail
        refine bodyPost_ret (v := .tuple #[.agg #[.int .i64 k, .string x, .int .i64 n, .int .i64 (a : Nat)], .int .i64 0]) (by simp [results, Tryz.results113, go_sem, *]) rfl ?_
        unfold CutPost
        rw [HQ.out]
        exact ⟨rfl, (S2.out.fin _ _ _ _).below ((Below.refl _ _).alloc (Nat.le_refl _) _)⟩
      · have S2 := hid2 (HS.out.moved m)
        have hq := Q3.out z0 z1 z2 ho
        rw [ht] at hq
        have HQ := hid2 hq
        have hk2 : (e != 0) = true := by simpa using hk
        obtain ⟨p0, p1, p2, p3, g0, g1, g2, g3⟩ := S2.out.rb.four
        have bl := S2.out.rb.lt
        clear hh m ht hq hcell
        go_wp2_with fail
        refine bodyPost_ret (v := .tuple #[noV, .int .i64 e]) (by simp [results, Tryz.results113, go_sem, *]; rfl) rfl ?_
        unfold CutPost
        rw [HQ.out]
        exact ⟨rfl, (S2.out.fin _ _ _ _).below ((Below.refl _ _).alloc (Nat.le_refl _) _)⟩
      · have S2 := hid2 (HS.out.moved m)
        have HO := hid2 ho
        clear hh m hcell
        go_wp2_with fail
        go_roundw
        case rel => exact ⟨4, rfl, by omega, S2.out.next ((Below.refl _ _).alloc (Nat.le_refl _) _), fun _ => z0, fun _ => z1, fun _ => z2, fun _ => HO.out, fun h => by omega⟩
        case measure => simp [RowKit.intOf]
    · have hcell := HS.out.cu.cell 4 _ rfl
      have z0 := N0.out (by omega)
      have z1 := N1.out (by omega)
      have z2 := N2.out (by omega)
      have z3 := N3.out (by omega)
      go_wp2_with fail
      refine Calls.mono (K4.out _ HS.out.rd) ?_
      intro r w2 hh
      rcases W4.out _ _ _ hh with ⟨k, x, n, a, e, ho, ht, hk, rfl, m⟩ | ⟨e, ho, ht, hk, rfl, m⟩ | ⟨ho, rfl, m⟩
      · have S2 := hid2 (HS.out.moved m)
        have hq := Q4.out z0 z1 z2 z3
        rw [ht] at hq
        have HQ := hid2 hq
        have hk2 : (k != 0) = true := by simpa using hk
        obtain ⟨p0, p1, p2, p3, g0, g1, g2, g3⟩ := S2.out.rb.four
        have bl := S2.out.rb.lt
        clear hh m ht hq hcell
        go_wp2_with fail
        refine bodyPost_ret (v := .tuple #[.agg #[.int .i64 k, .string x, .int .i64 n, .int .i64 (a : Nat)], .int .i64 0]) (by simp [results, Tryz.results113, go_sem, *]) rfl ?_
        unfold CutPost
        rw [HQ.out]
        exact ⟨rfl, (S2.out.fin _ _ _ _).below ((Below.refl _ _).alloc (Nat.le_refl _) _)⟩
      · have S2 := hid2 (HS.out.moved m)
        have hq := Q4.out z0 z1 z2 z3
        rw [ht] at hq
        have HQ := hid2 hq
        have hk2 : (e != 0) = true := by simpa using hk
        obtain ⟨p0, p1, p2, p3, g0, g1, g2, g3⟩ := S2.out.rb.four
        have bl := S2.out.rb.lt
        clear hh m ht hq hcell
        go_wp2_with fail
        refine bodyPost_ret (v := .tuple #[noV, .int .i64 e]) (by simp [results, Tryz.results113, go_sem, *]; rfl) rfl ?_
        unfold CutPost
        rw [HQ.out]
        exact ⟨rfl, (S2.out.fin _ _ _ _).below ((Below.refl _ _).alloc (Nat.le_refl _) _)⟩
      · have S2 := hid2 (HS.out.moved m)
        have HO := hid2 ho
        clear hh m hcell
        go_wp2_with fail
        go_roundw
        case rel => exact ⟨5, rfl, by omega, S2.out.next ((Below.refl _ _).alloc (Nat.le_refl _) _), fun _ => z0, fun _ => z1, fun _ => z2, fun _ => z3, fun _ => HO.out⟩
        case measure => simp [RowKit.intOf]
    · have z0 := N0.out (by omega)
      have z1 := N1.out (by omega)
      have z2 := N2.out (by omega)
      have z3 := N3.out (by omega)
      have z4 := N4.out (by omega)
      have hq := Q4.out z0 z1 z2 z3
      rw [Q5.out z4] at hq
      have HQ := hid2 hq
      obtain ⟨p0, p1, p2, p3, g0, g1, g2, g3⟩ := HS.out.rb.four
      clear hq z0 z1 z2 z3 z4
      go_wp2_with fail
      refine bodyPost_ret (v := .tuple #[noV, .int .i64 12]) (by simp [results, Tryz.results113, go_sem, *]; rfl) rfl ?_
      unfold CutPost
      rw [HQ.out]
      exact ⟨rfl, HS.out.fin _ _ _ _⟩
end Go.Proofs.YtalmagpikacafaaGreatDoor
end
section
namespace Go.Proofs.YtalmagpikacafaaGreatDoor
open Go.RowKit Go.Lib

/-- Tokens as the heap holds them. -/
def tkc (t : Tk) : List Value := [.int .i64 t.kind, .string t.text, .int .i64 t.n, .int .i64 (t.at_ : Nat)]
def tks (L : List Tk) : List Value := L.flatMap tkc
theorem tks_snoc (L : List Tk) (t : Tk) : tks (L ++ [t]) = tks L ++ tkc t := by simp [tks]
theorem info_tk : (Tryz.prog.info? 51).map (fun i => (i.zero, i.size, i.bytes)) = some (some (.agg #[.int .i64 0, .string ⟨#[]⟩, .int .i64 0, .int .i64 0]), 4, 40) := by kernel_rfl
abbrev Toks (w : World) (B : Nat) (v : Value) (L : List Tk) : Prop := w.ownsRow B 51 4 v L.length (tks L)
theorem own_turn {S : List Nat} {w w' : World} {B size : Nat} {e : TypeId} {v : Value} {n : Nat} {xs : List Value} (h : w.ownsRow B e size v n xs) (t : Turn S w w') (hS : ∀ k ∈ S, k < B) : w'.ownsRow B e size v n xs := by
  have hl := h.lt
  obtain ⟨h1, h2⟩ := h
  refine ⟨h1, ?_⟩
  rcases h2 with h2 | ⟨g, cap, cur, rfl, h3, h4, h5, h6, h7, h8⟩
  · exact .inl h2
  · exact .inr ⟨g, cap, cur, rfl, h3, (t.block g (Array.getElem?_eq_some_iff.1 h4).1 (fun hm => by have := hS g hm; have := (hl g rfl).1; omega)).trans h4, h5, h6, h7, h8⟩
theorem cell_four_new (w : World) (a b c d : Value) (t : TypeId) : ∀ j u, [a, b, c, d][j]? = some u → (w.alloc (.cells #[a, b, c, d] t)).cell? ((⟨w.heap.size, 0, none⟩ : Addr).add j) = some u := by
  intro j u hj
  match j, hj with
  | 0, hj => simp at hj; subst hj; simp [Addr.add]
  | 1, hj => simp at hj; subst hj; simp [Addr.add]
  | 2, hj => simp at hj; subst hj; simp [Addr.add]
  | 3, hj => simp at hj; subst hj; simp [Addr.add]
  | j + 4, hj => simp at hj
theorem own_mono {w : World} {B B' size : Nat} {e : TypeId} {v : Value} {n : Nat} {xs : List Value} (h : w.ownsRow B e size v n xs) (hB : B' ≤ B) : w.ownsRow B' e size v n xs := by
  have hl := h.lt
  obtain ⟨h1, h2⟩ := h
  refine ⟨h1, ?_⟩
  rcases h2 with h2 | ⟨g, cap, cur, rfl, h3, h4, h5, h6, h7, h8⟩
  · exact .inl h2
  · exact .inr ⟨g, cap, cur, rfl, Nat.le_trans hB h3, h4, h5, h6, h7, h8⟩
/-- What all answers. -/
def AllPost (w : World) (b : Nat) (s : ByteArray) (res : List Tk × Nat × Int) (e : Ending) (w' : World) : Prop :=
  ∃ v, e = .returned (.tuple #[v, .int .i64 res.2.2]) ∧ (if res.2.2 = 0 then Toks w' w.heap.size v res.1 else v = .slice none 0 0) ∧ (∃ at_ : Nat, Rdr w' b s at_ ∧ (res.2.2 ≠ 0 → at_ = res.2.1)) ∧ Turn [b] w w'
/-- Between two tokens. -/
structure Sa (w W : World) (b g i : Nat) (s : ByteArray) (v : Value) (L : List Tk) : Prop where
  rd : Rdr W b s i
  cu : Box W g (cutsV b)
  own : Toks W (w.heap.size + 1) v L
  trn : Turn [b] w W
  lt : b < w.heap.size
  ge : g = w.heap.size
theorem Sa.next {w W W' : World} {b g i : Nat} {s : ByteArray} {v : Value} {L : List Tk} (h : Sa w W b g i s v L) (k : Below W.heap.size W W') : Sa w W' b g i s v L := ⟨h.rd.next k, h.cu.next k, own_on h.own k, h.trn.andBelow k, h.lt, h.ge⟩
theorem Sa.moved {w W W' : World} {b g i e : Nat} {s : ByteArray} {v : Value} {L : List Tk} (h : Sa w W b g i s v L) (m : Moved W b s e W') : Sa w W' b g e s v L := by
  have hb := h.lt
  have hg := h.ge
  exact ⟨m.1, h.cu.turn m.2 (by simp; omega), own_turn h.own m.2 (by simp; omega), h.trn.trans m.2 (fun i hi => .inl hi), h.lt, h.ge⟩
theorem Sa.room {w W : World} {b g i : Nat} {s : ByteArray} {v : Value} {L : List Tk} (h : Sa w W b g i s v L) : w.heap.size + 1 ≤ W.heap.size := by have := h.cu.lt; have := h.ge; omega
theorem Sa.grown {w W w1 : World} {b g i : Nat} {s : ByteArray} {v v' : Value} {L L' : List Tk} (h : Sa w W b g i s v L) (k : Below (w.heap.size + 1) W w1) (o : Toks w1 (w.heap.size + 1) v' L') : Sa w w1 b g i s v' L' := by
  have hb := h.lt
  have hg := h.ge
  have t3 := h.trn
  exact ⟨h.rd.later k (by omega), h.cu.later k (by omega), o, ⟨k.os.trans t3.os, k.tape.trans t3.tape, k.output.trans t3.output, Nat.le_trans t3.size k.size, fun x hx hn => (k.block x (by omega)).trans (t3.block x hx hn)⟩, h.lt, h.ge⟩
theorem tok_kind {s : ByteArray} {i : Nat} : ∀ te, tok s i = .ok te → te.1.kind ≠ 0 := by
  intro te h
  unfold tok at h
  split at h
  · exact word_kind h
  · split at h
    · exact num_kind h
    · split at h
      · exact enc_kind (by decide) h
      · split at h
        · exact enc_kind (by decide) h
        · exact sig_kind h
theorem sig_err {s : ByteArray} {i : Nat} {e : Int} (h : sigT s i = .error e) : e ≠ 0 := by
  unfold sigT at h
  split at h
  · cases h
  · split at h
    · cases h
    · cases h; decide
theorem tok_err {s : ByteArray} {i : Nat} : ∀ e, tok s i = .error e → e ≠ 0 := by
  intro e h
  unfold tok at h
  split at h
  · exact word_err h
  · split at h
    · exact num_err h
    · split at h
      · exact enc_err h
      · split at h
        · exact enc_err h
        · exact sig_err h
set_option maxHeartbeats 16000000 in
theorem all_c (b : Nat) (s : ByteArray) (hz : s.size ≤ 1048576) (hv : Vd s 0) (w : World) (h : Rdr w b s 0) :
    Calls Tryz.prog 84 #[.pointer (some ⟨b, 0, none⟩)] w (AllPost w b s (lexS s 0 [])) := by
  obtain ⟨i0, hi, hz0, hz1, hz2⟩ := info_parts info_tk
  have hlt := h.lt
  obtain ⟨res, hres⟩ : ∃ res, Hid (res = lexS s 0 []) := ⟨_, rfl⟩
  rw [← hres.out]
  have H := hid2 h
  have HK := hid2 (fun i (hi : i ≤ s.size) (hv : Vd s i) W (hw : Rdr W b s i) => skip_c b i s hi hz hv W hw)
  have HV := hid2 hv
  clear h hv
  go_enter Tryz.func84, Tryz.ntmps84
  go_wp2_with fail
  have S0 : Hid (Sa w (w.alloc (.cells #[.func (.func 107) #[.pointer (some ⟨b, 0, none⟩)] #[], .func (.func 108) #[.pointer (some ⟨b, 0, none⟩)] #[], .func (.func 109) #[.pointer (some ⟨b, 0, none⟩)] #[], .func (.func 110) #[.pointer (some ⟨b, 0, none⟩)] #[], .func (.func 111) #[.pointer (some ⟨b, 0, none⟩)] #[]] 132)) b w.heap.size 0 s (.slice none 0 0) []) :=
    ⟨H.out.next ((Below.refl _ _).alloc (Nat.le_refl _) _), Box.new w (cutsV b) _, World.ownsRow_nil _ _ _ _, Turn.of_below ((Below.refl _ _).alloc (Nat.le_refl _) _), hlt, rfl⟩
  generalize w.alloc _ = W0 at *
  refine Calls.mono (HK.out 0 (by omega) HV.out W0 S0.out.rd) ?_
  rintro r w1 ⟨rfl, m1⟩
  have S1 := hid2 (S0.out.moved m1)
  clear m1 S0 H
  go_wp2_with fail
  go_loopw [5] (fun v wr => ∃ (i : Nat) (L : List Tk), i ≤ s.size ∧ L.length ≤ 16384 ∧ Hid (Vd s i) ∧ Hid (res = lexS s i L) ∧ Hid (Sa w wr b w.heap.size (skp s i) s v L)) (fun _ wr => s.size - rdAt wr b)
  case atStart => exact ⟨0, [], by omega, by simp, HV, hres, S1⟩
  case round =>
    obtain ⟨i, L, hil, hL, HVi, HR, HS⟩ := hrel
    clear S1 hres HV
    have hsk := skp_in i hil
    have hvj := skp_vd i hil HVi.out
    have E1 := hid2 (fun h => lex_end (s := s) (L := L) hil h)
    have E2 := hid2 (fun h hL => lex_many (s := s) (L := L) hil h hL)
    have E3 := hid2 (fun e h hL ht => lex_no (s := s) (L := L) (e := e) hil h hL ht)
    have E4 := hid2 (fun t e h hL ht => lex_ok (s := s) (L := L) (t := t) (e := e) hil HVi.out h hL ht)
    have HP := hid2 (fun t e h ht => tok_past (s := s) (i := skp s i) (t := t) (e := e) h hvj ht)
    have HF := hid2 (fun h W hw hc => firstOf_c b w.heap.size (skp s i) 5 s h hz hvj W hw hc (by omega))
    have hkk : Hid (∀ te, tok s (skp s i) = .ok te → te.1.kind ≠ 0) := tok_kind
    have hke : Hid (∀ e, tok s (skp s i) = .error e → e ≠ 0) := tok_err
    generalize skp s i = j at *
    obtain ⟨c0, c1, f0, f1⟩ := HS.out.rd.two
    have bl := HS.out.rd.lt
    have HAt := hid2 (rdAt_of HS.out.rd)
    obtain ⟨va, vc, hvv⟩ := own_val HS.out.own
    subst hvv
    by_cases hlt2 : j < s.size
    · have hlt3 : (j : Int) < (s.size : Int) := by omega
      by_cases hL2 : L.length = 16384
      · have hE := E2.out hlt2 hL2
        have HRR := hid2 (HR.out.trans hE)
        have hL3 : ((L.length : Int) == 16384) = true := by simp [hL2]
        have hL4 : (L.length : Int) = 16384 := by omega
        clear E1 E2 E3 E4 HP HF hE HR hkk hke hvj
        go_wp2_with fail
        go_quiet (fail)
        have S2 := hid2 (HS.out.next (drewN_b2 wr nq))
        go_wp2_with fail
        go_ret2
        exact ⟨_, by rw [HRR.out]; rfl, by rw [HRR.out]; rfl, ⟨j, S2.out.rd, by rw [HRR.out]; simp⟩, S2.out.trn⟩
      · have hL3 : ((L.length : Int) == 16384) = false := beq_eq_false_iff_ne.2 (by omega)
        replace HF := HF.out hlt2
        have HFF := hid2 HF
        clear HF
        go_wp2_with fail
        go_quiet (fail)
        have S2 := hid2 (HS.out.next (drewN_b2 wr nq))
        generalize wr.drewN nq = W2 at *
        clear c0 c1 f0 f1
        go_wp2_with fail
        refine Calls.mono (HFF.out _ S2.out.rd S2.out.cu) ?_
        intro r w3 hh
        rcases cut_ways hkk.out (fun _ => hke.out) hh with ⟨k, x, n, a, e, ho, ht, hk, rfl, m⟩ | ⟨e, ho, ht, hk, rfl, m⟩ | ⟨ho, rfl, m⟩
        · have S3 := hid2 (S2.out.moved m)
          have hp := HP.out _ _ hlt2 ht
          have HRR := hid2 (HR.out.trans (E4.out _ _ hlt2 hL2 ht))
          clear hh m E1 E2 E3 E4 HP HFF HR hkk hke hvj ht
          obtain ⟨d0, d1, _, _⟩ := S3.out.rd.two
          have rm := S3.out.room
          go_wp2_with (at_builtin; refine wpList_append_own _ rfl _ _ 53 rfl (w.heap.size + 1) 51 i0 (.agg #[.int .i64 0, .string ⟨#[]⟩, .int .i64 0, .int .i64 0]) 4 40 Tryz.underlying53 hi hz0 hz1 hz2 rfl (by decide) _ _ _ rfl ((S3.out.own.alloc _).alloc _) ⟨_, 0, none⟩ 1 1 [.int .i64 k, .string x, .int .i64 n, .int .i64 (a : Nat)] rfl rfl ?c1 ?c2 ?c3 ?c4 ?c5 ?_)
          case c1 => intro jj u hu; have := cell_four_new (w3.alloc (.cells #[.int .i64 k, .string x, .int .i64 n, .int .i64 (a : Nat)] 51)) (.int .i64 k) (.string x) (.int .i64 n) (.int .i64 (a : Nat)) 51 jj u hu; simpa using this
          case c2 => intro u hu; simp at hu; rcases hu with rfl | rfl | rfl | rfl <;> rfl
          case c3 => unfold maxLen; omega
          case c4 => omega
          case c5 => simp; omega
          intro v' w4 hown' hgrow _
          have S3' := S3.out.next ((Below.refl _ _).alloc (Nat.le_refl _) (.cells #[.int .i64 k, .string x, .int .i64 n, .int .i64 (a : Nat)] 51))
          have ow : Toks w4 (w.heap.size + 1) v' (L ++ [⟨k, x, n, a⟩]) := by
            show w4.ownsRow _ _ _ _ (L ++ [(⟨k, x, n, a⟩ : Tk)]).length _
            rw [tks_snoc, List.length_append]
            exact hown'
          have S4 := hid2 (S3'.grown (below_own (Below.refl _ _) S3'.room _ (Nat.le_refl _) S3'.own hgrow) ow)
          have hle : (L ++ [(⟨k, x, n, a⟩ : Tk)]).length ≤ 16384 := by simp; omega
          have HLE := hid2 hle
          clear hown' hgrow S3' ow S3 hle d0 d1
          go_wp2_with fail
          refine Calls.mono (HK.out e hp.2.1 hp.2.2 _ S4.out.rd) ?_
          rintro r w5 ⟨rfl, m5⟩
          have S5 := hid2 (S4.out.moved m5)
          have hse := skp_in e hp.2.1
          clear m5 S4
          go_wp2_with fail
          go_roundw
          case rel => exact ⟨e, L ++ [⟨k, x, n, a⟩], hp.2.1, HLE.out, hp.2.2, HRR, S5⟩
          case measure => rw [rdAt_of S5.out.rd, HAt.out]; omega
        · have S3 := hid2 (S2.out.moved m)
          have HRR := hid2 (HR.out.trans (E3.out _ hlt2 hL2 ht))
          have hk2 : (e != 0) = true := by simpa using hk
          clear hh m E1 E2 E3 E4 HP HFF HR hkk hke hvj ht
          go_wp2_with fail
          go_ret2
          have S4 := S3.out.next ((Below.refl _ _).alloc (Nat.le_refl _) (.cells #[.int .i64 0, .string ⟨#[]⟩, .int .i64 0, .int .i64 0] 51))
          exact ⟨_, by rw [HRR.out]; rfl, by rw [HRR.out]; exact (if_neg hk).mpr rfl, ⟨j, S4.rd, by rw [HRR.out]; simp⟩, S4.trn⟩
        · cases ho
    · obtain rfl : j = s.size := by omega
      have hlt3 : ¬ ((s.size : Int) < (s.size : Int)) := by omega
      have HRR := hid2 (HR.out.trans (E1.out hlt2))
      clear E1 E2 E3 E4 HP HF HR hkk hke hvj
      go_wp2_with fail
      go_quiet (fail)
      have S2 := hid2 (HS.out.next (drewN_b2 wr nq))
      generalize wr.drewN nq = W2 at *
      clear c0 c1 f0 f1
      obtain ⟨c0, c1, f0, f1⟩ := S2.out.rd.two
      have rm := S2.out.room
      go_wp2_with (at_builtin; refine wpList_append_own _ rfl _ _ 53 rfl (w.heap.size + 1) 51 i0 (.agg #[.int .i64 0, .string ⟨#[]⟩, .int .i64 0, .int .i64 0]) 4 40 Tryz.underlying53 hi hz0 hz1 hz2 rfl (by decide) _ _ _ rfl (S2.out.own.alloc _) ⟨_, 0, none⟩ 1 1 [.int .i64 7, .string ⟨#[]⟩, .int .i64 0, .int .i64 (s.size : Nat)] rfl rfl ?c1 ?c2 ?c3 ?c4 ?c5 ?_)
      case c1 => intro jj u hu; have := cell_four_new W2 (.int .i64 7) (.string ⟨#[]⟩) (.int .i64 0) (.int .i64 (s.size : Nat)) 51 jj u hu; simpa using this
      case c2 => intro u hu; simp at hu; rcases hu with rfl | rfl | rfl | rfl <;> rfl
      case c3 => unfold maxLen; omega
      case c4 => omega
      case c5 => simp; omega
      intro v' w4 hown' hgrow _
      have ow : Toks w4 (w.heap.size + 1) v' (L ++ [⟨7, ofL [], 0, s.size⟩]) := by
        show w4.ownsRow _ _ _ _ (L ++ [(⟨7, ofL [], 0, s.size⟩ : Tk)]).length _
        rw [tks_snoc, List.length_append]
        exact hown'
      have S4 := hid2 (S2.out.grown (below_own (Below.refl _ _) S2.out.room _ (Nat.le_refl _) S2.out.own hgrow) ow)
      clear hown' hgrow ow S2
      go_wp2_with fail
      go_ret2
      exact ⟨_, by rw [HRR.out]; rfl, by rw [HRR.out]; exact own_mono S4.out.own (by omega), ⟨s.size, S4.out.rd, by rw [HRR.out]; simp⟩, S4.out.trn⟩
end Go.Proofs.YtalmagpikacafaaGreatDoor
end
section
namespace Go.Proofs.YtalmagpikacafaaGreatDoor
open Go.RowKit Go.Lib

theorem lexF_place (s : ByteArray) : ∀ (f i : Nat) (L : List Tk), (lexF s f i L).2.2 = 0 → (lexF s f i L).2.1 = 0
  | 0, _, _, _ => rfl
  | f + 1, i, L, h => by
    simp only [lexF] at h ⊢
    split
    · rename_i h1
      rw [if_pos h1] at h
      split
      · rename_i h2
        rw [if_pos h2] at h
        cases h
      · rename_i h2
        rw [if_neg h2] at h
        cases ht : tok s (skp s i) with
        | error e =>
          rw [ht] at h
          exact absurd h (tok_err _ ht)
        | ok te =>
          rw [ht] at h
          exact lexF_place s f _ _ h
    · rfl
theorem lexS_place {s : ByteArray} {i : Nat} {L : List Tk} (h : (lexS s i L).2.2 = 0) : (lexS s i L).2.1 = 0 := lexF_place s _ _ _ h
/-- What Cut answers. -/
def CutP (s : ByteArray) (w : World) (e : Ending) (w' : World) : Prop :=
  ∃ v, e = .returned (.tuple #[v, .int .i64 ((cutS s).2.1 : Nat), .int .i64 (cutS s).2.2]) ∧ (if (cutS s).2.2 = 0 then Toks w' w.heap.size v (cutS s).1 else v = .slice none 0 0) ∧ Below w.heap.size w w'
set_option maxHeartbeats 4000000 in
theorem cut_c (s : ByteArray) (hz : s.size ≤ 562949953421312) (w : World) (hT : TabsAt w) : Calls Tryz.prog 58 #[.string s] w (CutP s w) := by
  obtain ⟨res, hres⟩ : ∃ res, Hid (res = cutS s) := ⟨_, rfl⟩
  have hP : Hid (∀ v w', (if res.2.2 = 0 then Toks w' w.heap.size v res.1 else v = .slice none 0 0) → Below w.heap.size w w' → CutP s w (.returned (.tuple #[v, .int .i64 (res.2.1 : Nat), .int .i64 res.2.2])) w') := fun v w' h1 h2 => by
    unfold CutP
    rw [← hres.out]
    exact ⟨v, rfl, h1, h2⟩
  by_cases hlong : 1048576 < s.size
  · have hr : Hid (res = ([], 0, 2)) := by show _ = _; rw [hres.out]; exact if_pos hlong
    have hl : (1048576 : Int) < (s.size : Int) := by omega
    clear hres
    generalize CutP s w = Post at *
    go_enter Tryz.func58, Tryz.ntmps58
    go_wp2_with fail
    go_ret3
    have := hP.out (.slice none 0 0) w (by rw [hr.out]; rfl) (Below.refl _ _)
    rw [hr.out] at this
    exact this
  · have hl : ¬ ((1048576 : Int) < (s.size : Int)) := by omega
    have HC := hid2 (check_c s hz w hT)
    by_cases hs : (sd 10 11 s (rs s 0)).2 = 0
    · have hr : Hid (res = lexS s 0 []) := by show _ = _; rw [hres.out]; exact cut_ok (by omega) hs
      rw [chkV_ok hs] at HC
      have HA := hid2 (fun W b (h : Rdr W b s 0) => all_c b s (by omega) hs W h)
      have hpl : Hid (res.2.2 = 0 → res.2.1 = 0) := fun h => by rw [hr.out] at h ⊢; exact lexS_place h
      rw [← hr.out] at HA
      clear hres hs hr hT
      generalize (rs s 0).length = nn at *
      generalize CutP s w = Post at *
      go_enter Tryz.func58, Tryz.ntmps58
      go_wp2_with fail
      refine Calls.mono HC.out ?_
      rintro r w1 ⟨rfl, b1⟩
      go_wp2_with fail
      have hb : Hid (Rdr (w1.alloc (.cells #[.string s, .int .i64 0] 111)) w1.heap.size s 0) := Box.new w1 [.string s, .int .i64 0] 111
      have b2 : Below w.heap.size w (w1.alloc (.cells #[.string s, .int .i64 0] 111)) := b1.alloc b1.size _
      have hz2 : (w1.alloc (.cells #[.string s, .int .i64 0] 111)).heap.size = w1.heap.size + 1 := by simp
      have hge := b1.size
      generalize w1.alloc _ = W2 at *
      refine Calls.mono (HA.out _ _ hb.out) ?_
      rintro r w3 ⟨v, rfl, hv, ⟨at_, hrd, hat⟩, htr⟩
      have hB : Hid (Below w.heap.size w w3) := b2.trans (htr.below (by simp; omega) (by omega))
      obtain ⟨c0, c1, _, _⟩ := hrd.two
      have bl := hrd.lt
      have HV := hid2 hv
      clear hv hrd htr HA HC b2 hb b1
      by_cases he : res.2.2 = 0
      · have hpp := hpl.out he
        have HF := hid2 (hP.out v w3 (by rw [if_pos he]; have := HV.out; rw [if_pos he] at this; exact own_mono this (by omega)) hB.out)
        rw [he, hpp] at HF
        have he2 : (res.2.2 != 0) = false := by simp [he]
        clear hP HV
        rw [he]
        go_wp2_with fail
        go_ret3
        exact HF.out
      · have hpp := hat he
        have hv2 := HV.out
        rw [if_neg he] at hv2
        subst hv2
        have HF := hid2 (fun q => hP.out (.slice none 0 0) (w3.drewN q) (by rw [if_neg he]) (below_on hB.out (drewN_b2 w3 q) hB.out.size))
        have he2 : (res.2.2 != 0) = true := by simpa using he
        clear hP HV hat hpl
        generalize res.2.2 = ee at *
        go_wp2_with fail
        go_quiet (fail)
        go_wp2_with fail
        go_ret3
        exact HF.out _
    · have hr : Hid (res = ([], sd 10 11 s (rs s 0))) := by show _ = _; rw [hres.out]; unfold cutS; rw [if_neg hlong, if_neg hs]
      have hcv := chkV_no (s := s) (p := (sd 10 11 s (rs s 0)).1) (e := (sd 10 11 s (rs s 0)).2) rfl hs
      rw [hcv] at HC
      have hs2 : ((sd 10 11 s (rs s 0)).2 != 0) = true := by simpa using hs
      have HF := hid2 (fun w1 (b1 : Below w.heap.size w w1) => hP.out (.slice none 0 0) w1 (by rw [hr.out, if_neg hs]) b1)
      rw [hr.out] at HF
      clear hres hr hT hP hcv
      generalize (sd 10 11 s (rs s 0)).1 = pl at *
      generalize (sd 10 11 s (rs s 0)).2 = ee at *
      generalize CutP s w = Post at *
      go_enter Tryz.func58, Tryz.ntmps58
      go_wp2_with fail
      refine Calls.mono HC.out ?_
      rintro r w1 ⟨rfl, b1⟩
      go_wp2_with fail
      go_ret3
      exact HF.out _ b1
end Go.Proofs.YtalmagpikacafaaGreatDoor
end
section
namespace Go.Proofs.YtalmagpikacafaaGreatDoor
open Go.RowKit Go.Lib

theorem cut_x : cutS ⟨#[120, 60, 61, 49, 104, 51, 48, 109]⟩ = ([⟨1, ⟨#[120]⟩, 0, 0⟩, ⟨5, ⟨#[60, 61]⟩, 0, 1⟩, ⟨3, ⟨#[49, 104, 51, 48, 109]⟩, 5400, 3⟩, ⟨7, ⟨#[]⟩, 0, 8⟩], 0, 0) := by kernel_rfl
theorem name_cpu : isN ⟨#[99, 112, 117]⟩ = true := by kernel_rfl
theorem resv_min : resv (ByteArray.mk #[109, 105, 110]).data.toList = true := by kernel_rfl
theorem toks_box {w : World} {B : Nat} {v : Value} {L : List Tk} (h : Toks w B v L) : (v = .slice none 0 0 ∧ L = []) ∨ ∃ g cap, v = .slice (some ⟨g, 0, none⟩) L.length cap ∧ B ≤ g ∧ Box w g (tks L) := by
  obtain ⟨h1, ⟨h2, h3⟩ | ⟨g, cap, cur, h2, h3, h4, h5, h6, h7, h8⟩⟩ := h
  · exact .inl ⟨h2, List.eq_nil_of_length_eq_zero h3⟩
  · exact .inr ⟨g, cap, h2, h3, (Box.ofBlock h4).part (by rw [← h8]; exact List.take_prefix _ _)⟩
end Go.Proofs.YtalmagpikacafaaGreatDoor
end
section
namespace Go.Proofs.YtalmagpikacafaaGreatDoor
open Go.RowKit Go.Lib

/-- A row of bytes. -/
abbrev Bys (w : World) (B : Nat) (v : Value) (l : List UInt8) : Prop := w.ownsRow B 5 1 v l.length (strCells ⟨l.toArray⟩)
theorem info_u8 : (Tryz.prog.info? 5).map (fun i => (i.zero, i.size, i.bytes)) = some (some (.int .u8 0), 1, 1) := by kernel_rfl
theorem bys_str {w : World} {B : Nat} {v : Value} {l : List UInt8} (h : Bys w B v l) : (convert 208 9 v).run Tryz.prog w = .ok (.string ⟨l.toArray⟩) w := by
  obtain ⟨h1, ⟨h2, h3⟩ | ⟨g, cap, cur, h2, h3, h4, h5, h6, h7, h8⟩⟩ := h
  · have : l = [] := List.eq_nil_of_length_eq_zero h3
    subst this
    subst h2
    exact run_convert_bytes_nil (P := Tryz.prog) (w := w) 208 5 Tryz.underlying208 Tryz.underlying5 0 0 9 Tryz.underlying9
  · subst h2
    refine run_convert_bytes_back (P := Tryz.prog) w 208 9 5 ⟨g, 0, none⟩ cap l Tryz.underlying208 Tryz.underlying5 Tryz.underlying9 (fun j hj => ?_)
    have hb : Box w g (strCells ⟨l.toArray⟩) := (Box.ofBlock h4).part (by rw [← h8]; exact List.take_prefix _ _)
    have := hb.cell j (.int .u8 (l[j].toNat : Int)) (by simp [strCells, List.getElem?_eq_getElem hj])
    rw [Addr.add]
    split
    · rename_i h0
      subst h0
      exact this
    · simpa using this
theorem bys_add {w : World} {B : Nat} {v : Value} {l : List UInt8} {x : ByteArray} (h : w.ownsRow B 5 1 v (l.length + x.size) (strCells ⟨l.toArray⟩ ++ strCells x)) : Bys w B v (l ++ x.data.toList) := by
  have e1 : (l ++ x.data.toList).length = l.length + x.size := by rw [List.length_append, ← Lib.size_eq]
  have e2 : strCells ⟨(l ++ x.data.toList).toArray⟩ = strCells ⟨l.toArray⟩ ++ strCells x := by simp [strCells]
  show w.ownsRow _ _ _ _ (l ++ x.data.toList).length _
  rw [e1, e2]
  exact h
theorem tks_get : ∀ (L : List Tk) (j : Nat) (t : Tk), L[j]? = some t → (tks L)[j * 4]? = some (.int .i64 t.kind) ∧ (tks L)[j * 4 + 1]? = some (.string t.text) ∧ (tks L)[j * 4 + 2]? = some (.int .i64 t.n) ∧ (tks L)[j * 4 + 3]? = some (.int .i64 (t.at_ : Nat))
  | [], _, _, h => by simp at h
  | q :: L, 0, t, h => by
    simp at h
    subst h
    exact ⟨rfl, rfl, rfl, rfl⟩
  | q :: L, j + 1, t, h => by
    have := tks_get L j t (by simpa using h)
    rw [show (j + 1) * 4 = j * 4 + 4 by omega]
    exact this
/-- The fields of a token in a list. -/
theorem toks_at {w : World} {g : Nat} {L : List Tk} (h : Box w g (tks L)) {j : Nat} {t : Tk} (hj : L[j]? = some t) : w.cell? ⟨g, j * 4, none⟩ = some (.int .i64 t.kind) ∧ w.cell? ⟨g, j * 4 + 1, none⟩ = some (.string t.text) ∧ w.cell? ⟨g, j * 4 + 2, none⟩ = some (.int .i64 t.n) ∧ w.cell? ⟨g, j * 4 + 3, none⟩ = some (.int .i64 (t.at_ : Nat)) := by
  obtain ⟨h0, h1, h2, h3⟩ := tks_get L j t hj
  exact ⟨h.cell _ _ h0, h.cell _ _ h1, h.cell _ _ h2, h.cell _ _ h3⟩
theorem toks_lt {w : World} {B : Nat} {v : Value} {L : List Tk} (h : Toks w B v L) : L.length ≤ 9223372036854775807 := by
  rcases h.2 with ⟨_, h3⟩ | ⟨g, cap, cur, h2, h3, h4, h5, h6, h7, h8⟩
  · rw [h3]; omega
  · unfold maxLen at h6; omega
set_option maxHeartbeats 4000000 in
/-- Cut, of a text of any size. -/
theorem cut_all (s : ByteArray) (w : World) (hT : TabsAt w) : Calls Tryz.prog 58 #[.string s] w (CutP s w) := by
  by_cases hlong : 1048576 < s.size
  · have hl : (1048576 : Int) < (s.size : Int) := by omega
    have hr : Hid (cutS s = ([], 0, 2)) := if_pos hlong
    have FIN : Hid (CutP s w (.returned (.tuple #[.slice none 0 0, .int .i64 0, .int .i64 2])) w) := by
      show CutP s w _ w
      unfold CutP
      rw [hr.out]
      exact ⟨_, rfl, rfl, Below.refl _ _⟩
    clear hT hr
    generalize CutP s w = Post at *
    go_enter Tryz.func58, Tryz.ntmps58
    go_wp2_with fail
    go_ret3
    exact FIN.out
  · exact cut_c s (by omega) w hT
end Go.Proofs.YtalmagpikacafaaGreatDoor
end
