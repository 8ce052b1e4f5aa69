/- Two trees that are the same: plain; Same, the document's Same. -/
import Derived.Test.YtdikeicnefgjcaaDoorTrH
namespace Go.Proofs.YtdikeicnefgjcaaDoor
open Go.RowKit

def hdEq (a b : Tm) : Bool := decide (a.kind = b.kind) && (decide (a.text.toList = b.text.toList) && (decide (a.n = b.n) && decide (a.m = b.m)))
def sameB : Tm → Tm → Bool
  | ⟨k, s, n, m, p, ps⟩, b => hdEq ⟨k, s, n, m, p, ps⟩ b && (decide (ps.length = b.parts.length) && ((List.range ps.length).map fun i =>
      if h : i < ps.length then
        match b.parts[i]? with
        | some y => (have : SizeOf.sizeOf ps[i] < SizeOf.sizeOf ps := List.sizeOf_lt_of_mem (List.getElem_mem h); sameB ps[i] y)
        | none => true
      else true).all id)
def samePt (l k : List Tm) (i : Nat) : Bool := match l[i]?, k[i]? with
  | some x, some y => sameB x y
  | _, _ => true
def sameL (l k : List Tm) : Bool := decide (l.length = k.length) && (List.range l.length).all (samePt l k)
theorem sameB_eq (a b : Tm) : sameB a b = (hdEq a b && sameL a.parts b.parts) := by
  cases a with
  | mk k s n m p ps =>
    rw [sameB, sameL, List.all_map]
    congr 2
    refine Bool.eq_iff_iff.2 ?_
    simp only [List.all_eq_true, Function.comp_def, id_eq]
    refine forall_congr' fun i => forall_congr' fun hi => ?_
    have hi' : i < ps.length := by simpa using hi
    simp only [dif_pos hi', samePt, List.getElem?_eq_getElem hi']
    cases b.parts[i]? <;> rfl
theorem samePt_at {l k : List Tm} {i : Nat} (h1 : i < l.length) (h2 : i < k.length) : samePt l k i = sameB l[i] k[i] := by
  unfold samePt; rw [List.getElem?_eq_getElem h1, List.getElem?_eq_getElem h2]
def SameAt (z : Nat) (t : Tm) : Prop := ∀ (y : Tm) (v v' : Value) (w : World), Sits z w t v → Sits z w y v' → Calls Tryd.prog 20 #[tmV t v, tmV y v'] w fun e w' => e = .returned (.bool (sameB t y)) ∧ Below w.heap.size w w'
abbrev sameF : Value := .func (.func 20) #[] #[]
theorem all_false' {n j : Nat} {f : Nat → Bool} (hj : j < n) (hf : f j = false) : (List.range n).all f = false := by
  rw [List.all_eq_false]
  exact ⟨j, List.mem_range.2 hj, by rw [hf]; decide⟩
theorem all_step' {j : Nat} {f : Nat → Bool} (h : (List.range j).all f = true) (hf : f j = true) : (List.range (j + 1)).all f = true := by
  rw [List.range_succ, List.all_append, h]; simp [hf]
set_option maxHeartbeats 2000000 in
theorem equalTerms {z : Nat} (l k : List Tm) (v v' : Value) (w : World) (hl : PAt z w v l) (hk : PAt z w v' k) (ih : ∀ x, x ∈ l → SameAt z x) :
    Calls Tryd.prog 46 #[v, v', sameF] w fun e w' => e = .returned (.bool (sameL l k)) ∧ Below w.heap.size w w' := by
  have HL := hid2 hl
  have HK := hid2 hk
  have HI := hid2 ih
  obtain ⟨ad, cap, rfl, hc1, hc2⟩ := hl.shape
  obtain ⟨ad', cap', rfl, hc1', hc2'⟩ := hk.shape
  obtain ⟨r, hr⟩ : ∃ r : Bool, Hid (r = sameL l k) := ⟨_, rfl⟩
  rw [← hr.out]
  obtain ⟨N, hN⟩ : ∃ N, Hid (N = l.length) := ⟨_, rfl⟩
  obtain ⟨M, hM⟩ : ∃ M, Hid (M = k.length) := ⟨_, rfl⟩
  rw [← hN.out] at hc1 HL ⊢
  rw [← hM.out] at hc1' HK ⊢
  clear hl hk ih
  by_cases hNM : N = M
  · have d1 : ((N : Int) != (M : Int)) = false := by rw [hNM]; simp
    have HR : Hid (r = (List.range N).all (samePt l k)) := by show _ = _; rw [hr.out, sameL, decide_eq_true (by rw [← hN.out, ← hM.out]; exact hNM), ← hN.out]; rfl
    have HNM := hid2 hNM
    clear hr hNM
    go_enter Tryd.func46, Tryd.ntmps46
    go_wp2_with fail
    go_loopw [17] (fun i wr => ∃ j : Nat, i = .int .i64 (j : Nat) ∧ j ≤ N ∧ Hid ((List.range j).all (samePt l k) = true) ∧ Hid (Below w.heap.size w wr)) (fun i _ => match i with | .int _ p => ((N : Int) - p).toNat | _ => 0)
    case atStart => exact ⟨0, rfl, by omega, hid2 rfl, Below.refl _ _⟩
    case round =>
      obtain ⟨j, rfl, hj, HJ, HB⟩ := hrel
      by_cases hlt : j < N
      · have hlt' : (j : Int) < (N : Int) := by omega
        have hlm' : (j : Int) < (M : Int) := by have := HNM.out; omega
        have h1 : j < l.length := by rw [← hN.out]; exact hlt
        have h2 : j < k.length := by rw [← hM.out]; have := HNM.out; omega
        obtain ⟨b, off, c1, hv, -, -, hbl, hx⟩ := HL.out.open (by omega)
        simp only [Value.slice.injEq] at hv
        obtain ⟨rfl, -, rfl⟩ := hv
        obtain ⟨b', off', c1', hv', -, -, hbl', hx'⟩ := HK.out.open (by omega)
        simp only [Value.slice.injEq] at hv'
        obtain ⟨rfl, -, rfl⟩ := hv'
        obtain ⟨u, h6, hu⟩ := hx j h1
        obtain ⟨u', h6', hu'⟩ := hx' j h2
        obtain ⟨c0, c1, c2, c3, c4, c5⟩ := h6.keep (w' := wr) (fun q => HB.out.cell (p := ⟨b, q, none⟩) hbl)
        obtain ⟨e0, e1, e2, e3, e4, e5⟩ := h6'.keep (w' := wr) (fun q => HB.out.cell (p := ⟨b', q, none⟩) hbl')
        have lb : b < wr.heap.size := Nat.lt_of_lt_of_le hbl HB.out.size
        have lb' : b' < wr.heap.size := Nat.lt_of_lt_of_le hbl' HB.out.size
        have HC : Hid (∀ o o', Calls Tryd.prog 20 #[tmV l[j] u, tmV k[j] u'] ((wr.alloc o).alloc o') fun e w' => e = .returned (.bool (samePt l k j)) ∧ Hid (Below w.heap.size w w')) := fun o o' => by
          have A : Below w.heap.size w ((wr.alloc o).alloc o') := (HB.out.alloc HB.out.size _).alloc (by simp; have := HB.out.size; omega) _
          rw [samePt_at h1 h2]
          exact (HI.out _ (List.getElem_mem h1) _ u u' _ (hu.next A) (hu'.next A)).mono fun e w' h => ⟨h.1, below_on A h.2 A.size⟩
        obtain ⟨au, cu, rfl, -, -⟩ := hu.parts.shape
        obtain ⟨au', cu', rfl, -, -⟩ := hu'.parts.shape
        clear h6 h6' hu hu' hx hx'
        generalize l[j] = x at *
        generalize k[j] = y at *
        clear h1 h2
        go_wp2_with fail
        refine Calls.mono (HC.out _ _) ?_
        rintro e w1 ⟨rfl, B1⟩
        clear HC c0 c1 c2 c3 c4 c5 e0 e1 e2 e3 e4 e5
        cases hq : samePt l k j with
        | false =>
          have rf : r = false := by rw [HR.out]; exact all_false' hlt hq
          subst rf
          clear hq
          go_wp2_with fail
          go_ret
          exact ⟨rfl, B1.out⟩
        | true =>
          have HJ2 := hid2 (all_step' HJ.out hq)
          clear hq
          go_wp2_with fail
          go_roundw
          case rel => exact ⟨j + 1, by go_num, by omega, HJ2, B1⟩
          case measure => simp; omega
      · have hlt' : ¬ (j : Int) < (N : Int) := by omega
        have hjN : j = N := by omega
        have rt : r = true := by rw [HR.out, ← hjN, HJ.out]
        subst rt
        clear HR
        go_wp2_with fail
        go_ret
        exact ⟨rfl, HB.out⟩
  · have d1 : ((N : Int) != (M : Int)) = true := by simp; omega
    have rf : r = false := by rw [hr.out, sameL, decide_eq_false (by rw [← hN.out, ← hM.out]; exact hNM)]; rfl
    subst rf
    clear hr
    go_enter Tryd.func46, Tryd.ntmps46
    go_wp2_with fail
    go_ret
    exact ⟨rfl, Below.refl _ _⟩
set_option maxHeartbeats 1000000 in
theorem same_all {z : Nat} (t : Tm) : SameAt z t := by
  induction t using Tm.ind with
  | h t ih =>
    intro y v v' w hs hs'
    have A : ∀ o o', Below w.heap.size w ((w.alloc o).alloc o') := fun o o' => ((Below.refl _ _).alloc (Nat.le_refl _) _).alloc (by simp) _
    have HE := hid2 (fun o o' => equalTerms t.parts y.parts v v' ((w.alloc o).alloc o') (hs.parts.next (A o o')) (hs'.parts.next (A o o')) ih)
    have HA := hid2 A
    obtain ⟨ad, cap, rfl, -, -⟩ := hs.parts.shape
    obtain ⟨ad', cap', rfl, -, -⟩ := hs'.parts.shape
    rw [sameB_eq]
    generalize sameL t.parts y.parts = q at *
    clear ih hs hs' A
    go_enter Tryd.func20, Tryd.ntmps20
    go_wp2_with (go_at_call 46; refine Calls.mono (HE.out _ _) ?_; rintro e w1 ⟨rfl, b1⟩)
    all_goals go_ret
    all_goals refine ⟨ret_bool ?_, by first | exact HA.out _ _ | exact below_on (HA.out _ _) b1 (by simp; omega)⟩
    all_goals (unfold hdEq; first | (simp [*]; done) | (clear HE HA; simp_all; done))
end Go.Proofs.YtdikeicnefgjcaaDoor
