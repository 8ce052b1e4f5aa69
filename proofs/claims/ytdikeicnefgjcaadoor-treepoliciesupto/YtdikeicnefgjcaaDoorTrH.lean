/- Package tree: Nodes; the document's Nodes; small, num. -/
import Derived.Test.YtdikeicnefgjcaaDoorTrF
namespace Go.Proofs.YtdikeicnefgjcaaDoor
open Go.RowKit

def cntV (s : Nat) (_ : Tm) : Nat × Bool := (s + 1, decide (s + 1 ≤ 16384))
theorem cnt_run : ∀ (l : List Tm) (s : Nat), s ≤ 16384 → (runV cntV l s).1 = min (s + l.length) 16385
  | [], s, h => by simp [runV]; omega
  | t :: r, s, h => by
    rw [runV]
    by_cases hs : s + 1 ≤ 16384
    · rw [if_pos (by simp [cntV, hs])]
      have := cnt_run r (s + 1) hs
      show (runV cntV r (s + 1)).1 = _
      rw [this, List.length_cons]; congr 1; omega
    · rw [if_neg (by simp [cntV, hs])]
      show s + 1 = _
      rw [List.length_cons]; omega
/-- The variable that counts. -/
def CntR (W : World) (g : Nat) (s : Nat) (F : List Nat) (w : World) : Prop := F = [g] ∧ Box w g [.int .i64 (s : Nat)] ∧ W.heap.size ≤ g
theorem cnt_call (z : Nat) (W : World) (g s : Nat) (F : List Nat) (t : Tm) (v : Value) (w : World) (hG : s ≤ 16384) (hR : CntR W g s F w) (hs : Sits z W t v) : Calls Tryd.prog 38 #[tmV t v, .pointer (some ⟨g, 0, none⟩)] w (VPost (CntR W g) (cntV s t) F w) := by
  obtain ⟨rfl, hb, hW⟩ := hR
  obtain ⟨ad, cap, rfl, -, -⟩ := hs.parts.shape
  have c0 := hb.cell 0 _ rfl
  have f0 := hb.free 0 (by simp)
  have l0 := hb.lt
  have HB := hid2 hb
  have i1 : (s : Int) + 1 = ((s + 1 : Nat) : Int) := by omega
  have ng : g ≠ w.heap.size := by omega
  have hi : (s : Int) ≤ 16384 := by omega
  clear hs hb
  obtain ⟨S, hS⟩ : ∃ S, Hid (S = s + 1) := ⟨_, rfl⟩
  rw [← hS.out] at i1
  have hP : Hid (∀ o, VPost (CntR W g) (cntV s t) [g] w (.returned (.bool (decide ((S : Int) ≤ 16384)))) ((w.setCell ⟨g, 0, none⟩ (.int .i64 (S : Nat))).alloc o)) := fun o => by
    have hd : decide ((S : Int) ≤ 16384) = decide (s + 1 ≤ 16384) := decide_eq_decide.2 (by have := hS.out; omega)
    refine ⟨by rw [hd]; rfl, [g], ⟨rfl, ?_, hW⟩, ?_, fun b hm => .inl hm⟩
    · have := (HB.out.set 0 (by simp) (.int .i64 (S : Nat))).next ((Below.refl _ _).alloc (Nat.le_refl _) o)
      rw [hS.out] at this ⊢
      exact this
    · exact (Turn.set w ⟨g, 0, none⟩ _ (by simp)).andBelow ((Below.refl _ _).alloc (Nat.le_refl _) o)
  clear hG
  go_enter Tryd.func38, Tryd.ntmps38
  go_wp2_with fail
  go_ret
  exact hP.out _
theorem cnt_vis (z : Nat) (W : World) (g : Nat) : VisC z W (CntR W g) cntV (fun s => s ≤ 16384) g where
  next := fun s F w w' ⟨a, b, c⟩ hb => ⟨a, b.next hb, c⟩
  lt := fun s F w ⟨a, b, c⟩ k hk => by
    subst a
    simp at hk
    subst hk
    exact ⟨c, b.lt⟩
  good := fun s t hs hb => by simp [cntV] at hb; simpa [cntV] using hb
  call := fun s F t v w hG hR _ hs => cnt_call z W g s F t v w hG hR hs
def ndsV (t : Tm) : Value := .int .i64 ((min (nodes t) 16385 : Nat) : Int)
theorem nodes_c {z : Nat} (t : Tm) (v : Value) (w : World) (hs : Sits z w t v) : Calls Tryd.prog 15 #[tmV t v] w fun e w' => e = .returned (ndsV t) ∧ Below w.heap.size w w' := by
  have A : ∀ o o', Below w.heap.size w ((w.alloc o).alloc o') := fun o o' => ((Below.refl _ _).alloc (Nat.le_refl _) _).alloc (by simp) _
  have HW := hid2 (fun (o : Obj) (ty : TypeId) => walkC (cnt_vis z w (w.heap.size + 1)) t 0 [w.heap.size + 1] v ((w.alloc o).alloc (.cells #[.int .i64 0] ty)) (by omega) ⟨rfl, by simpa using Box.new (w.alloc o) [.int .i64 0] ty, by omega⟩ (A _ _) hs)
  obtain ⟨ad, cap, rfl, -, -⟩ := hs.parts.shape
  have hr := cnt_run (pord t) 0 (by omega)
  rw [Nat.zero_add] at hr
  obtain ⟨V, hV⟩ : ∃ V, Hid (V = ndsV t) := ⟨_, rfl⟩
  rw [← hV.out]
  have HE : Hid (Value.int .i64 (((runV cntV (pord t) 0).1 : Nat) : Int) = V) := by rw [hr, hV.out]; rfl
  have HA := hid2 A
  clear hr hs A
  go_enter Tryd.func15, Tryd.ntmps15
  go_wp2_with fail
  refine Calls.mono (HW.out _ _) ?_
  rintro e w1 ⟨rfl, F', ⟨rfl, hb, -⟩, t1, -⟩
  have c0 := hb.cell 0 _ rfl
  have l0 := hb.lt
  have B1 : Hid (Below w.heap.size w w1) := (HA.out _ _).trans (t1.below (fun k hk => by simp at hk; omega) (by simp; omega))
  rw [HE.out] at c0
  clear hb t1 HW
  have hV2 : ∃ n : Int, V = .int .i64 n := ⟨_, hV.out⟩
  clear HE hV
  obtain ⟨n, rfl⟩ := hV2
  go_wp2_with fail
  go_ret
  exact ⟨rfl, B1.out⟩
theorem min_cast (n : Nat) : min (n : Int) 16385 = ((min n 16385 : Nat) : Int) := by omega
set_option maxHeartbeats 1000000 in
theorem rNodes_c {z : Nat} (t : Tm) : ∀ (v : Value) (w : World), Sits z w t v → Calls Tryd.prog 16 #[tmV t v] w fun e w' => e = .returned (ndsV t) ∧ Below w.heap.size w w' := by
  induction t using Tm.ind with
  | h t ih =>
    intro v w hs
    have HP := hid2 hs.parts
    have HI := hid2 ih
    obtain ⟨ad, cap, rfl, hlc, hc⟩ := hs.parts.shape
    obtain ⟨V, hV⟩ : ∃ V, Hid (V = ndsV t) := ⟨_, rfl⟩
    rw [← hV.out]
    obtain ⟨N, hN⟩ : ∃ N, Hid (N = t.parts.length) := ⟨_, rfl⟩
    rw [← hN.out] at hlc HP ⊢
    clear hs ih
    go_enter Tryd.func16, Tryd.ntmps16
    go_wp2_with fail
    have BX : Hid (Box (w.alloc (.cells (tmL t (.slice ad N cap)).toArray 24)) w.heap.size (tmL t (.slice ad N cap))) := Box.new _ _ _
    go_loopw [3, 4] (fun c i wr => ∃ (k m : Nat), i = .int .i64 (k : Nat) ∧ c = .int .i64 (m : Nat) ∧ k ≤ N ∧ m ≤ 32769 ∧ Hid (min m 16385 = min (1 + nodesL (t.parts.take k)) 16385) ∧ Hid (Below (w.heap.size + 1) (w.alloc (.cells (tmL t (.slice ad N cap)).toArray 24)) wr)) (fun _ i _ => match i with | .int _ p => ((N : Int) - p).toNat | _ => 0)
    case atStart => exact ⟨0, 1, rfl, rfl, by omega, by omega, hid2 rfl, Below.refl _ _⟩
    case round =>
      obtain ⟨k, m, rfl, rfl, hk, hm, HM, HB⟩ := hrel
      have HBw : Hid (Below w.heap.size w wr) := ((Below.refl _ _).alloc (Nat.le_refl _) _).trans (HB.out.mono (by omega))
      have X := BX.out.later HB.out (by omega)
      have k5 := X.cell 5 _ rfl
      by_cases hlt : k < N
      · have hlt' : (k : Int) < (N : Int) := by omega
        by_cases h16 : m ≤ 16384
        · have h16' : (m : Int) ≤ 16384 := by omega
          have hl1 : k < t.parts.length := by rw [← hN.out]; exact hlt
          obtain ⟨b, off, cap', hv, -, -, hbl, hx⟩ := HP.out.open (by omega)
          simp only [Value.slice.injEq] at hv
          obtain ⟨rfl, -, rfl⟩ := hv
          obtain ⟨u, h6, hu⟩ := hx k hl1
          obtain ⟨c0, c1, c2, c3, c4, c5⟩ := h6.keep (w' := wr) (fun q => HBw.out.cell (p := ⟨b, q, none⟩) hbl)
          have HC := hid2 (HI.out _ (List.getElem_mem hl1) u wr (hu.next HBw.out))
          have HS : Hid (nodesL (t.parts.take (k + 1)) = nodesL (t.parts.take k) + nodes t.parts[k]) := by
            show _ = _
            rw [List.take_succ_eq_append_getElem hl1, nodesL_append, nodesL_cons]; simp [nodesL_nil]
          clear hx h6 hu X
          unfold ndsV at HC
          have hmn : min (nodes t.parts[k]) 16385 ≤ 16385 := Nat.min_le_right _ _
          obtain ⟨M, hM⟩ : ∃ M, Hid (M = min (nodes t.parts[k]) 16385) := ⟨_, hid2 rfl⟩
          rw [← hM.out] at HC hmn
          generalize t.parts[k] = x at *
          clear hl1
          go_wp2_with fail
          refine Calls.mono HC.out ?_
          rintro e w1 ⟨rfl, b1⟩
          have B1 := hid2 (HB.out.trans (b1.mono (by have := HB.out.size; simp at this; omega)))
          clear b1 HC
          obtain ⟨S, hS⟩ : ∃ S, Hid (S = m + M) := ⟨_, hid2 rfl⟩
          have i3 : (m : Int) + (M : Int) = (S : Int) := by have := hS.out; omega
          have i4 : (S : Int) ≤ 32769 := by have := hS.out; omega
          have hmn2 := hid2 hmn
          have h162 := hid2 h16
          clear hmn h16
          go_wp2_with fail
          go_roundw
          case rel => exact ⟨k + 1, S, by go_num, rfl, by omega, by omega, (by show _ = _; rw [HS.out, hS.out]; have := HM.out; have := hM.out; have := h162.out; omega), B1.out⟩
          case measure => simp; omega
        · have h16' : ¬ (m : Int) ≤ 16384 := by omega
          have hVV : Hid (V = .int .i64 ((min m 16385 : Nat) : Int)) := by
            show _ = _
            rw [hV.out, ndsV, nodes_eq]
            have e : nodesL t.parts = nodesL (t.parts.take k) + nodesL (t.parts.drop k) := by rw [← nodesL_append, List.take_append_drop]
            have := HM.out
            congr 2
            omega
          go_wp2_with fail
          go_ret
          exact ⟨by rw [hVV.out, ← min_cast]; rfl, HBw.out⟩
      · have hlt' : ¬ (k : Int) < (N : Int) := by omega
        have hkN : k = N := by omega
        have hVV : Hid (V = .int .i64 ((min m 16385 : Nat) : Int)) := by
          show _ = _
          rw [hV.out, ndsV, nodes_eq]
          have e1 : t.parts.take k = t.parts := by rw [hkN, hN.out]; exact List.take_length
          have := HM.out
          rw [e1] at this
          rw [this]
        go_wp2_with fail
        go_ret
        exact ⟨by rw [hVV.out, ← min_cast]; rfl, HBw.out⟩
theorem small_c {z : Nat} (t : Tm) (v : Value) (w : World) (hs : Sits z w t v) : Calls Tryd.prog 10 #[tmV t v] w fun e w' => e = .returned (.bool (decide (nodes t ≤ 16384))) ∧ Below w.heap.size w w' := by
  have A : ∀ o, Below w.heap.size w (w.alloc o) := fun o => (Below.refl _ _).alloc (Nat.le_refl _) _
  have HN := hid2 (fun o => rNodes_c t v (w.alloc o) (hs.next (A o)))
  have HA := hid2 A
  obtain ⟨ad, cap, rfl, -, -⟩ := hs.parts.shape
  unfold ndsV at HN
  obtain ⟨M, hM⟩ : ∃ M, Hid (M = min (nodes t) 16385) := ⟨_, hid2 rfl⟩
  rw [← hM.out] at HN
  have hd : decide (nodes t ≤ 16384) = decide ((M : Int) ≤ 16384) := decide_eq_decide.2 (by have := hM.out; omega)
  rw [hd]
  clear hs A hd hM
  go_enter Tryd.func10, Tryd.ntmps10
  go_wp2_with fail
  refine Calls.mono (HN.out _) ?_
  rintro e w1 ⟨rfl, b1⟩
  have B1 := hid2 (below_on (HA.out _) b1 (by simp))
  clear b1
  go_wp2_with fail
  go_ret
  exact ⟨rfl, B1.out⟩
end Go.Proofs.YtdikeicnefgjcaaDoor
