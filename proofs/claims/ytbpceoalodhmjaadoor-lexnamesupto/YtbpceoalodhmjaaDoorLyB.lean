/- Every text is told to be a name, a reserved word, or neither, alike. -/
import Derived.Test.YtbpceoalodhmjaaDoorLyA
import Derived.Test.YtbpceoalodhmjaaDoorLxX
namespace Go.Proofs.YtbpceoalodhmjaaDoor
open Go.RowKit Go.Lib

theorem rn_full {s : ByteArray} {p : Nat → Bool} : ∀ i, i ≤ s.size → (rn s p i = s.size ↔ (rs s i).all (fun q => p q.1) = true) := by
  refine rn_ind (s := s) (p := p) (fun i hi _ => ?_) (fun i hi h ih _ => ?_) (fun i hi h _ => ?_)
  · rw [rn_end hi, rs_end hi]; simp
  · rw [rn_yes hi h, rs_step hi, List.all_cons, h, Bool.true_and]
    exact ih (width_in s i hi)
  · rw [rn_no hi h, rs_step hi, List.all_cons, h, Bool.false_and]
    constructor
    · intro e; omega
    · intro e; cases e
theorem cls_valid {s : ByteArray} : ∀ i, (rs s i).all (fun q => isC (q.1 : Nat) 3) = true → Vd s i := by
  refine rs_ind (s := s) (fun i hi _ => Vd.end_ hi) (fun i hi ih h => ?_)
  rw [rs_step hi, List.all_cons, Bool.and_eq_true] at h
  obtain ⟨h1, h2⟩ := h
  have hn : noSeq (Utf8.decode s i) = false := by
    cases hq : noSeq (Utf8.decode s i) with
    | false => rfl
    | true =>
      have h5 : (Utf8.decode s i).1 = 65533 := by simp at hq; exact hq.1
      simp only [h5] at h1
      rw [show isC ((65533 : Nat) : Int) 3 = false from isC_end 3] at h1
      cases h1
  refine Vd.ofStep hi hn ?_ (ih h2)
  rw [lets_in]
  unfold isC at h1
  simp only [Int.reduceEq, if_false, if_true] at h1
  simp only [decide_eq_true_eq] at h1 ⊢
  omega
theorem names_same (s : ByteArray) : isN s = rN s := by
  have h3 := rn_full (s := s) (p := fun r => isC (r : Int) 3) 0 (by omega)
  unfold isN rN
  rw [count_all]
  by_cases hz : 0 < s.size
  · have hp := rs_step hz
    have hl : 1 ≤ (rs s 0).length := by rw [hp]; simp
    have hh : (rs s 0).headD (0, 0) = ((Utf8.decode s 0).1, 0) := by rw [hp]; rfl
    rw [decide_eq_true hl, hh, Bool.true_and]
    have h1 : (!(decide (cls s 1 0 = 0))) = isC ((Utf8.decode s 0).1 : Nat) 1 := by
      rcases cls_step (c := 1) hz with ⟨a, b⟩ | ⟨a, b⟩
      · rw [b, decide_eq_true a]; rfl
      · rw [b, decide_eq_false (by omega)]; rfl
    rw [h1]
    by_cases ha : (rs s 0).all (fun q => isC (q.1 : Nat) 3) = true
    · have hv : (sd 10 11 s (rs s 0)).2 = 0 := cls_valid 0 ha
      rw [ha, decide_eq_true hv, decide_eq_true (h3.2 ha), Bool.true_and, Bool.true_and, Bool.true_and]
      cases isC ((Utf8.decode s 0).1 : Nat) 1 <;> simp
    · have ha2 : (rs s 0).all (fun q => isC (q.1 : Nat) 3) = false := by simpa using ha
      rw [ha2, decide_eq_false (fun e => ha (h3.1 e))]
      simp
  · have e0 : s.size = 0 := by omega
    have e1 : cls s 1 0 = 0 := by
      have : cls s 1 0 = s.size := rn_end (by omega)
      omega
    rw [decide_eq_true e1, rs_end (by omega)]
    simp
theorem lexNames_walk (s : ByteArray) (hz : s.size ≤ 1048576) (w : World) (hT : TabsAt w) : Calls Tryd.prog 3 #[.string s] w fun e w' => e = .returned (.bool true) ∧ Below w.heap.size w w' := by
  have A := hid2 (awake_c w hT)
  have N := hid2 (fun wx => isName_c s (by omega) wx)
  have RN := hid2 (fun wx => rIsName_c s hz wx)
  have V := hid2 (fun wx => reserved_c s wx)
  have RV := hid2 (fun wx => rReserved_c s wx)
  rw [names_same] at N
  generalize rN s = nb at *
  generalize resv s.data.toList = rb at *
  clear hT
  go_enter Tryd.func3, Tryd.ntmps3
  go_wp2_with fail
  refine Calls.mono A.out ?_
  rintro r w1 ⟨rfl, b1⟩
  have B1 := hid2 b1
  clear b1
  go_wp2_with fail
  refine Calls.mono (N.out _) ?_
  rintro r w2 ⟨rfl, b2⟩
  have B2 := hid2 (below_on B1.out b2 B1.out.size)
  clear b2
  go_wp2_with fail
  refine Calls.mono (RN.out _) ?_
  rintro r w3 ⟨rfl, b3⟩
  have B3 := hid2 (below_on B2.out b3 B2.out.size)
  clear b3
  cases nb
  · go_wp2_with fail
    refine Calls.mono (V.out _) ?_
    rintro r w4 ⟨rfl, rfl⟩
    go_wp2_with fail
    refine Calls.mono (RV.out _) ?_
    rintro r w5 ⟨rfl, b5⟩
    cases rb
    · go_wp2_with fail
      go_ret
      exact ⟨rfl, below_on B3.out b5 B3.out.size⟩
    · go_wp2_with fail
      go_ret
      exact ⟨rfl, below_on B3.out b5 B3.out.size⟩
  · go_wp2_with fail
    refine Calls.mono (V.out _) ?_
    rintro r w4 ⟨rfl, rfl⟩
    go_wp2_with fail
    refine Calls.mono (RV.out _) ?_
    rintro r w5 ⟨rfl, b5⟩
    cases rb
    · go_wp2_with fail
      go_ret
      exact ⟨rfl, below_on B3.out b5 B3.out.size⟩
    · go_wp2_with fail
      go_ret
      exact ⟨rfl, below_on B3.out b5 B3.out.size⟩
end Go.Proofs.YtbpceoalodhmjaaDoor
