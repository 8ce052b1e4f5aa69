/- The document's reader: the words of calls. -/
import Derived.Test.YtecdfnpbcabdnaaGreatDoorPrG
namespace Go.Proofs.YtecdfnpbcabdnaaGreatDoor
open Go.RowKit Go.Lib

abbrev Cl := ByteArray × Int × Int
/-- The words of calls, their kinds, how many parts. -/
def callT : List Cl := [(k_if, 32, 3), (k_min, 29, 2), (k_max, 30, 2), (k_either, 31, 2), (k_abs, 15, 1), (k_ceil, 16, 1), (k_floor, 17, 1), (k_sum, 7, 0), (k_avg, 8, 0), (k_low, 9, 0), (k_high, 10, 0), (k_count, 11, 0), (k_rank, 12, 0), (k_cron, 6, -1)]
def callV : List Value := callT.flatMap fun q => [.string q.1, .int .i64 q.2.1, .int .i64 q.2.2]
set_option maxHeartbeats 4000000 in
theorem calls_c (w : World) : Calls Tryz.prog 164 #[] w fun e w' => e = .returned (.slice (some ⟨w.heap.size, 0, none⟩) 14 14) ∧ Box w' w.heap.size callV ∧ Below w.heap.size w w' := by
  have HB := hid2 (one_box w 194 callV)
  go_enter Tryz.func164, Tryz.ntmps164
  go_wp2_with fail
  go_ret
  exact ⟨rfl, HB.out.1, HB.out.2⟩
theorem call_get (i : Nat) (hi : i < 14) : ∃ q : Cl, callT[i]? = some q ∧ callV[i * 3]? = some (.string q.1) ∧ callV[i * 3 + 1]? = some (.int .i64 q.2.1) ∧ callV[i * 3 + 2]? = some (.int .i64 q.2.2) ∧ callT.drop i = q :: callT.drop (i + 1) := by
  have h : i = 0 ∨ i = 1 ∨ i = 2 ∨ i = 3 ∨ i = 4 ∨ i = 5 ∨ i = 6 ∨ i = 7 ∨ i = 8 ∨ i = 9 ∨ i = 10 ∨ i = 11 ∨ i = 12 ∨ i = 13 := by omega
  rcases h with rfl | rfl | rfl | rfl | rfl | rfl | rfl | rfl | rfl | rfl | rfl | rfl | rfl | rfl
  all_goals exact ⟨_, rfl, rfl, rfl, rfl, rfl⟩
theorem call_in {i : Nat} {q : Cl} (h : callT[i]? = some q) : q ∈ callT := List.mem_of_getElem? h
/-- What stands in a call's brackets. -/
def insR (c : Int) (X : Option Rdf) (k n : Int) (a : Nat) : Rdf := fun S => if n < 0 then cronR c X.isNone a S else if n = 0 then winR c X.isNone k a S else callR c X k (n.toNat - 1) a S
theorem word_ins {c : Int} {X : Option Rdf} {t : Tk} {S : Sr} {q : Cl} (h : q ∈ callT) (ht : t.text = q.1) : wordR c X t S = insR c X q.2.1 q.2.2 t.at_ S := by
  unfold callT at h
  simp only [List.mem_cons, List.not_mem_nil, or_false] at h
  unfold wordR insR
  rw [ht]
  rcases h with rfl | rfl | rfl | rfl | rfl | rfl | rfl | rfl | rfl | rfl | rfl | rfl | rfl | rfl
  all_goals rfl
theorem is_call {x : ByteArray} : isCall x = true ↔ ∃ q ∈ callT, x = q.1 := by
  unfold isCall callT
  simp only [Bool.or_eq_true, decide_eq_true_eq, List.mem_cons, List.not_mem_nil, or_false]
  constructor
  · rintro (h | h | h | h | h | h | h | h | h | h | h | h | h | h)
    · exact ⟨_, .inl rfl, h⟩
    · exact ⟨_, .inr (.inl rfl), h⟩
    · exact ⟨_, .inr (.inr (.inl rfl)), h⟩
    · exact ⟨_, .inr (.inr (.inr (.inl rfl))), h⟩
    · exact ⟨_, .inr (.inr (.inr (.inr (.inl rfl)))), h⟩
    · exact ⟨_, .inr (.inr (.inr (.inr (.inr (.inl rfl))))), h⟩
    · exact ⟨_, .inr (.inr (.inr (.inr (.inr (.inr (.inl rfl)))))), h⟩
    · exact ⟨_, .inr (.inr (.inr (.inr (.inr (.inr (.inr (.inl rfl))))))), h⟩
    · exact ⟨_, .inr (.inr (.inr (.inr (.inr (.inr (.inr (.inr (.inl rfl)))))))), h⟩
    · exact ⟨_, .inr (.inr (.inr (.inr (.inr (.inr (.inr (.inr (.inr (.inl rfl))))))))), h⟩
    · exact ⟨_, .inr (.inr (.inr (.inr (.inr (.inr (.inr (.inr (.inr (.inr (.inl rfl)))))))))), h⟩
    · exact ⟨_, .inr (.inr (.inr (.inr (.inr (.inr (.inr (.inr (.inr (.inr (.inr (.inl rfl))))))))))), h⟩
    · exact ⟨_, .inr (.inr (.inr (.inr (.inr (.inr (.inr (.inr (.inr (.inr (.inr (.inr (.inl rfl)))))))))))), h⟩
    · exact ⟨_, .inr (.inr (.inr (.inr (.inr (.inr (.inr (.inr (.inr (.inr (.inr (.inr (.inr rfl)))))))))))), h⟩
  · rintro ⟨q, (rfl | rfl | rfl | rfl | rfl | rfl | rfl | rfl | rfl | rfl | rfl | rfl | rfl | rfl), rfl⟩
    all_goals simp
theorem call_plain {q : Cl} (h : q ∈ callT) : (q.1.toList == [40]) = false ∧ (q.1.toList == [123]) = false ∧ (q.1.toList == [41]) = false ∧ (q.1.toList == [125]) = false := by
  unfold callT at h
  simp only [List.mem_cons, List.not_mem_nil, or_false] at h
  rcases h with rfl | rfl | rfl | rfl | rfl | rfl | rfl | rfl | rfl | rfl | rfl | rfl | rfl | rfl
  all_goals exact ⟨ba_neL [40] (by decide), ba_neL [123] (by decide), ba_neL [41] (by decide), ba_neL [125] (by decide)⟩
theorem call_kind {q : Cl} (h : q ∈ callT) : 0 ≤ q.2.1 ∧ q.2.1 ≤ 100 ∧ -1 ≤ q.2.2 ∧ q.2.2 ≤ 3 := by
  unfold callT at h
  simp only [List.mem_cons, List.not_mem_nil, or_false] at h
  rcases h with rfl | rfl | rfl | rfl | rfl | rfl | rfl | rfl | rfl | rfl | rfl | rfl | rfl | rfl
  all_goals decide
/-- The words of atoms. -/
def wdT : List ByteArray := [k_true, k_false, k_reps]
def wdV : List Value := [.string k_true, .string k_false, .string k_reps]
theorem wd_get (i : Nat) (hi : i < 3) : ∃ x, wdT[i]? = some x ∧ wdV[i]? = some (.string x) ∧ ((x.toList == [40]) = false ∧ (x.toList == [123]) = false ∧ (x.toList == [41]) = false ∧ (x.toList == [125]) = false) := by
  have h : i = 0 ∨ i = 1 ∨ i = 2 := by omega
  rcases h with rfl | rfl | rfl
  all_goals exact ⟨_, rfl, rfl, ba_neL [40] (by decide), ba_neL [123] (by decide), ba_neL [41] (by decide), ba_neL [125] (by decide)⟩
theorem isR_iff {x : ByteArray} {S : Sr} (h : S.good = true) : isR x S = isT x (hdT S.L) := by unfold isR; rw [h]; rfl
theorem isT_text {x : ByteArray} {t : Tk} (h : isT x t = true) : t.text = x := by
  unfold isT at h
  simp only [Bool.and_eq_true, decide_eq_true_eq] at h
  exact h.1
theorem isT_own {x : ByteArray} {t : Tk} (h : isT x t = true) : isT t.text t = true := by rw [isT_text h]; exact h
theorem isT_call {S : Sr} (h : ∀ q ∈ callT, isT q.1 (hdT S.L) = false) : ¬ (isT (hdT S.L).text (hdT S.L) = true ∧ isCall (hdT S.L).text = true) := by
  rintro ⟨h1, h2⟩
  obtain ⟨q, hq, he⟩ := is_call.1 h2
  have := h q hq
  rw [← he, h1] at this
  cases this
end Go.Proofs.YtecdfnpbcabdnaaGreatDoor
