/- Two texts, one behind the other; a text cut off where a run ends: plain. -/
import Derived.Test.YtecdfnpbcabdnaaGreatDoorScP
namespace Go.Proofs.YtecdfnpbcabdnaaGreatDoor
open Go.Lib

theorem gd (s : ByteArray) (i : Nat) : s.get! i = s.data.toList[i]?.getD 0 := by
  cases s with
  | mk d =>
    show d[i]! = d.toList[i]?.getD 0
    rw [getElem!_def, Array.getElem?_toList]
    cases d[i]? <;> rfl
theorem gd_tail (s : ByteArray) (lo i : Nat) : (s.extract lo s.size).get! i = s.get! (lo + i) := by
  rw [gd, gd]
  simp only [ByteArray.data_extract, Array.toList_extract, List.extract_eq_take_drop, List.getElem?_take, List.getElem?_drop]
  split
  · rfl
  · rename_i h
    rw [List.getElem?_eq_none (by simp only [Array.length_toList]; have : s.data.size = s.size := rfl; omega)]
theorem gd_front (s : ByteArray) (hi i : Nat) (h : i < hi) : (s.extract 0 hi).get! i = s.get! i := by
  rw [gd, gd]
  simp only [ByteArray.data_extract, Array.toList_extract, List.extract_eq_take_drop, List.getElem?_take, List.drop_zero, Nat.sub_zero]
  rw [if_pos h]
theorem gd_left (a b : ByteArray) (i : Nat) (h : i < a.size) : (a ++ b).get! i = a.get! i := by
  rw [gd, gd, ByteArray.data_append, Array.toList_append, List.getElem?_append_left (by simpa using h)]
theorem gd_right (a b : ByteArray) (i : Nat) : (a ++ b).get! (a.size + i) = b.get! i := by
  have : a.data.size = a.size := rfl
  rw [gd, gd, ByteArray.data_append, Array.toList_append, List.getElem?_append_right (by simp only [Array.length_toList]; omega)]
  congr 2
  simp only [Array.length_toList]
  congr 1
  omega
theorem size_tail (s : ByteArray) (lo : Nat) : (s.extract lo s.size).size = s.size - lo := by simp [ByteArray.size_extract]
theorem size_front (s : ByteArray) (hi : Nat) (h : hi ≤ s.size) : (s.extract 0 hi).size = hi := by simp [ByteArray.size_extract]; omega
theorem decode_rest (s : ByteArray) (lo i : Nat) : Utf8.decode (s.extract lo s.size) i = Utf8.decode s (lo + i) :=
  decode_tail (by rw [size_tail]; omega) (fun x => by rw [gd_tail, Nat.add_assoc])

theorem dec_right (a b : ByteArray) (j : Nat) : Utf8.decode (a ++ b) (a.size + j) = Utf8.decode b j :=
  decode_tail (by rw [ByteArray.size_append]; omega) (fun x => by rw [← gd_right a b, Nat.add_assoc])
theorem dec_left (a b : ByteArray) (i : Nat) (h : i < a.size) (hv : noSeq (Utf8.decode a i) = false) : Utf8.decode (a ++ b) i = Utf8.decode a i := by
  have hw := width_in a i h
  exact decode_same hv (fun x hx => (gd_left a b _ (by omega)).symm) (by rw [ByteArray.size_append]; omega)

theorem right_said {u k : Int} (a b : ByteArray) : ∀ j, (sd u k (a ++ b) (rs (a ++ b) (a.size + j))).2 = (sd u k b (rs b j)).2 ∧ (rs (a ++ b) (a.size + j)).length = (rs b j).length := by
  refine rs_ind (s := b) (fun j h => ?_) (fun j h ih => ?_)
  · rw [rs_end h, rs_end (by rw [ByteArray.size_append]; omega)]
    exact ⟨rfl, rfl⟩
  · rw [rs_step h, rs_step (by rw [ByteArray.size_append]; omega)]
    rw [dec_right, Nat.add_assoc]
    simp only [sd, dec_right, List.length_cons, ih.2]
    split
    · exact ⟨ih.1, trivial⟩
    · exact ⟨rfl, trivial⟩
theorem join_said {u k : Int} (hu : u ≠ 0) (a b : ByteArray) : ∀ i, i ≤ a.size → (sd u k a (rs a i)).2 = 0 → (sd u k (a ++ b) (rs (a ++ b) i)).2 = (sd u k b (rs b 0)).2 ∧ (rs (a ++ b) i).length = (rs a i).length + (rs b 0).length := by
  refine rs_ind (s := a) (Q := fun i => i ≤ a.size → _ → _) (fun i h hi _ => ?_) (fun i h ih _ hs => ?_)
  · obtain rfl : i = a.size := by omega
    have := right_said (u := u) (k := k) a b 0
    rw [Nat.add_zero] at this
    rw [rs_end h]
    simpa using this
  · rw [rs_step h] at hs ⊢
    simp only [sd] at hs
    split at hs
    · rename_i hf
      have hd := dec_left a b i h (flt_seq hu hf)
      rw [rs_step (by rw [ByteArray.size_append]; omega), hd]
      simp only [sd, hd, if_pos hf, List.length_cons]
      have := ih (width_in a i h) hs
      exact ⟨this.1, by omega⟩
    · rename_i hf; exact absurd hs hf
theorem join_where {u k : Int} (hu : u ≠ 0) (a b : ByteArray) (z : Int) : ∀ i, i ≤ a.size → (sd u k a (rs a i)).2 = 0 → ∀ l c, whr (a.size : Nat) (a ++ b).size z (rs (a ++ b) i) l c = whr (a.size : Nat) a.size z (rs a i) l c ∧ (whr (a.size : Nat) a.size z (rs a i) l c).2.2 = 0 := by
  refine rs_ind (s := a) (Q := fun i => i ≤ a.size → _ → ∀ l c, _) (fun i h hi _ l c => ?_) (fun i h ih _ hs l c => ?_)
  · obtain rfl : i = a.size := by omega
    rw [rs_end h]
    simp only [whr, if_true, and_true]
    by_cases hb : a.size < (a ++ b).size
    · rw [rs_step hb]
      simp [whr]
    · rw [rs_end hb]
      simp only [whr]
      rw [if_pos (by rw [ByteArray.size_append] at hb ⊢; omega)]
  · rw [rs_step h] at hs ⊢
    simp only [sd] at hs
    split at hs
    · rename_i hf
      have hd := dec_left a b i h (flt_seq hu hf)
      rw [rs_step (by rw [ByteArray.size_append]; omega), hd]
      have hne : ¬ ((i : Int) = (a.size : Int)) := by omega
      simp only [whr, if_neg hne]
      split
      · exact ih (width_in a i h) hs _ _
      · exact ih (width_in a i h) hs _ _
    · rename_i hf; exact absurd hs hf
/-- How many of a list's first runes are of the class. -/
def ldn (is : Nat → Bool) : List (Nat × Nat) → Nat
  | [] => 0
  | p :: t => if is p.1 then ldn is t + 1 else 0
theorem rne_in (is : Nat → Bool) (s : ByteArray) : ∀ i, i ≤ s.size → i ≤ rne s.size is (rs s i) ∧ rne s.size is (rs s i) ≤ s.size := by
  refine rs_ind (Q := fun i => i ≤ s.size → _) (fun i h hi => by rw [rs_end h]; simp only [rne]; omega) (fun i h ih hi => ?_)
  rw [rs_step h]
  simp only [rne]
  have hw := width_in s i h
  split
  · have := ih hw; omega
  · exact ⟨Nat.le_refl _, hi⟩
theorem cut_said {u k : Int} (hu : u ≠ 0) (is : Nat → Bool) (s : ByteArray) (e : Nat) (he : e ≤ s.size) : ∀ i, i ≤ s.size → rne s.size is (rs s i) = e → (sd u k s (rs s i)).2 = 0 →
    (sd u k (s.extract 0 e) (rs (s.extract 0 e) i)).2 = 0 ∧ (rs (s.extract 0 e) i).length = ldn is (rs s i) := by
  have hz := size_front s e he
  refine rs_ind (s := s) (Q := fun i => i ≤ s.size → _ → _ → _) (fun i h hi hr _ => ?_) (fun i h ih _ hr hs => ?_)
  · rw [rs_end h] at hr ⊢
    rw [rs_end (by omega)]
    exact ⟨rfl, rfl⟩
  · rw [rs_step h] at hr hs ⊢
    simp only [rne] at hr
    simp only [sd] at hs
    simp only [ldn]
    have hw := width_in s i h
    have hp := width_pos s i
    split at hr
    · rename_i hc
      rw [if_pos hc]
      split at hs
      · rename_i hf
        have hin := (rne_in is s _ hw).1
        rw [hr] at hin
        have hd : Utf8.decode (s.extract 0 e) i = Utf8.decode s i := decode_same (flt_seq hu hf) (fun x hx => (gd_front s e _ (by omega)).symm) (by omega)
        rw [rs_step (by omega), hd]
        simp only [sd, hd, if_pos hf, List.length_cons]
        have := ih hw hr hs
        exact ⟨this.1, by omega⟩
      · rename_i hf; exact absurd hs hf
    · rename_i hc
      rw [if_neg hc, rs_end (by omega)]
      exact ⟨rfl, rfl⟩
end Go.Proofs.YtecdfnpbcabdnaaGreatDoor
