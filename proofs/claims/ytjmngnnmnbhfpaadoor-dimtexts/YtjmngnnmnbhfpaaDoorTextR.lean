/- The document's Text (package capstanref02), and the walk of the statement DimTexts. -/
import Derived.Test.YtjmngnnmnbhfpaaDoorTextW
import Derived.Deep.RegionWith
namespace Go.Proofs.YtjmngnnmnbhfpaaDoor
open Go.RowKit

theorem str_empty (l : List UInt8) : (ByteArray.mk l.toArray).toList = l := ByteArray.toList_mk l
theorem ex_cells (x : D5) (k : Nat) (h : k < 5) : (dCells x)[k]? = some (.int .i64 (x.ex k)) := by
  rcases (show k = 0 ∨ k = 1 ∨ k = 2 ∨ k = 3 ∨ k = 4 by omega) with rfl | rfl | rfl | rfl | rfl <;> rfl
abbrev nameCells : List Value := [strV [115], strV [114, 101, 113], strV [66], strV [114, 101, 112], strV [99, 111, 114, 101]]
theorem name_cells (k : Nat) (h : k < 5) : nameCells[k]? = some (strV (baseN k)) := by
  rcases (show k = 0 ∨ k = 1 ∨ k = 2 ∨ k = 3 ∨ k = 4 by omega) with rfl | rfl | rfl | rfl | rfl <;> rfl
/-- What stands ahead of the next piece. -/
def star (l : List UInt8) : List UInt8 := if l = [] then [] else l ++ [42]
theorem join_next (its : List (List UInt8)) (y : List UInt8) (h : ∀ z ∈ its, 1 ≤ z.length) : Lib.join (its ++ [y]) [42] = star (Lib.join its [42]) ++ y := by
  by_cases e : its = []
  · subst e; simp [star, Lib.join_nil, Lib.join_one]
  · rw [join_snoc its y e]
    unfold star
    rw [if_neg (fun k => e ((join_ne its h).1 k))]
    simp

set_option maxHeartbeats 4000000 in
theorem rText_any (x : D5) (fx : x.Fits) (w : World) (hP : PowAt w) :
    Calls Tryd.prog 13 #[dimV x] w fun e w' => e = .returned (strV (textS x)) ∧ Below w.heap.size w w' := by
  obtain ⟨xb, nb, l0⟩ := two_boxes w 24 59 (dCells x) nameCells
  have hP := hP.later l0
  go_enter Tryd.func13, Tryd.ntmps13
  go_wp2_with fail
  go_loopw [3, 5] (fun s i wr => ∃ k : Nat, i = .int .i64 k ∧ k ≤ 5 ∧ s = strV (Lib.join (items x k) [42]) ∧ Box wr w.heap.size (dCells x) ∧ Box wr (w.heap.size + 1) nameCells ∧ PowAt wr ∧ Below w.heap.size w wr) (fun _ i _ => 5 - (intOf i).toNat)
  case atStart => exact ⟨0, rfl, by decide, rfl, xb, nb, hP, l0⟩
  case round =>
    clear xb nb hP l0
    obtain ⟨k, rfl, hk, rfl, xb, nb, hP, bl⟩ := hrel
    by_cases hlt : k < 5
    · have m0 := xb.cell k _ (ex_cells x k hlt)
      have m1 := nb.cell k _ (name_cells k hlt)
      have ib := items_bd x fx k
      have hjl := join_len (items x k) (fun y hy => (ib.2 y hy).2) (by omega)
      have hne := join_next (items x k) (itemS (baseN k) (x.ex k)) (fun z hz => (ib.2 z hz).1)
      have hz := items_zero x k
      have ho := items_one x k
      have be := fx.ex k
      have bb := baseN_len k
      have k1 : (k : Int) < 5 := by omega
      have hi := Lib.itoa_length_le (x.ex k) be.1 be.2
      have hito := fun wx h => Go.Proofs.Tryd.strconv_Itoa (x.ex k) be.1 be.2 wx h
      generalize hJ : Lib.join (items x k) [42] = J at *
      have HJ : Hid _ := hJ
      clear hJ
      have hit : itemS (baseN k) (x.ex k) = if x.ex k = 1 then baseN k else baseN k ++ 94 :: Lib.itoa (x.ex k) := rfl
      generalize Lib.itoa (x.ex k) = ds at *
      generalize itemS (baseN k) (x.ex k) = it at *
      generalize x.ex k = n at *
      generalize baseN k = nm at *
      by_cases h0 : n = 0
      · have e1 := hz h0
        subst h0
        have E1 : Hid _ := e1
        clear e1 hz ho hne hit hito
        go_wp2_with fail
        go_roundw
        case rel => exact ⟨k + 1, by go_num, by omega, by rw [E1.out, HJ.out], xb, nb, hP, bl⟩
        case measure => simp [intOf]; omega
      · have e1 := ho h0
        rw [← e1] at hne
        have HNE : Hid _ := hne
        have h0' : (n == 0) = false := beq_eq_false_iff_ne.2 h0
        clear e1 hz ho hne
        by_cases hJ : J = []
        · have q1 : J.isEmpty = true := by rw [hJ]; rfl
          have s1 := fun wx => add_str J nm (by omega) (by omega) wx
          by_cases hn1 : n = 1
          · have hR : J ++ nm = Lib.join (items x (k + 1)) [42] := by rw [HNE.out, hit, if_pos hn1, hJ]; rfl
            rw [hR] at s1
            subst hn1
            clear hR hit hito hJ
            go_wp2_with fail
            go_roundw
            case rel => exact ⟨k + 1, by go_num, by omega, rfl, xb, nb, hP, bl⟩
            case measure => simp [intOf]; omega
          · have k2 : (n != 1) = true := bne_iff_ne.2 hn1
            have s2 := fun wx => add_str [94] ds (by simp) (by omega) wx
            have s3 := fun wx => add_str (J ++ nm) ([94] ++ ds) (by rw [List.length_append]; omega) (by simp; omega) wx
            have hR : (J ++ nm) ++ ([94] ++ ds) = Lib.join (items x (k + 1)) [42] := by rw [HNE.out, hit, if_neg hn1, hJ]; rfl
            rw [hR] at s3
            generalize J ++ nm = A at *
            generalize [94] ++ ds = Bq at *
            have HI : Hid _ := hito
            have hcall := hito wr hP
            clear hR hit hito hJ
            go_wp2_with fail
            refine hcall.mono ?_
            rintro e w1 ⟨rfl, kk, os, hw⟩
            have hb1 : Below wr.heap.size wr w1 := by rw [hw]; exact grow_below wr kk os
            clear hw
            go_wp2_with fail
            go_roundw
            case rel => exact ⟨k + 1, by go_num, by omega, rfl, xb.next hb1, nb.next hb1, hP.later hb1, bl.trans (hb1.mono bl.size)⟩
            case measure => simp [intOf]; omega
        · have q1 : J.isEmpty = false := by cases J with | nil => exact absurd rfl hJ | cons _ _ => rfl
          have s0 := fun wx => add_str J [42] (by omega) (by simp) wx
          have s1 := fun wx => add_str (J ++ [42]) nm (by simp; omega) (by omega) wx
          have hst : star J = J ++ [42] := if_neg hJ
          by_cases hn1 : n = 1
          · have hR : (J ++ [42]) ++ nm = Lib.join (items x (k + 1)) [42] := by rw [HNE.out, hit, if_pos hn1, hst]
            rw [hR] at s1
            subst hn1
            generalize J ++ [42] = J2 at *
            clear hR hit hito hst
            go_wp2_with fail
            go_roundw
            case rel => exact ⟨k + 1, by go_num, by omega, rfl, xb, nb, hP, bl⟩
            case measure => simp [intOf]; omega
          · have k2 : (n != 1) = true := bne_iff_ne.2 hn1
            have s2 := fun wx => add_str [94] ds (by simp) (by omega) wx
            have s3 := fun wx => add_str ((J ++ [42]) ++ nm) ([94] ++ ds) (by simp only [List.length_append, List.length_cons, List.length_nil]; omega) (by simp; omega) wx
            have hR : ((J ++ [42]) ++ nm) ++ ([94] ++ ds) = Lib.join (items x (k + 1)) [42] := by rw [HNE.out, hit, if_neg hn1, hst, List.append_assoc]; rfl
            rw [hR] at s3
            generalize (J ++ [42]) ++ nm = A at *
            generalize J ++ [42] = J2 at *
            generalize [94] ++ ds = Bq at *
            have hcall := hito wr hP
            clear hR hit hito hst
            go_wp2_with fail
            refine hcall.mono ?_
            rintro e w1 ⟨rfl, kk, os, hw⟩
            have hb1 : Below wr.heap.size wr w1 := by rw [hw]; exact grow_below wr kk os
            clear hw
            go_wp2_with fail
            go_roundw
            case rel => exact ⟨k + 1, by go_num, by omega, rfl, xb.next hb1, nb.next hb1, hP.later hb1, bl.trans (hb1.mono bl.size)⟩
            case measure => simp [intOf]; omega
    · obtain rfl : k = 5 := by omega
      have ib := items_bd x fx 5
      have hne := join_ne (items x 5) (fun y hy => (ib.2 y hy).1)
      by_cases he : items x 5 = []
      · have e1 : textS x = [49] := if_pos he
        have e2 : Lib.join (items x 5) [42] = [] := hne.2 he
        rw [e2]
        have E1 : Hid _ := e1
        clear e1 e2 hne he ib
        go_wp2_with fail
        go_ret
        exact ⟨by rw [E1.out]; rfl, bl⟩
      · have e1 : textS x = Lib.join (items x 5) [42] := if_neg he
        have q1 : (Lib.join (items x 5) [42]).isEmpty = false := by
          cases hh : Lib.join (items x 5) [42] with
          | nil => exact absurd (hne.1 hh) he
          | cons _ _ => rfl
        have q2 : ¬ Lib.join (items x 5) [42] = [] := fun h => he (hne.1 h)
        have E1 : Hid _ := e1
        clear e1 hne he ib
        generalize Lib.join (items x 5) [42] = J at *
        go_wp2_with fail
        go_ret
        exact ⟨by rw [E1.out]; rfl, bl⟩
end Go.Proofs.YtjmngnnmnbhfpaaDoor
