/- The document's reader, plain: it never goes back. -/
import Derived.Test.YtecdfnpbcabdnaaGreatDoorPrA
namespace Go.Proofs.YtecdfnpbcabdnaaGreatDoor
open Go.Lib

theorem wr_L (c e : Int) (S : Sr) : (wrR c e S).L = S.L := by unfold wrR; split <;> rfl
theorem adv_len (S : Sr) : (adv S).L.length ≤ S.L.length := by show S.L.tail.length ≤ _; rw [List.length_tail]; omega
theorem len_wr (c e : Int) (S : Sr) : (wrR c e S).L.length ≤ S.L.length := by rw [wr_L]; exact Nat.le_refl _
theorem len_must (c : Int) (x : ByteArray) (S : Sr) : (mustR c x S).L.length ≤ S.L.length := by
  unfold mustR
  split
  · exact adv_len S
  · exact len_wr _ _ _
theorem len_open (c : Int) (x : ByteArray) (b : Bool) (S : Sr) : (openR c x b S).L.length ≤ S.L.length := by
  unfold openR
  split
  · split
    · exact len_wr _ _ _
    · exact adv_len S
  · exact len_wr _ _ _
theorem len_take (c k : Int) (S : Sr) : (takeR c k S).2.L.length ≤ S.L.length := by
  unfold takeR
  split
  · split
    · exact adv_len S
    · exact len_wr _ _ _
  · exact Nat.le_refl _
theorem len_unit (S : Sr) : (unitR S).2.L.length ≤ S.L.length := by
  unfold unitR
  split
  · exact adv_len S
  · exact Nat.le_refl _
def LenE (P : Rdf) : Prop := ∀ S, (P S).2.L.length ≤ S.L.length
def LenO (X : Option Rdf) : Prop := ∀ E, X = some E → LenE E
theorem len_number (c : Int) : LenE (numberR c) := fun S => Nat.le_trans (len_unit _) (len_take c 2 S)
theorem len_loop {sg : Sg} {P : Rdf} (h : LenE P) : ∀ (n : Nat) (t : Tm) (S : Sr), (loopR sg P n t S).2.L.length ≤ S.L.length
  | 0, _, _ => Nat.le_refl _
  | n + 1, t, S => by
    rw [loopR]
    cases sgR sg S with
    | none => exact Nat.le_refl _
    | some k => exact Nat.le_trans (len_loop h n _ _) (Nat.le_trans (h _) (adv_len S))
theorem len_left {sg : Sg} {P : Rdf} (h : LenE P) : LenE (leftR sg P) := fun S => Nat.le_trans (len_loop h _ _ _) (h S)
theorem len_rel {sg : Sg} {P : Rdf} (h : LenE P) : LenE (relR sg P) := fun S => by
  unfold relR
  cases sgR sg (P S).2 with
  | none => exact h S
  | some k => exact Nat.le_trans (h _) (Nat.le_trans (adv_len _) (h S))
theorem len_fac {A : Rdf} (h : LenE A) : LenE (facR A) := fun S => by
  unfold facR
  split
  · exact Nat.le_trans (h _) (adv_len S)
  · split
    · exact Nat.le_trans (h _) (adv_len S)
    · exact h S
theorem len_parts {c : Int} {E : Rdf} (h : LenE E) : ∀ (n : Nat) (ps : List Tm) (S : Sr), (partsR c E n ps S).2.L.length ≤ S.L.length
  | 0, _, _ => Nat.le_refl _
  | n + 1, ps, S => by
    rw [partsR]
    split
    · exact Nat.le_trans (len_parts h n _ _) (Nat.le_trans (h _) (len_must _ _ _))
    · exact Nat.le_trans (len_parts h n _ _) (len_must _ _ _)
theorem len_call {c : Int} {X : Option Rdf} (h : LenO X) (k : Int) (n a : Nat) (S : Sr) : (callR c X k n a S).2.L.length ≤ S.L.length := by
  unfold callR
  cases X with
  | none => exact len_open _ _ _ _
  | some E =>
    simp only
    split
    · exact Nat.le_trans (len_must _ _ _) (Nat.le_trans (len_parts (h E rfl) _ _ _) (Nat.le_trans (h E rfl _) (len_open _ _ _ _)))
    · exact len_open _ _ _ _
theorem len_cron (c : Int) (b : Bool) (a : Nat) (S : Sr) : (cronR c b a S).2.L.length ≤ S.L.length := Nat.le_trans (len_must _ _ _) (Nat.le_trans (len_take _ _ _) (len_open _ _ _ _))
theorem len_win (c : Int) (b : Bool) (k : Int) (a : Nat) (S : Sr) : (winR c b k a S).2.L.length ≤ S.L.length := by
  unfold winR
  have h := Nat.le_trans (len_take c 3 (mustR c k_com (takeR c 1 (openR c k_lp b S)).2)) (Nat.le_trans (len_must _ _ _) (Nat.le_trans (len_take _ _ _) (len_open c k_lp b S)))
  split
  · exact Nat.le_trans (len_must _ _ _) (Nat.le_trans (len_take _ _ _) (Nat.le_trans (len_must _ _ _) h))
  · exact Nat.le_trans (len_must _ _ _) h
theorem len_word {c : Int} {X : Option Rdf} (h : LenO X) (t : Tk) (S : Sr) : (wordR c X t S).2.L.length ≤ S.L.length := by
  unfold wordR
  repeat' split
  all_goals first | exact len_call h _ _ _ _ | exact len_cron _ _ _ _ | exact len_win _ _ _ _ _
theorem len_atom {c : Int} {X : Option Rdf} (h : LenO X) : LenE (atomR c X) := fun S => by
  unfold atomR
  split
  · split
    · exact len_number c S
    · split
      · exact adv_len S
      · split
        · exact adv_len S
        · split
          · exact adv_len S
          · split
            · exact adv_len S
            · split
              · cases X with
                | none => exact len_wr _ _ _
                | some E => exact Nat.le_trans (len_must _ _ _) (Nat.le_trans (h E rfl _) (adv_len S))
              · split
                · exact Nat.le_trans (len_word h _ _) (adv_len S)
                · exact len_wr _ _ _
  · exact Nat.le_refl _
theorem len_rv0 {c : Int} {X : Option Rdf} (h : LenO X) : LenE (rv0 c X) := len_left (len_left (len_rel (len_left (len_left (len_fac (len_atom h))))))
theorem len_expr (c : Int) : ∀ d, LenE (exprR c d)
  | 0 => len_rv0 (fun E h => by cases h)
  | d + 1 => len_rv0 (fun E h => by cases h; exact len_expr c d)
/-! ### Signs -/
theorem sgr_one (x : ByteArray) (k : Int) (S : Sr) : sgR [(x, k)] S = if isR x S = true then some k else none := by
  unfold sgR isR sgT
  cases S.good with
  | false => rfl
  | true =>
    rw [if_pos rfl, Bool.true_and]
    simp only [List.find?_cons, List.find?_nil]
    cases isT x (hdT S.L) <;> rfl
theorem sgr_two (x y : ByteArray) (k l : Int) (S : Sr) : sgR [(x, k), (y, l)] S = if isR x S = true then some k else if isR y S = true then some l else none := by
  unfold sgR isR sgT
  cases S.good with
  | false => rfl
  | true =>
    rw [if_pos rfl, Bool.true_and, Bool.true_and]
    simp only [List.find?_cons, List.find?_nil]
    cases isT x (hdT S.L) <;> cases isT y (hdT S.L) <;> rfl
theorem isR_ne {x y : ByteArray} {S : Sr} (h : isR x S = true) (hn : x ≠ y) : isR y S = false := by
  unfold isR isT at h ⊢
  simp only [Bool.and_eq_true, decide_eq_true_eq] at h
  rw [decide_eq_false (fun hh => hn (h.2.1.symm.trans hh))]
  simp
end Go.Proofs.YtecdfnpbcabdnaaGreatDoor
