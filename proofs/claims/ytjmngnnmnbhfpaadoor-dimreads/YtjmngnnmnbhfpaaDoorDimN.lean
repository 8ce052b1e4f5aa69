/- Package dim: number, which tells what a run of digits counts. -/
import Derived.Test.YtjmngnnmnbhfpaaDoorShelfA
import Derived.Test.YtjmngnnmnbhfpaaDoorDimQ
import Derived.Lib.AtoiErrMem
namespace Go.Proofs.YtjmngnnmnbhfpaaDoor
open Go.RowKit

/-- What digits count. -/
def decV (l : List UInt8) : Nat := l.foldl (fun n b => n * 10 + (b.toNat - 48)) 0
/-- What a run of digits counts, where it is one to three digits, the first not 0. -/
def numS (l : List UInt8) : Option Nat := if l.length = 0 ∨ 3 < l.length ∨ bt l 0 = 48 then none else some (decV l)
def numV (o : Option Nat) : Value := .tuple #[.int .i64 (o.getD 0 : Nat), .bool o.isSome]
theorem decFrom_fold : ∀ (l : List UInt8) (acc : Nat), (∀ b ∈ l, digitB b.toNat = true) → Lib.decFrom acc l = some (l.foldl (fun n b => n * 10 + (b.toNat - 48)) acc)
  | [], acc, _ => rfl
  | b :: r, acc, h => by
    have hb := h b (by simp)
    unfold digitB at hb
    simp only [Bool.and_eq_true, decide_eq_true_eq] at hb
    have e : Lib.digitVal b = some (b.toNat - 48) := by unfold Lib.digitVal; rw [if_pos (by omega)]
    simp only [Lib.decFrom, e, List.foldl_cons]
    exact decFrom_fold r _ fun x hx => h x (by simp [hx])
theorem atoi_digits (l : List UInt8) (h0 : l ≠ []) (h : ∀ b ∈ l, digitB b.toNat = true) : Lib.atoi l = some (decV l : Nat) := by
  cases l with
  | nil => exact absurd rfl h0
  | cons b r =>
    have hb := h b (by simp)
    unfold digitB at hb
    simp only [Bool.and_eq_true, decide_eq_true_eq] at hb
    have e1 : (b == 45) = false := beq_eq_false_iff_ne.2 (by rintro rfl; simp at hb)
    have e2 : (b == 43) = false := beq_eq_false_iff_ne.2 (by rintro rfl; simp at hb)
    have e3 := decFrom_fold (b :: r) 0 h
    simp only [Lib.atoi, e1, e2, Lib.decNat, List.isEmpty_cons, Bool.false_eq_true, if_false, e3, Option.map_some]
    rfl

set_option maxHeartbeats 1000000 in
theorem number_any (s : ByteArray) (l : List UInt8) (hl : s.data.toList = l) (hd : ∀ b ∈ l, digitB b.toNat = true) (hz : s.size ≤ 1000) (w : World) :
    Calls Tryd.prog 41 #[.string s] w fun e w' => e = .returned (numV (numS l)) ∧ Below w.heap.size w w' := by
  have hs : l.length = s.size := by rw [← hl]; rfl
  have hq : s.toList = l := by rw [ByteArray.toList_eq, hl]
  by_cases h0 : l = []
  · have e : numS l = none := by unfold numS; rw [h0]; rfl
    have E : Hid _ := e
    have k0 : s.toList.isEmpty = true := by rw [hq, h0]; rfl
    have k1 : s.toList = [] := by rw [hq, h0]
    clear e hq hs
    go_enter Tryd.func41, Tryd.ntmps41
    go_wp2_with fail
    go_ret2
    exact ⟨by rw [E.out]; rfl, Below.refl _ _⟩
  · have k0 : s.toList.isEmpty = false := by rw [hq]; cases l with | nil => exact absurd rfl h0 | cons _ _ => rfl
    have k1 : ¬ s.toList = [] := by rw [hq]; exact h0
    have hpos : 0 < l.length := List.length_pos_iff.2 h0
    by_cases h3 : 3 < l.length
    · have e : numS l = none := by unfold numS; rw [if_pos (.inr (.inl h3))]
      have E : Hid _ := e
      have k3 : (3 : Int) < (s.size : Int) := by omega
      clear e hq hs h0
      go_enter Tryd.func41, Tryd.ntmps41
      go_wp2_with fail
      go_ret2
      exact ⟨by rw [E.out]; rfl, Below.refl _ _⟩
    · have k3 : ¬ (3 : Int) < (s.size : Int) := by omega
      have hg := bt_get s 0 (by omega)
      rw [hl] at hg
      have kp : 0 < s.size := by omega
      by_cases h4 : bt l 0 = 48
      · have e : numS l = none := by unfold numS; rw [if_pos (.inr (.inr h4))]
        have E : Hid _ := e
        clear e hq h0
        go_enter Tryd.func41, Tryd.ntmps41
        go_wp2_with fail
        go_ret2
        exact ⟨by rw [E.out]; rfl, Below.refl _ _⟩
      · have e : numS l = some (decV l) := by unfold numS; rw [if_neg (by omega)]
        have E : Hid _ := e
        have ha := Go.Proofs.Tryd.strconv_Atoi s _ (by omega) (by rw [hl]; exact atoi_digits l h0 hd)
        have k4 : (bt l 0 == 48) = false := beq_eq_false_iff_ne.2 h4
        clear e hq h0 h4
        generalize bt l 0 = b0 at *
        go_enter Tryd.func41, Tryd.ntmps41
        go_wp2_with fail
        refine (ha _).mono ?_
        rintro e w1 ⟨rfl, t, hw⟩
        have hb1 : Below w.heap.size w w1 := by rw [hw]; exact Lib.bytesWorld_below _ _ _
        clear hw
        go_wp2_with fail
        go_quiet (fail)
        go_wp2_with fail
        go_ret2
        exact ⟨by rw [E.out]; rfl, hb1.trans ⟨rfl, rfl, rfl, Nat.le_refl _, fun _ _ => rfl⟩⟩
end Go.Proofs.YtjmngnnmnbhfpaaDoor
