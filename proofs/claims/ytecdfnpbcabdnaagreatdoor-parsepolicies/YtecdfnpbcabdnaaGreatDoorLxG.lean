/- Package num: Read and Text. -/
import Derived.Test.YtecdfnpbcabdnaaGreatDoorLxF
namespace Go.Proofs.YtecdfnpbcabdnaaGreatDoor
open Go.RowKit Go.Lib

def readV (l : List UInt8) : Value := match readN l with
  | some v => .tuple #[.int .i64 (v : Nat), .int .i64 0]
  | none => .tuple #[.int .i64 0, .int .i64 13]
theorem readV_no {l : List UInt8} (h : readN l = none) : readV l = .tuple #[.int .i64 0, .int .i64 13] := by unfold readV; rw [h]
theorem readV_ok {l : List UInt8} {v : Nat} (h : readN l = some v) : readV l = .tuple #[.int .i64 (v : Nat), .int .i64 0] := by unfold readV; rw [h]
theorem post_len (l : List UInt8) : (post l).length ≤ l.length := by unfold post; rw [List.length_drop]; omega
theorem pre_len (l : List UInt8) : (pre l).length ≤ l.length := by rw [← pre_take l, List.length_take]; omega
theorem okP_parts {p : List UInt8} (h : okP p = true) : p.length ≤ 6 ∧ p.all isD = true := by
  unfold okP at h
  simp only [Bool.and_eq_true, decide_eq_true_eq] at h
  exact ⟨h.1.2, h.2⟩
theorem okW_parts {p : List UInt8} (h : okW p = true) : p.length ≤ 13 ∧ p.all isD = true := by
  unfold okW at h
  simp only [Bool.and_eq_true, decide_eq_true_eq] at h
  exact ⟨h.1.1.2, h.1.2⟩
theorem Read_num (l : List UInt8) (w : World) (pr po : List UInt8) (pt : Bool) (cut : ∀ wx, Calls Tryz.prog 123 #[strV l, .string ⟨#[46]⟩] wx fun e w' => e = .returned (.tuple #[strV pr, strV po, .bool pt]) ∧ Below wx.heap.size wx w')
    (hw : ∀ wx, Calls Tryz.prog 136 #[strV pr] wx fun e w' => e = .returned (.bool true) ∧ wx = w') (hp : pt = true → ∀ wx, Calls Tryz.prog 137 #[strV po] wx fun e w' => e = .returned (.bool true) ∧ wx = w')
    (a b : Nat) (ha : ∀ wx, Calls Tryz.prog 138 #[strV pr, .int .i64 0] wx fun e w' => e = .returned (.int .u64 a) ∧ wx = w') (hb : ∀ wx, Calls Tryz.prog 138 #[strV po, .int .i64 6] wx fun e w' => e = .returned (.int .u64 b) ∧ wx = w')
    (ba : a < 10000000000000) (bb : b < 1000000) :
    Calls Tryz.prog 119 #[strV l] w fun e w' => e = .returned (if a * 1000000 + b < 9223372036854775808 then .tuple #[.int .i64 (a * 1000000 + b : Nat), .int .i64 0] else .tuple #[.int .i64 0, .int .i64 13]) ∧ Below w.heap.size w w' := by
  have cut := cut w
  by_cases hlt : a * 1000000 + b < 9223372036854775808
  · rw [if_pos hlt]
    go_enter Tryz.func119, Tryz.ntmps119
    go_wp2_with fail
    refine cut.mono ?_
    rintro e w1 ⟨rfl, h1⟩
    cases pt with
    | false =>
      go_wp2_with fail
      refine (hw _).mono ?_
      rintro e w2 ⟨rfl, rfl⟩
      go_wp2_with fail
      refine (ha _).mono ?_
      rintro e w2 ⟨rfl, rfl⟩
      go_wp2_with fail
      refine (hb _).mono ?_
      rintro e w2 ⟨rfl, rfl⟩
      go_wp2_with fail
      go_ret2
      exact ⟨rfl, h1⟩
    | true =>
      replace hp := hp rfl
      go_wp2_with fail
      refine (hw _).mono ?_
      rintro e w2 ⟨rfl, rfl⟩
      go_wp2_with fail
      refine (hp _).mono ?_
      rintro e w2 ⟨rfl, rfl⟩
      go_wp2_with fail
      refine (ha _).mono ?_
      rintro e w2 ⟨rfl, rfl⟩
      go_wp2_with fail
      refine (hb _).mono ?_
      rintro e w2 ⟨rfl, rfl⟩
      go_wp2_with fail
      go_ret2
      exact ⟨rfl, h1⟩
  · rw [if_neg hlt]
    go_enter Tryz.func119, Tryz.ntmps119
    go_wp2_with fail
    refine cut.mono ?_
    rintro e w1 ⟨rfl, h1⟩
    cases pt with
    | false =>
      go_wp2_with fail
      refine (hw _).mono ?_
      rintro e w2 ⟨rfl, rfl⟩
      go_wp2_with fail
      refine (ha _).mono ?_
      rintro e w2 ⟨rfl, rfl⟩
      go_wp2_with fail
      refine (hb _).mono ?_
      rintro e w2 ⟨rfl, rfl⟩
      go_wp2_with fail
      go_ret2
      exact ⟨rfl, h1⟩
    | true =>
      replace hp := hp rfl
      go_wp2_with fail
      refine (hw _).mono ?_
      rintro e w2 ⟨rfl, rfl⟩
      go_wp2_with fail
      refine (hp _).mono ?_
      rintro e w2 ⟨rfl, rfl⟩
      go_wp2_with fail
      refine (ha _).mono ?_
      rintro e w2 ⟨rfl, rfl⟩
      go_wp2_with fail
      refine (hb _).mono ?_
      rintro e w2 ⟨rfl, rfl⟩
      go_wp2_with fail
      go_ret2
      exact ⟨rfl, h1⟩
theorem Read_any (l : List UInt8) (hz : l.length ≤ 281474976710656) (w : World) :
    Calls Tryz.prog 119 #[strV l] w fun e w' => e = .returned (readV l) ∧ Below w.heap.size w w' := by
  have cut := fun wx => cut_any l hz wx
  have z1 := post_len l
  have z2 := pre_len l
  have hw := isWhole_any (pre l) (by omega)
  have hp := arePlaces_any (post l) (by omega)
  by_cases h : okW (pre l) = true ∧ (hasPt l = true → okP (post l) = true)
  · obtain ⟨a1, a2⟩ := okW_parts h.1
    have pp : (post l).length ≤ 6 ∧ (post l).all isD = true := by
      cases hh : hasPt l with
      | true => exact okP_parts (h.2 hh)
      | false => rw [(pre_all l hh).2]; exact ⟨by simp, rfl⟩
    have wa := worth_any (pre l) 0 a2 a1 (by omega)
    have wb := worth_any (post l) 6 pp.2 (by omega) (by omega)
    rw [show 0 - (pre l).length = 0 by omega, Nat.pow_zero, Nat.mul_one] at wa
    have ba : val (pre l) < 10000000000000 := by
      have := val_lt _ a2
      have : 10 ^ (pre l).length ≤ 10 ^ 13 := Nat.pow_le_pow_right (by decide) a1
      have : 10 ^ 13 = 10000000000000 := by decide
      omega
    have bb : val (post l) * 10 ^ (6 - (post l).length) < 1000000 := by
      have := val_lt _ pp.2
      have e6 : 10 ^ (post l).length * 10 ^ (6 - (post l).length) = 1000000 := by rw [← Nat.pow_add, show (post l).length + (6 - (post l).length) = 6 by omega]
      have : val (post l) * 10 ^ (6 - (post l).length) < 10 ^ (post l).length * 10 ^ (6 - (post l).length) := Nat.mul_lt_mul_of_pos_right this (Nat.pow_pos (by decide))
      omega
    refine (Read_num l w (pre l) (post l) (hasPt l) cut (by rw [h.1] at hw; exact hw) (fun hh => by rw [h.2 hh] at hp; exact hp) _ _ wa wb ba bb).mono ?_
    rintro e w' ⟨rfl, hb⟩
    refine ⟨?_, hb⟩
    have er : readN l = lim (sizeN (pre l) (post l)) := if_pos h
    unfold readV
    rw [er]
    unfold lim sizeN
    split
    · rfl
    · rfl
  · have er : readV l = .tuple #[.int .i64 0, .int .i64 13] := readV_no (if_neg h)
    rw [er]
    unfold cutPost at cut
    have cut := cut w
    clear er
    by_cases hW : okW (pre l) = true
    · have hP : hasPt l = true ∧ okP (post l) = false := by
        cases h1 : hasPt l with
        | false => exact absurd ⟨hW, fun hh => by rw [h1] at hh; cases hh⟩ h
        | true =>
          refine ⟨rfl, ?_⟩
          cases h2 : okP (post l) with
          | false => rfl
          | true => exact absurd ⟨hW, fun _ => h2⟩ h
      rw [hP.2] at hp
      rw [hP.1] at cut
      rw [hW] at hw
      clear hP hW h z1 z2
      generalize pre l = pr at *
      generalize post l = po at *
      go_enter Tryz.func119, Tryz.ntmps119
      go_wp2_with fail
      refine cut.mono ?_
      rintro e w1 ⟨rfl, h1⟩
      go_wp2_with fail
      refine (hw _).mono ?_
      rintro e w2 ⟨rfl, rfl⟩
      go_wp2_with fail
      refine (hp _).mono ?_
      rintro e w2 ⟨rfl, rfl⟩
      go_wp2_with fail
      go_ret2
      exact ⟨rfl, h1⟩
    · have hW : okW (pre l) = false := by simpa using hW
      rw [hW] at hw
      clear hW h z1 z2 hp
      generalize pre l = pr at *
      generalize post l = po at *
      generalize hasPt l = pt at *
      go_enter Tryz.func119, Tryz.ntmps119
      go_wp2_with fail
      refine cut.mono ?_
      rintro e w1 ⟨rfl, h1⟩
      go_wp2_with fail
      refine (hw _).mono ?_
      rintro e w2 ⟨rfl, rfl⟩
      go_wp2_with fail
      go_ret2
      exact ⟨rfl, h1⟩
end Go.Proofs.YtecdfnpbcabdnaaGreatDoor
