/- The document's upTo (package capstanref02): where a run of letters or digits ends. -/
import Derived.Test.YtjmngnnmnbhfpaaDoorDimV
namespace Go.Proofs.YtjmngnnmnbhfpaaDoor
open Go.RowKit

set_option maxHeartbeats 2000000 in
theorem upTo_letter (s : ByteArray) (l : List UInt8) (n : Nat) (hl : s.data.toList = l) (hn : n ≤ s.size) (hz : s.size ≤ 1000) (w : World) :
    Calls Tryd.prog 43 #[.string s, .int .i64 n, .bool false] w fun e w' => e = .returned (.int .i64 (runEnd letterB l n)) ∧ w = w' := by
  have hs : l.length = s.size := by rw [← hl]; rfl
  go_enter Tryd.func43, Tryd.ntmps43
  go_wp2_with fail
  go_loopw [1] (fun i wr => ∃ m : Nat, i = .int .i64 m ∧ m ≤ s.size ∧ runEnd letterB l m = runEnd letterB l n ∧ w = wr) (fun i _ => s.size - (intOf i).toNat)
  case atStart => exact ⟨n, rfl, hn, rfl, rfl⟩
  case round =>
    obtain ⟨m, rfl, hm, he, rfl⟩ := hrel
    by_cases hlt : m < s.size
    · have hg := bt_get s m hlt
      rw [hl] at hg
      have k1 : (m : Int) < (s.size : Int) := by omega
      have HE : Hid _ := he
      clear he
      have e0 := runEnd_no letterB l m (by omega)
      have e1 := runEnd_go letterB l m (by omega)
      rw [HE.out] at e0 e1
      have E0 : Hid _ := e0
      have E1 : Hid _ := e1
      clear e0 e1
      generalize bt l m = b at *
      by_cases h1 : 97 ≤ b
      · by_cases h2 : b ≤ 122
        · have hx := E1.out (by unfold letterB; simp [h1, h2])
          have HX : Hid _ := hx
          clear hx E0 E1
          go_wp2_with fail
          go_roundw
          case rel => exact ⟨m + 1, by go_num, by omega, HX.out.symm, trivial⟩
          case measure => simp [intOf]; omega
        · have hx := E0.out (by unfold letterB; simp; omega)
          have HX : Hid _ := hx
          have h4 : ¬ b ≤ 90 := by omega
          have h3 : 65 ≤ b := by omega
          clear hx E0 E1
          go_wp2_with fail
          go_ret
          exact ⟨ret_int (by rw [HX.out]), rfl⟩
      · by_cases h3 : 65 ≤ b
        · by_cases h4 : b ≤ 90
          · have hx := E1.out (by unfold letterB; simp [h3, h4])
            have HX : Hid _ := hx
            clear hx E0 E1
            go_wp2_with fail
            go_roundw
            case rel => exact ⟨m + 1, by go_num, by omega, HX.out.symm, trivial⟩
            case measure => simp [intOf]; omega
          · have hx := E0.out (by unfold letterB; simp; omega)
            have HX : Hid _ := hx
            clear hx E0 E1
            go_wp2_with fail
            go_ret
            exact ⟨ret_int (by rw [HX.out]), rfl⟩
        · have hx := E0.out (by unfold letterB; simp; omega)
          have HX : Hid _ := hx
          clear hx E0 E1
          go_wp2_with fail
          go_ret
          exact ⟨ret_int (by rw [HX.out]), rfl⟩
    · have hmm : m = s.size := by omega
      have e1 := runEnd_end letterB l m (by omega)
      rw [he] at e1
      have E1 : Hid _ := e1
      have HE : Hid _ := he
      clear e1 he
      go_wp2_with fail
      go_ret
      exact ⟨ret_int (by rw [E1.out]), rfl⟩

set_option maxHeartbeats 2000000 in
theorem upTo_digit (s : ByteArray) (l : List UInt8) (n : Nat) (hl : s.data.toList = l) (hn : n ≤ s.size) (hz : s.size ≤ 1000) (w : World) :
    Calls Tryd.prog 43 #[.string s, .int .i64 n, .bool true] w fun e w' => e = .returned (.int .i64 (runEnd digitB l n)) ∧ w = w' := by
  have hs : l.length = s.size := by rw [← hl]; rfl
  go_enter Tryd.func43, Tryd.ntmps43
  go_wp2_with fail
  go_loopw [1] (fun i wr => ∃ m : Nat, i = .int .i64 m ∧ m ≤ s.size ∧ runEnd digitB l m = runEnd digitB l n ∧ w = wr) (fun i _ => s.size - (intOf i).toNat)
  case atStart => exact ⟨n, rfl, hn, rfl, rfl⟩
  case round =>
    obtain ⟨m, rfl, hm, he, rfl⟩ := hrel
    by_cases hlt : m < s.size
    · have hg := bt_get s m hlt
      rw [hl] at hg
      have k1 : (m : Int) < (s.size : Int) := by omega
      have HE : Hid _ := he
      clear he
      have e0 := runEnd_no digitB l m (by omega)
      have e1 := runEnd_go digitB l m (by omega)
      rw [HE.out] at e0 e1
      have E0 : Hid _ := e0
      have E1 : Hid _ := e1
      clear e0 e1
      generalize bt l m = b at *
      by_cases h1 : 48 ≤ b
      · by_cases h2 : b ≤ 57
        · have hx := E1.out (by unfold digitB; simp [h1, h2])
          have HX : Hid _ := hx
          have q1 : ¬ 97 ≤ b := by omega
          have q2 : ¬ 65 ≤ b := by omega
          clear hx E0 E1
          go_wp2_with fail
          go_roundw
          case rel => exact ⟨m + 1, by go_num, by omega, HX.out.symm, trivial⟩
          case measure => simp [intOf]; omega
        · have hx := E0.out (by unfold digitB; simp; omega)
          have HX : Hid _ := hx
          clear hx E0 E1
          by_cases q1 : 97 ≤ b <;> by_cases q2 : b ≤ 122 <;> by_cases q3 : 65 ≤ b <;> by_cases q4 : b ≤ 90
          all_goals first
            | (exfalso; omega)
            | (go_wp2_with fail
               go_ret
               exact ⟨ret_int (by rw [HX.out]), rfl⟩)
      · have hx := E0.out (by unfold digitB; simp; omega)
        have HX : Hid _ := hx
        have q1 : ¬ 97 ≤ b := by omega
        have q2 : ¬ 65 ≤ b := by omega
        clear hx E0 E1
        go_wp2_with fail
        go_ret
        exact ⟨ret_int (by rw [HX.out]), rfl⟩
    · have hmm : m = s.size := by omega
      have e1 := runEnd_end digitB l m (by omega)
      rw [he] at e1
      have E1 : Hid _ := e1
      have HE : Hid _ := he
      clear e1 he
      go_wp2_with fail
      go_ret
      exact ⟨ret_int (by rw [E1.out]), rfl⟩
end Go.Proofs.YtjmngnnmnbhfpaaDoor
