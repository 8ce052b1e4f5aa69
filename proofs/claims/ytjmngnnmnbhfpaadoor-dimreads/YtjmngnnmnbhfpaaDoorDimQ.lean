/- Package dim: run, which finds the end of a run of letters or of digits. -/
import Derived.Test.YtjmngnnmnbhfpaaDoorDimP
import Derived.WalkSpells
namespace Go.Proofs.YtjmngnnmnbhfpaaDoor
open Go.RowKit

/-- The byte n of a text, as a number. -/
def bt (l : List UInt8) (n : Nat) : Int := ((l.getD n 0).toNat : Int)
theorem bt_get (s : ByteArray) (n : Nat) (h : n < s.size) : ((s[n]'h).toNat : Int) = bt s.data.toList n := by
  obtain ⟨⟨l⟩⟩ := s
  have hl : n < l.length := h
  have e : (ByteArray.mk ⟨l⟩)[n]'h = l.getD n 0 := by
    simp only [List.getD, List.getElem?_eq_getElem hl, Option.getD_some]
    rfl
  rw [e]; rfl
/-- The end of the longest run that begins at n. -/
def runEnd (p : Int → Bool) (l : List UInt8) (n : Nat) : Nat := n + ((l.drop n).takeWhile (fun b => p b.toNat)).length
theorem runEnd_go (p : Int → Bool) (l : List UInt8) (n : Nat) (h : n < l.length) (hp : p (bt l n) = true) : runEnd p l n = runEnd p l (n + 1) := by
  unfold runEnd
  rw [List.drop_eq_getElem_cons h, List.takeWhile_cons]
  have e : p (↑(l[n]).toNat) = true := by
    have : bt l n = ↑(l[n]).toNat := by unfold bt; rw [List.getD_eq_getElem?_getD, List.getElem?_eq_getElem h]; rfl
    rw [← this]; exact hp
  rw [if_pos e, List.length_cons]; omega
theorem runEnd_no (p : Int → Bool) (l : List UInt8) (n : Nat) (h : n < l.length) (hp : p (bt l n) = false) : runEnd p l n = n := by
  unfold runEnd
  rw [List.drop_eq_getElem_cons h, List.takeWhile_cons]
  have e : p (↑(l[n]).toNat) = false := by
    have : bt l n = ↑(l[n]).toNat := by unfold bt; rw [List.getD_eq_getElem?_getD, List.getElem?_eq_getElem h]; rfl
    rw [← this]; exact hp
  rw [if_neg (by rw [e]; decide)]; rfl
theorem runEnd_end (p : Int → Bool) (l : List UInt8) (n : Nat) (h : l.length ≤ n) : runEnd p l n = n := by
  unfold runEnd
  rw [List.drop_of_length_le h]; rfl
theorem runEnd_le (p : Int → Bool) (l : List UInt8) (n : Nat) (h : n ≤ l.length) : n ≤ runEnd p l n ∧ runEnd p l n ≤ l.length := by
  unfold runEnd
  have := (List.takeWhile_sublist (fun b : UInt8 => p b.toNat) (l := l.drop n)).length_le
  rw [List.length_drop] at this
  omega

theorem run_letter (s : ByteArray) (l : List UInt8) (n : Nat) (hl : s.data.toList = l) (hn : n ≤ s.size) (hz : s.size ≤ 1000) (w : World) :
    Calls Tryd.prog 37 #[.string s, .int .i64 n, .func (.func 38) #[] #[]] w fun e w' => e = .returned (.int .i64 (runEnd letterB l n)) ∧ w = w' := by
  have hs : l.length = s.size := by rw [← hl]; rfl
  go_enter Tryd.func37, Tryd.ntmps37
  go_wp2_with fail
  go_loopw [1] (fun i wr => ∃ m : Nat, i = .int .i64 m ∧ m ≤ s.size ∧ runEnd letterB l m = runEnd letterB l n ∧ w = wr) (fun i _ => s.size - (intOf i).toNat)
  case atStart => exact ⟨n, rfl, hn, rfl, rfl⟩
  case round =>
    obtain ⟨m, rfl, hm, he, rfl⟩ := hrel
    by_cases hlt : m < s.size
    · have hg := bt_get s m hlt
      rw [hl] at hg
      have k1 : (m : Int) < (s.size : Int) := by omega
      have HE : Hid _ := he
      clear he
      cases hp : letterB (bt l m)
      · have e1 := runEnd_no letterB l m (by omega) hp
        rw [HE.out] at e1
        have E1 : Hid _ := e1
        have HP : Hid _ := hp
        clear e1 hp
        go_wp2_with fail
        refine (isLetter_any _ _).mono ?_
        rw [HP.out]
        rintro e w1 ⟨rfl, rfl⟩
        go_wp2_with fail
        go_ret
        exact ⟨ret_int (by rw [E1.out]), rfl⟩
      · have e1 := runEnd_go letterB l m (by omega) hp
        rw [HE.out] at e1
        have E1 : Hid _ := e1
        have HP : Hid _ := hp
        clear e1 hp
        go_wp2_with fail
        refine (isLetter_any _ _).mono ?_
        rw [HP.out]
        rintro e w1 ⟨rfl, rfl⟩
        go_wp2_with fail
        go_roundw
        case rel => exact ⟨m + 1, by go_num, by omega, E1.out.symm, trivial⟩
        case measure => simp [intOf]; omega
    · have hmm : m = s.size := by omega
      have e1 := runEnd_end letterB l m (by omega)
      rw [he] at e1
      have E1 : Hid _ := e1
      have HE : Hid _ := he
      clear e1 he
      go_wp2_with fail
      go_ret
      exact ⟨ret_int (by rw [E1.out]), rfl⟩

theorem run_digit (s : ByteArray) (l : List UInt8) (n : Nat) (hl : s.data.toList = l) (hn : n ≤ s.size) (hz : s.size ≤ 1000) (w : World) :
    Calls Tryd.prog 37 #[.string s, .int .i64 n, .func (.func 40) #[] #[]] w fun e w' => e = .returned (.int .i64 (runEnd digitB l n)) ∧ w = w' := by
  have hs : l.length = s.size := by rw [← hl]; rfl
  go_enter Tryd.func37, Tryd.ntmps37
  go_wp2_with fail
  go_loopw [1] (fun i wr => ∃ m : Nat, i = .int .i64 m ∧ m ≤ s.size ∧ runEnd digitB l m = runEnd digitB l n ∧ w = wr) (fun i _ => s.size - (intOf i).toNat)
  case atStart => exact ⟨n, rfl, hn, rfl, rfl⟩
  case round =>
    obtain ⟨m, rfl, hm, he, rfl⟩ := hrel
    by_cases hlt : m < s.size
    · have hg := bt_get s m hlt
      rw [hl] at hg
      have k1 : (m : Int) < (s.size : Int) := by omega
      have HE : Hid _ := he
      clear he
      cases hp : digitB (bt l m)
      · have e1 := runEnd_no digitB l m (by omega) hp
        rw [HE.out] at e1
        have E1 : Hid _ := e1
        have HP : Hid _ := hp
        clear e1 hp
        go_wp2_with fail
        refine (isDigit_any _ _).mono ?_
        rw [HP.out]
        rintro e w1 ⟨rfl, rfl⟩
        go_wp2_with fail
        go_ret
        exact ⟨ret_int (by rw [E1.out]), rfl⟩
      · have e1 := runEnd_go digitB l m (by omega) hp
        rw [HE.out] at e1
        have E1 : Hid _ := e1
        have HP : Hid _ := hp
        clear e1 hp
        go_wp2_with fail
        refine (isDigit_any _ _).mono ?_
        rw [HP.out]
        rintro e w1 ⟨rfl, rfl⟩
        go_wp2_with fail
        go_roundw
        case rel => exact ⟨m + 1, by go_num, by omega, E1.out.symm, trivial⟩
        case measure => simp [intOf]; omega
    · have hmm : m = s.size := by omega
      have e1 := runEnd_end digitB l m (by omega)
      rw [he] at e1
      have E1 : Hid _ := e1
      have HE : Hid _ := he
      clear e1 he
      go_wp2_with fail
      go_ret
      exact ⟨ret_int (by rw [E1.out]), rfl⟩

end Go.Proofs.YtjmngnnmnbhfpaaDoor
