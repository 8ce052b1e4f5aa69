/- The document's Read (package capstanref10). -/
import Derived.Test.YtecdfnpbcabdnaaGreatDoorLxG
namespace Go.Proofs.YtecdfnpbcabdnaaGreatDoor
open Go.RowKit

def runL (l : List UInt8) (i : Nat) : Nat := ((l.drop i).takeWhile isD).length
theorem runL_yes (l : List UInt8) (i : Nat) (h : i < l.length) (hd : isD l[i] = true) : runL l i = runL l (i + 1) + 1 := by
  unfold runL
  rw [List.drop_eq_getElem_cons h, List.takeWhile_cons, if_pos hd, List.length_cons]
theorem runL_no (l : List UInt8) (i : Nat) (h : i < l.length) (hd : isD l[i] = false) : runL l i = 0 := by
  unfold runL
  rw [List.drop_eq_getElem_cons h, List.takeWhile_cons, if_neg (by simp [hd])]
  rfl
theorem runL_end (l : List UInt8) (i : Nat) (h : l.length ≤ i) : runL l i = 0 := by
  unfold runL
  rw [List.drop_of_length_le h]
  rfl
set_option maxHeartbeats 1000000 in
theorem run_any (l : List UInt8) (i : Nat) (hz : l.length ≤ 281474976710656) (hi : i ≤ l.length) (w : World) :
    Calls Tryz.prog 124 #[strV l, .int .i64 i] w fun e w' => e = .returned (.int .i64 (runL l i : Nat)) ∧ w = w' := by
  go_enter Tryz.func124, Tryz.ntmps124
  go_wp2_with fail
  go_loopw [5] (fun n wr => ∃ k : Nat, n = .int .i64 k ∧ i + k ≤ l.length ∧ Hid (runL l i = k + runL l (i + k)) ∧ w = wr) (fun n _ => l.length - (intOf n).toNat)
  case atStart => exact ⟨0, rfl, by omega, (by rw [Nat.zero_add]; rfl : runL l i = 0 + runL l (i + 0)), rfl⟩
  case round =>
    obtain ⟨k, rfl, hk, hR, rfl⟩ := hrel
    by_cases hlt : i + k < l.length
    · have hix := fun wx => idx_at l (i + k) hlt wx
      have k1 : (i : Int) + (k : Int) < (l.length : Int) := by omega
      have y1 := runL_yes l (i + k) hlt
      have y2 := runL_no l (i + k) hlt
      have yd : isD l[i + k] = true ↔ 48 ≤ l[i + k].toNat ∧ l[i + k].toNat ≤ 57 := isD_iff
      rw [Int.natCast_add] at hix
      generalize l[i + k].toNat = b at *
      cases hb : isD l[i + k] with
      | true =>
        obtain ⟨d1, d2⟩ := yd.1 hb
        have HR : Hid (runL l i = (k + 1) + runL l (i + (k + 1))) := by
          have := hR.out
          rw [y1 hb] at this
          have e : i + k + 1 = i + (k + 1) := by omega
          rw [e] at this
          exact (by omega : runL l i = (k + 1) + runL l (i + (k + 1)))
        clear hR y1 y2 yd hb
        go_wp2_with fail
        go_roundw
        case rel => exact ⟨k + 1, by go_num, by omega, HR, trivial⟩
        case measure => simp [intOf]; omega
      | false =>
        have HR : Hid (runL l i = k) := by
          have := hR.out
          rw [y2 hb] at this
          exact (by omega : runL l i = k)
        have hn : ¬ (48 ≤ b ∧ b ≤ 57) := fun h => by rw [yd.2 h] at hb; cases hb
        clear hR y1 y2 yd hb
        by_cases d1 : 48 ≤ b
        · have d2 : ¬ (b : Int) ≤ 57 := by omega
          clear hn
          go_wp2_with fail
          go_ret
          exact ⟨by rw [HR.out]; rfl, rfl⟩
        · clear hn
          go_wp2_with fail
          go_ret
          exact ⟨by rw [HR.out]; rfl, rfl⟩
    · have k1 : ¬ (i : Int) + (k : Int) < (l.length : Int) := by omega
      have HR : Hid (runL l i = k) := by
        have := hR.out
        rw [runL_end l (i + k) (by omega)] at this
        exact this
      clear hR
      go_wp2_with fail
      go_ret
      exact ⟨by rw [HR.out]; rfl, rfl⟩

def moreV (n : Nat) (b : Nat) : Value := if n * 10 + (b - 48) < 9223372036854775808 then .tuple #[.int .i64 (n * 10 + (b - 48) : Nat), .bool true] else .tuple #[.int .i64 0, .bool false]
theorem more_any (n b : Nat) (hn : n < 9223372036854775808) (h1 : 48 ≤ b) (h2 : b ≤ 57) (w : World) :
    Calls Tryz.prog 125 #[.int .i64 n, .int .u8 b] w fun e w' => e = .returned (moreV n b) ∧ w = w' := by
  obtain ⟨v, rfl⟩ : ∃ v, b = 48 + v := ⟨b - 48, by omega⟩
  have hv : v ≤ 9 := by omega
  have e0 : ((48 + v : Nat) : Int) - 48 = (v : Int) := by omega
  unfold moreV
  rw [show 48 + v - 48 = v by omega]
  have e1 : IntKind.u8.wrap (((48 + v : Nat) : Int) - 48) = (v : Int) := by rw [IntKind.wrap_u8]; omega
  by_cases h : n * 10 + v < 9223372036854775808
  · rw [if_pos h]
    have k1 : ¬ (9223372036854775807 - (v : Int)) / 10 < (n : Int) := by omega
    go_enter Tryz.func125, Tryz.ntmps125
    go_wp2_with fail
    go_ret2
    refine ⟨?_, rfl⟩
    show Ending.returned (.tuple #[.int .i64 (10 * (n : Int) + (48 + (v : Int) - 48)), .bool true]) = _
    rw [show 10 * (n : Int) + (48 + (v : Int) - 48) = (n : Int) * 10 + (v : Int) by omega]
    try rfl
  · rw [if_neg h]
    have k1 : (9223372036854775807 - (v : Int)) / 10 < (n : Int) := by omega
    go_enter Tryz.func125, Tryz.ntmps125
    go_wp2_with fail
    go_ret2
    exact ⟨rfl, rfl⟩
theorem moreV_yes {n b : Nat} (h : n * 10 + (b - 48) < 9223372036854775808) : moreV n b = .tuple #[.int .i64 (n * 10 + (b - 48) : Nat), .bool true] := if_pos h
theorem moreV_no {n b : Nat} (h : ¬ n * 10 + (b - 48) < 9223372036854775808) : moreV n b = .tuple #[.int .i64 0, .bool false] := if_neg h
/-- Where the reading of the digits stands. -/
structure Dig10 (L : List UInt8) (j n : Nat) (ok : Bool) : Prop where
  yes : ok = true → n = val (L.take j) ∧ n < 9223372036854775808
  no : ok = false → 9223372036854775808 ≤ val L ∧ n = 0
theorem Dig10.next {L : List UInt8} {j n : Nat} (h : Dig10 L j n true) (hj : j < L.length) : (∃ m, moreV n L[j].toNat = .tuple #[.int .i64 (m : Nat), .bool true] ∧ Dig10 L (j + 1) m true) ∨ (moreV n L[j].toNat = .tuple #[.int .i64 ((0 : Nat) : Int), .bool false] ∧ Dig10 L (j + 1) 0 false) := by
  obtain ⟨e, _⟩ := h.yes rfl
  have hs := val_take_succ L j hj
  rw [← e] at hs
  by_cases hl : n * 10 + (L[j].toNat - 48) < 9223372036854775808
  · exact .inl ⟨_, moreV_yes hl, ⟨fun _ => ⟨hs.symm, hl⟩, fun h => by cases h⟩⟩
  · refine .inr ⟨moreV_no hl, ⟨fun h => (by cases h), fun _ => ⟨?_, rfl⟩⟩⟩
    have := val_take L (j + 1)
    omega
/-- What lies where in the text. -/
structure Lay10 (l L : List UInt8) (k f : Nat) : Prop where
  len : L.length = k + 6
  dig : ∀ j (h : j < L.length), 48 ≤ L[j].toNat ∧ L[j].toNat ≤ 57
  f6 : f ≤ 6
  kl : k ≤ l.length
  fl : 0 < f → k + f + 1 = l.length
  one : ∀ j (h : j < L.length) (_ : j < k) (h2 : j < l.length), l[j] = L[j]
  two : ∀ j (h : j < L.length) (_ : k ≤ j) (_ : j < k + f) (h2 : j + 1 < l.length), l[j + 1] = L[j]
  three : ∀ j (h : j < L.length), k + f ≤ j → L[j] = 48
/-- What is answered of digits. -/
def limV (L : List UInt8) : Value := if val L < 9223372036854775808 then .tuple #[.int .i64 (val L : Nat), .int .i64 0] else .tuple #[.int .i64 0, .int .i64 13]
theorem limV_ok {L : List UInt8} {m : Nat} (h : m = val L) (hm : m < 9223372036854775808) : limV L = .tuple #[.int .i64 (m : Nat), .int .i64 0] := by
  subst h; exact if_pos hm
theorem limV_no {L : List UInt8} (h : 9223372036854775808 ≤ val L) : limV L = .tuple #[.int .i64 0, .int .i64 13] := if_neg (by omega)
set_option maxHeartbeats 4000000 in
theorem rRead_bare (l L : List UInt8) (k f : Nat) (hz : l.length ≤ 281474976710656) (hL : Lay10 l L k f) (hk : 1 ≤ k) (h0 : 1 < k → ∀ h : 0 < l.length, l[0].toNat ≠ 48) (hrun : runL l 0 = k) (hkl : k = l.length) (hf : f = 0) (w : World) :
    Calls Tryz.prog 107 #[strV l] w fun e w' => e = .returned (limV L) ∧ w = w' := by
  have hl0 : 0 < l.length := by have := hL.kl; omega
  have hr : ∀ wx, Calls Tryz.prog 124 #[strV l, .int .i64 0] wx fun e w' => e = .returned (.int .i64 (k : Nat)) ∧ wx = w' := fun wx => by
    have := run_any l 0 hz (by omega) wx
    rw [hrun] at this
    exact this
  have hkl2 : ¬ (k : Int) < (l.length : Int) := by omega
  subst hf
  have HKL3 : Hid (decide (k < l.length) = false) := decide_eq_false (by omega : ¬ k < l.length)
  have HKL : Hid _ := hkl
  clear hkl
  have hix : ∀ wx, (Instr.index 9 (strV l) (.int .i64 0)).run Tryz.prog wx = .ok (.int .u8 (l[0].toNat : Nat)) wx := fun wx => idx_at l 0 hl0 wx
  have h00 : 1 < k → l[0].toNat ≠ 48 := fun h => h0 h hl0
  have klb := hL.kl
  have f6 := hL.f6
  have HL : Hid _ := hL
  have hk0 : ((k : Int) == 0) = false := beq_eq_false_iff_ne.2 (by omega)
  have hz1 : 1 < k → ((l[0].toNat : Int) == 48) = false := fun h => beq_eq_false_iff_ne.2 (by have := h00 h; omega)
  clear hL hrun h0 h00
  generalize l[0].toNat = b0 at *
  by_cases hk1 : 1 < k
  · have hz1 := hz1 hk1
    have hk3 : decide ((1 : Int) < (k : Int)) = true := decide_eq_true (by omega)
    go_enter Tryz.func107, Tryz.ntmps107
    go_wp2_with fail
    refine (hr _).mono ?_
    rintro e w1 ⟨rfl, rfl⟩
    go_wp2_with fail
    simp only [HKL3.out]
    go_loopw [6, 7, 8] (fun n o i wr => ∃ (j m : Nat) (b : Bool), n = .int .i64 m ∧ o = .bool b ∧ i = .int .i64 j ∧ j ≤ k + 6 ∧ Hid (Dig10 L j m b) ∧ w = wr) (fun _ _ i _ => (k + 6) - (intOf i).toNat)
    case atStart => exact ⟨0, 0, true, rfl, rfl, rfl, Nat.zero_le _, (⟨fun _ => ⟨rfl, by decide⟩, fun h => by cases h⟩ : Dig10 L 0 0 true), rfl⟩
    case round =>
      obtain ⟨j, m, b, rfl, rfl, rfl, hj, hD, rfl⟩ := hrel
      cases b with
      | false =>
        have HF : Hid _ := limV_no (hD.out.no rfl).1
        obtain rfl := (hD.out.no rfl).2
        clear hD
        by_cases hlt : j < k + 6
        · have k1 : (j : Int) < (k : Int) + 6 := by omega
          go_wp2_with fail
          go_ret2
          exact ⟨by rw [HF.out]; rfl, rfl⟩
        · have k1 : ¬ (j : Int) < (k : Int) + 6 := by omega
          go_wp2_with fail
          go_ret2
          exact ⟨by rw [HF.out]; rfl, rfl⟩
      | true =>
        by_cases hlt : j < k + 6
        · have hjL : j < L.length := by rw [HL.out.len]; exact hlt
          have hd := HL.out.dig j hjL
          have hb := (hD.out.yes rfl).2
          have hn := hD.out.next hjL
          have hmr := fun wx => more_any m L[j].toNat hb hd.1 hd.2 wx
          have hone := HL.out.one j hjL
          have htwo := HL.out.two j hjL
          have hthr := HL.out.three j hjL
          have hfl := HL.out.fl
          have k1 : (j : Int) < (k : Int) + 6 := by omega
          clear hD
          by_cases c1 : j < k
          · have hi := fun wx => idx_at l j (by omega) wx
            rw [hone c1 (by omega)] at hi
            have k2 : (j : Int) < (k : Int) := by omega
            clear hone htwo hthr hfl
            generalize L[j].toNat = bj at *
            rcases hn with ⟨m2, e2, hD2⟩ | ⟨e2, hD2⟩
            · rw [e2] at hmr
              have HD2 : Hid _ := hD2
              clear hD2 e2
              go_wp2_with fail
              refine (hmr _).mono ?_
              rintro e w1 ⟨rfl, rfl⟩
              go_wp2_with fail
              go_roundw
              case rel => exact ⟨j + 1, m2, true, rfl, rfl, by go_num, by omega, HD2, trivial⟩
              case measure => simp [intOf]; omega
            · rw [e2] at hmr
              have HD2 : Hid _ := hD2
              clear hD2 e2
              go_wp2_with fail
              refine (hmr _).mono ?_
              rintro e w1 ⟨rfl, rfl⟩
              go_wp2_with fail
              go_roundw
              case rel => exact ⟨j + 1, 0, false, rfl, rfl, by go_num, by omega, HD2, trivial⟩
              case measure => simp [intOf]; omega
          · have k2 : ¬ (j : Int) < (k : Int) := by omega
            have k3 : ¬ (j : Int) - (k : Int) < 0 := by omega
            have e48 : L[j].toNat = 48 := by rw [hthr (by omega)]; rfl
            rw [e48] at hmr hn
            clear hone htwo hthr hfl e48
            rcases hn with ⟨m2, e2, hD2⟩ | ⟨e2, hD2⟩
            · rw [e2] at hmr
              have HD2 : Hid _ := hD2
              clear hD2 e2
              go_wp2_with fail
              refine (hmr _).mono ?_
              rintro e w1 ⟨rfl, rfl⟩
              go_wp2_with fail
              go_roundw
              case rel => exact ⟨j + 1, m2, true, rfl, rfl, by go_num, by omega, HD2, trivial⟩
              case measure => simp [intOf]; omega
            · rw [e2] at hmr
              have HD2 : Hid _ := hD2
              clear hD2 e2
              go_wp2_with fail
              refine (hmr _).mono ?_
              rintro e w1 ⟨rfl, rfl⟩
              go_wp2_with fail
              go_roundw
              case rel => exact ⟨j + 1, 0, false, rfl, rfl, by go_num, by omega, HD2, trivial⟩
              case measure => simp [intOf]; omega
        · have k1 : ¬ (j : Int) < (k : Int) + 6 := by omega
          have hfull : m = val L := by
            have := (hD.out.yes rfl).1
            rw [List.take_of_length_le (by rw [HL.out.len]; omega)] at this
            exact this
          have HF : Hid _ := limV_ok hfull (hD.out.yes rfl).2
          clear hD hfull
          go_wp2_with fail
          go_ret2
          exact ⟨by rw [HF.out]; rfl, rfl⟩
  · have hk2 : ¬ (1 : Int) < (k : Int) := by omega
    have hk3 : decide ((1 : Int) < (k : Int)) = false := decide_eq_false hk2
    clear hz1
    go_enter Tryz.func107, Tryz.ntmps107
    go_wp2_with fail
    refine (hr _).mono ?_
    rintro e w1 ⟨rfl, rfl⟩
    go_wp2_with fail
    simp only [HKL3.out]
    go_loopw [6, 7, 8] (fun n o i wr => ∃ (j m : Nat) (b : Bool), n = .int .i64 m ∧ o = .bool b ∧ i = .int .i64 j ∧ j ≤ k + 6 ∧ Hid (Dig10 L j m b) ∧ w = wr) (fun _ _ i _ => (k + 6) - (intOf i).toNat)
    case atStart => exact ⟨0, 0, true, rfl, rfl, rfl, Nat.zero_le _, (⟨fun _ => ⟨rfl, by decide⟩, fun h => by cases h⟩ : Dig10 L 0 0 true), rfl⟩
    case round =>
      obtain ⟨j, m, b, rfl, rfl, rfl, hj, hD, rfl⟩ := hrel
      cases b with
      | false =>
        have HF : Hid _ := limV_no (hD.out.no rfl).1
        obtain rfl := (hD.out.no rfl).2
        clear hD
        by_cases hlt : j < k + 6
        · have k1 : (j : Int) < (k : Int) + 6 := by omega
          go_wp2_with fail
          go_ret2
          exact ⟨by rw [HF.out]; rfl, rfl⟩
        · have k1 : ¬ (j : Int) < (k : Int) + 6 := by omega
          go_wp2_with fail
          go_ret2
          exact ⟨by rw [HF.out]; rfl, rfl⟩
      | true =>
        by_cases hlt : j < k + 6
        · have hjL : j < L.length := by rw [HL.out.len]; exact hlt
          have hd := HL.out.dig j hjL
          have hb := (hD.out.yes rfl).2
          have hn := hD.out.next hjL
          have hmr := fun wx => more_any m L[j].toNat hb hd.1 hd.2 wx
          have hone := HL.out.one j hjL
          have htwo := HL.out.two j hjL
          have hthr := HL.out.three j hjL
          have hfl := HL.out.fl
          have k1 : (j : Int) < (k : Int) + 6 := by omega
          clear hD
          by_cases c1 : j < k
          · have hi := fun wx => idx_at l j (by omega) wx
            rw [hone c1 (by omega)] at hi
            have k2 : (j : Int) < (k : Int) := by omega
            clear hone htwo hthr hfl
            generalize L[j].toNat = bj at *
            rcases hn with ⟨m2, e2, hD2⟩ | ⟨e2, hD2⟩
            · rw [e2] at hmr
              have HD2 : Hid _ := hD2
              clear hD2 e2
              go_wp2_with fail
              refine (hmr _).mono ?_
              rintro e w1 ⟨rfl, rfl⟩
              go_wp2_with fail
              go_roundw
              case rel => exact ⟨j + 1, m2, true, rfl, rfl, by go_num, by omega, HD2, trivial⟩
              case measure => simp [intOf]; omega
            · rw [e2] at hmr
              have HD2 : Hid _ := hD2
              clear hD2 e2
              go_wp2_with fail
              refine (hmr _).mono ?_
              rintro e w1 ⟨rfl, rfl⟩
              go_wp2_with fail
              go_roundw
              case rel => exact ⟨j + 1, 0, false, rfl, rfl, by go_num, by omega, HD2, trivial⟩
              case measure => simp [intOf]; omega
          · have k2 : ¬ (j : Int) < (k : Int) := by omega
            have k3 : ¬ (j : Int) - (k : Int) < 0 := by omega
            have e48 : L[j].toNat = 48 := by rw [hthr (by omega)]; rfl
            rw [e48] at hmr hn
            clear hone htwo hthr hfl e48
            rcases hn with ⟨m2, e2, hD2⟩ | ⟨e2, hD2⟩
            · rw [e2] at hmr
              have HD2 : Hid _ := hD2
              clear hD2 e2
              go_wp2_with fail
              refine (hmr _).mono ?_
              rintro e w1 ⟨rfl, rfl⟩
              go_wp2_with fail
              go_roundw
              case rel => exact ⟨j + 1, m2, true, rfl, rfl, by go_num, by omega, HD2, trivial⟩
              case measure => simp [intOf]; omega
            · rw [e2] at hmr
              have HD2 : Hid _ := hD2
              clear hD2 e2
              go_wp2_with fail
              refine (hmr _).mono ?_
              rintro e w1 ⟨rfl, rfl⟩
              go_wp2_with fail
              go_roundw
              case rel => exact ⟨j + 1, 0, false, rfl, rfl, by go_num, by omega, HD2, trivial⟩
              case measure => simp [intOf]; omega
        · have k1 : ¬ (j : Int) < (k : Int) + 6 := by omega
          have hfull : m = val L := by
            have := (hD.out.yes rfl).1
            rw [List.take_of_length_le (by rw [HL.out.len]; omega)] at this
            exact this
          have HF : Hid _ := limV_ok hfull (hD.out.yes rfl).2
          clear hD hfull
          go_wp2_with fail
          go_ret2
          exact ⟨by rw [HF.out]; rfl, rfl⟩
end Go.Proofs.YtecdfnpbcabdnaaGreatDoor
