/- Package num: digits. -/
import Derived.Test.YtecdfnpbcabdnaaGreatDoorNuS
import Derived.Test.YtecdfnpbcabdnaaGreatDoorProg
import Derived.Test.YtecdfnpbcabdnaaGreatDoorBoxes
import Derived.WalkKit
namespace Go.Proofs.YtecdfnpbcabdnaaGreatDoor
open Go.RowKit

abbrev strV (l : List UInt8) : Value := .string ⟨l.toArray⟩
theorem idx_at (l : List UInt8) (k : Nat) (h : k < l.length) (w : World) : (Instr.index 9 (strV l) (.int .i64 k)).run Tryz.prog w = .ok (.int .u8 (l[k].toNat : Nat)) w := by
  have hz : (ByteArray.mk l.toArray).size = l.length := by simp [ByteArray.size]
  rw [run_index_string w 9 ⟨l.toArray⟩ .i64 _ Tryz.underlying9, dif_pos ⟨by omega, by omega⟩]
  rfl
theorem isDigit_any (b : UInt8) (w : World) : Calls Tryz.prog 139 #[.int .u8 (b.toNat : Nat)] w fun e w' => e = .returned (.bool (isD b)) ∧ w = w' := by
  have h1 : isD b = (decide ((48 : Int) ≤ (b.toNat : Int)) && decide ((b.toNat : Int) ≤ 57)) := by
    unfold isD
    rw [Bool.eq_iff_iff]
    simp only [Bool.and_eq_true, decide_eq_true_eq]
    omega
  rw [h1]
  generalize (b.toNat : Int) = n
  clear h1
  go_enter Tryz.func139, Tryz.ntmps139
  go_wp2_with fail
  · go_ret
    refine ⟨?_, rfl⟩
    rw [decide_eq_true (by assumption : 48 ≤ n)]
    rfl
  · go_ret
    refine ⟨?_, rfl⟩
    rw [decide_eq_false (show ¬ 48 ≤ n by omega)]
    rfl
theorem all_drop (l : List UInt8) (k : Nat) (h : k < l.length) : (l.drop k).all isD = (isD l[k] && (l.drop (k + 1)).all isD) := by
  rw [List.drop_eq_getElem_cons h, List.all_cons]
theorem areDigits_any (l : List UInt8) (hz : l.length ≤ 281474976710656) (w : World) : Calls Tryz.prog 152 #[strV l] w fun e w' => e = .returned (.bool (l.all isD)) ∧ w = w' := by
  go_enter Tryz.func152, Tryz.ntmps152
  go_wp2_with fail
  go_loopw [6] (fun i wr => ∃ k : Nat, i = .int .i64 k ∧ k ≤ l.length ∧ Hid (l.all isD = (l.drop k).all isD) ∧ w = wr) (fun i _ => l.length - (intOf i).toNat)
  case atStart => exact ⟨0, rfl, Nat.zero_le _, (rfl : l.all isD = (l.drop 0).all isD), rfl⟩
  case round =>
    obtain ⟨k, rfl, hk, hl, rfl⟩ := hrel
    by_cases hlt : k < l.length
    · have hix := fun wx => idx_at l k hlt wx
      have hd := fun wx => isDigit_any l[k] wx
      have k1 : (k : Int) < (l.length : Int) := by omega
      have hs := all_drop l k hlt
      cases hb : isD l[k] with
      | true =>
        have hl2 : Hid (l.all isD = (l.drop (k + 1)).all isD) := by
          have := hl.out
          rw [hs, hb, Bool.true_and] at this
          exact this
        rw [hb] at hd
        clear hl hs hb
        generalize l[k] = b at *
        go_wp2_with fail
        refine (hd _).mono ?_
        rintro e w1 ⟨rfl, rfl⟩
        go_wp2_with fail
        go_roundw
        case rel => exact ⟨k + 1, by go_num, by omega, hl2, trivial⟩
        case measure => simp [intOf]; omega
      | false =>
        have hl2 : Hid (l.all isD = false) := by
          have := hl.out
          rw [hs, hb, Bool.false_and] at this
          exact this
        rw [hb] at hd
        clear hl hs hb
        generalize l[k] = b at *
        go_wp2_with fail
        refine (hd _).mono ?_
        rintro e w1 ⟨rfl, rfl⟩
        go_wp2_with fail
        go_ret
        exact ⟨by rw [hl2.out]; rfl, rfl⟩
    · have e : k = l.length := by omega
      subst e
      have hl2 : Hid (l.all isD = true) := by
        have := hl.out
        rw [List.drop_length] at this
        exact this
      clear hl hlt hk
      go_wp2_with fail
      go_ret
      exact ⟨by rw [hl2.out]; rfl, rfl⟩
theorem okP_eq (l : List UInt8) : okP l = (!decide (l = []) && (decide ((l.length : Int) ≤ 6) && l.all isD)) := by
  unfold okP
  rw [Bool.eq_iff_iff]
  simp only [Bool.and_eq_true, decide_eq_true_eq, Bool.not_eq_true', decide_eq_false_iff_not, and_assoc]
  constructor
  · rintro ⟨h1, h2, h3⟩; exact ⟨h1, by omega, h3⟩
  · rintro ⟨h1, h2, h3⟩; exact ⟨h1, by omega, h3⟩
theorem arePlaces_any (l : List UInt8) (hz : l.length ≤ 281474976710656) (w : World) : Calls Tryz.prog 137 #[strV l] w fun e w' => e = .returned (.bool (okP l)) ∧ w = w' := by
  have hd := areDigits_any l hz
  have he := okP_eq l
  generalize l.all isD = a at *
  generalize okP l = r at *
  cases l with
  | nil =>
    have HE : Hid _ := he
    clear he
    go_enter Tryz.func137, Tryz.ntmps137
    go_wp2_with fail
    go_ret
    exact ⟨by rw [HE.out]; rfl, rfl⟩
  | cons b t =>
    rw [decide_eq_false (by simp : ¬ b :: t = []), Bool.not_false, Bool.true_and] at he
    have q1 : (b :: t).isEmpty = false := rfl
    have q2 : ¬ (b :: t) = [] := by simp
    have HE : Hid _ := he
    clear he
    generalize b :: t = l at *
    go_enter Tryz.func137, Tryz.ntmps137
    go_wp2_with fail
    · refine (hd _).mono ?_
      rintro e w1 ⟨rfl, rfl⟩
      go_wp2_with fail
      go_ret
      exact ⟨by rw [HE.out, decide_eq_true (by assumption), Bool.true_and]; rfl, rfl⟩
    · go_ret
      exact ⟨by rw [HE.out, decide_eq_false (by omega), Bool.false_and]; rfl, rfl⟩
theorem head_at (l : List UInt8) (h : 0 < l.length) : l.head? = some l[0] := by
  cases l with
  | nil => simp at h
  | cons b t => rfl
theorem okW_eq (l : List UInt8) (h : 0 < l.length) : okW l = (decide ((l.length : Int) ≤ 13) && (l.all isD && (((l[0].toNat : Int) != 48) || decide ((l.length : Int) = 1)))) := by
  unfold okW
  rw [head_at l h, Bool.eq_iff_iff]
  have hn : l ≠ [] := fun e => by rw [e] at h; simp at h
  have q : (some l[0] ≠ some (48 : UInt8)) ↔ (l[0].toNat : Int) ≠ 48 := by
    rw [ne_eq, ne_eq, Option.some.injEq, ← UInt8.toNat_inj]
    have : (48 : UInt8).toNat = 48 := rfl
    omega
  simp only [Bool.and_eq_true, Bool.or_eq_true, decide_eq_true_eq, bne_iff_ne, and_assoc, q]
  constructor
  · rintro ⟨_, h2, h3, h4⟩; exact ⟨by omega, h3, h4.imp id (by omega)⟩
  · rintro ⟨h2, h3, h4⟩; exact ⟨hn, by omega, h3, h4.imp id (by omega)⟩
theorem isWhole_any (l : List UInt8) (hz : l.length ≤ 281474976710656) (w : World) : Calls Tryz.prog 136 #[strV l] w fun e w' => e = .returned (.bool (okW l)) ∧ w = w' := by
  have hd := areDigits_any l hz
  by_cases hn : l = []
  · subst hn
    have he : Hid (okW [] = false) := (rfl : okW [] = false)
    generalize okW [] = r at *
    go_enter Tryz.func136, Tryz.ntmps136
    go_wp2_with fail
    go_ret
    exact ⟨by rw [he.out]; rfl, rfl⟩
  · have h0 : 0 < l.length := by cases l with | nil => exact absurd rfl hn | cons _ _ => simp
    have he := okW_eq l h0
    have hix : ∀ wx, (Instr.index 9 (strV l) (.int .i64 0)).run Tryz.prog wx = .ok (.int .u8 (l[0].toNat : Nat)) wx := fun wx => idx_at l 0 h0 wx
    have q1 : l.isEmpty = false := by cases l with | nil => exact absurd rfl hn | cons _ _ => rfl
    generalize l.all isD = a at *
    generalize okW l = r at *
    generalize (l[0].toNat : Nat) = b at *
    have HE : Hid _ := he
    clear he
    go_enter Tryz.func136, Tryz.ntmps136
    go_wp2_with fail
    · go_ret
      exact ⟨by rw [HE.out, decide_eq_false (show ¬ (l.length : Int) ≤ 13 by omega), Bool.false_and]; rfl, rfl⟩
    · refine (hd _).mono ?_
      rintro e w1 ⟨rfl, rfl⟩
      have h13 : (l.length : Int) ≤ 13 := by assumption
      rw [decide_eq_true h13, Bool.true_and] at HE
      clear hd
      cases a with
      | false =>
        go_wp2_with fail
        go_ret
        exact ⟨by rw [HE.out]; rfl, rfl⟩
      | true =>
        by_cases hb : b = 48
        · subst hb
          go_wp2_with fail
          go_ret
          exact ⟨by rw [HE.out]; rfl, rfl⟩
        · have k2 : ((b : Int) != 48) = true := bne_iff_ne.2 (by omega)
          rw [k2] at HE
          go_wp2_with fail
          go_ret
          exact ⟨by rw [HE.out]; rfl, rfl⟩
theorem val_take_succ (L : List UInt8) (k : Nat) (h : k < L.length) : val (L.take (k + 1)) = val (L.take k) * 10 + (L[k].toNat - 48) := by
  rw [List.take_succ_eq_append_getElem h, val_snoc]
theorem val_take_bd (L : List UInt8) (h : L.all isD = true) (hl : L.length ≤ 13) (k : Nat) (hk : k < L.length) : val (L.take k) < 1000000000000 := by
  have ha : (L.take k).all isD = true := by
    rw [List.all_eq_true] at h ⊢
    exact fun x hx => h x (List.mem_of_mem_take hx)
  have h1 := val_lt _ ha
  have : 10 ^ (L.take k).length ≤ 10 ^ 12 := Nat.pow_le_pow_right (by decide) (by rw [List.length_take]; omega)
  have : 10 ^ 12 = 1000000000000 := by decide
  omega
theorem isD_at (l : List UInt8) (h : l.all isD = true) (k : Nat) (hk : k < l.length) : 48 ≤ l[k].toNat ∧ l[k].toNat ≤ 57 := isD_iff.1 (List.all_eq_true.1 h _ (List.getElem_mem hk))
theorem worth_any (l : List UInt8) (m : Nat) (ha : l.all isD = true) (hl : l.length ≤ 13) (hm : m ≤ 13) (w : World) :
    Calls Tryz.prog 138 #[strV l, .int .i64 m] w fun e w' => e = .returned (.int .u64 (val l * 10 ^ (m - l.length) : Nat)) ∧ w = w' := by
  have eL := val_pad l (m - l.length)
  rw [← eL]
  clear eL
  obtain ⟨L, hL⟩ : ∃ L, L = l ++ List.replicate (m - l.length) 48 := ⟨_, rfl⟩
  rw [← hL]
  have hlen : L.length = max l.length m := by rw [hL, List.length_append, List.length_replicate]; omega
  have haL : L.all isD = true := by
    rw [hL, List.all_append, ha, List.all_replicate]
    simp
    exact .inr (by decide)
  have hin : ∀ k (h : k < l.length) (h2 : k < L.length), L[k] = l[k] := by
    intro k h h2
    simp only [hL, List.getElem_append_left h]
  have hout : ∀ k (_ : ¬ k < l.length) (h2 : k < L.length), L[k] = 48 := by
    intro k h h2
    simp only [hL, List.getElem_append_right (by omega : l.length ≤ k), List.getElem_replicate]
  have HL : Hid _ := hL
  have HA : Hid _ := haL
  clear hL haL
  by_cases hlm : l.length < m
  · obtain rfl : m = L.length := by omega
    have hL13 : L.length ≤ 13 := hm
    clear hlen
    go_enter Tryz.func138, Tryz.ntmps138
    go_wp2_with fail
    go_loopw [5, 11] (fun n i wr => ∃ k : Nat, i = .int .i64 k ∧ k ≤ L.length ∧ n = .int .u64 (val (L.take k) : Nat) ∧ w = wr) (fun _ i _ => L.length - (intOf i).toNat)
    case atStart => exact ⟨0, rfl, Nat.zero_le _, rfl, rfl⟩
    case round =>
      obtain ⟨k, rfl, hk, rfl, rfl⟩ := hrel
      by_cases hlt : k < L.length
      · have hb := val_take_bd L HA.out (by omega) k hlt
        have hs := val_take_succ L k hlt
        have k1 : (k : Int) < (L.length : Int) := by omega
        by_cases hk2 : k < l.length
        · have hix := fun wx => idx_at l k hk2 wx
          have hd := isD_at l ha k hk2
          rw [hin k hk2 hlt] at hs
          generalize l[k].toNat = b at *
          generalize val (L.take k) = n at *
          have k2 : (k : Int) < (l.length : Int) := by omega
          have HS : Hid _ := hs
          clear hs hin hout
          go_wp2_with fail
          go_roundw
          case rel => exact ⟨k + 1, by go_num, by omega, by rw [HS.out]; go_num, trivial⟩
          case measure => simp [intOf]; omega
        · rw [hout k hk2 hlt] at hs
          generalize val (L.take k) = n at *
          have k2 : ¬ (k : Int) < (l.length : Int) := by omega
          have HS : Hid _ := hs
          clear hs hin hout
          go_wp2_with fail
          go_roundw
          case rel => exact ⟨k + 1, by go_num, by omega, by rw [HS.out]; go_num, trivial⟩
          case measure => simp [intOf]; omega
      · have e : k = L.length := by omega
        subst e
        have ev : L.take L.length = L := List.take_length
        rw [ev]
        clear ev hin hout
        go_wp2_with fail
        go_ret
        exact ⟨rfl, rfl⟩
  · have elL : L.length = l.length := by omega
    go_enter Tryz.func138, Tryz.ntmps138
    go_wp2_with fail
    go_loopw [5, 11] (fun n i wr => ∃ k : Nat, i = .int .i64 k ∧ k ≤ L.length ∧ n = .int .u64 (val (L.take k) : Nat) ∧ w = wr) (fun _ i _ => L.length - (intOf i).toNat)
    case atStart => exact ⟨0, rfl, Nat.zero_le _, rfl, rfl⟩
    case round =>
      obtain ⟨k, rfl, hk, rfl, rfl⟩ := hrel
      by_cases hlt : k < L.length
      · have hb := val_take_bd L HA.out (by omega) k hlt
        have hs := val_take_succ L k hlt
        have k1 : (k : Int) < (l.length : Int) := by omega
        by_cases hk2 : k < l.length
        · have hix := fun wx => idx_at l k hk2 wx
          have hd := isD_at l ha k hk2
          rw [hin k hk2 hlt] at hs
          generalize l[k].toNat = b at *
          generalize val (L.take k) = n at *
          have k2 : (k : Int) < (l.length : Int) := by omega
          have HS : Hid _ := hs
          clear hs hin hout
          go_wp2_with fail
          go_roundw
          case rel => exact ⟨k + 1, by go_num, by omega, by rw [HS.out]; go_num, trivial⟩
          case measure => simp [intOf]; omega
        · rw [hout k hk2 hlt] at hs
          generalize val (L.take k) = n at *
          have k2 : ¬ (k : Int) < (l.length : Int) := by omega
          have HS : Hid _ := hs
          clear hs hin hout
          go_wp2_with fail
          go_roundw
          case rel => exact ⟨k + 1, by go_num, by omega, by rw [HS.out]; go_num, trivial⟩
          case measure => simp [intOf]; omega
      · have e : k = L.length := by omega
        subst e
        have ev : L.take L.length = L := List.take_length
        rw [ev]
        clear ev hin hout
        go_wp2_with fail
        go_ret
        exact ⟨rfl, rfl⟩
end Go.Proofs.YtecdfnpbcabdnaaGreatDoor
