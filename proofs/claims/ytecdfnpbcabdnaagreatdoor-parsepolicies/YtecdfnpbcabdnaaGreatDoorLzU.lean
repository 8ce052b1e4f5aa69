/- The document's Read: a point; what it refuses. -/
import Derived.Test.YtecdfnpbcabdnaaGreatDoorLzR
namespace Go.Proofs.YtecdfnpbcabdnaaGreatDoor
open Go.RowKit

set_option maxHeartbeats 4000000 in
theorem rRead_point (l L : List UInt8) (k f : Nat) (hz : l.length ≤ 281474976710656) (hL : Lay10 l L k f) (hk : 1 ≤ k) (h0 : 1 < k → ∀ h : 0 < l.length, l[0].toNat ≠ 48) (hrun : runL l 0 = k) (hkl : k + 1 + f = l.length) (hf : 1 ≤ f) (h46 : ∀ h : k < l.length, l[k].toNat = 46) (hrun2 : runL l (k + 1) = f) (w : World) :
    Calls Tryz.prog 107 #[strV l] w fun e w' => e = .returned (limV L) ∧ w = w' := by
  have hl0 : 0 < l.length := by have := hL.kl; omega
  have hr : ∀ wx, Calls Tryz.prog 124 #[strV l, .int .i64 0] wx fun e w' => e = .returned (.int .i64 (k : Nat)) ∧ wx = w' := fun wx => by
    have := run_any l 0 hz (by omega) wx
    rw [hrun] at this
    exact this
  have hkl2 : (k : Int) < (l.length : Int) := by omega
  have hr2 : ∀ wx, Calls Tryz.prog 124 #[strV l, .int .i64 ((k : Int) + 1)] wx fun e w' => e = .returned (.int .i64 (f : Nat)) ∧ wx = w' := fun wx => by
    have := run_any l (k + 1) hz (by omega) wx
    rw [hrun2] at this
    exact this
  have hik := fun wx => idx_at l k (by omega) wx
  rw [h46 (by omega)] at hik
  have hf1 : ¬ (f : Int) < 1 := by omega
  have hf2 : ¬ (6 : Int) < (f : Int) := by have := hL.f6; omega
  have hf3 : ((k : Int) + 1 + (f : Int) != (l.length : Int)) = false := bne_eq_false_iff_eq.2 (by omega)
  have HA : Hid (decide ((f : Int) < 1) = false) := decide_eq_false hf1
  have HB : Hid (decide ((6 : Int) < (f : Int)) = false) := decide_eq_false hf2
  have HKL : Hid _ := hkl
  clear hkl h46 hrun2
  have hix : ∀ wx, (Instr.index 9 (strV l) (.int .i64 0)).run Tryz.prog wx = .ok (.int .u8 (l[0].toNat : Nat)) wx := fun wx => idx_at l 0 hl0 wx
  have h00 : 1 < k → l[0].toNat ≠ 48 := fun h => h0 h hl0
  have klb := hL.kl
  have f6 := hL.f6
  have HL : Hid _ := hL
  have hk0 : ((k : Int) == 0) = false := beq_eq_false_iff_ne.2 (by omega)
  have hz1 : 1 < k → ((l[0].toNat : Int) == 48) = false := fun h => beq_eq_false_iff_ne.2 (by have := h00 h; omega)
  clear hL hrun h0 h00
  generalize l[0].toNat = b0 at *
  by_cases hk1 : 1 < k
  · have hz1 := hz1 hk1
    have hk3 : decide ((1 : Int) < (k : Int)) = true := decide_eq_true (by omega)
    go_enter Tryz.func107, Tryz.ntmps107
    go_wp2_with fail
    refine (hr _).mono ?_
    rintro e w1 ⟨rfl, rfl⟩
    go_wp2_with fail
    refine (hr2 _).mono ?_
    rintro e w1 ⟨rfl, rfl⟩
    go_wp2_with fail
    simp only [HA.out, HB.out, Bool.or_false]
    go_loopw [6, 7, 8] (fun n o i wr => ∃ (j m : Nat) (b : Bool), n = .int .i64 m ∧ o = .bool b ∧ i = .int .i64 j ∧ j ≤ k + 6 ∧ Hid (Dig10 L j m b) ∧ w = wr) (fun _ _ i _ => (k + 6) - (intOf i).toNat)
    case atStart => exact ⟨0, 0, true, rfl, rfl, rfl, Nat.zero_le _, (⟨fun _ => ⟨rfl, by decide⟩, fun h => by cases h⟩ : Dig10 L 0 0 true), rfl⟩
    case round =>
      obtain ⟨j, m, b, rfl, rfl, rfl, hj, hD, rfl⟩ := hrel
      cases b with
      | false =>
        have HF : Hid _ := limV_no (hD.out.no rfl).1
        obtain rfl := (hD.out.no rfl).2
        clear hD
        by_cases hlt : j < k + 6
        · have k1 : (j : Int) < (k : Int) + 6 := by omega
          go_wp2_with fail
          go_ret2
          exact ⟨by rw [HF.out]; rfl, rfl⟩
        · have k1 : ¬ (j : Int) < (k : Int) + 6 := by omega
          go_wp2_with fail
          go_ret2
          exact ⟨by rw [HF.out]; rfl, rfl⟩
      | true =>
        by_cases hlt : j < k + 6
        · have hjL : j < L.length := by rw [HL.out.len]; exact hlt
          have hd := HL.out.dig j hjL
          have hb := (hD.out.yes rfl).2
          have hn := hD.out.next hjL
          have hmr := fun wx => more_any m L[j].toNat hb hd.1 hd.2 wx
          have hone := HL.out.one j hjL
          have htwo := HL.out.two j hjL
          have hthr := HL.out.three j hjL
          have hfl := HL.out.fl
          have k1 : (j : Int) < (k : Int) + 6 := by omega
          clear hD
          by_cases c1 : j < k
          · have hi := fun wx => idx_at l j (by omega) wx
            rw [hone c1 (by omega)] at hi
            have k2 : (j : Int) < (k : Int) := by omega
            clear hone htwo hthr hfl
            generalize L[j].toNat = bj at *
            rcases hn with ⟨m2, e2, hD2⟩ | ⟨e2, hD2⟩
            · rw [e2] at hmr
              have HD2 : Hid _ := hD2
              clear hD2 e2
              go_wp2_with fail
              refine (hmr _).mono ?_
              rintro e w1 ⟨rfl, rfl⟩
              go_wp2_with fail
              go_roundw
              case rel => exact ⟨j + 1, m2, true, rfl, rfl, by go_num, by omega, HD2, trivial⟩
              case measure => simp [intOf]; omega
            · rw [e2] at hmr
              have HD2 : Hid _ := hD2
              clear hD2 e2
              go_wp2_with fail
              refine (hmr _).mono ?_
              rintro e w1 ⟨rfl, rfl⟩
              go_wp2_with fail
              go_roundw
              case rel => exact ⟨j + 1, 0, false, rfl, rfl, by go_num, by omega, HD2, trivial⟩
              case measure => simp [intOf]; omega
          · have k2 : ¬ (j : Int) < (k : Int) := by omega
            by_cases c2 : j < k + f
            · have hi := fun wx => idx_at l (j + 1) (by have := hfl (by omega); omega) wx
              rw [htwo (by omega) c2 (by have := hfl (by omega); omega)] at hi
              replace hi : ∀ wx, (Instr.index 9 (strV l) (.int .i64 ((j : Int) + 1))).run Tryz.prog wx = .ok (.int .u8 (L[j].toNat : Nat)) wx := hi
              have k3 : (j : Int) - (k : Int) < (f : Int) := by omega
              clear hone htwo hthr hfl
              generalize L[j].toNat = bj at *
              rcases hn with ⟨m2, e2, hD2⟩ | ⟨e2, hD2⟩
              · rw [e2] at hmr
                have HD2 : Hid _ := hD2
                clear hD2 e2
                go_wp2_with fail
                refine (hmr _).mono ?_
                rintro e w1 ⟨rfl, rfl⟩
                go_wp2_with fail
                go_roundw
                case rel => exact ⟨j + 1, m2, true, rfl, rfl, by go_num, by omega, HD2, trivial⟩
                case measure => simp [intOf]; omega
              · rw [e2] at hmr
                have HD2 : Hid _ := hD2
                clear hD2 e2
                go_wp2_with fail
                refine (hmr _).mono ?_
                rintro e w1 ⟨rfl, rfl⟩
                go_wp2_with fail
                go_roundw
                case rel => exact ⟨j + 1, 0, false, rfl, rfl, by go_num, by omega, HD2, trivial⟩
                case measure => simp [intOf]; omega
            · have k3 : ¬ (j : Int) - (k : Int) < (f : Int) := by omega
              have e48 : L[j].toNat = 48 := by rw [hthr (by omega)]; rfl
              rw [e48] at hmr hn
              clear hone htwo hthr hfl e48
              rcases hn with ⟨m2, e2, hD2⟩ | ⟨e2, hD2⟩
              · rw [e2] at hmr
                have HD2 : Hid _ := hD2
                clear hD2 e2
                go_wp2_with fail
                refine (hmr _).mono ?_
                rintro e w1 ⟨rfl, rfl⟩
                go_wp2_with fail
                go_roundw
                case rel => exact ⟨j + 1, m2, true, rfl, rfl, by go_num, by omega, HD2, trivial⟩
                case measure => simp [intOf]; omega
              · rw [e2] at hmr
                have HD2 : Hid _ := hD2
                clear hD2 e2
                go_wp2_with fail
                refine (hmr _).mono ?_
                rintro e w1 ⟨rfl, rfl⟩
                go_wp2_with fail
                go_roundw
                case rel => exact ⟨j + 1, 0, false, rfl, rfl, by go_num, by omega, HD2, trivial⟩
                case measure => simp [intOf]; omega
        · have k1 : ¬ (j : Int) < (k : Int) + 6 := by omega
          have hfull : m = val L := by
            have := (hD.out.yes rfl).1
            rw [List.take_of_length_le (by rw [HL.out.len]; omega)] at this
            exact this
          have HF : Hid _ := limV_ok hfull (hD.out.yes rfl).2
          clear hD hfull
          go_wp2_with fail
          go_ret2
          exact ⟨by rw [HF.out]; rfl, rfl⟩
  · have hk2 : ¬ (1 : Int) < (k : Int) := by omega
    have hk3 : decide ((1 : Int) < (k : Int)) = false := decide_eq_false hk2
    clear hz1
    go_enter Tryz.func107, Tryz.ntmps107
    go_wp2_with fail
    refine (hr _).mono ?_
    rintro e w1 ⟨rfl, rfl⟩
    go_wp2_with fail
    refine (hr2 _).mono ?_
    rintro e w1 ⟨rfl, rfl⟩
    go_wp2_with fail
    simp only [HA.out, HB.out, Bool.or_false]
    go_loopw [6, 7, 8] (fun n o i wr => ∃ (j m : Nat) (b : Bool), n = .int .i64 m ∧ o = .bool b ∧ i = .int .i64 j ∧ j ≤ k + 6 ∧ Hid (Dig10 L j m b) ∧ w = wr) (fun _ _ i _ => (k + 6) - (intOf i).toNat)
    case atStart => exact ⟨0, 0, true, rfl, rfl, rfl, Nat.zero_le _, (⟨fun _ => ⟨rfl, by decide⟩, fun h => by cases h⟩ : Dig10 L 0 0 true), rfl⟩
    case round =>
      obtain ⟨j, m, b, rfl, rfl, rfl, hj, hD, rfl⟩ := hrel
      cases b with
      | false =>
        have HF : Hid _ := limV_no (hD.out.no rfl).1
        obtain rfl := (hD.out.no rfl).2
        clear hD
        by_cases hlt : j < k + 6
        · have k1 : (j : Int) < (k : Int) + 6 := by omega
          go_wp2_with fail
          go_ret2
          exact ⟨by rw [HF.out]; rfl, rfl⟩
        · have k1 : ¬ (j : Int) < (k : Int) + 6 := by omega
          go_wp2_with fail
          go_ret2
          exact ⟨by rw [HF.out]; rfl, rfl⟩
      | true =>
        by_cases hlt : j < k + 6
        · have hjL : j < L.length := by rw [HL.out.len]; exact hlt
          have hd := HL.out.dig j hjL
          have hb := (hD.out.yes rfl).2
          have hn := hD.out.next hjL
          have hmr := fun wx => more_any m L[j].toNat hb hd.1 hd.2 wx
          have hone := HL.out.one j hjL
          have htwo := HL.out.two j hjL
          have hthr := HL.out.three j hjL
          have hfl := HL.out.fl
          have k1 : (j : Int) < (k : Int) + 6 := by omega
          clear hD
          by_cases c1 : j < k
          · have hi := fun wx => idx_at l j (by omega) wx
            rw [hone c1 (by omega)] at hi
            have k2 : (j : Int) < (k : Int) := by omega
            clear hone htwo hthr hfl
            generalize L[j].toNat = bj at *
            rcases hn with ⟨m2, e2, hD2⟩ | ⟨e2, hD2⟩
            · rw [e2] at hmr
              have HD2 : Hid _ := hD2
              clear hD2 e2
              go_wp2_with fail
              refine (hmr _).mono ?_
              rintro e w1 ⟨rfl, rfl⟩
              go_wp2_with fail
              go_roundw
              case rel => exact ⟨j + 1, m2, true, rfl, rfl, by go_num, by omega, HD2, trivial⟩
              case measure => simp [intOf]; omega
            · rw [e2] at hmr
              have HD2 : Hid _ := hD2
              clear hD2 e2
              go_wp2_with fail
              refine (hmr _).mono ?_
              rintro e w1 ⟨rfl, rfl⟩
              go_wp2_with fail
              go_roundw
              case rel => exact ⟨j + 1, 0, false, rfl, rfl, by go_num, by omega, HD2, trivial⟩
              case measure => simp [intOf]; omega
          · have k2 : ¬ (j : Int) < (k : Int) := by omega
            by_cases c2 : j < k + f
            · have hi := fun wx => idx_at l (j + 1) (by have := hfl (by omega); omega) wx
              rw [htwo (by omega) c2 (by have := hfl (by omega); omega)] at hi
              replace hi : ∀ wx, (Instr.index 9 (strV l) (.int .i64 ((j : Int) + 1))).run Tryz.prog wx = .ok (.int .u8 (L[j].toNat : Nat)) wx := hi
              have k3 : (j : Int) - (k : Int) < (f : Int) := by omega
              clear hone htwo hthr hfl
              generalize L[j].toNat = bj at *
              rcases hn with ⟨m2, e2, hD2⟩ | ⟨e2, hD2⟩
              · rw [e2] at hmr
                have HD2 : Hid _ := hD2
                clear hD2 e2
                go_wp2_with fail
                refine (hmr _).mono ?_
                rintro e w1 ⟨rfl, rfl⟩
                go_wp2_with fail
                go_roundw
                case rel => exact ⟨j + 1, m2, true, rfl, rfl, by go_num, by omega, HD2, trivial⟩
                case measure => simp [intOf]; omega
              · rw [e2] at hmr
                have HD2 : Hid _ := hD2
                clear hD2 e2
                go_wp2_with fail
                refine (hmr _).mono ?_
                rintro e w1 ⟨rfl, rfl⟩
                go_wp2_with fail
                go_roundw
                case rel => exact ⟨j + 1, 0, false, rfl, rfl, by go_num, by omega, HD2, trivial⟩
                case measure => simp [intOf]; omega
            · have k3 : ¬ (j : Int) - (k : Int) < (f : Int) := by omega
              have e48 : L[j].toNat = 48 := by rw [hthr (by omega)]; rfl
              rw [e48] at hmr hn
              clear hone htwo hthr hfl e48
              rcases hn with ⟨m2, e2, hD2⟩ | ⟨e2, hD2⟩
              · rw [e2] at hmr
                have HD2 : Hid _ := hD2
                clear hD2 e2
                go_wp2_with fail
                refine (hmr _).mono ?_
                rintro e w1 ⟨rfl, rfl⟩
                go_wp2_with fail
                go_roundw
                case rel => exact ⟨j + 1, m2, true, rfl, rfl, by go_num, by omega, HD2, trivial⟩
                case measure => simp [intOf]; omega
              · rw [e2] at hmr
                have HD2 : Hid _ := hD2
                clear hD2 e2
                go_wp2_with fail
                refine (hmr _).mono ?_
                rintro e w1 ⟨rfl, rfl⟩
                go_wp2_with fail
                go_roundw
                case rel => exact ⟨j + 1, 0, false, rfl, rfl, by go_num, by omega, HD2, trivial⟩
                case measure => simp [intOf]; omega
        · have k1 : ¬ (j : Int) < (k : Int) + 6 := by omega
          have hfull : m = val L := by
            have := (hD.out.yes rfl).1
            rw [List.take_of_length_le (by rw [HL.out.len]; omega)] at this
            exact this
          have HF : Hid _ := limV_ok hfull (hD.out.yes rfl).2
          clear hD hfull
          go_wp2_with fail
          go_ret2
          exact ⟨by rw [HF.out]; rfl, rfl⟩
set_option maxHeartbeats 4000000 in
theorem rRead_no (l : List UInt8) (k : Nat) (hz : l.length ≤ 281474976710656) (hkl : k ≤ l.length) (hrun : runL l 0 = k)
    (hno : k = 0 ∨ (1 < k ∧ ∃ h : 0 < l.length, l[0].toNat = 48)) (w : World) :
    Calls Tryz.prog 107 #[strV l] w fun e w' => e = .returned (.tuple #[.int .i64 0, .int .i64 13]) ∧ w = w' := by
  have hr : ∀ wx, Calls Tryz.prog 124 #[strV l, .int .i64 0] wx fun e w' => e = .returned (.int .i64 (k : Nat)) ∧ wx = w' := fun wx => by
    have := run_any l 0 hz (by omega) wx
    rw [hrun] at this
    exact this
  rcases hno with rfl | ⟨h1, hl0, h48⟩
  · clear hrun
    go_enter Tryz.func107, Tryz.ntmps107
    go_wp2_with fail
    refine (hr _).mono ?_
    rintro e w1 ⟨rfl, rfl⟩
    go_wp2_with fail
    go_ret2
    exact ⟨rfl, rfl⟩
  · have hix : ∀ wx, (Instr.index 9 (strV l) (.int .i64 0)).run Tryz.prog wx = .ok (.int .u8 (l[0].toNat : Nat)) wx := fun wx => idx_at l 0 hl0 wx
    rw [h48] at hix
    have hk0 : ((k : Int) == 0) = false := beq_eq_false_iff_ne.2 (by omega)
    have hk1 : (1 : Int) < (k : Int) := by omega
    clear hrun h48 hkl
    go_enter Tryz.func107, Tryz.ntmps107
    go_wp2_with fail
    refine (hr _).mono ?_
    rintro e w1 ⟨rfl, rfl⟩
    go_wp2_with fail
    go_ret2
    exact ⟨rfl, rfl⟩
set_option maxHeartbeats 4000000 in
theorem rRead_bad (l : List UInt8) (k f : Nat) (hz : l.length ≤ 281474976710656) (hk : 1 ≤ k) (hkl : k < l.length) (h0 : 1 < k → l[0].toNat ≠ 48) (hrun : runL l 0 = k) (hrun2 : runL l (k + 1) = f) (_hf : f ≤ l.length)
    (hno : l[k].toNat ≠ 46 ∨ f < 1 ∨ 6 < f ∨ k + 1 + f ≠ l.length) (w : World) :
    Calls Tryz.prog 107 #[strV l] w fun e w' => e = .returned (.tuple #[.int .i64 0, .int .i64 13]) ∧ w = w' := by
  have hr : ∀ wx, Calls Tryz.prog 124 #[strV l, .int .i64 0] wx fun e w' => e = .returned (.int .i64 (k : Nat)) ∧ wx = w' := fun wx => by
    have := run_any l 0 hz (by omega) wx
    rw [hrun] at this
    exact this
  have hr2 : ∀ wx, Calls Tryz.prog 124 #[strV l, .int .i64 ((k : Int) + 1)] wx fun e w' => e = .returned (.int .i64 (f : Nat)) ∧ wx = w' := fun wx => by
    have := run_any l (k + 1) hz (by omega) wx
    rw [hrun2] at this
    exact this
  have hix : ∀ wx, (Instr.index 9 (strV l) (.int .i64 0)).run Tryz.prog wx = .ok (.int .u8 (l[0].toNat : Nat)) wx := fun wx => idx_at l 0 (by omega) wx
  have hik := fun wx => idx_at l k hkl wx
  have hk0 : ((k : Int) == 0) = false := beq_eq_false_iff_ne.2 (by omega)
  have hz1 : 1 < k → ((l[0].toNat : Int) == 48) = false := fun h => beq_eq_false_iff_ne.2 (by have := h0 h; omega)
  have hkl2 : (k : Int) < (l.length : Int) := by omega
  generalize l[0].toNat = b0 at *
  generalize l[k].toNat = bk at *
  clear hrun hrun2 h0
  by_cases hk1 : 1 < k
  · have hz1 := hz1 hk1
    have hk3 : (1 : Int) < (k : Int) := by omega
    go_enter Tryz.func107, Tryz.ntmps107
    go_wp2_with fail
    refine (hr _).mono ?_
    rintro e w1 ⟨rfl, rfl⟩
    go_wp2_with fail
    refine (hr2 _).mono ?_
    rintro e w1 ⟨rfl, rfl⟩
    by_cases c1 : bk = 46
    · subst c1
      by_cases c2 : f < 1
      · have c2' : (f : Int) < 1 := by omega
        go_wp2_with fail
        go_ret2
        exact ⟨rfl, rfl⟩
      · have c2' : ¬ (f : Int) < 1 := by omega
        by_cases c3 : 6 < f
        · have c3' : (6 : Int) < (f : Int) := by omega
          go_wp2_with fail
          go_ret2
          exact ⟨rfl, rfl⟩
        · have c3' : ¬ (6 : Int) < (f : Int) := by omega
          have c4 : ((k : Int) + 1 + (f : Int) != (l.length : Int)) = true := bne_iff_ne.2 (by omega)
          clear hno
          go_wp2_with fail
          go_ret2
          exact ⟨rfl, rfl⟩
    · have c1' : ((bk : Int) != 46) = true := bne_iff_ne.2 (by omega)
      clear hno
      go_wp2_with fail
      go_ret2
      exact ⟨rfl, rfl⟩
  · have hk2 : ¬ (1 : Int) < (k : Int) := by omega
    clear hz1
    go_enter Tryz.func107, Tryz.ntmps107
    go_wp2_with fail
    refine (hr _).mono ?_
    rintro e w1 ⟨rfl, rfl⟩
    go_wp2_with fail
    refine (hr2 _).mono ?_
    rintro e w1 ⟨rfl, rfl⟩
    by_cases c1 : bk = 46
    · subst c1
      by_cases c2 : f < 1
      · have c2' : (f : Int) < 1 := by omega
        go_wp2_with fail
        go_ret2
        exact ⟨rfl, rfl⟩
      · have c2' : ¬ (f : Int) < 1 := by omega
        by_cases c3 : 6 < f
        · have c3' : (6 : Int) < (f : Int) := by omega
          go_wp2_with fail
          go_ret2
          exact ⟨rfl, rfl⟩
        · have c3' : ¬ (6 : Int) < (f : Int) := by omega
          have c4 : ((k : Int) + 1 + (f : Int) != (l.length : Int)) = true := bne_iff_ne.2 (by omega)
          clear hno
          go_wp2_with fail
          go_ret2
          exact ⟨rfl, rfl⟩
    · have c1' : ((bk : Int) != 46) = true := bne_iff_ne.2 (by omega)
      clear hno
      go_wp2_with fail
      go_ret2
      exact ⟨rfl, rfl⟩
end Go.Proofs.YtecdfnpbcabdnaaGreatDoor
