/- Digits behind a point. -/
import Derived.Test.YtlkmpfpepkkeeaaDoorNuH
namespace Go.Proofs.YtlkmpfpepkkeeaaDoor
open Go.RowKit

theorem plc_mod (a b : Nat) (h : a % 1000000 = b % 1000000) : plc a = plc b := by
  unfold plc
  rw [← digs_rem a, ← digs_rem b, h]
theorem text_whole (x : Nat) : textN (x * 1000000) = Lib.decDigits x := by
  unfold textN
  rw [if_pos (by omega), show x * 1000000 / 1000000 = x by omega]
theorem text_part0 : textN 1000000 = [49] := by
  unfold textN
  rw [if_pos (by decide), dec_small (by decide)]
  rfl
theorem text_part (p : Nat) (h0 : p ≠ 0) (h : p < 1000000) : textN (1000000 + p) = 49 :: 46 :: plc p := by
  unfold textN
  rw [if_neg (by omega), show (1000000 + p) / 1000000 = 1 by omega, dec_small (by decide), plc_mod (1000000 + p) p (by omega)]
  rfl
theorem text_sum (x p : Nat) (h0 : p ≠ 0) (h : p < 1000000) : Lib.decDigits x ++ 46 :: plc p = textN (x * 1000000 + p) := by
  unfold textN
  rw [if_neg (by omega), show (x * 1000000 + p) / 1000000 = x by omega, plc_mod (x * 1000000 + p) p (by omega)]
theorem textI_nat (u : Nat) : textI (u : Int) = textN u := by unfold textI; rw [if_neg (by omega)]; simp
theorem read_zero_v (u : Nat) (h : u % 1000000 ≠ 0) (hu : u < 9223372036854775808) : readV (textN u ++ [48]) = if (plc u).length = 6 then .tuple #[.int .i64 0, .int .i64 13] else .tuple #[.int .i64 (u : Nat), .int .i64 0] := by
  have e := read_zero u h
  by_cases h6 : (plc u).length = 6
  · rw [if_pos h6] at e ⊢; exact readV_no e
  · rw [if_neg h6] at e ⊢
    exact readV_ok (by rw [e]; exact if_pos hu)
set_option maxHeartbeats 4000000 in
theorem numPoint_zero (x : Nat) (q : Nat) (hx : x < 4294967296) (hq : q < 4294967296) (hp : q % 1000000 = 0) (w : World) (hP : PowAt w) :
    Calls Tryd.prog 8 #[.int .u32 x, .int .u32 q] w fun e w' => e = .returned (.bool true) ∧ Below w.heap.size w w' := by
  have ha := awake_any w hP
  have ht := fun wx h => Text_any ((x * 1000000 : Nat) : Int) (by omega) (by omega) wx h
  rw [textI_nat, text_whole] at ht
  have hd := fun wx h => Text_any ((1000000 : Nat) : Int) (by omega) (by omega) wx h
  rw [textI_nat, text_part0] at hd
  have hl := dec_len x (by omega)
  have hr := fun wx => Read_any (Lib.decDigits x) (by omega) wx
  have er : readV (Lib.decDigits x) = .tuple #[.int .i64 ((x * 1000000 : Nat) : Int), .int .i64 0] := by rw [← text_whole]; exact read_pos _ (by omega)
  rw [er] at hr
  have hs : ∀ wx, (Instr.slice 9 (strV [49]) (some (.int .i64 1)) none none).run Tryd.prog wx = .ok (strV []) wx := fun wx => slice_l [49] 1 (by decide) wx
  have hix : ∀ wx, (Instr.index 9 (strV [49]) (.int .i64 0)).run Tryd.prog wx = .ok (.int .u8 49) wx := fun wx => idx_at [49] 0 (by decide) wx
  have s1 := fun wx => add_str (Lib.decDigits x) [] (by omega) (by simp) wx
  rw [List.append_nil] at s1
  have eq : (q : Int) % 1000000 = 0 := by omega
  have ex : ((x * 1000000 : Nat) : Int) = (x : Int) * 1000000 := by omega
  rw [ex] at ht hr
  clear er ex hp
  generalize Lib.decDigits x = a at *
  go_enter Tryd.func8, Tryd.ntmps8
  go_wp2_with fail
  refine ha.mono ?_
  rintro e w1 ⟨rfl, b1⟩
  have hP := hP.later b1
  go_wp2_with fail
  refine (ht _ hP).mono ?_
  rintro e w2 ⟨rfl, b2⟩
  have hP := hP.later b2
  have b2 := b1.trans (b2.mono b1.size)
  go_wp2_with fail
  refine (hd _ hP).mono ?_
  rintro e w3 ⟨rfl, b3⟩
  have b3 := b2.trans (b3.mono b2.size)
  go_wp2_with fail
  refine (hr _).mono ?_
  rintro e w4 ⟨rfl, b4⟩
  have b4 := b3.trans (b4.mono b3.size)
  go_wp2_with fail
  go_ret
  exact ⟨rfl, b4⟩
set_option maxHeartbeats 4000000 in
theorem numPoint_some (x : Nat) (q p : Nat) (hx : x < 4294967296) (hq : q < 4294967296) (hp : q % 1000000 = p) (h0 : p ≠ 0) (w : World) (hP : PowAt w) :
    Calls Tryd.prog 8 #[.int .u32 x, .int .u32 q] w fun e w' => e = .returned (.bool true) ∧ Below w.heap.size w w' := by
  have hp1 : p < 1000000 := by omega
  have ha := awake_any w hP
  have ht := fun wx h => Text_any ((x * 1000000 : Nat) : Int) (by omega) (by omega) wx h
  rw [textI_nat, text_whole] at ht
  have hd := fun wx h => Text_any ((1000000 + p : Nat) : Int) (by omega) (by omega) wx h
  rw [textI_nat, text_part p h0 hp1] at hd
  have hl := dec_len x (by omega)
  have hpl := plc_len p
  have hsum := text_sum x p h0 hp1
  have htl := text_len (x * 1000000 + p) (by omega)
  have hr := fun wx => Read_any (textN (x * 1000000 + p)) (by omega) wx
  rw [read_pos (x * 1000000 + p) (by omega)] at hr
  have hr0 := fun wx => Read_any (textN (x * 1000000 + p) ++ [48]) (by rw [List.length_append, List.length_singleton]; omega) wx
  rw [read_zero_v (x * 1000000 + p) (by omega) (by omega), plc_mod (x * 1000000 + p) p (by omega)] at hr0
  have hs : ∀ wx, (Instr.slice 9 (strV (49 :: 46 :: plc p)) (some (.int .i64 1)) none none).run Tryd.prog wx = .ok (strV (46 :: plc p)) wx := fun wx => slice_l (49 :: 46 :: plc p) 1 (by simp) wx
  have hix : ∀ wx, (Instr.index 9 (strV (49 :: 46 :: plc p)) (.int .i64 0)).run Tryd.prog wx = .ok (.int .u8 49) wx := fun wx => idx_at (49 :: 46 :: plc p) 0 (by simp) wx
  have s1 := fun wx => add_str (Lib.decDigits x) (46 :: plc p) (by omega) (by rw [List.length_cons]; omega) wx
  rw [hsum] at s1
  have s2 := fun wx => add_str (textN (x * 1000000 + p)) [48] (by omega) (by simp) wx
  have eq : (q : Int) % 1000000 = (p : Int) := by omega
  have ex : ((x * 1000000 : Nat) : Int) = (x : Int) * 1000000 := by omega
  have ex2 : ((x * 1000000 + p : Nat) : Int) = (x : Int) * 1000000 + (p : Int) := by rw [Int.natCast_add, Int.natCast_mul]; rfl
  have ex3 : ((1000000 + p : Nat) : Int) = 1000000 + (p : Int) := Int.natCast_add 1000000 p
  have hdl : (49 :: 46 :: plc p).length = (plc p).length + 2 := by simp
  have hp0 : ((p : Int) == 0) = false := beq_eq_false_iff_ne.2 (by omega)
  rw [ex] at ht
  rw [ex2] at hr hr0
  rw [ex3] at hd
  clear ex ex2 ex3 hsum hp h0
  generalize Lib.decDigits x = a at *
  generalize textN (x * 1000000 + p) ++ [48] = b0 at *
  generalize textN (x * 1000000 + p) = b at *
  generalize hD : 49 :: 46 :: plc p = D at *
  generalize 46 :: plc p = D1 at *
  have HD : Hid _ := hD
  clear hD
  generalize (plc p).length = k at *
  by_cases h6 : k = 6
  · rw [if_pos h6] at hr0
    have k8 : (D.length : Int) = 8 := by omega
    have HK : Hid _ := hdl
    clear hdl h6
    go_enter Tryd.func8, Tryd.ntmps8
    go_wp2_with fail
    refine ha.mono ?_
    rintro e w1 ⟨rfl, b1⟩
    have hP := hP.later b1
    go_wp2_with fail
    refine (ht _ hP).mono ?_
    rintro e w2 ⟨rfl, b2⟩
    have hP := hP.later b2
    have b2 := b1.trans (b2.mono b1.size)
    go_wp2_with fail
    refine (hd _ hP).mono ?_
    rintro e w3 ⟨rfl, b3⟩
    have b3 := b2.trans (b3.mono b2.size)
    go_wp2_with fail
    refine (hr _).mono ?_
    rintro e w4 ⟨rfl, b4⟩
    have b4 := b3.trans (b4.mono b3.size)
    go_wp2_with fail
    refine (hr0 _).mono ?_
    rintro e w5 ⟨rfl, b5⟩
    have b5 := b4.trans (b5.mono b4.size)
    go_wp2_with fail
    go_ret
    exact ⟨rfl, b5⟩
  · rw [if_neg h6] at hr0
    have k8 : ((D.length : Int) == 8) = false := beq_eq_false_iff_ne.2 (by omega)
    have k0 : ((D.length : Int) == 0) = false := beq_eq_false_iff_ne.2 (by omega)
    have HK : Hid _ := hdl
    clear hdl h6
    go_enter Tryd.func8, Tryd.ntmps8
    go_wp2_with fail
    refine ha.mono ?_
    rintro e w1 ⟨rfl, b1⟩
    have hP := hP.later b1
    go_wp2_with fail
    refine (ht _ hP).mono ?_
    rintro e w2 ⟨rfl, b2⟩
    have hP := hP.later b2
    have b2 := b1.trans (b2.mono b1.size)
    go_wp2_with fail
    refine (hd _ hP).mono ?_
    rintro e w3 ⟨rfl, b3⟩
    have b3 := b2.trans (b3.mono b2.size)
    go_wp2_with fail
    refine (hr _).mono ?_
    rintro e w4 ⟨rfl, b4⟩
    have b4 := b3.trans (b4.mono b3.size)
    go_wp2_with fail
    refine (hr0 _).mono ?_
    rintro e w5 ⟨rfl, b5⟩
    have b5 := b4.trans (b5.mono b4.size)
    go_wp2_with fail
    go_ret
    exact ⟨rfl, b5⟩
theorem numPoint_walk (x q : Int) (hx : (Lit.int .u32 x).wf = true) (hq : (Lit.int .u32 q).wf = true) (w : World) (hP : PowAt w) :
    Calls Tryd.prog 8 #[.int .u32 x, .int .u32 q] w fun e w' => e = .returned (.bool true) ∧ Below w.heap.size w w' := by
  have bx := bounds_u32 hx
  have bq := bounds_u32 hq
  obtain ⟨a, rfl⟩ : ∃ a : Nat, x = a := ⟨x.toNat, by omega⟩
  obtain ⟨b, rfl⟩ : ∃ b : Nat, q = b := ⟨q.toNat, by omega⟩
  by_cases h : b % 1000000 = 0
  · exact numPoint_zero a b (by omega) (by omega) h w hP
  · exact numPoint_some a b _ (by omega) (by omega) rfl h w hP
end Go.Proofs.YtlkmpfpepkkeeaaDoor
