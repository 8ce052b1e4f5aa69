/- Package num: Text. -/
import Derived.Test.YtlkmpfpepkkeeaaDoorShelfR
import Derived.Test.YtlkmpfpepkkeeaaDoorNuF
namespace Go.Proofs.YtlkmpfpepkkeeaaDoor
open Go.RowKit Go.Lib

theorem add_str (x y : List UInt8) (hx : x.length ≤ 1000) (hy : y.length ≤ 1000) (w : World) : (Op.stringOp .add ⟨x.toArray⟩ ⟨y.toArray⟩).run Tryd.prog w = .ok (strV (x ++ y)) w := by
  have h := run_string_add_sum (P := Tryd.prog) w ⟨x.toArray⟩ ⟨y.toArray⟩ (by
    have e1 : (ByteArray.mk x.toArray).size = x.length := by simp [ByteArray.size]
    have e2 : (ByteArray.mk y.toArray).size = y.length := by simp [ByteArray.size]
    omega)
  rw [h]
  congr 2
theorem trim_any (l : List UInt8) (hz : l.length ≤ 1000) (w : World) : Calls Tryd.prog 33 #[strV l, .string ⟨#[48]⟩] w fun e w' => e = .returned (strV (trimZ l)) ∧ w' = w :=
  Go.Proofs.Tryd.strings_TrimRight_one ⟨l.toArray⟩ 48 (by decide) w (by simp [ByteArray.size]; omega)
theorem dec_len (u : Nat) (h : u < 18446744073709551616) : (decDigits u).length ≤ 20 := by rw [decDigits_length]; exact Lib.nDigits_le20 u h
theorem digs_rem (u : Nat) : digsN 6 (u % 1000000) = digsN 6 u := by
  simp only [digsN, List.nil_append]
  have f : ∀ d : Nat, d = 1 ∨ d = 10 ∨ d = 100 ∨ d = 1000 ∨ d = 10000 ∨ d = 100000 → u % 1000000 / d % 10 = u / d % 10 := by
    rintro d (rfl | rfl | rfl | rfl | rfl | rfl) <;> omega
  simp only [Nat.div_div_eq_div_mul]
  rw [f 10 (by omega), f (10 * 10) (by omega), f (10 * 10 * 10) (by omega), f (10 * 10 * 10 * 10) (by omega), f (10 * 10 * 10 * 10 * 10) (by omega), show u % 1000000 % 10 = u % 10 by omega]
theorem text_len (u : Nat) (h : u < 18446744073709551616) : (textN u).length ≤ 30 := by
  unfold textN
  have h1 := dec_len (u / 1000000) (by omega)
  have h2 := plc_len u
  split
  · omega
  · rw [List.length_append, List.length_cons]; omega
set_option maxHeartbeats 1000000 in
theorem sizeText_any (u : Nat) (h : u < 18446744073709551616) (w : World) (hP : PowAt w) :
    Calls Tryd.prog 24 #[.int .u64 u] w fun e w' => e = .returned (strV (textN u)) ∧ Below w.heap.size w w' := by
  have f1 := formatUint_any (u / 1000000) (by omega) w hP
  have f2 := fun wx hP => formatUint_any (1000000 + u % 1000000) (by omega) wx hP
  have l1 := dec_len (u / 1000000) (by omega)
  have hl := plc_len u
  rw [one_digs (u % 1000000) (by omega), digs_rem] at f2
  have hD : (digsN 6 u).length = 6 := digs_len 6 u
  have ht := fun wx => trim_any (digsN 6 u) (by omega) wx
  change ∀ wx, Calls Tryd.prog 33 #[strV (digsN 6 u), .string ⟨#[48]⟩] wx fun e w' => e = .returned (strV (plc u)) ∧ w' = wx at ht
  have hs : ∀ wx, (Instr.slice 9 (strV (49 :: digsN 6 u)) (some (.int .i64 1)) none none).run Tryd.prog wx = .ok (strV (digsN 6 u)) wx := fun wx => slice_l (49 :: digsN 6 u) 1 (by rw [List.length_cons]; omega) wx
  have et : textN u = if u % 1000000 = 0 then decDigits (u / 1000000) else decDigits (u / 1000000) ++ 46 :: plc u := rfl
  have s1 := fun wx => add_str (decDigits (u / 1000000)) [46] (by omega) (by simp) wx
  have s2 := fun wx => add_str (decDigits (u / 1000000) ++ [46]) (plc u) (by rw [List.length_append]; simp; omega) (by omega) wx
  rw [List.append_assoc, List.singleton_append] at s2
  generalize digsN 6 u = D at *
  generalize plc u = p at *
  generalize decDigits (u / 1000000) = W at *
  generalize textN u = t at *
  generalize hall : W ++ 46 :: p = all at *
  generalize W ++ [46] = W1 at *
  have eq : (u : Int) / 1000000 = ((u / 1000000 : Nat) : Int) := by omega
  have em : (u : Int) % 1000000 = ((u % 1000000 : Nat) : Int) := by omega
  have b1 : u % 1000000 < 1000000 := by omega
  by_cases h0 : u % 1000000 = 0
  · rw [if_pos h0] at et
    rw [et]
    replace em : (u : Int) % 1000000 = 0 := by omega
    have HE : Hid _ := eq
    have HF : Hid _ := em
    clear et s1 s2 hs ht f2 b1 hall hD eq em h0
    generalize u / 1000000 = q at *
    go_enter Tryd.func24, Tryd.ntmps24
    go_wp2_with (simp only [HE.out])
    refine f1.mono ?_
    rintro e w1 ⟨rfl, hb⟩
    go_wp2_with (simp only [HF.out])
    go_ret
    exact ⟨rfl, hb⟩
  · rw [if_neg h0] at et
    rw [et]
    have hr : ¬ ((u % 1000000 : Nat) : Int) = 0 := by omega
    have HE : Hid _ := eq
    have HF : Hid _ := em
    clear et hall hD eq em h0
    generalize u / 1000000 = q at *
    generalize u % 1000000 = r at *
    rw [show ((1000000 + r : Nat) : Int) = 1000000 + (r : Int) by omega] at f2
    go_enter Tryd.func24, Tryd.ntmps24
    go_wp2_with (simp only [HE.out])
    refine f1.mono ?_
    rintro e w1 ⟨rfl, hb⟩
    have hP1 := hP.later hb
    go_wp2_with (simp only [HF.out])
    refine (f2 _ hP1).mono ?_
    rintro e w2 ⟨rfl, hb2⟩
    have hb3 := hb.trans (hb2.mono hb.size)
    go_wp2_with fail
    refine (ht _).mono ?_
    rintro e w3 ⟨rfl, rfl⟩
    go_wp2_with fail
    go_ret
    exact ⟨rfl, hb3⟩
/-- The text of an int64. -/
def textI (n : Int) : List UInt8 := if n < 0 then 45 :: textN n.natAbs else textN n.toNat
theorem Text_any (n : Int) (h0 : -9223372036854775808 ≤ n) (h1 : n ≤ 9223372036854775807) (w : World) (hP : PowAt w) :
    Calls Tryd.prog 12 #[.int .i64 n] w fun e w' => e = .returned (strV (textI n)) ∧ Below w.heap.size w w' := by
  by_cases hn : n < 0
  · obtain ⟨u, rfl⟩ : ∃ u : Nat, n = -(u : Int) := ⟨n.natAbs, by omega⟩
    have et : textI (-(u : Int)) = 45 :: textN u := by unfold textI; rw [if_pos hn]; simp
    rw [et]
    have hs := sizeText_any u (by omega) w hP
    have hl := text_len u (by omega)
    have hwr : IntKind.u64.wrap (-IntKind.u64.wrap (-(u : Int))) = (u : Int) := by rw [IntKind.wrap_u64, IntKind.wrap_u64]; omega
    have s1 := fun wx => add_str [45] (textN u) (by simp) (by omega) wx
    rw [List.singleton_append] at s1
    generalize textN u = t at *
    generalize 45 :: t = all at *
    clear et
    go_enter Tryd.func12, Tryd.ntmps12
    go_wp2_with fail
    refine hs.mono ?_
    rintro e w1 ⟨rfl, hb⟩
    go_wp2_with fail
    go_ret
    exact ⟨rfl, hb⟩
  · obtain ⟨u, rfl⟩ : ∃ u : Nat, n = (u : Int) := ⟨n.toNat, by omega⟩
    have et : textI (u : Int) = textN u := by unfold textI; rw [if_neg hn]; simp
    rw [et]
    have hs := sizeText_any u (by omega) w hP
    generalize textN u = t at *
    clear et
    go_enter Tryd.func12, Tryd.ntmps12
    go_wp2_with fail
    refine hs.mono ?_
    rintro e w1 ⟨rfl, hb⟩
    go_wp2_with fail
    go_ret
    exact ⟨rfl, hb⟩
end Go.Proofs.YtlkmpfpepkkeeaaDoor
