/- Package num: durations. -/
import Derived.Test.YtlkmpfpepkkeeaaDoorNuC
namespace Go.Proofs.YtlkmpfpepkkeeaaDoor
open Go.RowKit Go.Lib

def partV (n nx : Nat) : Value := match part n nx with
  | some j => .tuple #[.int .i64 (wrt j : Nat), .int .i64 (wrt (j + 1) : Nat)]
  | none => .tuple #[.int .i64 0, .int .i64 0]
theorem partOf_any (n nx : Nat) (hx : nx ≤ 4) (w : World) :
    Calls Tryd.prog 27 #[.int .u8 (n : Nat), .int .i64 (wrt nx : Nat)] w fun e w' => e = .returned (partV n nx) ∧ w = w' := by
  have h0 : partV n 0 = if n = 100 then .tuple #[.int .i64 86400, .int .i64 3600] else partV n 1 := by
    by_cases h : n = 100
    · subst h; rfl
    · rw [if_neg h]; unfold partV; rw [part_miss n 0 (by decide) h]
  have h1 : partV n 1 = if n = 104 then .tuple #[.int .i64 3600, .int .i64 60] else partV n 2 := by
    by_cases h : n = 104
    · subst h; rfl
    · rw [if_neg h]; unfold partV; rw [part_miss n 1 (by decide) h]
  have h2 : partV n 2 = if n = 109 then .tuple #[.int .i64 60, .int .i64 1] else partV n 3 := by
    by_cases h : n = 109
    · subst h; rfl
    · rw [if_neg h]; unfold partV; rw [part_miss n 2 (by decide) h]
  have h3 : partV n 3 = if n = 115 then .tuple #[.int .i64 1, .int .i64 0] else partV n 4 := by
    by_cases h : n = 115
    · subst h; rfl
    · rw [if_neg h]; unfold partV; rw [part_miss n 3 (by decide) h]
  have h4 : partV n 4 = .tuple #[.int .i64 0, .int .i64 0] := by unfold partV; rw [part_four n 4 (by decide)]
  rw [h4] at h3
  rw [h3] at h2
  rw [h2] at h1
  rw [h1] at h0
  rcases (show nx = 0 ∨ nx = 1 ∨ nx = 2 ∨ nx = 3 ∨ nx = 4 by omega) with rfl | rfl | rfl | rfl | rfl
  · generalize partV n 0 = v at *
    have HV : Hid _ := h0
    clear h0 h1 h2 h3 h4 hx
    simp only [wrt]
    go_enter Tryd.func27, Tryd.ntmps27
    go_wp2_with fail
    all_goals
      go_ret2
      refine ⟨?_, rfl⟩
      rw [HV.out]
      simp only [beq_iff_eq, beq_eq_false_iff_ne, ne_eq] at *
      repeat first | rw [if_pos (by omega)] | rw [if_neg (by omega)]
      rfl
  · generalize partV n 1 = v at *
    have HV : Hid _ := h1
    clear h0 h1 h2 h3 h4 hx
    simp only [wrt]
    go_enter Tryd.func27, Tryd.ntmps27
    go_wp2_with fail
    all_goals
      go_ret2
      refine ⟨?_, rfl⟩
      rw [HV.out]
      simp only [beq_iff_eq, beq_eq_false_iff_ne, ne_eq] at *
      repeat first | rw [if_pos (by omega)] | rw [if_neg (by omega)]
      rfl
  · generalize partV n 2 = v at *
    have HV : Hid _ := h2
    clear h0 h1 h2 h3 h4 hx
    simp only [wrt]
    go_enter Tryd.func27, Tryd.ntmps27
    go_wp2_with fail
    all_goals
      go_ret2
      refine ⟨?_, rfl⟩
      rw [HV.out]
      simp only [beq_iff_eq, beq_eq_false_iff_ne, ne_eq] at *
      repeat first | rw [if_pos (by omega)] | rw [if_neg (by omega)]
      rfl
  · generalize partV n 3 = v at *
    have HV : Hid _ := h3
    clear h0 h1 h2 h3 h4 hx
    simp only [wrt]
    go_enter Tryd.func27, Tryd.ntmps27
    go_wp2_with fail
    all_goals
      go_ret2
      refine ⟨?_, rfl⟩
      rw [HV.out]
      simp only [beq_iff_eq, beq_eq_false_iff_ne, ne_eq] at *
      repeat first | rw [if_pos (by omega)] | rw [if_neg (by omega)]
      rfl
  · rw [h4]
    clear h0 h1 h2 h3 h4 hx
    simp only [wrt]
    go_enter Tryd.func27, Tryd.ntmps27
    go_wp2_with fail
    go_ret2
    exact ⟨rfl, rfl⟩
theorem partText_any (c : Nat) (b : UInt8) (hc : c < 1000000) (w : World) (hP : PowAt w) :
    Calls Tryd.prog 29 #[.int .i64 (c : Nat), .string ⟨#[b]⟩] w fun e w' => e = .returned (strV (prt c b)) ∧ Below w.heap.size w w' := by
  have f := formatInt_any c (by omega) (by omega) w hP
  rw [itoa_nonneg] at f
  have l1 := dec_len c (by omega)
  have s1 := fun wx => add_str (decDigits c) [b] (by omega) (by simp) wx
  have ep : prt c b = if c = 0 then [] else decDigits c ++ [b] := rfl
  by_cases h : c = 0
  · rw [if_pos h] at ep
    rw [ep]
    subst h
    clear f l1 s1 ep
    go_enter Tryd.func29, Tryd.ntmps29
    go_wp2_with fail
    go_ret
    exact ⟨rfl, Below.refl _ _⟩
  · rw [if_neg h] at ep
    rw [ep]
    have k1 : ((c : Int) == 0) = false := beq_eq_false_iff_ne.2 (by omega)
    clear ep
    generalize decDigits c ++ [b] = all at *
    generalize decDigits c = d at *
    go_enter Tryd.func29, Tryd.ntmps29
    go_wp2_with fail
    refine f.mono ?_
    rintro e w1 ⟨rfl, hb⟩
    go_wp2_with fail
    go_ret
    exact ⟨rfl, hb⟩
theorem part_bytes (n : Nat) : spanT n = (prt (n / 86400) 100 ++ prt (n % 86400 / 3600) 104) ++ prt (n % 3600 / 60) 109 ++ prt (n % 60) 115 := rfl
/-- What SpanText answers. -/
def spanV (n : Int) : Value := if 1 ≤ n ∧ n ≤ 604800 then .tuple #[strV (spanT n.toNat), .int .i64 0] else .tuple #[strV [], .int .i64 3]
set_option maxHeartbeats 2000000 in
theorem SpanText_any (n : Int) (w : World) (hP : PowAt w) :
    Calls Tryd.prog 16 #[.int .i64 n] w fun e w' => e = .returned (spanV n) ∧ Below w.heap.size w w' := by
  by_cases h : 1 ≤ n ∧ n ≤ 604800
  · have ev : spanV n = .tuple #[strV (spanT n.toNat), .int .i64 0] := if_pos h
    rw [ev]
    clear ev
    obtain ⟨u, rfl⟩ : ∃ u : Nat, n = u := ⟨n.toNat, by omega⟩
    rw [Int.toNat_natCast]
    obtain ⟨h1, h2⟩ := h
    have p1 := fun wx h => partText_any (u / 86400) 100 (by omega) wx h
    have p2 := fun wx h => partText_any (u % 86400 / 3600) 104 (by omega) wx h
    have p3 := fun wx h => partText_any (u % 3600 / 60) 109 (by omega) wx h
    have p4 := fun wx h => partText_any (u % 60) 115 (by omega) wx h
    have l1 := prt_len (u / 86400) 100 (by omega)
    have l2 := prt_len (u % 86400 / 3600) 104 (by omega)
    have l3 := prt_len (u % 3600 / 60) 109 (by omega)
    have l4 := prt_len (u % 60) 115 (by omega)
    rw [part_bytes]
    have e1 : (u : Int) / 86400 = ((u / 86400 : Nat) : Int) := by omega
    have e2 : (u : Int) % 86400 / 3600 = ((u % 86400 / 3600 : Nat) : Int) := by omega
    have e3 : (u : Int) % 3600 / 60 = ((u % 3600 / 60 : Nat) : Int) := by omega
    have e4 : (u : Int) % 60 = ((u % 60 : Nat) : Int) := by omega
    rw [← e1] at p1
    rw [← e2] at p2
    rw [← e3] at p3
    rw [← e4] at p4
    clear e1 e2 e3 e4
    generalize prt (u / 86400) 100 = a at *
    generalize prt (u % 86400 / 3600) 104 = b at *
    generalize prt (u % 3600 / 60) 109 = c at *
    generalize prt (u % 60) 115 = d at *
    have s1 := fun wx => add_str a b (by omega) (by omega) wx
    have s2 := fun wx => add_str (a ++ b) c (by rw [List.length_append]; omega) (by omega) wx
    have s3 := fun wx => add_str (a ++ b ++ c) d (by rw [List.length_append, List.length_append]; omega) (by omega) wx
    generalize a ++ b ++ c ++ d = abcd at *
    generalize a ++ b ++ c = abc at *
    generalize a ++ b = ab at *
    go_enter Tryd.func16, Tryd.ntmps16
    go_wp2_with fail
    refine (p1 _ hP).mono ?_
    rintro e w1 ⟨rfl, b1⟩
    have hP := hP.later b1
    go_wp2_with fail
    refine (p2 _ hP).mono ?_
    rintro e w2 ⟨rfl, b2⟩
    have hP := hP.later b2
    have b2 := b1.trans (b2.mono b1.size)
    go_wp2_with fail
    refine (p3 _ hP).mono ?_
    rintro e w3 ⟨rfl, b3⟩
    have hP := hP.later b3
    have b3 := b2.trans (b3.mono b2.size)
    go_wp2_with fail
    refine (p4 _ hP).mono ?_
    rintro e w4 ⟨rfl, b4⟩
    have b4 := b3.trans (b4.mono b3.size)
    go_wp2_with fail
    go_ret2
    exact ⟨rfl, b4⟩
  · have ev : spanV n = .tuple #[strV [], .int .i64 3] := if_neg h
    rw [ev]
    clear ev
    by_cases h1 : n < 1
    · go_enter Tryd.func16, Tryd.ntmps16
      go_wp2_with fail
      go_ret2
      exact ⟨rfl, Below.refl _ _⟩
    · have h2 : 604800 < n := by omega
      clear h
      go_enter Tryd.func16, Tryd.ntmps16
      go_wp2_with fail
      go_ret2
      exact ⟨rfl, Below.refl _ _⟩
end Go.Proofs.YtlkmpfpepkkeeaaDoor
