/- The document's SpanText (package capstanref10); the statement NumSpans. -/
import Derived.Test.YtlkmpfpepkkeeaaDoorNuY
import Derived.Test.YtlkmpfpepkkeeaaDoorNuG
namespace Go.Proofs.YtlkmpfpepkkeeaaDoor
open Go.RowKit

theorem prt_no (c : Nat) (b : UInt8) (h : c = 0) : prt c b = [] := if_pos h
theorem prt_yes (c : Nat) (b : UInt8) (h : c ≠ 0) : prt c b = Lib.decDigits c ++ [b] := if_neg h
set_option maxHeartbeats 8000000 in
set_option maxRecDepth 100000 in
theorem rSpanText_in (u : Nat) (h1 : 1 ≤ u) (h2 : u ≤ 604800) (w : World) (hP : PowAt w) :
    Calls Tryd.prog 17 #[.int .i64 (u : Nat)] w fun e w' => e = .returned (.tuple #[strV (spanT u), .int .i64 0]) ∧ Below w.heap.size w w' := by
  have f0 := fun wx h => formatInt_any ((u / 86400 : Nat) : Int) (by omega) (by omega) wx h
  rw [Lib.itoa_nonneg, show ((u / 86400 : Nat) : Int) = (u : Int) / 86400 by omega] at f0
  have n0 : (Lib.decDigits (u / 86400)).length ≤ 20 := dec_len _ (by omega)
  have no0 : ¬ (86400 : Int) ≤ (u : Int) → prt (u / 86400) 100 = [] := fun h => prt_no _ _ (by omega)
  have ye0 : (86400 : Int) ≤ (u : Int) → prt (u / 86400) 100 = Lib.decDigits (u / 86400) ++ [100] := fun h => prt_yes _ _ (by omega)
  have f1 := fun wx h => formatInt_any ((u % 86400 / 3600 : Nat) : Int) (by omega) (by omega) wx h
  rw [Lib.itoa_nonneg, show ((u % 86400 / 3600 : Nat) : Int) = (u : Int) % 86400 / 3600 by omega] at f1
  have n1 : (Lib.decDigits (u % 86400 / 3600)).length ≤ 20 := dec_len _ (by omega)
  have no1 : ¬ (3600 : Int) ≤ (u : Int) % 86400 → prt (u % 86400 / 3600) 104 = [] := fun h => prt_no _ _ (by omega)
  have ye1 : (3600 : Int) ≤ (u : Int) % 86400 → prt (u % 86400 / 3600) 104 = Lib.decDigits (u % 86400 / 3600) ++ [104] := fun h => prt_yes _ _ (by omega)
  have f2 := fun wx h => formatInt_any ((u % 3600 / 60 : Nat) : Int) (by omega) (by omega) wx h
  rw [Lib.itoa_nonneg, show ((u % 3600 / 60 : Nat) : Int) = (u : Int) % 3600 / 60 by omega] at f2
  have n2 : (Lib.decDigits (u % 3600 / 60)).length ≤ 20 := dec_len _ (by omega)
  have no2 : ¬ (60 : Int) ≤ (u : Int) % 3600 → prt (u % 3600 / 60) 109 = [] := fun h => prt_no _ _ (by omega)
  have ye2 : (60 : Int) ≤ (u : Int) % 3600 → prt (u % 3600 / 60) 109 = Lib.decDigits (u % 3600 / 60) ++ [109] := fun h => prt_yes _ _ (by omega)
  have f3 := fun wx h => formatInt_any ((u % 60 : Nat) : Int) (by omega) (by omega) wx h
  rw [Lib.itoa_nonneg, show ((u % 60 : Nat) : Int) = (u : Int) % 60 by omega] at f3
  have n3 : (Lib.decDigits (u % 60)).length ≤ 20 := dec_len _ (by omega)
  have no3 : ¬ (0 : Int) < (u : Int) % 60 → prt (u % 60) 115 = [] := fun h => prt_no _ _ (by omega)
  have ye3 : (0 : Int) < (u : Int) % 60 → prt (u % 60) 115 = Lib.decDigits (u % 60) ++ [115] := fun h => prt_yes _ _ (by omega)
  have hR := part_bytes u
  generalize Lib.decDigits (u / 86400) = d0 at *
  generalize prt (u / 86400) 100 = A0 at *
  have a0 := fun wx => add_str d0 [100] (by omega) (by simp) wx
  have m0 : (d0 ++ [100]).length ≤ 21 := by rw [List.length_append, List.length_singleton]; omega
  generalize hp0 : d0 ++ [100] = p0 at *
  clear hp0
  have NO0 : Hid _ := no0
  have YE0 : Hid _ := ye0
  clear no0 ye0
  generalize Lib.decDigits (u % 86400 / 3600) = d1 at *
  generalize prt (u % 86400 / 3600) 104 = A1 at *
  have a1 := fun wx => add_str d1 [104] (by omega) (by simp) wx
  have m1 : (d1 ++ [104]).length ≤ 21 := by rw [List.length_append, List.length_singleton]; omega
  generalize hp1 : d1 ++ [104] = p1 at *
  clear hp1
  have NO1 : Hid _ := no1
  have YE1 : Hid _ := ye1
  clear no1 ye1
  generalize Lib.decDigits (u % 3600 / 60) = d2 at *
  generalize prt (u % 3600 / 60) 109 = A2 at *
  have a2 := fun wx => add_str d2 [109] (by omega) (by simp) wx
  have m2 : (d2 ++ [109]).length ≤ 21 := by rw [List.length_append, List.length_singleton]; omega
  generalize hp2 : d2 ++ [109] = p2 at *
  clear hp2
  have NO2 : Hid _ := no2
  have YE2 : Hid _ := ye2
  clear no2 ye2
  generalize Lib.decDigits (u % 60) = d3 at *
  generalize prt (u % 60) 115 = A3 at *
  have a3 := fun wx => add_str d3 [115] (by omega) (by simp) wx
  have m3 : (d3 ++ [115]).length ≤ 21 := by rw [List.length_append, List.length_singleton]; omega
  generalize hp3 : d3 ++ [115] = p3 at *
  clear hp3
  have NO3 : Hid _ := no3
  have YE3 : Hid _ := ye3
  clear no3 ye3
  generalize spanT u = R at *
  have HR : Hid _ := hR
  clear hR
  have lq0 : 0 ≤ (u : Int) / 86400 ∧ (u : Int) / 86400 < 8 := by omega
  generalize hq0 : (u : Int) / 86400 = q0 at *
  have Hq0 : Hid _ := hq0
  clear hq0
  have lr1 : 0 ≤ (u : Int) % 86400 ∧ (u : Int) % 86400 < 86400 := by omega
  generalize hr1 : (u : Int) % 86400 = r1 at *
  have Hr1 : Hid _ := hr1
  clear hr1
  have lr2 : 0 ≤ (u : Int) % 3600 ∧ (u : Int) % 3600 < 3600 := by omega
  generalize hr2 : (u : Int) % 3600 = r2 at *
  have Hr2 : Hid _ := hr2
  clear hr2
  have lr3 : 0 ≤ (u : Int) % 60 ∧ (u : Int) % 60 < 60 := by omega
  generalize hr3 : (u : Int) % 60 = r3 at *
  have Hr3 : Hid _ := hr3
  clear hr3
  go_enter Tryd.func17, Tryd.ntmps17
  by_cases c0 : (86400 : Int) ≤ (u : Int)
  · have E0 : Hid _ := YE0.out (by omega)
    have t0 := fun wx => add_str [] p0 (by simp) (by omega) wx
    rw [List.nil_append] at t0
    go_wp2_with (first | rw [Hq0.out] | rw [Hr1.out] | rw [Hr2.out] | rw [Hr3.out])
    refine (f0 _ hP).mono ?_
    rintro e w1 ⟨rfl, b0⟩
    have hP := hP.later b0
    clear c0
    by_cases c1 : (3600 : Int) ≤ r1
    · have E1 : Hid _ := YE1.out (by omega)
      have t1 := fun wx => add_str p0 p1 (by omega) (by omega) wx
      have lx1 : (p0 ++ p1).length ≤ 42 := by rw [List.length_append]; omega
      generalize hx1 : p0 ++ p1 = x1 at *
      have X1 : Hid (x1 = p0 ++ p1) := hx1.symm
      clear hx1
      clear f0
      go_wp2_with (first | rw [Hq0.out] | rw [Hr1.out] | rw [Hr2.out] | rw [Hr3.out])
      refine (f1 _ hP).mono ?_
      rintro e w2 ⟨rfl, b1⟩
      have hP := hP.later b1
      have b1 := b0.trans (b1.mono b0.size)
      clear c1
      by_cases c2 : (60 : Int) ≤ r2
      · have E2 : Hid _ := YE2.out (by omega)
        have t2 := fun wx => add_str x1 p2 (by omega) (by omega) wx
        have lx2 : (x1 ++ p2).length ≤ 63 := by rw [List.length_append]; omega
        generalize hx2 : x1 ++ p2 = x2 at *
        have X2 : Hid (x2 = x1 ++ p2) := hx2.symm
        clear hx2
        clear f1
        go_wp2_with (first | rw [Hq0.out] | rw [Hr1.out] | rw [Hr2.out] | rw [Hr3.out])
        refine (f2 _ hP).mono ?_
        rintro e w3 ⟨rfl, b2⟩
        have hP := hP.later b2
        have b2 := b1.trans (b2.mono b1.size)
        clear c2
        by_cases c3 : (0 : Int) < r3
        · have E3 : Hid _ := YE3.out (by omega)
          have t3 := fun wx => add_str x2 p3 (by omega) (by omega) wx
          have lx3 : (x2 ++ p3).length ≤ 84 := by rw [List.length_append]; omega
          generalize hx3 : x2 ++ p3 = x3 at *
          have X3 : Hid (x3 = x2 ++ p3) := hx3.symm
          clear hx3
          clear f2
          go_wp2_with (first | rw [Hq0.out] | rw [Hr1.out] | rw [Hr2.out] | rw [Hr3.out])
          refine (f3 _ hP).mono ?_
          rintro e w4 ⟨rfl, b3⟩
          have hP := hP.later b3
          have b3 := b2.trans (b3.mono b2.size)
          clear c3
          have HF : Hid (R = x3) := (by rw [HR.out, E0.out, E1.out, E2.out, E3.out, X3.out, X2.out, X1.out]; try simp : R = x3)
          clear f3
          go_wp2_with (first | rw [Hq0.out] | rw [Hr1.out] | rw [Hr2.out] | rw [Hr3.out])
          go_ret2
          exact ⟨by rw [HF.out]; rfl, b3⟩
        · have E3 : Hid _ := NO3.out (by omega)
          have HF : Hid (R = x2) := (by rw [HR.out, E0.out, E1.out, E2.out, E3.out, X2.out, X1.out]; try simp : R = x2)
          clear f2 f3
          go_wp2_with (first | rw [Hq0.out] | rw [Hr1.out] | rw [Hr2.out] | rw [Hr3.out])
          go_ret2
          exact ⟨by rw [HF.out]; rfl, b2⟩
      · have E2 : Hid _ := NO2.out (by omega)
        by_cases c3 : (0 : Int) < r3
        · have E3 : Hid _ := YE3.out (by omega)
          have t3 := fun wx => add_str x1 p3 (by omega) (by omega) wx
          have lx3 : (x1 ++ p3).length ≤ 84 := by rw [List.length_append]; omega
          generalize hx3 : x1 ++ p3 = x3 at *
          have X3 : Hid (x3 = x1 ++ p3) := hx3.symm
          clear hx3
          clear f1 f2
          go_wp2_with (first | rw [Hq0.out] | rw [Hr1.out] | rw [Hr2.out] | rw [Hr3.out])
          refine (f3 _ hP).mono ?_
          rintro e w4 ⟨rfl, b3⟩
          have hP := hP.later b3
          have b3 := b1.trans (b3.mono b1.size)
          clear c2 c3
          have HF : Hid (R = x3) := (by rw [HR.out, E0.out, E1.out, E2.out, E3.out, X3.out, X1.out]; try simp : R = x3)
          clear f3
          go_wp2_with (first | rw [Hq0.out] | rw [Hr1.out] | rw [Hr2.out] | rw [Hr3.out])
          go_ret2
          exact ⟨by rw [HF.out]; rfl, b3⟩
        · have E3 : Hid _ := NO3.out (by omega)
          have HF : Hid (R = x1) := (by rw [HR.out, E0.out, E1.out, E2.out, E3.out, X1.out]; try simp : R = x1)
          clear f1 f2 f3
          go_wp2_with (first | rw [Hq0.out] | rw [Hr1.out] | rw [Hr2.out] | rw [Hr3.out])
          go_ret2
          exact ⟨by rw [HF.out]; rfl, b1⟩
    · have E1 : Hid _ := NO1.out (by omega)
      by_cases c2 : (60 : Int) ≤ r2
      · have E2 : Hid _ := YE2.out (by omega)
        have t2 := fun wx => add_str p0 p2 (by omega) (by omega) wx
        have lx2 : (p0 ++ p2).length ≤ 63 := by rw [List.length_append]; omega
        generalize hx2 : p0 ++ p2 = x2 at *
        have X2 : Hid (x2 = p0 ++ p2) := hx2.symm
        clear hx2
        clear f0 f1
        go_wp2_with (first | rw [Hq0.out] | rw [Hr1.out] | rw [Hr2.out] | rw [Hr3.out])
        refine (f2 _ hP).mono ?_
        rintro e w3 ⟨rfl, b2⟩
        have hP := hP.later b2
        have b2 := b0.trans (b2.mono b0.size)
        clear c1 c2
        by_cases c3 : (0 : Int) < r3
        · have E3 : Hid _ := YE3.out (by omega)
          have t3 := fun wx => add_str x2 p3 (by omega) (by omega) wx
          have lx3 : (x2 ++ p3).length ≤ 84 := by rw [List.length_append]; omega
          generalize hx3 : x2 ++ p3 = x3 at *
          have X3 : Hid (x3 = x2 ++ p3) := hx3.symm
          clear hx3
          clear f2
          go_wp2_with (first | rw [Hq0.out] | rw [Hr1.out] | rw [Hr2.out] | rw [Hr3.out])
          refine (f3 _ hP).mono ?_
          rintro e w4 ⟨rfl, b3⟩
          have hP := hP.later b3
          have b3 := b2.trans (b3.mono b2.size)
          clear c3
          have HF : Hid (R = x3) := (by rw [HR.out, E0.out, E1.out, E2.out, E3.out, X3.out, X2.out]; try simp : R = x3)
          clear f3
          go_wp2_with (first | rw [Hq0.out] | rw [Hr1.out] | rw [Hr2.out] | rw [Hr3.out])
          go_ret2
          exact ⟨by rw [HF.out]; rfl, b3⟩
        · have E3 : Hid _ := NO3.out (by omega)
          have HF : Hid (R = x2) := (by rw [HR.out, E0.out, E1.out, E2.out, E3.out, X2.out]; try simp : R = x2)
          clear f2 f3
          go_wp2_with (first | rw [Hq0.out] | rw [Hr1.out] | rw [Hr2.out] | rw [Hr3.out])
          go_ret2
          exact ⟨by rw [HF.out]; rfl, b2⟩
      · have E2 : Hid _ := NO2.out (by omega)
        by_cases c3 : (0 : Int) < r3
        · have E3 : Hid _ := YE3.out (by omega)
          have t3 := fun wx => add_str p0 p3 (by omega) (by omega) wx
          have lx3 : (p0 ++ p3).length ≤ 84 := by rw [List.length_append]; omega
          generalize hx3 : p0 ++ p3 = x3 at *
          have X3 : Hid (x3 = p0 ++ p3) := hx3.symm
          clear hx3
          clear f0 f1 f2
          go_wp2_with (first | rw [Hq0.out] | rw [Hr1.out] | rw [Hr2.out] | rw [Hr3.out])
          refine (f3 _ hP).mono ?_
          rintro e w4 ⟨rfl, b3⟩
          have hP := hP.later b3
          have b3 := b0.trans (b3.mono b0.size)
          clear c1 c2 c3
          have HF : Hid (R = x3) := (by rw [HR.out, E0.out, E1.out, E2.out, E3.out, X3.out]; try simp : R = x3)
          clear f3
          go_wp2_with (first | rw [Hq0.out] | rw [Hr1.out] | rw [Hr2.out] | rw [Hr3.out])
          go_ret2
          exact ⟨by rw [HF.out]; rfl, b3⟩
        · have E3 : Hid _ := NO3.out (by omega)
          have HF : Hid (R = p0) := (by rw [HR.out, E0.out, E1.out, E2.out, E3.out]; try simp : R = p0)
          clear f0 f1 f2 f3
          go_wp2_with (first | rw [Hq0.out] | rw [Hr1.out] | rw [Hr2.out] | rw [Hr3.out])
          go_ret2
          exact ⟨by rw [HF.out]; rfl, b0⟩
  · have E0 : Hid _ := NO0.out (by omega)
    by_cases c1 : (3600 : Int) ≤ r1
    · have E1 : Hid _ := YE1.out (by omega)
      have t1 := fun wx => add_str [] p1 (by simp) (by omega) wx
      rw [List.nil_append] at t1
      clear f0
      go_wp2_with (first | rw [Hq0.out] | rw [Hr1.out] | rw [Hr2.out] | rw [Hr3.out])
      refine (f1 _ hP).mono ?_
      rintro e w2 ⟨rfl, b1⟩
      have hP := hP.later b1
      clear c0 c1
      by_cases c2 : (60 : Int) ≤ r2
      · have E2 : Hid _ := YE2.out (by omega)
        have t2 := fun wx => add_str p1 p2 (by omega) (by omega) wx
        have lx2 : (p1 ++ p2).length ≤ 63 := by rw [List.length_append]; omega
        generalize hx2 : p1 ++ p2 = x2 at *
        have X2 : Hid (x2 = p1 ++ p2) := hx2.symm
        clear hx2
        clear f1
        go_wp2_with (first | rw [Hq0.out] | rw [Hr1.out] | rw [Hr2.out] | rw [Hr3.out])
        refine (f2 _ hP).mono ?_
        rintro e w3 ⟨rfl, b2⟩
        have hP := hP.later b2
        have b2 := b1.trans (b2.mono b1.size)
        clear c2
        by_cases c3 : (0 : Int) < r3
        · have E3 : Hid _ := YE3.out (by omega)
          have t3 := fun wx => add_str x2 p3 (by omega) (by omega) wx
          have lx3 : (x2 ++ p3).length ≤ 84 := by rw [List.length_append]; omega
          generalize hx3 : x2 ++ p3 = x3 at *
          have X3 : Hid (x3 = x2 ++ p3) := hx3.symm
          clear hx3
          clear f2
          go_wp2_with (first | rw [Hq0.out] | rw [Hr1.out] | rw [Hr2.out] | rw [Hr3.out])
          refine (f3 _ hP).mono ?_
          rintro e w4 ⟨rfl, b3⟩
          have hP := hP.later b3
          have b3 := b2.trans (b3.mono b2.size)
          clear c3
          have HF : Hid (R = x3) := (by rw [HR.out, E0.out, E1.out, E2.out, E3.out, X3.out, X2.out]; try simp : R = x3)
          clear f3
          go_wp2_with (first | rw [Hq0.out] | rw [Hr1.out] | rw [Hr2.out] | rw [Hr3.out])
          go_ret2
          exact ⟨by rw [HF.out]; rfl, b3⟩
        · have E3 : Hid _ := NO3.out (by omega)
          have HF : Hid (R = x2) := (by rw [HR.out, E0.out, E1.out, E2.out, E3.out, X2.out]; try simp : R = x2)
          clear f2 f3
          go_wp2_with (first | rw [Hq0.out] | rw [Hr1.out] | rw [Hr2.out] | rw [Hr3.out])
          go_ret2
          exact ⟨by rw [HF.out]; rfl, b2⟩
      · have E2 : Hid _ := NO2.out (by omega)
        by_cases c3 : (0 : Int) < r3
        · have E3 : Hid _ := YE3.out (by omega)
          have t3 := fun wx => add_str p1 p3 (by omega) (by omega) wx
          have lx3 : (p1 ++ p3).length ≤ 84 := by rw [List.length_append]; omega
          generalize hx3 : p1 ++ p3 = x3 at *
          have X3 : Hid (x3 = p1 ++ p3) := hx3.symm
          clear hx3
          clear f1 f2
          go_wp2_with (first | rw [Hq0.out] | rw [Hr1.out] | rw [Hr2.out] | rw [Hr3.out])
          refine (f3 _ hP).mono ?_
          rintro e w4 ⟨rfl, b3⟩
          have hP := hP.later b3
          have b3 := b1.trans (b3.mono b1.size)
          clear c2 c3
          have HF : Hid (R = x3) := (by rw [HR.out, E0.out, E1.out, E2.out, E3.out, X3.out]; try simp : R = x3)
          clear f3
          go_wp2_with (first | rw [Hq0.out] | rw [Hr1.out] | rw [Hr2.out] | rw [Hr3.out])
          go_ret2
          exact ⟨by rw [HF.out]; rfl, b3⟩
        · have E3 : Hid _ := NO3.out (by omega)
          have HF : Hid (R = p1) := (by rw [HR.out, E0.out, E1.out, E2.out, E3.out]; try simp : R = p1)
          clear f1 f2 f3
          go_wp2_with (first | rw [Hq0.out] | rw [Hr1.out] | rw [Hr2.out] | rw [Hr3.out])
          go_ret2
          exact ⟨by rw [HF.out]; rfl, b1⟩
    · have E1 : Hid _ := NO1.out (by omega)
      by_cases c2 : (60 : Int) ≤ r2
      · have E2 : Hid _ := YE2.out (by omega)
        have t2 := fun wx => add_str [] p2 (by simp) (by omega) wx
        rw [List.nil_append] at t2
        clear f0 f1
        go_wp2_with (first | rw [Hq0.out] | rw [Hr1.out] | rw [Hr2.out] | rw [Hr3.out])
        refine (f2 _ hP).mono ?_
        rintro e w3 ⟨rfl, b2⟩
        have hP := hP.later b2
        clear c0 c1 c2
        by_cases c3 : (0 : Int) < r3
        · have E3 : Hid _ := YE3.out (by omega)
          have t3 := fun wx => add_str p2 p3 (by omega) (by omega) wx
          have lx3 : (p2 ++ p3).length ≤ 84 := by rw [List.length_append]; omega
          generalize hx3 : p2 ++ p3 = x3 at *
          have X3 : Hid (x3 = p2 ++ p3) := hx3.symm
          clear hx3
          clear f2
          go_wp2_with (first | rw [Hq0.out] | rw [Hr1.out] | rw [Hr2.out] | rw [Hr3.out])
          refine (f3 _ hP).mono ?_
          rintro e w4 ⟨rfl, b3⟩
          have hP := hP.later b3
          have b3 := b2.trans (b3.mono b2.size)
          clear c3
          have HF : Hid (R = x3) := (by rw [HR.out, E0.out, E1.out, E2.out, E3.out, X3.out]; try simp : R = x3)
          clear f3
          go_wp2_with (first | rw [Hq0.out] | rw [Hr1.out] | rw [Hr2.out] | rw [Hr3.out])
          go_ret2
          exact ⟨by rw [HF.out]; rfl, b3⟩
        · have E3 : Hid _ := NO3.out (by omega)
          have HF : Hid (R = p2) := (by rw [HR.out, E0.out, E1.out, E2.out, E3.out]; try simp : R = p2)
          clear f2 f3
          go_wp2_with (first | rw [Hq0.out] | rw [Hr1.out] | rw [Hr2.out] | rw [Hr3.out])
          go_ret2
          exact ⟨by rw [HF.out]; rfl, b2⟩
      · have E2 : Hid _ := NO2.out (by omega)
        by_cases c3 : (0 : Int) < r3
        · have E3 : Hid _ := YE3.out (by omega)
          have t3 := fun wx => add_str [] p3 (by simp) (by omega) wx
          rw [List.nil_append] at t3
          clear f0 f1 f2
          go_wp2_with (first | rw [Hq0.out] | rw [Hr1.out] | rw [Hr2.out] | rw [Hr3.out])
          refine (f3 _ hP).mono ?_
          rintro e w4 ⟨rfl, b3⟩
          have hP := hP.later b3
          clear c0 c1 c2 c3
          have HF : Hid (R = p3) := (by rw [HR.out, E0.out, E1.out, E2.out, E3.out]; try simp : R = p3)
          clear f3
          go_wp2_with (first | rw [Hq0.out] | rw [Hr1.out] | rw [Hr2.out] | rw [Hr3.out])
          go_ret2
          exact ⟨by rw [HF.out]; rfl, b3⟩
        · have E3 : Hid _ := NO3.out (by omega)
          exfalso
          have := Hr1.out
          have := Hr2.out
          have := Hr3.out
          omega
theorem rSpanText_any (n : Int) (w : World) (hP : PowAt w) :
    Calls Tryd.prog 17 #[.int .i64 n] w fun e w' => e = .returned (spanV n) ∧ Below w.heap.size w w' := by
  by_cases h : 1 ≤ n ∧ n ≤ 604800
  · have ev : spanV n = .tuple #[strV (spanT n.toNat), .int .i64 0] := if_pos h
    rw [ev]
    have e : n = ((n.toNat : Nat) : Int) := by omega
    have := rSpanText_in n.toNat (by omega) (by omega) w hP
    rw [← e] at this
    exact this
  · have ev : spanV n = .tuple #[strV [], .int .i64 3] := if_neg h
    rw [ev]
    clear ev
    by_cases h1 : n < 1
    · go_enter Tryd.func17, Tryd.ntmps17
      go_wp2_with fail
      go_ret2
      exact ⟨rfl, Below.refl _ _⟩
    · have h2 : 604800 < n := by omega
      clear h
      go_enter Tryd.func17, Tryd.ntmps17
      go_wp2_with fail
      go_ret2
      exact ⟨rfl, Below.refl _ _⟩
set_option maxHeartbeats 2000000 in
theorem numSpans_walk (l : List UInt8) (n : Int) (hz : l.length ≤ 140737488355328) (_hn : (Lit.int .i64 n).wf = true) (w : World) (hP : PowAt w) :
    Calls Tryd.prog 5 #[strV l, .int .i64 n] w fun e w' => e = .returned (.bool true) ∧ Below w.heap.size w w' := by
  have ha := awake_any w hP
  have h1 := fun wx => ReadSpan_any l (by omega) wx
  have h2 := fun wx => rReadSpan_any l (by omega) wx
  have h3 := fun wx h => SpanText_any n wx h
  have h4 := fun wx h => rSpanText_any n wx h
  have hv : ∃ m e : Int, spanR l = .tuple #[.int .i64 m, .int .i64 e] := by
    cases hh : spanN l with
    | none => exact ⟨_, _, spanR_no hh⟩
    | some v => exact ⟨_, _, spanR_ok hh⟩
  have ht : ∃ (t : List UInt8) (e : Int), spanV n = .tuple #[strV t, .int .i64 e] := by
    unfold spanV
    split
    · exact ⟨_, _, rfl⟩
    · exact ⟨_, _, rfl⟩
  obtain ⟨m, e, hv⟩ := hv
  obtain ⟨t, e2, ht⟩ := ht
  rw [hv] at h1 h2
  rw [ht] at h3 h4
  clear hv ht
  go_enter Tryd.func5, Tryd.ntmps5
  go_wp2_with fail
  refine ha.mono ?_
  rintro e w1 ⟨rfl, b1⟩
  have hP := hP.later b1
  go_wp2_with fail
  refine (h1 _).mono ?_
  rintro e w2 ⟨rfl, rfl⟩
  go_wp2_with fail
  refine (h2 _).mono ?_
  rintro e w3 ⟨rfl, b3⟩
  have hP := hP.later b3
  have b3 := b1.trans (b3.mono b1.size)
  go_wp2_with fail
  refine (h3 _ hP).mono ?_
  rintro e w4 ⟨rfl, b4⟩
  have hP := hP.later b4
  have b4 := b3.trans (b4.mono b3.size)
  go_wp2_with fail
  refine (h4 _ hP).mono ?_
  rintro e w5 ⟨rfl, b5⟩
  have b5 := b4.trans (b5.mono b4.size)
  go_wp2_with fail
  go_ret
  exact ⟨rfl, b5⟩
end Go.Proofs.YtlkmpfpepkkeeaaDoor
