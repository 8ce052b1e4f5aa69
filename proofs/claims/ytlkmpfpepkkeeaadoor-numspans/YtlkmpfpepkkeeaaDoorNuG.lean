/- The statements' awake; a duration there and back. -/
import Derived.Test.YtlkmpfpepkkeeaaDoorNuE
import Derived.Test.YtlkmpfpepkkeeaaDoorNuB
namespace Go.Proofs.YtlkmpfpepkkeeaaDoor
open Go.RowKit

theorem read_15 : readV [49, 46, 53] = .tuple #[.int .i64 1500000, .int .i64 0] := readV_ok (v := 1500000) (by decide)
theorem span_130 : spanR [49, 104, 51, 48, 109] = .tuple #[.int .i64 5400, .int .i64 0] := spanR_ok (v := 5400) (by decide)
theorem text_m1 : textI (-1) = [45, 48, 46, 48, 48, 48, 48, 48, 49] := by
  have e : textI (-1) = 45 :: textN 1 := rfl
  rw [e]
  unfold textN
  rw [if_neg (by decide), dec_small (by decide)]
  rfl
set_option maxHeartbeats 1000000 in
theorem awake_any (w : World) (hP : PowAt w) : Calls Tryd.prog 9 #[] w fun e w' => e = .returned (.bool true) ∧ Below w.heap.size w w' := by
  have h1 := Read_any [49, 46, 53] (by decide) w
  have h2 := fun wx => ReadSpan_any [49, 104, 51, 48, 109] (by decide) wx
  have h3 := fun wx h => Text_any (-1) (by decide) (by decide) wx h
  rw [read_15] at h1
  rw [span_130] at h2
  rw [text_m1] at h3
  go_enter Tryd.func9, Tryd.ntmps9
  go_wp2_with fail
  refine h1.mono ?_
  rintro e w1 ⟨rfl, b1⟩
  have hP := hP.later b1
  go_wp2_with fail
  refine (h2 _).mono ?_
  rintro e w2 ⟨rfl, rfl⟩
  go_wp2_with fail
  refine (h3 _ hP).mono ?_
  rintro e w3 ⟨rfl, b3⟩
  have b3 := b1.trans (b3.mono b1.size)
  go_wp2_with fail
  go_ret
  exact ⟨rfl, b3⟩
set_option maxHeartbeats 4000000 in
theorem numSpanBack_walk (n : Int) (l : List UInt8) (_hn : (Lit.int .i64 n).wf = true) (hz : l.length ≤ 140737488355328) (w : World) (hP : PowAt w) :
    Calls Tryd.prog 7 #[.int .i64 n, strV l] w fun e w' => e = .returned (.bool true) ∧ Below w.heap.size w w' := by
  have ha := awake_any w hP
  have ht := fun wx h => SpanText_any n wx h
  have hr := fun wx => ReadSpan_any l (by omega) wx
  -- what the second reading says
  have fin : ∃ m e : Int, spanR l = .tuple #[.int .i64 m, .int .i64 e] ∧ ((e = 13 ∧ m = 0) ∨ (e = 0 ∧ 1 ≤ m ∧ m ≤ 604800)) := by
    cases hh : spanN l with
    | none => exact ⟨0, 13, spanR_no hh, .inl ⟨rfl, rfl⟩⟩
    | some v =>
      have := sp_le hh
      exact ⟨v, 0, spanR_ok hh, .inr ⟨rfl, by omega, by omega⟩⟩
  obtain ⟨m, e2, er, hm⟩ := fin
  rw [er] at hr
  clear er
  by_cases h : 1 ≤ n ∧ n ≤ 604800
  · have ev : spanV n = .tuple #[strV (spanT n.toNat), .int .i64 0] := if_pos h
    rw [ev] at ht
    have hb := fun wx => ReadSpan_any (spanT n.toNat) (by
      unfold spanT
      simp only [List.length_append]
      have l1 := prt_len (n.toNat / 86400) 100 (by omega)
      have l2 := prt_len (n.toNat % 86400 / 3600) 104 (by omega)
      have l3 := prt_len (n.toNat % 3600 / 60) 109 (by omega)
      have l4 := prt_len (n.toNat % 60) 115 (by omega)
      omega) wx
    have eb : spanR (spanT n.toNat) = .tuple #[.int .i64 n, .int .i64 0] := by
      rw [spanR_ok (span_back n.toNat (by omega) (by omega))]
      rw [Int.toNat_of_nonneg (by omega)]
    rw [eb] at hb
    obtain ⟨h1, h2⟩ := h
    clear ev eb
    generalize spanT n.toNat = t at *
    go_enter Tryd.func7, Tryd.ntmps7
    go_wp2_with fail
    refine ha.mono ?_
    rintro e w1 ⟨rfl, b1⟩
    have hP := hP.later b1
    go_wp2_with fail
    refine (ht _ hP).mono ?_
    rintro e w2 ⟨rfl, b2⟩
    have b2 := b1.trans (b2.mono b1.size)
    go_wp2_with fail
    refine (hb _).mono ?_
    rintro e w3 ⟨rfl, rfl⟩
    go_wp2_with fail
    refine (hr _).mono ?_
    rintro e w3 ⟨rfl, rfl⟩
    rcases hm with ⟨rfl, rfl⟩ | ⟨rfl, m1, m2⟩
    · go_wp2_with fail
      go_ret
      exact ⟨rfl, b2⟩
    · go_wp2_with fail
      go_ret
      exact ⟨rfl, b2⟩
  · have ev : spanV n = .tuple #[strV [], .int .i64 3] := if_neg h
    rw [ev] at ht
    clear ev
    have hn : (if 1 ≤ n then decide (n ≤ 604800) else false) = false := by
      split
      · rw [decide_eq_false]; omega
      · rfl
    by_cases h1 : 1 ≤ n
    · have h2 : ¬ n ≤ 604800 := by omega
      clear hn h
      go_enter Tryd.func7, Tryd.ntmps7
      go_wp2_with fail
      refine ha.mono ?_
      rintro e w1 ⟨rfl, b1⟩
      have hP := hP.later b1
      go_wp2_with fail
      refine (ht _ hP).mono ?_
      rintro e w2 ⟨rfl, b2⟩
      have b2 := b1.trans (b2.mono b1.size)
      go_wp2_with fail
      refine (hr _).mono ?_
      rintro e w3 ⟨rfl, rfl⟩
      rcases hm with ⟨rfl, rfl⟩ | ⟨rfl, m1, m2⟩
      · go_wp2_with fail
        go_ret
        exact ⟨rfl, b2⟩
      · go_wp2_with fail
        go_ret
        exact ⟨rfl, b2⟩
    · clear hn h
      go_enter Tryd.func7, Tryd.ntmps7
      go_wp2_with fail
      refine ha.mono ?_
      rintro e w1 ⟨rfl, b1⟩
      have hP := hP.later b1
      go_wp2_with fail
      refine (ht _ hP).mono ?_
      rintro e w2 ⟨rfl, b2⟩
      have b2 := b1.trans (b2.mono b1.size)
      go_wp2_with fail
      refine (hr _).mono ?_
      rintro e w3 ⟨rfl, rfl⟩
      rcases hm with ⟨rfl, rfl⟩ | ⟨rfl, m1, m2⟩
      · go_wp2_with fail
        go_ret
        exact ⟨rfl, b2⟩
      · go_wp2_with fail
        go_ret
        exact ⟨rfl, b2⟩
end Go.Proofs.YtlkmpfpepkkeeaaDoor
