/- A number there and back. -/
import Derived.Test.YtlkmpfpepkkeeaaDoorNuG
import Derived.ProofKit
import Derived.OpenShut
namespace Go.Proofs.YtlkmpfpepkkeeaaDoor
open Go.RowKit

theorem wf_i64 {n : Int} (h : (Lit.int .i64 n).wf = true) : -9223372036854775808 ≤ n ∧ n ≤ 9223372036854775807 := by
  have := bounds_i64 h
  exact ⟨by omega, by omega⟩
theorem read_tail (l : List UInt8) : ∃ m e : Int, readV l = .tuple #[.int .i64 m, .int .i64 e] ∧ ((e = 13 ∧ m = 0) ∨ (e = 0 ∧ 0 ≤ m ∧ m ≤ 9223372036854775807 ∧ (textI m).length ≤ l.length)) := by
  cases hh : readN l with
  | none => exact ⟨0, 13, readV_no hh, .inl ⟨rfl, rfl⟩⟩
  | some v =>
    refine ⟨v, 0, readV_ok hh, .inr ⟨rfl, by omega, ?_, ?_⟩⟩
    · have : ∀ x, Go.Proofs.YtlkmpfpepkkeeaaDoor.lim x = some v → v < 9223372036854775808 := by
        intro x hx
        unfold lim at hx
        split at hx
        · cases hx; assumption
        · cases hx
      unfold readN at hh
      split at hh
      · have := this _ hh; omega
      · cases hh
    · have e : textI (v : Int) = textN v := by unfold textI; rw [if_neg (by omega)]; simp
      rw [e]
      exact text_short l v hh
theorem read_pos (u : Nat) (h : u < 9223372036854775808) : readV (textN u) = .tuple #[.int .i64 (u : Nat), .int .i64 0] := readV_ok (by rw [read_text]; exact if_pos h)
theorem read_neg (l : List UInt8) : readV (45 :: l) = .tuple #[.int .i64 0, .int .i64 13] := by
  refine readV_no ?_
  rw [read_same]
  unfold readR
  rw [if_pos]
  left
  rfl
theorem read_any_val (l : List UInt8) : ∃ m e : Int, readV l = .tuple #[.int .i64 m, .int .i64 e] := by
  obtain ⟨m, e, h, _⟩ := read_tail l
  exact ⟨m, e, h⟩
theorem text_ne (u : Nat) : textN u ≠ [] := by
  unfold textN
  have := dec_ne (u / 1000000)
  split
  · exact this
  · simp
set_option maxHeartbeats 4000000 in
theorem numBack_walk (n : Int) (l : List UInt8) (hn : (Lit.int .i64 n).wf = true) (hz : l.length ≤ 140737488355328) (w : World) (hP : PowAt w) :
    Calls Tryd.prog 6 #[.int .i64 n, strV l] w fun e w' => e = .returned (.bool true) ∧ Below w.heap.size w w' := by
  obtain ⟨n0, n1⟩ := wf_i64 hn
  have ha := awake_any w hP
  have ht := fun wx h => Text_any n n0 n1 wx h
  have hr := fun wx => Read_any l (by omega) wx
  obtain ⟨m, e2, er, hm⟩ := read_tail l
  rw [er] at hr
  have htm := fun (h : 0 ≤ m ∧ m ≤ 9223372036854775807) wx hP => Text_any m (by omega) h.2 wx hP
  clear er hn
  by_cases hneg : n < 0
  · obtain ⟨u, rfl⟩ : ∃ u : Nat, n = -(u : Int) := ⟨n.natAbs, by omega⟩
    have et : textI (-(u : Int)) = 45 :: textN u := by unfold textI; rw [if_pos hneg]; simp
    rw [et] at ht
    have hl := text_len u (by omega)
    have hb := fun wx => Read_any (45 :: textN u) (by rw [List.length_cons]; omega) wx
    have hb2 := fun wx => Read_any (textN u) (by omega) wx
    rw [read_neg] at hb
    have hs : ∀ wx, (Instr.slice 9 (strV (45 :: textN u)) (some (.int .i64 1)) none none).run Tryd.prog wx = .ok (strV (textN u)) wx := fun wx => slice_l (45 :: textN u) 1 (by rw [List.length_cons]; omega) wx
    have hix : ∀ wx, (Instr.index 9 (strV (45 :: textN u)) (.int .i64 0)).run Tryd.prog wx = .ok (.int .u8 45) wx := fun wx => idx_at (45 :: textN u) 0 (by simp) wx
    have q1 : (45 :: textN u).isEmpty = false := rfl
    have q2 : ¬ (45 :: textN u) = [] := by simp
    have hu := read_pos u
    obtain ⟨m2, e3, er2⟩ := read_any_val (textN u)
    rw [er2] at hb2 hu
    have hmin : u = 9223372036854775808 ∨ (m2 = u ∧ e3 = 0) := by
      by_cases h : u < 9223372036854775808
      · have := hu h
        simp only [Value.tuple.injEq, Array.mk.injEq, List.cons.injEq, Value.int.injEq, true_and, and_true] at this
        exact .inr this
      · exact .inl (by omega)
    clear et er2 hu
    generalize 45 :: textN u = t at *
    generalize textN u = t1 at *
    go_enter Tryd.func6, Tryd.ntmps6
    go_wp2_with fail
    refine ha.mono ?_
    rintro e w1 ⟨rfl, b1⟩
    have hP := hP.later b1
    go_wp2_with fail
    refine (ht _ hP).mono ?_
    rintro e w2 ⟨rfl, b2⟩
    have hP := hP.later b2
    have b2 := b1.trans (b2.mono b1.size)
    go_wp2_with fail
    refine (hb _).mono ?_
    rintro e w3 ⟨rfl, b3⟩
    have hP := hP.later b3
    have b3 := b2.trans (b3.mono b2.size)
    go_wp2_with fail
    refine (hb2 _).mono ?_
    rintro e w4 ⟨rfl, b4⟩
    have hP := hP.later b4
    have b4 := b3.trans (b4.mono b3.size)
    rcases hmin with rfl | ⟨rfl, rfl⟩
    · clear hb hb2 ht ha hs hix
      go_wp2_with fail
      refine (hr _).mono ?_
      rintro e w5 ⟨rfl, b5⟩
      have hP := hP.later b5
      have b5 := b4.trans (b5.mono b4.size)
      rcases hm with ⟨rfl, rfl⟩ | ⟨rfl, m0, m1, ml⟩
      · go_wp2_with fail
        go_ret
        exact ⟨rfl, b5⟩
      · have htm := htm ⟨m0, m1⟩
        have ml2 : ((textI m).length : Int) ≤ (l.length : Int) := by omega
        generalize textI m = tm at *
        go_wp2_with fail
        refine (htm _ hP).mono ?_
        rintro e w6 ⟨rfl, b6⟩
        have b6 := b5.trans (b6.mono b5.size)
        go_wp2_with fail
        go_ret
        exact ⟨rfl, b6⟩
    · clear hb hb2 ht ha hs hix
      by_cases hu : u = 9223372036854775808
      · subst hu
        go_wp2_with fail
        refine (hr _).mono ?_
        rintro e w5 ⟨rfl, b5⟩
        have hP := hP.later b5
        have b5 := b4.trans (b5.mono b4.size)
        rcases hm with ⟨rfl, rfl⟩ | ⟨rfl, m0, m1, ml⟩
        · go_wp2_with fail
          go_ret
          exact ⟨rfl, b5⟩
        · have htm := htm ⟨m0, m1⟩
          have ml2 : ((textI m).length : Int) ≤ (l.length : Int) := by omega
          generalize textI m = tm at *
          go_wp2_with fail
          refine (htm _ hP).mono ?_
          rintro e w6 ⟨rfl, b6⟩
          have b6 := b5.trans (b6.mono b5.size)
          go_wp2_with fail
          go_ret
          exact ⟨rfl, b6⟩
      · have hn2 : -(u : Int) ≠ -9223372036854775808 := by omega
        go_wp2_with fail
        refine (hr _).mono ?_
        rintro e w5 ⟨rfl, b5⟩
        have hP := hP.later b5
        have b5 := b4.trans (b5.mono b4.size)
        rcases hm with ⟨rfl, rfl⟩ | ⟨rfl, m0, m1, ml⟩
        · go_wp2_with fail
          go_ret
          exact ⟨rfl, b5⟩
        · have htm := htm ⟨m0, m1⟩
          have ml2 : ((textI m).length : Int) ≤ (l.length : Int) := by omega
          generalize textI m = tm at *
          go_wp2_with fail
          refine (htm _ hP).mono ?_
          rintro e w6 ⟨rfl, b6⟩
          have b6 := b5.trans (b6.mono b5.size)
          go_wp2_with fail
          go_ret
          exact ⟨rfl, b6⟩
  · obtain ⟨u, rfl⟩ : ∃ u : Nat, n = (u : Int) := ⟨n.toNat, by omega⟩
    have et : textI (u : Int) = textN u := by unfold textI; rw [if_neg hneg]; simp
    rw [et] at ht
    have hl := text_len u (by omega)
    have hb := fun wx => Read_any (textN u) (by omega) wx
    rw [read_pos u (by omega)] at hb
    clear et hneg
    generalize textN u = t at *
    go_enter Tryd.func6, Tryd.ntmps6
    go_wp2_with fail
    refine ha.mono ?_
    rintro e w1 ⟨rfl, b1⟩
    have hP := hP.later b1
    go_wp2_with fail
    refine (ht _ hP).mono ?_
    rintro e w2 ⟨rfl, b2⟩
    have hP := hP.later b2
    have b2 := b1.trans (b2.mono b1.size)
    go_wp2_with fail
    refine (hb _).mono ?_
    rintro e w3 ⟨rfl, b3⟩
    have hP := hP.later b3
    have b3 := b2.trans (b3.mono b2.size)
    go_wp2_with fail
    refine (hr _).mono ?_
    rintro e w5 ⟨rfl, b5⟩
    have hP := hP.later b5
    have b5 := b3.trans (b5.mono b3.size)
    rcases hm with ⟨rfl, rfl⟩ | ⟨rfl, m0, m1, ml⟩
    · go_wp2_with fail
      go_ret
      exact ⟨rfl, b5⟩
    · have htm := htm ⟨m0, m1⟩
      have ml2 : ((textI m).length : Int) ≤ (l.length : Int) := by omega
      generalize textI m = tm at *
      go_wp2_with fail
      refine (htm _ hP).mono ?_
      rintro e w6 ⟨rfl, b6⟩
      have b6 := b5.trans (b6.mono b5.size)
      go_wp2_with fail
      go_ret
      exact ⟨rfl, b6⟩
end Go.Proofs.YtlkmpfpepkkeeaaDoor
