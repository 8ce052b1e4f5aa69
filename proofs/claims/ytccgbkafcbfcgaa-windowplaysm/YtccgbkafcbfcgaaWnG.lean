/- Windows: right terms, New. -/
import Derived.Test.YtccgbkafcbfcgaaWnF
namespace Go.Proofs.Ytccgbkafcbfcgaa
open Go.RowKit

/-- Terms as a value. -/
def tv (m a s p : Int) : Value := .agg #[.int .i64 m, .int .i64 a, .int .i64 s, .int .i64 p]
/-- The terms are right. -/
def RightT (m a s p : Int) : Prop := 0 ≤ m ∧ 1 ≤ a ∧ a ≤ 6 ∧ 1 ≤ s ∧ s ≤ 604800 ∧ (a = 6 → 1 ≤ p ∧ p ≤ 100000000) ∧ (a ≠ 6 → p = 0)
/-- The same, told. -/
def rightB (m a s p : Int) : Bool := decide (0 ≤ m ∧ 1 ≤ a ∧ a ≤ 6 ∧ 1 ≤ s ∧ s ≤ 604800 ∧ (a = 6 → 1 ≤ p ∧ p ≤ 100000000) ∧ (a ≠ 6 → p = 0))
theorem rightB_yes {m a s p : Int} (h : RightT m a s p) : rightB m a s p = true := decide_eq_true h
theorem rightB_no {m a s p : Int} (h : ¬ RightT m a s p) : rightB m a s p = false := decide_eq_false h
set_option maxRecDepth 20000 in
set_option maxHeartbeats 1000000 in
theorem wRight (m a s p : Int) (w : World) :
    Calls Try.prog 11 #[tv m a s p] w fun e w' => e = .returned (.bool (rightB m a s p)) ∧ Below w.heap.size w w' := by
  obtain ⟨hR, hB⟩ := one_box w 23 [.int .i64 m, .int .i64 a, .int .i64 s, .int .i64 p]
  have HB := hid hB
  clear hB hR
  generalize hx : rightB m a s p = x
  have HX := hid hx
  clear hx
  simp only [tv]
  by_cases h1 : m < 0 ∨ s < 1 ∨ 604800 < s
  · have e1 : x = false := by rw [← HX.out]; exact rightB_no (fun ⟨r1, r2, r3, r4, r5, r6, r7⟩ => by omega)
    subst e1
    rcases h1 with h1 | h1 | h1
    · go_enter Try.func11, Try.ntmps11
      go_wp2_with fail
      go_ret
      exact ⟨rfl, HB.out⟩
    · by_cases h2 : m < 0
      all_goals (
        go_enter Try.func11, Try.ntmps11
        go_wp2_with fail
        go_ret
        exact ⟨rfl, HB.out⟩)
    · have h3 : ¬ s < 1 := by omega
      by_cases h2 : m < 0
      all_goals (
        go_enter Try.func11, Try.ntmps11
        go_wp2_with fail
        go_ret
        exact ⟨rfl, HB.out⟩)
  · have k1 : ¬ m < 0 := by omega
    have k2 : ¬ s < 1 := by omega
    have k3 : ¬ 604800 < s := by omega
    clear h1
    by_cases h4 : a = 6
    · subst h4
      by_cases h5 : 1 ≤ p
      · by_cases h6 : p ≤ 100000000
        · have e1 : x = true := by rw [← HX.out]; exact rightB_yes ⟨by omega, by omega, by omega, by omega, by omega, fun _ => by omega, fun _ => by omega⟩
          subst e1
          go_enter Try.func11, Try.ntmps11
          go_wp2_with fail
          go_ret
          exact ⟨rfl, HB.out⟩
        · have e1 : x = false := by rw [← HX.out]; exact rightB_no (fun ⟨r1, r2, r3, r4, r5, r6, r7⟩ => by omega)
          subst e1
          go_enter Try.func11, Try.ntmps11
          go_wp2_with fail
          go_ret
          exact ⟨rfl, HB.out⟩
      · have e1 : x = false := by rw [← HX.out]; exact rightB_no (fun ⟨r1, r2, r3, r4, r5, r6, r7⟩ => by omega)
        subst e1
        go_enter Try.func11, Try.ntmps11
        go_wp2_with fail
        go_ret
        exact ⟨rfl, HB.out⟩
    · have h4' : (a == 6) = false := by simpa using h4
      by_cases h5 : 1 ≤ a
      · by_cases h6 : a < 6
        · by_cases h7 : p = 0
          · have e1 : x = true := by rw [← HX.out]; exact rightB_yes ⟨by omega, by omega, by omega, by omega, by omega, fun _ => by omega, fun _ => by omega⟩
            subst e1
            subst h7
            go_enter Try.func11, Try.ntmps11
            go_wp2_with fail
            go_ret
            exact ⟨rfl, HB.out⟩
          · have e1 : x = false := by rw [← HX.out]; exact rightB_no (fun ⟨r1, r2, r3, r4, r5, r6, r7⟩ => by omega)
            subst e1
            have h7' : (p == 0) = false := by simpa using h7
            clear h7
            go_enter Try.func11, Try.ntmps11
            go_wp2_with fail
            go_ret
            exact ⟨rfl, HB.out⟩
        · have e1 : x = false := by rw [← HX.out]; exact rightB_no (fun ⟨r1, r2, r3, r4, r5, r6, r7⟩ => by omega)
          subst e1
          go_enter Try.func11, Try.ntmps11
          go_wp2_with fail
          go_ret
          exact ⟨rfl, HB.out⟩
      · have e1 : x = false := by rw [← HX.out]; exact rightB_no (fun ⟨r1, r2, r3, r4, r5, r6, r7⟩ => by omega)
        subst e1
        go_enter Try.func11, Try.ntmps11
        go_wp2_with fail
        go_ret
        exact ⟨rfl, HB.out⟩
/-- A new window: all of its blocks are new. -/
def NewWin (w : World) (a s p : Int) (e : Ending) (w' : World) : Prop := ∃ b F, e = .returned (.tuple #[.pointer (some ⟨b, 0, none⟩), .int .i64 0]) ∧ Win w' b F a s p 0 false [] ∧ (∀ i, i ∈ F → w.heap.size ≤ i) ∧ Below w.heap.size w w'
set_option maxRecDepth 20000 in
set_option maxHeartbeats 1000000 in
theorem wNew_no (m a s p : Int) (w : World) (h : ¬ RightT m a s p) :
    Calls Try.prog 9 #[tv m a s p] w fun e w' => e = .returned (.tuple #[.pointer none, .int .i64 3]) ∧ Below w.heap.size w w' := by
  obtain ⟨hR, hB⟩ := one_box w 23 [.int .i64 m, .int .i64 a, .int .i64 s, .int .i64 p]
  have HB := hid hB
  obtain ⟨d0, d1, d2, d3, -, -, -, -⟩ := hR.four
  have hd : rightB m a s p = false := rightB_no h
  clear h hB hR
  obtain ⟨W, hW⟩ : ∃ W, W = w.alloc (.cells #[.int .i64 m, .int .i64 a, .int .i64 s, .int .i64 p] 23) := ⟨_, rfl⟩
  have HC := hid (wRight m a s p W)
  rw [hd] at HC
  clear hd
  simp only [tv] at HC ⊢
  rw [← hW] at d0 d1 d2 d3 HB
  go_enter Try.func9, Try.ntmps9
  go_upto_region 1 with fail
  rw [← hW]
  clear hW
  go_wp2_with fail
  refine Calls.mono HC.out ?_
  rintro e w1 ⟨rfl, hb1⟩
  have H1 := hid hb1
  clear hb1
  go_wp2_with fail
  go_ret2
  exact ⟨rfl, HB.out.trans (H1.out.mono HB.out.size)⟩
theorem win_made {w4 w5 : World} {b r : Nat} {A : List Nat} {sp mp op : Option Addr} {a s p : Int} (hx5 : Box w5 b [.pointer (some ⟨r, 0, none⟩), .int .i64 a, .int .i64 s, .int .i64 p, .int .i64 0, .bool false, .pointer sp, .pointer mp, .pointer op]) (t : Turn [b] w4 w5) (hr : Rq w4 r r 4096 []) (ha : Aux w4 [] a sp mp op A) (hrb : r < b) (hA : ∀ i, i ∈ A → b < i) (hf : Fair a s p) : Win w5 b (b :: r :: r :: A) a s p 0 false [] := by
  have n1 : b ∉ A := fun hm => by have := hA b hm; omega
  have n2 : r ∉ A := fun hm => by have := hA r hm; omega
  exact ⟨r, r, A, sp, mp, op, rfl, hx5, hr.turn t (by simp; omega) (by simp; omega), ha.turn t (fun i hi => by have := hA i hi; simp; omega), by omega, by omega, n1, n2, n2, by simp, hf, ⟨by decide, by decide⟩⟩
theorem sum_made {w w3 : World} {b r : Nat} {a s p : Int} (ha : a = 1 ∨ a = 2) (hx : Box w3 b [.pointer (some ⟨r, 0, none⟩), .int .i64 a, .int .i64 s, .int .i64 p, .int .i64 0, .bool false, .pointer none, .pointer none, .pointer none]) (hr : Rq w3 r r 4096 []) (hB : Below w.heap.size w w3) (hrb : r < b) (hb : b < w3.heap.size) (hw : w.heap.size ≤ r) (hf : Fair a s p) :
    NewWin w a s p (.returned (.tuple #[.pointer (some ⟨b, 0, none⟩), .int .i64 0])) ((w3.setCell ⟨b, 6, none⟩ (.pointer (some ⟨w3.heap.size, 0, none⟩))).alloc (.cells #[.int .u64 0, .int .u64 0] 73)) := by
  have hs : (w3.setCell ⟨b, 6, none⟩ (.pointer (some ⟨w3.heap.size, 0, none⟩))).heap.size = w3.heap.size := by simp [World.setCell]
  have hx4 : Box (w3.setCell ⟨b, 6, none⟩ (.pointer (some ⟨w3.heap.size, 0, none⟩))) b [.pointer (some ⟨r, 0, none⟩), .int .i64 a, .int .i64 s, .int .i64 p, .int .i64 0, .bool false, .pointer (some ⟨w3.heap.size, 0, none⟩), .pointer none, .pointer none] := by simpa using hx.set 6 (by simp) (.pointer (some ⟨w3.heap.size, 0, none⟩))
  have hr4 : Rq (w3.setCell ⟨b, 6, none⟩ (.pointer (some ⟨w3.heap.size, 0, none⟩))) r r 4096 [] := hr.turn (S := [b]) (Turn.set _ _ _ (by simp)) (by simp; omega) (by simp; omega)
  have hB4 : Below w.heap.size w (w3.setCell ⟨b, 6, none⟩ (.pointer (some ⟨w3.heap.size, 0, none⟩))) := hB.setCell (by show w.heap.size ≤ b; omega) _
  generalize w3.setCell ⟨b, 6, none⟩ (.pointer (some ⟨w3.heap.size, 0, none⟩)) = W at *
  rw [← hs] at hx4 hb
  clear hs hr hx
  have hn := Box.new W [.int .u64 0, .int .u64 0] 73
  have hb4 : Below W.heap.size W (W.alloc (.cells #[.int .u64 0, .int .u64 0] 73)) := (Below.refl _ _).alloc (Nat.le_refl _) _
  refine ⟨b, _, rfl, win_made (sp := some ⟨W.heap.size, 0, none⟩) (mp := none) (op := none) (A := [W.heap.size]) (hx4.next hb4) (Turn.refl _ _) (hr4.next hb4) (.sum W.heap.size 0 0 ha hn rep_zero) hrb (by simp; omega) hf, ?_, ?_⟩
  · intro i hi; simp at hi; omega
  · exact hB4.trans (hb4.mono hB4.size)
set_option maxRecDepth 20000 in
set_option maxHeartbeats 4000000 in
theorem wNew (m a s p : Int) (w : World) (h : RightT m a s p) (hp : In64 p) :
    Calls Try.prog 9 #[tv m a s p] w (NewWin w a s p) := by
  obtain ⟨hR, hB⟩ := one_box w 23 [.int .i64 m, .int .i64 a, .int .i64 s, .int .i64 p]
  have HB := hid hB
  have HR := hid hR
  obtain ⟨d0, d1, d2, d3, -, -, -, -⟩ := hR.four
  have hd : rightB m a s p = true := rightB_yes h
  obtain ⟨W, hW⟩ : ∃ W, W = w.alloc (.cells #[.int .i64 m, .int .i64 a, .int .i64 s, .int .i64 p] 23) := ⟨_, rfl⟩
  have HC := hid (wRight m a s p W)
  rw [hd] at HC
  simp only [tv] at HC ⊢
  rw [← hW] at d0 d1 d2 d3 HB HR
  obtain ⟨-, a1, a2, s1, s2, q1, -⟩ := h
  have hfair : Fair a s p := ⟨s1, s2, q1, hp⟩
  have HFa := hid hfair
  have hsz : W.heap.size = w.heap.size + 1 := by rw [hW]; simp
  clear hB hR hd s1 s2 q1 hfair hp
  go_enter Try.func9, Try.ntmps9
  go_upto_region 1 with fail
  rw [← hW]
  clear hW
  go_wp2_with fail
  refine Calls.mono HC.out ?_
  rintro e w1 ⟨rfl, hb1⟩
  have H1 := hid hb1
  have hs1 := hb1.size
  clear hb1
  go_wp2_with fail
  refine Calls.mono (qNew_yes 4096 w1 (by decide) (Nat.le_refl _)) ?_
  rintro e w2 ⟨rfl, hr2, hb2⟩
  have hRR := (HR.out.next H1.out).next (w' := w2) (hb2.mono (Nat.le_refl _))
  have hrl := hr2.lt
  clear d0 d1 d2 d3
  obtain ⟨d0, d1, d2, d3, -, -, -, -⟩ := hRR.four
  have H2 := hid hb2
  have HRg := hid hr2
  have hlt2 := hRR.lt
  clear hb2 hr2 hRR
  have hx3 := Box.new w2 [.pointer (some ⟨w1.heap.size, 0, none⟩), .int .i64 a, .int .i64 s, .int .i64 p, .int .i64 0, .bool false, .pointer none, .pointer none, .pointer none] 65
  have hb3 : Below w2.heap.size w2 (w2.alloc (.cells #[.pointer (some ⟨w1.heap.size, 0, none⟩), .int .i64 a, .int .i64 s, .int .i64 p, .int .i64 0, .bool false, .pointer none, .pointer none, .pointer none] 65)) := (Below.refl _ _).alloc (Nat.le_refl _) _
  obtain ⟨w3, hw3⟩ : ∃ w3, w3 = w2.alloc (.cells #[.pointer (some ⟨w1.heap.size, 0, none⟩), .int .i64 a, .int .i64 s, .int .i64 p, .int .i64 0, .bool false, .pointer none, .pointer none, .pointer none] 65) := ⟨_, rfl⟩
  have hs3 : w3.heap.size = w2.heap.size + 1 := by rw [hw3]; simp
  go_upto_region 7 with fail
  rw [← hw3] at hx3 hb3 ⊢
  have hr3 := HRg.out.next hb3
  have e1 := (hb3.cell (p := ⟨w.heap.size, 1, none⟩) hlt2).trans d1
  have hlt3 := hx3.lt
  have hlt4 : w.heap.size < w3.heap.size := by omega
  have x6 := hx3.cell 6 _ rfl
  have x7 := hx3.cell 7 _ rfl
  have x8 := hx3.cell 8 _ rfl
  have y6 := hx3.free 6 (by simp)
  have y7 := hx3.free 7 (by simp)
  have y8 := hx3.free 8 (by simp)
  have HX3 := hid hx3
  have HR3 := hid hr3
  have hB3 : Below w.heap.size w w3 := ((HB.out.trans (H1.out.mono HB.out.size)).trans (H2.out.mono (by omega))).trans (hb3.mono (by omega))
  have HB3 := hid hB3
  have HS3 := hid hs3
  clear hb3 hx3 hr3 d0 d1 d2 d3 hw3 H2 HRg hB3 hs3
  obtain rfl | rfl | rfl | rfl | rfl | rfl : a = 1 ∨ a = 2 ∨ a = 3 ∨ a = 4 ∨ a = 5 ∨ a = 6 := by omega
  · have hb4 : Below w3.heap.size w3 (w3.alloc (.cells #[.int .u64 0, .int .u64 0] 73)) := (Below.refl _ _).alloc (Nat.le_refl _) _
    have u6 := (hb4.cell (p := ⟨w2.heap.size, 6, none⟩) hlt3).trans x6
    have v6 := (hb4.frozen (p := ⟨w2.heap.size, 6, none⟩) hlt3).trans y6
    clear hb4
    go_wp2_with fail
    go_ret2
    have hs3 := HS3.out
    exact sum_made (by decide) HX3.out HR3.out HB3.out (by omega) (by omega) (by omega) HFa.out
  · have hb4 : Below w3.heap.size w3 (w3.alloc (.cells #[.int .u64 0, .int .u64 0] 73)) := (Below.refl _ _).alloc (Nat.le_refl _) _
    have u6 := (hb4.cell (p := ⟨w2.heap.size, 6, none⟩) hlt3).trans x6
    have v6 := (hb4.frozen (p := ⟨w2.heap.size, 6, none⟩) hlt3).trans y6
    clear hb4
    go_wp2_with fail
    go_ret2
    have hs3 := HS3.out
    exact sum_made (by decide) HX3.out HR3.out HB3.out (by omega) (by omega) (by omega) HFa.out
  · go_wp2_with fail
    refine Calls.mono (mNew false w3) ?_
    rintro e w4 ⟨rfl, hm4, hb4⟩
    have u7 := (hb4.cell (p := ⟨w2.heap.size, 7, none⟩) hlt3).trans x7
    have v7 := (hb4.frozen (p := ⟨w2.heap.size, 7, none⟩) hlt3).trans y7
    have hlt5 := Nat.lt_of_lt_of_le hlt3 hb4.size
    have HN := hid hm4
    have HB4 := hid hb4
    clear hm4 hb4
    go_wp2_with fail
    go_ret2
    refine ⟨w2.heap.size, _, rfl, win_made (w4 := w4) (sp := none) (mp := some ⟨w3.heap.size, 0, none⟩) (op := none) (A := [w3.heap.size, w3.heap.size]) (by simpa using (HX3.out.next HB4.out).set 7 (by simp) (.pointer (some ⟨w3.heap.size, 0, none⟩))) (Turn.set _ _ _ (by simp)) (HR3.out.next HB4.out) (.best w3.heap.size w3.heap.size false (by decide) HN.out) (by omega) (by have hs3 := HS3.out; simp; omega) HFa.out, ?_, ?_⟩
    · intro i hi; have hs3 := HS3.out; simp at hi; omega
    · exact (HB3.out.trans (HB4.out.mono HB3.out.size)).setCell (by simp; omega) _
  · go_wp2_with fail
    refine Calls.mono (mNew true w3) ?_
    rintro e w4 ⟨rfl, hm4, hb4⟩
    have u7 := (hb4.cell (p := ⟨w2.heap.size, 7, none⟩) hlt3).trans x7
    have v7 := (hb4.frozen (p := ⟨w2.heap.size, 7, none⟩) hlt3).trans y7
    have hlt5 := Nat.lt_of_lt_of_le hlt3 hb4.size
    have HN := hid hm4
    have HB4 := hid hb4
    clear hm4 hb4
    go_wp2_with fail
    go_ret2
    refine ⟨w2.heap.size, _, rfl, win_made (w4 := w4) (sp := none) (mp := some ⟨w3.heap.size, 0, none⟩) (op := none) (A := [w3.heap.size, w3.heap.size]) (by simpa using (HX3.out.next HB4.out).set 7 (by simp) (.pointer (some ⟨w3.heap.size, 0, none⟩))) (Turn.set _ _ _ (by simp)) (HR3.out.next HB4.out) (.best w3.heap.size w3.heap.size true (by decide) HN.out) (by omega) (by have hs3 := HS3.out; simp; omega) HFa.out, ?_, ?_⟩
    · intro i hi; have hs3 := HS3.out; simp at hi; omega
    · exact (HB3.out.trans (HB4.out.mono HB3.out.size)).setCell (by simp; omega) _
  · go_wp2_with fail
    go_ret2
    refine ⟨w2.heap.size, _, rfl, win_made (w4 := w3) (sp := none) (mp := none) (op := none) (A := []) HX3.out (Turn.refl _ _) HR3.out (.count rfl) (by omega) (by simp) HFa.out, ?_, ?_⟩
    · intro i hi; have hs3 := HS3.out; simp at hi; omega
    · exact HB3.out
  · go_wp2_with fail
    refine Calls.mono (rNew w3) ?_
    rintro e w4 ⟨rfl, hm4, hb4⟩
    have u8 := (hb4.cell (p := ⟨w2.heap.size, 8, none⟩) hlt3).trans x8
    have v8 := (hb4.frozen (p := ⟨w2.heap.size, 8, none⟩) hlt3).trans y8
    have hlt5 := Nat.lt_of_lt_of_le hlt3 hb4.size
    have HN := hid hm4
    have HB4 := hid hb4
    clear hm4 hb4
    go_wp2_with fail
    go_ret2
    refine ⟨w2.heap.size, _, rfl, win_made (w4 := w4) (sp := none) (mp := none) (op := some ⟨w3.heap.size, 0, none⟩) (A := [w3.heap.size, w3.heap.size]) (by simpa using (HX3.out.next HB4.out).set 8 (by simp) (.pointer (some ⟨w3.heap.size, 0, none⟩))) (Turn.set _ _ _ (by simp)) (HR3.out.next HB4.out) (.rank w3.heap.size w3.heap.size rfl HN.out) (by omega) (by have hs3 := HS3.out; simp; omega) HFa.out, ?_, ?_⟩
    · intro i hi; have hs3 := HS3.out; simp at hi; omega
    · exact (HB3.out.trans (HB4.out.mono HB3.out.size)).setCell (by simp; omega) _
end Go.Proofs.Ytccgbkafcbfcgaa
