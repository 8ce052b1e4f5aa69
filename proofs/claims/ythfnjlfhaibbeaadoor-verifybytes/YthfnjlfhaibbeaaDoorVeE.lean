/- Package verify, plain: a step by the table is a step by the chapter; what follows of an accepted program. -/
import Derived.Test.YthfnjlfhaibbeaaDoorVeD
namespace Go.Proofs.YthfnjlfhaibbeaaDoor
open Go.RowKit

theorem leadsB_yes {n i a : Int} (h : leadsB n i a = true) : i < a ∧ 0 ≤ a ∧ a < n := by
  unfold leadsB belowB at h
  simp at h
  omega
theorem bind_none' {β : Type} (f : List (Option St) → Option β) : (none : Option (List (Option St))).bind f = none := rfl
theorem step_eq {g : PgP} {i : Nat} {pl : List (Option St)} (hp : PIn g pl) (hn : pl.length ≤ 16384) : stepR g i pl = stepF g i pl := by
  unfold stepR stepF
  cases e : pl.getD i none with
  | none => rfl
  | some s =>
    have hs := hp i s (at_of_getD e)
    obtain ⟨h, t⟩ := s
    simp only at hs ⊢
    generalize g.C.getD i in0 = x
    obtain ⟨op, a⟩ := x
    simp only
    have hi0 : (0 : Int) ≤ (i : Int) := Int.natCast_nonneg _
    by_cases ho : op < 1 ∨ 33 < op
    · rw [rowF_out ho]
      have hq : (waysF i op a h t).2 = false := by
        unfold waysF needF
        rw [if_pos ho, if_pos (by omega)]
      rw [hq]
      rfl
    · by_cases ht : op = 23 ∨ op = 24 ∨ op = 25 ∨ op = 26 ∨ op = 27
      · cases hl : leadsB pl.length i (if op = 27 then a.tmod 16384 else a) with
        | false =>
          have hfar : ∀ (h' t' : Int) (l : List Wy), goesF g.h i ((if op = 27 then a.tmod 16384 else a, h', t') :: l) pl = none := fun h' t' l => by
            unfold goesF
            rw [goF_far hl hi0]
            rfl
          rcases ht with rfl | rfl | rfl | rfl | rfl
          · have h1 : rowF 23 = some ⟨23, 23, 6, 0, 0, 1, 0, 0, 0, 0⟩ := rfl
            have h2 := hfar h t []
            simp only [h1]
            simp at hl h2
            by_cases c : h < 0
            · omega
            · simp [mayF, hl, argF, waysF, needF, h2, c]
          · have h1 : rowF 24 = some ⟨24, 24, 6, 1, 0, 2, -1, 0, -1, 0⟩ := rfl
            have h2 := hfar (h - 1) t [((i : Int) + 1, h - 1, t)]
            simp only [h1]
            simp at hl h2
            by_cases c : h < 1
            · simp [mayF, hl, argF, waysF, needF, c]
            · simp [mayF, hl, argF, waysF, needF, h2, c]
          · have h1 : rowF 25 = some ⟨25, 25, 6, 0, 0, 2, 0, 1, 0, 0⟩ := rfl
            have h2 := hfar h t [((i : Int) + 1, h, t + 1)]
            simp only [h1]
            simp at hl h2
            by_cases c : h < 0
            · omega
            · simp [mayF, hl, argF, waysF, needF, h2, c]
          · have h1 : rowF 26 = some ⟨26, 26, 6, 0, 1, 1, 0, 0, 0, -1⟩ := rfl
            have h2 := hfar h (t - 1) []
            simp only [h1]
            simp at hl h2
            by_cases c : h < 0
            · omega
            · simp [mayF, hl, argF, waysF, needF, h2, c]
          · have h1 : rowF 27 = some ⟨27, 27, 8, 0, 0, 2, 0, 0, 1, 0⟩ := rfl
            have h2 := hfar (h + 1) t [((i : Int) + 1, h, t)]
            simp only [h1]
            simp at hl h2
            by_cases c : h < 0
            · omega
            · simp [mayF, hl, argF, waysF, needF, h2, c]
        | true =>
          obtain ⟨l1, l2, l3⟩ := leadsB_yes hl
          have hm : ¬ op = 27 → a.tmod 16384 = a := fun h7 => by
            rw [if_neg h7] at l2 l3
            exact Int.tmod_eq_of_lt l2 (by omega)
          rcases ht with rfl | rfl | rfl | rfl | rfl
          · have h1 : rowF 23 = some ⟨23, 23, 6, 0, 0, 1, 0, 0, 0, 0⟩ := rfl
            have h2 := hm (by omega)
            simp only [h1]
            simp at hl l1 l2 l3
            have c : ¬ h < 0 := by omega
            have h3 := leadsR_eq (hm := g.h) (i := i) [(a, h, t)] pl (by simp; omega)
            simp [mayF, hl, argF, waysF, needF, c, suitB, waysR, h2, hs, h3]
          · have h1 : rowF 24 = some ⟨24, 24, 6, 1, 0, 2, -1, 0, -1, 0⟩ := rfl
            have h2 := hm (by omega)
            simp only [h1]
            simp at hl l1 l2 l3
            have h3 := leadsR_eq (hm := g.h) (i := i) [(a, h - 1, t), ((i : Int) + 1, h - 1, t)] pl (by simp; omega)
            have e1 : h + -1 = h - 1 := by omega
            by_cases c : h < 1
            · have c2 : ¬ 1 ≤ h := by omega
              simp [mayF, hl, argF, waysF, needF, c, suitB, c2]
            · have c2 : 1 ≤ h := by omega
              simp [mayF, hl, argF, waysF, needF, c, suitB, waysR, h2, hs, h3, c2, e1]
          · have h1 : rowF 25 = some ⟨25, 25, 6, 0, 0, 2, 0, 1, 0, 0⟩ := rfl
            have h2 := hm (by omega)
            simp only [h1]
            simp at hl l1 l2 l3
            have c : ¬ h < 0 := by omega
            by_cases c4 : t < 4096
            · have h3 := leadsR_eq (hm := g.h) (i := i) [(a, h, t), ((i : Int) + 1, h, t + 1)] pl (by simp; omega)
              simp [mayF, hl, argF, waysF, needF, c, suitB, waysR, h2, hs, h3, c4]
            · have h3 : leadsR g.h [(a, h, t), ((i : Int) + 1, h, t + 1)] pl = none := by
                unfold leadsR
                cases leadR g.h pl (a, h, t) with
                | none => rfl
                | some p =>
                  show leadsR g.h [((i : Int) + 1, h, t + 1)] p = none
                  unfold leadsR leadR
                  rw [if_pos (by simp only; omega)]
                  rfl
              simp [mayF, hl, argF, waysF, needF, c, suitB, waysR, h2, hs, h3, c4]
          · have h1 : rowF 26 = some ⟨26, 26, 6, 0, 1, 1, 0, 0, 0, -1⟩ := rfl
            have h2 := hm (by omega)
            simp only [h1]
            simp at hl l1 l2 l3
            have c : ¬ h < 0 := by omega
            have h3 := leadsR_eq (hm := g.h) (i := i) [(a, h, t - 1)] pl (by simp; omega)
            have e1 : t + -1 = t - 1 := by omega
            by_cases c4 : 0 < t
            · have c5 : 1 ≤ t := by omega
              simp [mayF, hl, argF, waysF, needF, c, suitB, waysR, h2, hs, h3, c4, c5, e1]
            · have c5 : ¬ 1 ≤ t := by omega
              simp [mayF, hl, argF, waysF, needF, c, suitB, c4, c5]
          · have h1 : rowF 27 = some ⟨27, 27, 8, 0, 0, 2, 0, 0, 1, 0⟩ := rfl
            simp only [h1]
            simp at hl l1 l2 l3
            have c : ¬ h < 0 := by omega
            have a0 : 0 ≤ a := by
              by_cases ha : 0 ≤ a
              · exact ha
              · have q1 := Int.neg_tmod (-a) 16384
                rw [Int.neg_neg] at q1
                have q2 := Int.tmod_nonneg 16384 (show 0 ≤ -a by omega)
                omega
            have d0 : 0 ≤ a.tdiv 16384 := Int.tdiv_nonneg a0 (by omega)
            have h3 := leadsR_eq (hm := g.h) (i := i) [(a.tmod 16384, h + 1, t), ((i : Int) + 1, h, t)] pl (by simp; omega)
            simp [mayF, hl, argF, waysF, needF, c, suitB, waysR, hs, h3, belowB, a0, d0]
      · obtain ⟨r, h1, h2, h3⟩ := plain_ops (op := op) (by omega) (by omega) (by omega) (by omega) (by omega) (by omega) (by omega)
        rw [h1]
        simp only
        obtain ⟨h4, h5⟩ := h3 i a h t hs.1 hs.2.2.1
        rw [h2 g pl.length i a, ← h4]
        cases ha : argF g op a with
        | false => simp
        | true =>
          cases hu : suitB r h t with
          | false => simp
          | true =>
            obtain ⟨h6, h7⟩ := h5 hu
            simp only [Bool.and_true, if_true]
            rw [← h6]
            exact leadsR_eq _ _ (fun x hx => ⟨(h7 x hx).1, Int.le_trans (h7 x hx).2 hs.2.2.2⟩)
end Go.Proofs.YthfnjlfhaibbeaaDoor
