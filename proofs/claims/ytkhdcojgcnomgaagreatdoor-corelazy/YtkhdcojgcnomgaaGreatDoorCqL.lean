/- The law CoreLazy, plain: what the cores come to. -/
import Derived.Test.YtkhdcojgcnomgaaGreatDoorCpG
namespace Go.Proofs.YtkhdcojgcnomgaaGreatDoor
open Go.RowKit

abbrev coBad (q s : Int) : Co := ⟨6, q, s, []⟩
abbrev coYes : Co := ⟨2, 1, 0, []⟩
abbrev coNo : Co := ⟨2, 0, 0, []⟩
theorem srt_bad (E : EnvP) (q s : Int) (h1 : 1 ≤ q) (h2 : q ≤ 3) (hs : s = 1 ∨ s = 2) : srt E (coBad q s) = s := by
  unfold srt
  rw [csort_eq, if_pos (by show (1 : Int) ≤ 6 ∧ (6 : Int) ≤ 32; decide), if_pos ?_]
  · show (if ([] : List Int).contains 0 = true then 0 else if ([] : List Int) = [] then s else 0) = s
    rfl
  · show (decide (1 ≤ q) && (decide (q ≤ 3) && (decide (s = 1) || decide (s = 2)))) = true
    simp only [Bool.and_eq_true, Bool.or_eq_true, decide_eq_true_eq]
    exact ⟨h1, h2, hs⟩
theorem srt_yes (E : EnvP) : srt E coYes = 2 := by unfold srt; rw [csort_eq]; rfl
theorem srt_no (E : EnvP) : srt E coNo = 2 := by unfold srt; rw [csort_eq]; rfl
theorem tel_bad (E : EnvP) (q s : Int) : telV E (coBad q s) = noR q := by rw [telV_eq]; rfl
theorem tel_yes (E : EnvP) : telV E coYes = okR 1 := by rw [telV_eq]; rfl
theorem tel_no (E : EnvP) : telV E coNo = okR 0 := by rw [telV_eq]; rfl
theorem plain_fits (k : Nat) (wn cn ln : Int) (ps : List Co) (h : k = 25 ∨ k = 26 ∨ k = 27 ∨ k = 28) : fitsB k wn cn ln ⟨k, 0, 0, ps⟩ = true := by
  rcases h with rfl | rfl | rfl | rfl <;> rfl
theorem srt_op (E : EnvP) (k : Nat) (ps : List Co) (ss : List Int) (s : Int) (h : k = 25 ∨ k = 26 ∨ k = 27 ∨ k = 28) (hp : ps.map (srt E) = ss) (h0 : ss.contains 0 = false) (hs : sortF ladF k ⟨k, 0, 0, ps⟩ ss = s) : srt E ⟨k, 0, 0, ps⟩ = s := by
  unfold srt
  rw [csort_eq, if_pos (by rcases h with rfl | rfl | rfl | rfl <;> simp), if_pos (by simpa using plain_fits k _ _ _ ps h)]
  have hp' : ps.map (csort ladF E.wins.length E.crons.length 256) = ss := hp
  dsimp only
  rw [hp', h0]
  simpa using hs
theorem srt_if (E : EnvP) (x y z : Co) (s : Int) (hs : s = 1 ∨ s = 2) (hx : srt E x = 2) (hy : srt E y = s) (hz : srt E z = s) : srt E ⟨28, 0, 0, [x, y, z]⟩ = s :=
  srt_op E 28 [x, y, z] [2, s, s] s (by simp) (by simp [hx, hy, hz]) (by rcases hs with rfl | rfl <;> rfl) (by rcases hs with rfl | rfl <;> rfl)
theorem srt_ei (E : EnvP) (x y : Co) (s : Int) (hs : s = 1 ∨ s = 2) (hx : srt E x = s) (hy : srt E y = s) : srt E ⟨27, 0, 0, [x, y]⟩ = s :=
  srt_op E 27 [x, y] [s, s] s (by simp) (by simp [hx, hy]) (by rcases hs with rfl | rfl <;> rfl) (by rcases hs with rfl | rfl <;> rfl)
theorem srt_and (E : EnvP) (x y : Co) (hx : srt E x = 2) (hy : srt E y = 2) : srt E ⟨25, 0, 0, [x, y]⟩ = 2 :=
  srt_op E 25 [x, y] [2, 2] 2 (by simp) (by simp [hx, hy]) rfl rfl
theorem srt_or (E : EnvP) (x y : Co) (hx : srt E x = 2) (hy : srt E y = 2) : srt E ⟨26, 0, 0, [x, y]⟩ = 2 :=
  srt_op E 26 [x, y] [2, 2] 2 (by simp) (by simp [hx, hy]) rfl rfl
theorem tel_if (E : EnvP) (x y z : Co) : telV E ⟨28, 0, 0, [x, y, z]⟩ = if (telV E x).2 = 0 then (if (telV E x).1 = 1 then telV E y else telV E z) else noR (telV E x).2 := by rw [telV_eq]; rfl
theorem tel_ei (E : EnvP) (x y : Co) : telV E ⟨27, 0, 0, [x, y]⟩ = if (telV E x).2 = 0 then telV E x else telV E y := by rw [telV_eq]; rfl
theorem tel_and (E : EnvP) (x y : Co) : telV E ⟨25, 0, 0, [x, y]⟩ = if (telV E x).2 = 0 ∧ (telV E x).1 ≠ 0 then telV E y else noR (telV E x).2 := by rw [telV_eq]; rfl
theorem tel_or (E : EnvP) (x y : Co) : telV E ⟨26, 0, 0, [x, y]⟩ = if (telV E x).2 = 0 ∧ (telV E x).1 ≠ 1 then telV E y else telV E x := by rw [telV_eq]; rfl
theorem evV_12 {s : Int} (h : s = 1 ∨ s = 2) (r : Rs) : evV s r = .tuple #[rsV r, .int .i64 0] := if_pos h
theorem ev_if1 (E : EnvP) (t : Co) (q s : Int) (h1 : 1 ≤ q) (h2 : q ≤ 3) (hs : s = 1 ∨ s = 2) (ht : srt E t = s) : evV (srt E ⟨28, 0, 0, [coYes, t, coBad q s]⟩) (telV E ⟨28, 0, 0, [coYes, t, coBad q s]⟩) = .tuple #[rsV (telV E t), .int .i64 0] := by
  rw [srt_if E _ _ _ s hs (srt_yes E) ht (srt_bad E q s h1 h2 hs), evV_12 hs, tel_if, tel_yes]; rfl
theorem ev_if2 (E : EnvP) (t : Co) (q s : Int) (h1 : 1 ≤ q) (h2 : q ≤ 3) (hs : s = 1 ∨ s = 2) (ht : srt E t = s) : evV (srt E ⟨28, 0, 0, [coNo, coBad q s, t]⟩) (telV E ⟨28, 0, 0, [coNo, coBad q s, t]⟩) = .tuple #[rsV (telV E t), .int .i64 0] := by
  rw [srt_if E _ _ _ s hs (srt_no E) (srt_bad E q s h1 h2 hs) ht, evV_12 hs, tel_if, tel_no]; rfl
theorem ev_ei1 (E : EnvP) (t : Co) (q s : Int) (h1 : 1 ≤ q) (h2 : q ≤ 3) (hs : s = 1 ∨ s = 2) (ht : srt E t = s) : evV (srt E ⟨27, 0, 0, [coBad q s, t]⟩) (telV E ⟨27, 0, 0, [coBad q s, t]⟩) = .tuple #[rsV (telV E t), .int .i64 0] := by
  rw [srt_ei E _ _ s hs (srt_bad E q s h1 h2 hs) ht, evV_12 hs, tel_ei, tel_bad, if_neg (by show ¬ q = 0; omega)]
theorem ev_ei2 (E : EnvP) (t : Co) (q s : Int) (h1 : 1 ≤ q) (h2 : q ≤ 3) (hs : s = 1 ∨ s = 2) (ht : srt E t = s) : evV (srt E ⟨27, 0, 0, [t, coBad q s]⟩) (telV E ⟨27, 0, 0, [t, coBad q s]⟩) = .tuple #[rsV (if (telV E t).2 = 0 then telV E t else noR q), .int .i64 0] := by
  rw [srt_ei E _ _ s hs ht (srt_bad E q s h1 h2 hs), evV_12 hs, tel_ei, tel_bad]
theorem ev_and1 (E : EnvP) (q : Int) (h1 : 1 ≤ q) (h2 : q ≤ 3) : evV (srt E ⟨25, 0, 0, [coNo, coBad q 2]⟩) (telV E ⟨25, 0, 0, [coNo, coBad q 2]⟩) = .tuple #[.agg #[.int .i64 0, .int .i64 0], .int .i64 0] := by
  rw [srt_and E _ _ (srt_no E) (srt_bad E q 2 h1 h2 (.inr rfl)), evV_12 (.inr rfl), tel_and, tel_no]; rfl
theorem ev_or1 (E : EnvP) (q : Int) (h1 : 1 ≤ q) (h2 : q ≤ 3) : evV (srt E ⟨26, 0, 0, [coYes, coBad q 2]⟩) (telV E ⟨26, 0, 0, [coYes, coBad q 2]⟩) = .tuple #[.agg #[.int .i64 0, .int .i64 1], .int .i64 0] := by
  rw [srt_or E _ _ (srt_yes E) (srt_bad E q 2 h1 h2 (.inr rfl)), evV_12 (.inr rfl), tel_or, tel_yes]; rfl
theorem rsV_no {q : Int} (h : q ≠ 0) : rsV (noR q) = .agg #[.int .i64 q, .int .i64 0] := if_neg h
theorem ev_and2 (E : EnvP) (q : Int) (h1 : 1 ≤ q) (h2 : q ≤ 3) : evV (srt E ⟨25, 0, 0, [coYes, coBad q 2]⟩) (telV E ⟨25, 0, 0, [coYes, coBad q 2]⟩) = .tuple #[.agg #[.int .i64 q, .int .i64 0], .int .i64 0] := by
  rw [srt_and E _ _ (srt_yes E) (srt_bad E q 2 h1 h2 (.inr rfl)), evV_12 (.inr rfl), tel_and, tel_yes, tel_bad, if_pos ⟨rfl, by decide⟩, rsV_no (by omega)]
theorem ev_or2 (E : EnvP) (q : Int) (h1 : 1 ≤ q) (h2 : q ≤ 3) : evV (srt E ⟨26, 0, 0, [coNo, coBad q 2]⟩) (telV E ⟨26, 0, 0, [coNo, coBad q 2]⟩) = .tuple #[.agg #[.int .i64 q, .int .i64 0], .int .i64 0] := by
  rw [srt_or E _ _ (srt_no E) (srt_bad E q 2 h1 h2 (.inr rfl)), evV_12 (.inr rfl), tel_or, tel_no, tel_bad, if_pos ⟨rfl, by decide⟩, rsV_no (by omega)]
end Go.Proofs.YtkhdcojgcnomgaaGreatDoor
