/- Package core: tell says what every formed core comes to. -/
import Derived.Test.YtaombbbblgfgdaaGreatDoorCpC
namespace Go.Proofs.YtaombbbblgfgdaaGreatDoor
open Go.RowKit

/-- What is known of a part. -/
def Part (E : EnvP) (x : Co) : Prop := TeC E x ∧ Good E x
def PK (E : EnvP) (k : Nat) : Prop := EnvOk E → ∀ t : Co, t.op = (k : Int) → cnodes t ≤ 8192 → fitsB k E.wins.length E.crons.length 256 t = true → (∀ x, x ∈ t.parts → Part E x) → sortF ladF k t (t.parts.map (srt E)) ≠ 0 → CFit t → WkC E k t
theorem pk_1 (E : EnvP) : PK E 1 := by
  intro hE t hop hn hb hg hz hf
  obtain ⟨op, n, m, ps⟩ := t
  obtain rfl : op = 1 := hop
  dsimp only at *
  exact wk_own E _ 1 (.inl rfl) rfl
theorem pk_2 (E : EnvP) : PK E 2 := by
  intro hE t hop hn hb hg hz hf
  obtain ⟨op, n, m, ps⟩ := t
  obtain rfl : op = 2 := hop
  dsimp only at *
  exact wk_own E _ 2 (.inr rfl) rfl
theorem pk_3 (E : EnvP) : PK E 3 := by
  intro hE t hop hn hb hg hz hf
  obtain ⟨op, n, m, ps⟩ := t
  obtain rfl : op = 3 := hop
  dsimp only at *
  exact wk_rep E _ rfl
theorem pk_4 (E : EnvP) : PK E 4 := by
  intro hE t hop hn hb hg hz hf
  obtain ⟨op, n, m, ps⟩ := t
  obtain rfl : op = 4 := hop
  dsimp only at *
  have hb' : (belowB n E.wins.length && decide (m = 0)) = true := hb
  simp only [belowB, Bool.and_eq_true, decide_eq_true_eq] at hb'
  exact wk_win E _ rfl hb'.1.1 hb'.1.2
theorem pk_5 (E : EnvP) : PK E 5 := by
  intro hE t hop hn hb hg hz hf
  obtain ⟨op, n, m, ps⟩ := t
  obtain rfl : op = 5 := hop
  dsimp only at *
  have hb' : (belowB n E.crons.length && decide (m = 0)) = true := hb
  simp only [belowB, Bool.and_eq_true, decide_eq_true_eq] at hb'
  exact wk_cron E _ rfl hb'.1.1 hb'.1.2
theorem pk_6 (E : EnvP) : PK E 6 := by
  intro hE t hop hn hb hg hz hf
  obtain ⟨op, n, m, ps⟩ := t
  obtain rfl : op = 6 := hop
  dsimp only at *
  have hb' : (decide (1 ≤ n) && (decide (n ≤ 3) && (decide (m = 1) || decide (m = 2)))) = true := hb
  simp only [Bool.and_eq_true, decide_eq_true_eq] at hb'
  exact wk_fail E _ rfl (by show n ≠ 0; omega)
theorem pk_7 (E : EnvP) : PK E 7 := by
  intro hE t hop hn hb hg hz hf
  obtain ⟨op, n, m, ps⟩ := t
  obtain rfl : op = 7 := hop
  dsimp only at *
  have hz' : alikeF 1 (ps.map (srt E)) ≠ 0 := hz
  obtain ⟨h1, -, -, -⟩ := alike_of hz'
  obtain ⟨x, rfl⟩ := len1 (by simpa using h1)
  exact wk_memo E n m x (hg x (by simp)).1
theorem pk_8 (E : EnvP) : PK E 8 := by
  intro hE t hop hn hb hg hz hf
  obtain ⟨op, n, m, ps⟩ := t
  obtain rfl : op = 8 := hop
  dsimp only at *
  obtain ⟨e1, -⟩ := mk_of (k := 8) (r := 1) (ts := [1]) rfl hz
  obtain ⟨x, rfl, q0⟩ := map1 e1
  obtain ⟨H0, g0⟩ := hg x (by simp)
  intro v tb b w f q hs ht hw
  obtain ⟨p, e, hp⟩ := hw
  cases e
  have hT : telV E ⟨8, n, m, [x]⟩ = ofOneR (uF 8) (telV E x) := by rw [telV_eq]; rfl
  rw [hT]
  exact one_c E 8 n m x 93 p (uF 8) un_neg.1 H0 (fun W => un_neg.2 _ W g0.1 trivial) v tb b w hs ht hp
theorem pk_9 (E : EnvP) : PK E 9 := by
  intro hE t hop hn hb hg hz hf
  obtain ⟨op, n, m, ps⟩ := t
  obtain rfl : op = 9 := hop
  dsimp only at *
  obtain ⟨e1, -⟩ := mk_of (k := 9) (r := 2) (ts := [2]) rfl hz
  obtain ⟨x, rfl, q0⟩ := map1 e1
  obtain ⟨H0, g0⟩ := hg x (by simp)
  intro v tb b w f q hs ht hw
  obtain ⟨p, e, hp⟩ := hw
  cases e
  have hT : telV E ⟨9, n, m, [x]⟩ = ofOneR (uF 9) (telV E x) := by rw [telV_eq]; rfl
  rw [hT]
  exact one_c E 9 n m x 94 p (uF 9) un_not.1 H0 (fun W => un_not.2 _ W g0.1 (g0.2 q0)) v tb b w hs ht hp
theorem pk_10 (E : EnvP) : PK E 10 := by
  intro hE t hop hn hb hg hz hf
  obtain ⟨op, n, m, ps⟩ := t
  obtain rfl : op = 10 := hop
  dsimp only at *
  obtain ⟨e1, -⟩ := mk_of (k := 10) (r := 1) (ts := [1]) rfl hz
  obtain ⟨x, rfl, q0⟩ := map1 e1
  obtain ⟨H0, g0⟩ := hg x (by simp)
  intro v tb b w f q hs ht hw
  obtain ⟨p, e, hp⟩ := hw
  cases e
  have hT : telV E ⟨10, n, m, [x]⟩ = ofOneR (uF 10) (telV E x) := by rw [telV_eq]; rfl
  rw [hT]
  exact one_c E 10 n m x 95 p (uF 10) un_abs.1 H0 (fun W => un_abs.2 _ W g0.1 trivial) v tb b w hs ht hp
theorem pk_11 (E : EnvP) : PK E 11 := by
  intro hE t hop hn hb hg hz hf
  obtain ⟨op, n, m, ps⟩ := t
  obtain rfl : op = 11 := hop
  dsimp only at *
  obtain ⟨e1, -⟩ := mk_of (k := 11) (r := 1) (ts := [1]) rfl hz
  obtain ⟨x, rfl, q0⟩ := map1 e1
  obtain ⟨H0, g0⟩ := hg x (by simp)
  intro v tb b w f q hs ht hw
  obtain ⟨p, e, hp⟩ := hw
  cases e
  have hT : telV E ⟨11, n, m, [x]⟩ = ofOneR (uF 11) (telV E x) := by rw [telV_eq]; rfl
  rw [hT]
  exact one_c E 11 n m x 96 p (uF 11) un_ceil.1 H0 (fun W => un_ceil.2 _ W g0.1 trivial) v tb b w hs ht hp
theorem pk_12 (E : EnvP) : PK E 12 := by
  intro hE t hop hn hb hg hz hf
  obtain ⟨op, n, m, ps⟩ := t
  obtain rfl : op = 12 := hop
  dsimp only at *
  obtain ⟨e1, -⟩ := mk_of (k := 12) (r := 1) (ts := [1]) rfl hz
  obtain ⟨x, rfl, q0⟩ := map1 e1
  obtain ⟨H0, g0⟩ := hg x (by simp)
  intro v tb b w f q hs ht hw
  obtain ⟨p, e, hp⟩ := hw
  cases e
  have hT : telV E ⟨12, n, m, [x]⟩ = ofOneR (uF 12) (telV E x) := by rw [telV_eq]; rfl
  rw [hT]
  exact one_c E 12 n m x 97 p (uF 12) un_floor.1 H0 (fun W => un_floor.2 _ W g0.1 trivial) v tb b w hs ht hp
theorem pk_13 (E : EnvP) : PK E 13 := by
  intro hE t hop hn hb hg hz hf
  obtain ⟨op, n, m, ps⟩ := t
  obtain rfl : op = 13 := hop
  dsimp only at *
  obtain ⟨e1, -⟩ := mk_of (k := 13) (r := 1) (ts := [1]) rfl hz
  obtain ⟨x, rfl, q0⟩ := map1 e1
  obtain ⟨H0, g0⟩ := hg x (by simp)
  have hb' : (decide (0 ≤ n) && decide (1 ≤ m)) = true := hb
  simp only [Bool.and_eq_true, decide_eq_true_eq] at hb'
  exact wk_scale E n m x H0 (fun W => Scale_of _ n m g0.1.1 (lt64 g0.1) hb'.1 (lt64 hf.n) hb'.2 (lt64 hf.m) (divOK_any _ _ (by omega) (by have := lt64 hf.m; dsimp only at this; omega)) W)
theorem pk_14 (E : EnvP) : PK E 14 := by
  intro hE t hop hn hb hg hz hf
  obtain ⟨op, n, m, ps⟩ := t
  obtain rfl : op = 14 := hop
  dsimp only at *
  obtain ⟨e1, -⟩ := mk_of (k := 14) (r := 1) (ts := [1, 1]) rfl hz
  obtain ⟨x, y, rfl, q0, q1⟩ := map2 e1
  obtain ⟨H0, g0⟩ := hg x (by simp)
  obtain ⟨H1, g1⟩ := hg y (by simp)
  intro v tb b w f q hs ht hw
  obtain ⟨p, e, hp⟩ := hw
  cases e
  have hT : telV E ⟨14, n, m, [x, y]⟩ = ofTwoR (fun a b => okR (bF 14 a b)) (telV E x) (telV E y) := by rw [telV_eq]; rfl
  rw [hT]
  exact two_c E 14 n m x y 101 p (bF 14) bi_add.1 H0 H1 (fun W => bi_add.2 _ _ W g0.1 g1.1) v tb b w hs ht hp
theorem pk_15 (E : EnvP) : PK E 15 := by
  intro hE t hop hn hb hg hz hf
  obtain ⟨op, n, m, ps⟩ := t
  obtain rfl : op = 15 := hop
  dsimp only at *
  obtain ⟨e1, -⟩ := mk_of (k := 15) (r := 1) (ts := [1, 1]) rfl hz
  obtain ⟨x, y, rfl, q0, q1⟩ := map2 e1
  obtain ⟨H0, g0⟩ := hg x (by simp)
  obtain ⟨H1, g1⟩ := hg y (by simp)
  intro v tb b w f q hs ht hw
  obtain ⟨p, e, hp⟩ := hw
  cases e
  have hT : telV E ⟨15, n, m, [x, y]⟩ = ofTwoR (fun a b => okR (bF 15 a b)) (telV E x) (telV E y) := by rw [telV_eq]; rfl
  rw [hT]
  exact two_c E 15 n m x y 102 p (bF 15) bi_sub.1 H0 H1 (fun W => bi_sub.2 _ _ W g0.1 g1.1) v tb b w hs ht hp
theorem pk_16 (E : EnvP) : PK E 16 := by
  intro hE t hop hn hb hg hz hf
  obtain ⟨op, n, m, ps⟩ := t
  obtain rfl : op = 16 := hop
  dsimp only at *
  obtain ⟨e1, -⟩ := mk_of (k := 16) (r := 1) (ts := [1, 1]) rfl hz
  obtain ⟨x, y, rfl, q0, q1⟩ := map2 e1
  obtain ⟨H0, g0⟩ := hg x (by simp)
  obtain ⟨H1, g1⟩ := hg y (by simp)
  intro v tb b w f q hs ht hw
  obtain ⟨p, e, hp⟩ := hw
  cases e
  have hT : telV E ⟨16, n, m, [x, y]⟩ = ofTwoR (fun a b => okR (bF 16 a b)) (telV E x) (telV E y) := by rw [telV_eq]; rfl
  rw [hT]
  exact two_c E 16 n m x y 103 p (bF 16) bi_mul.1 H0 H1 (fun W => bi_mul.2 _ _ W g0.1 g1.1) v tb b w hs ht hp
theorem pk_17 (E : EnvP) : PK E 17 := by
  intro hE t hop hn hb hg hz hf
  obtain ⟨op, n, m, ps⟩ := t
  obtain rfl : op = 17 := hop
  dsimp only at *
  obtain ⟨e1, -⟩ := mk_of (k := 17) (r := 1) (ts := [1, 1]) rfl hz
  obtain ⟨x, y, rfl, q0, q1⟩ := map2 e1
  obtain ⟨H0, g0⟩ := hg x (by simp)
  obtain ⟨H1, g1⟩ := hg y (by simp)
  intro v tb b w f q hs ht hw
  cases hw
  have hT : telV E ⟨17, n, m, [x, y]⟩ = ofTwoR divR (telV E x) (telV E y) := by rw [telV_eq]; rfl
  rw [hT]
  refine div_c E 17 n m x y H0 H1 (fun W => ?_) v tb b w hs ht
  by_cases h : (telV E y).1 = 0
  · rw [if_pos h, decide_eq_false (fun k => k h), h]
    exact Div_zero _ W
  · rw [if_neg h, decide_eq_true h]
    exact Div_of _ _ g0.1.1 (lt64 g0.1) g1.1.1 (lt64 g1.1) h (divOK_any _ _ (by omega) (by have := g1.1.1; have := g1.1.2; omega)) W
theorem pk_18 (E : EnvP) : PK E 18 := by
  intro hE t hop hn hb hg hz hf
  obtain ⟨op, n, m, ps⟩ := t
  obtain rfl : op = 18 := hop
  dsimp only at *
  obtain ⟨e1, -⟩ := mk_of (k := 18) (r := 2) (ts := [1, 1]) rfl hz
  obtain ⟨x, y, rfl, q0, q1⟩ := map2 e1
  obtain ⟨H0, g0⟩ := hg x (by simp)
  obtain ⟨H1, g1⟩ := hg y (by simp)
  intro v tb b w f q hs ht hw
  obtain ⟨p, e, hp⟩ := hw
  cases e
  have hT : telV E ⟨18, n, m, [x, y]⟩ = ofTwoR (fun a b => okR (bF 18 a b)) (telV E x) (telV E y) := by rw [telV_eq]; rfl
  rw [hT]
  exact two_c E 18 n m x y 105 p (bF 18) bi_less.1 H0 H1 (fun W => bi_less.2 _ _ W g0.1 g1.1) v tb b w hs ht hp
theorem pk_19 (E : EnvP) : PK E 19 := by
  intro hE t hop hn hb hg hz hf
  obtain ⟨op, n, m, ps⟩ := t
  obtain rfl : op = 19 := hop
  dsimp only at *
  obtain ⟨e1, -⟩ := mk_of (k := 19) (r := 2) (ts := [1, 1]) rfl hz
  obtain ⟨x, y, rfl, q0, q1⟩ := map2 e1
  obtain ⟨H0, g0⟩ := hg x (by simp)
  obtain ⟨H1, g1⟩ := hg y (by simp)
  intro v tb b w f q hs ht hw
  obtain ⟨p, e, hp⟩ := hw
  cases e
  have hT : telV E ⟨19, n, m, [x, y]⟩ = ofTwoR (fun a b => okR (bF 19 a b)) (telV E x) (telV E y) := by rw [telV_eq]; rfl
  rw [hT]
  exact two_c E 19 n m x y 106 p (bF 19) bi_leq.1 H0 H1 (fun W => bi_leq.2 _ _ W g0.1 g1.1) v tb b w hs ht hp
theorem pk_20 (E : EnvP) : PK E 20 := by
  intro hE t hop hn hb hg hz hf
  obtain ⟨op, n, m, ps⟩ := t
  obtain rfl : op = 20 := hop
  dsimp only at *
  obtain ⟨e1, -⟩ := mk_of (k := 20) (r := 2) (ts := [1, 1]) rfl hz
  obtain ⟨x, y, rfl, q0, q1⟩ := map2 e1
  obtain ⟨H0, g0⟩ := hg x (by simp)
  obtain ⟨H1, g1⟩ := hg y (by simp)
  intro v tb b w f q hs ht hw
  obtain ⟨p, e, hp⟩ := hw
  cases e
  have hT : telV E ⟨20, n, m, [x, y]⟩ = ofTwoR (fun a b => okR (bF 20 a b)) (telV E x) (telV E y) := by rw [telV_eq]; rfl
  rw [hT]
  exact two_c E 20 n m x y 107 p (bF 20) bi_eq.1 H0 H1 (fun W => bi_eq.2 _ _ W g0.1 g1.1) v tb b w hs ht hp
theorem pk_21 (E : EnvP) : PK E 21 := by
  intro hE t hop hn hb hg hz hf
  obtain ⟨op, n, m, ps⟩ := t
  obtain rfl : op = 21 := hop
  dsimp only at *
  obtain ⟨e1, -⟩ := mk_of (k := 21) (r := 2) (ts := [1, 1]) rfl hz
  obtain ⟨x, y, rfl, q0, q1⟩ := map2 e1
  obtain ⟨H0, g0⟩ := hg x (by simp)
  obtain ⟨H1, g1⟩ := hg y (by simp)
  intro v tb b w f q hs ht hw
  obtain ⟨p, e, hp⟩ := hw
  cases e
  have hT : telV E ⟨21, n, m, [x, y]⟩ = ofTwoR (fun a b => okR (bF 21 a b)) (telV E x) (telV E y) := by rw [telV_eq]; rfl
  rw [hT]
  exact two_c E 21 n m x y 108 p (bF 21) bi_more.1 H0 H1 (fun W => bi_more.2 _ _ W g0.1 g1.1) v tb b w hs ht hp
theorem pk_22 (E : EnvP) : PK E 22 := by
  intro hE t hop hn hb hg hz hf
  obtain ⟨op, n, m, ps⟩ := t
  obtain rfl : op = 22 := hop
  dsimp only at *
  obtain ⟨e1, -⟩ := mk_of (k := 22) (r := 2) (ts := [1, 1]) rfl hz
  obtain ⟨x, y, rfl, q0, q1⟩ := map2 e1
  obtain ⟨H0, g0⟩ := hg x (by simp)
  obtain ⟨H1, g1⟩ := hg y (by simp)
  intro v tb b w f q hs ht hw
  obtain ⟨p, e, hp⟩ := hw
  cases e
  have hT : telV E ⟨22, n, m, [x, y]⟩ = ofTwoR (fun a b => okR (bF 22 a b)) (telV E x) (telV E y) := by rw [telV_eq]; rfl
  rw [hT]
  exact two_c E 22 n m x y 109 p (bF 22) bi_meq.1 H0 H1 (fun W => bi_meq.2 _ _ W g0.1 g1.1) v tb b w hs ht hp
theorem pk_23 (E : EnvP) : PK E 23 := by
  intro hE t hop hn hb hg hz hf
  obtain ⟨op, n, m, ps⟩ := t
  obtain rfl : op = 23 := hop
  dsimp only at *
  obtain ⟨e1, -⟩ := mk_of (k := 23) (r := 1) (ts := [1, 1]) rfl hz
  obtain ⟨x, y, rfl, q0, q1⟩ := map2 e1
  obtain ⟨H0, g0⟩ := hg x (by simp)
  obtain ⟨H1, g1⟩ := hg y (by simp)
  intro v tb b w f q hs ht hw
  obtain ⟨p, e, hp⟩ := hw
  cases e
  have hT : telV E ⟨23, n, m, [x, y]⟩ = ofTwoR (fun a b => okR (bF 23 a b)) (telV E x) (telV E y) := by rw [telV_eq]; rfl
  rw [hT]
  exact two_c E 23 n m x y 110 p (bF 23) bi_lesser.1 H0 H1 (fun W => bi_lesser.2 _ _ W g0.1 g1.1) v tb b w hs ht hp
theorem pk_24 (E : EnvP) : PK E 24 := by
  intro hE t hop hn hb hg hz hf
  obtain ⟨op, n, m, ps⟩ := t
  obtain rfl : op = 24 := hop
  dsimp only at *
  obtain ⟨e1, -⟩ := mk_of (k := 24) (r := 1) (ts := [1, 1]) rfl hz
  obtain ⟨x, y, rfl, q0, q1⟩ := map2 e1
  obtain ⟨H0, g0⟩ := hg x (by simp)
  obtain ⟨H1, g1⟩ := hg y (by simp)
  intro v tb b w f q hs ht hw
  obtain ⟨p, e, hp⟩ := hw
  cases e
  have hT : telV E ⟨24, n, m, [x, y]⟩ = ofTwoR (fun a b => okR (bF 24 a b)) (telV E x) (telV E y) := by rw [telV_eq]; rfl
  rw [hT]
  exact two_c E 24 n m x y 111 p (bF 24) bi_greater.1 H0 H1 (fun W => bi_greater.2 _ _ W g0.1 g1.1) v tb b w hs ht hp
theorem pk_25 (E : EnvP) : PK E 25 := by
  intro hE t hop hn hb hg hz hf
  obtain ⟨op, n, m, ps⟩ := t
  obtain rfl : op = 25 := hop
  dsimp only at *
  obtain ⟨e1, -⟩ := mk_of (k := 25) (r := 2) (ts := [2, 2]) rfl hz
  obtain ⟨x, y, rfl, q0, q1⟩ := map2 e1
  obtain ⟨H0, g0⟩ := hg x (by simp)
  obtain ⟨H1, g1⟩ := hg y (by simp)
  exact wk_and E n m x y H0 H1
theorem pk_26 (E : EnvP) : PK E 26 := by
  intro hE t hop hn hb hg hz hf
  obtain ⟨op, n, m, ps⟩ := t
  obtain rfl : op = 26 := hop
  dsimp only at *
  obtain ⟨e1, -⟩ := mk_of (k := 26) (r := 2) (ts := [2, 2]) rfl hz
  obtain ⟨x, y, rfl, q0, q1⟩ := map2 e1
  obtain ⟨H0, g0⟩ := hg x (by simp)
  obtain ⟨H1, g1⟩ := hg y (by simp)
  exact wk_or E n m x y H0 H1
theorem pk_27 (E : EnvP) : PK E 27 := by
  intro hE t hop hn hb hg hz hf
  obtain ⟨op, n, m, ps⟩ := t
  obtain rfl : op = 27 := hop
  dsimp only at *
  have hz' : alikeF 2 (ps.map (srt E)) ≠ 0 := hz
  obtain ⟨h1, -, -, -⟩ := alike_of hz'
  obtain ⟨x, y, rfl⟩ := len2 (by simpa using h1)
  exact wk_either E n m x y (hg x (by simp)).1 (hg y (by simp)).1
theorem pk_28 (E : EnvP) : PK E 28 := by
  intro hE t hop hn hb hg hz hf
  obtain ⟨op, n, m, ps⟩ := t
  obtain rfl : op = 28 := hop
  dsimp only at *
  have hz' : choiceF (ps.map (srt E)) ≠ 0 := hz
  obtain ⟨a, h1, -⟩ := choice_of hz'
  obtain ⟨x, y, z, rfl⟩ := len3 (by have := congrArg List.length h1; simpa using this)
  exact wk_choice E n m x y z (hg x (by simp)).1 (hg y (by simp)).1 (hg z (by simp)).1
theorem pk_29 (E : EnvP) : PK E 29 := by
  intro hE t hop hn hb hg hz hf
  obtain ⟨op, n, m, ps⟩ := t
  obtain rfl : op = 29 := hop
  dsimp only at *
  exact wk_hold E _ rfl
theorem pk_30 (E : EnvP) : PK E 30 := by
  intro hE t hop hn hb hg hz hf
  obtain ⟨op, n, m, ps⟩ := t
  obtain rfl : op = 30 := hop
  dsimp only at *
  obtain ⟨e1, -⟩ := mk_of (k := 30) (r := 3) (ts := [1]) rfl hz
  obtain ⟨x, rfl, q0⟩ := map1 e1
  obtain ⟨H0, g0⟩ := hg x (by simp)
  exact wk_to E n m x H0 (fun W => Count_any _ g0.1.1 (lt64 g0.1) W)
theorem pk_31 (E : EnvP) : PK E 31 := by
  intro hE t hop hn hb hg hz hf
  obtain ⟨op, n, m, ps⟩ := t
  obtain rfl : op = 31 := hop
  dsimp only at *
  obtain ⟨e1, -⟩ := mk_of (k := 31) (r := 3) (ts := [1]) rfl hz
  obtain ⟨x, rfl, q0⟩ := map1 e1
  obtain ⟨H0, g0⟩ := hg x (by simp)
  exact wk_by E n m x H0 (fun W => Count_any _ g0.1.1 (lt64 g0.1) W) (fun W => Add_any _ _ hE.rep.1 (lt64 hE.rep) (count_64 _).1 (lt64 (count_64 _)) W)
theorem pk_32 (E : EnvP) : PK E 32 := by
  intro hE t hop hn hb hg hz hf
  obtain ⟨op, n, m, ps⟩ := t
  obtain rfl : op = 32 := hop
  dsimp only at *
  have hz' : ladF ⟨32, n, m, ps⟩ (ps.map (srt E)) ≠ 0 := hz
  have hl : LadOk ⟨32, n, m, ps⟩ (ps.map (srt E)) := (ladB_iff _ _).1 (by
    unfold ladF at hz'
    split at hz'
    · assumption
    · exact absurd rfl hz')
  have hlen : ps.length ≤ 8192 := by
    have h1 := length_cnodesL ps
    rw [cnodes_eq] at hn
    have h2 : 1 + cnodesL ps ≤ 8192 := hn
    omega
  intro v tb b w f q hs ht hw
  cases hw
  have hT : telV E ⟨32, n, m, ps⟩ = ladR ps (ps.map (telV E)) := by rw [telV_eq]; rfl
  rw [hT]
  exact ladder_c E 32 n m ps (by have := hl.1; simpa using this) (by have := hl.2.1; simpa using this) hlen (fun x hx => (hg x hx).1) v tb b w hs ht
theorem pk_all (E : EnvP) : ∀ k, 1 ≤ k → k ≤ 32 → PK E k := op_cases (pk_1 E) (pk_2 E) (pk_3 E) (pk_4 E) (pk_5 E) (pk_6 E) (pk_7 E) (pk_8 E) (pk_9 E) (pk_10 E) (pk_11 E) (pk_12 E) (pk_13 E) (pk_14 E) (pk_15 E) (pk_16 E) (pk_17 E) (pk_18 E) (pk_19 E) (pk_20 E) (pk_21 E) (pk_22 E) (pk_23 E) (pk_24 E) (pk_25 E) (pk_26 E) (pk_27 E) (pk_28 E) (pk_29 E) (pk_30 E) (pk_31 E) (pk_32 E)
/-- tell of every formed core. -/
theorem tell_all (E : EnvP) (hE : EnvOk E) (t : Co) : Lies t → cnodes t ≤ 8192 → srt E t ≠ 0 → TeC E t := by
  induction t using Co.ind with
  | h t ih =>
    intro hl hn hz
    obtain ⟨k, hop, h1, h2, hb, hp, hs⟩ := formed_of hz
    refine ctell_step E t k h1 h2 hop (pk_all E k h1 h2 hE t hop hn hb (fun x hx => ⟨ih x hx (hl.parts hx) ?_ (hp x hx), good_all E hE x (hl.parts hx) (hp x hx)⟩) (by rw [← hs]; exact hz) hl.fit)
    have := cnodes_part hx
    omega
end Go.Proofs.YtaombbbblgfgdaaGreatDoor
