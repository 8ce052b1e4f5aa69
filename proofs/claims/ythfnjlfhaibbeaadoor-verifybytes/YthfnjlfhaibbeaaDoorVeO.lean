/- Package verify: what the laws ask first. -/
import Derived.Test.YthfnjlfhaibbeaaDoorVeN
namespace Go.Proofs.YthfnjlfhaibbeaaDoor
open Go.RowKit

def codedP (hh : Int) (l : List Ins) : PgP := ⟨0, ⟨0, 1, 1, 0, 0⟩, [], [], [], 0, hh, l⟩
theorem lk1 : looksF cfB (codedP 1 [(2, 0), (30, 0)]) = (some [some (0, 0), some (1, 0)], 0) := by decide
theorem lk2 : looksF cfB (codedP 0 [(2, 0), (30, 0)]) = (none, 0) := by decide
theorem lk3 : looksF cfB (codedP 1 [(2, 0), (30, 0), (30, 0)]) = (none, 2) := by decide
theorem c64_sm {x : Int} (h0 : 0 ≤ x) (h1 : x ≤ 99) : C64 x := ⟨by omega, by omega⟩
theorem coded_ok (hh : Int) (l : List Ins) (h0 : 0 ≤ hh) (h1 : hh ≤ 99) (hl : ∀ x, x ∈ l → (0 ≤ x.1 ∧ x.1 ≤ 99) ∧ 0 ≤ x.2 ∧ x.2 ≤ 99) : PgOk (codedP hh l) where
  met := (show C64 0 from ⟨by omega, by omega⟩)
  ru := ⟨(show C64 0 from ⟨by omega, by omega⟩), (show C64 1 from ⟨by omega, by omega⟩), (show C64 1 from ⟨by omega, by omega⟩), (show C64 0 from ⟨by omega, by omega⟩), (show C64 0 from ⟨by omega, by omega⟩)⟩
  K := fun x hx => by cases hx
  wins := fun x hx => by cases hx
  crons := fun x hx => by cases hx
  loc := (show C64 0 from ⟨by omega, by omega⟩)
  h := c64_sm h0 h1
  C := fun x hx => ⟨c64_sm (hl x hx).1.1 (hl x hx).1.2, c64_sm (hl x hx).2.1 (hl x hx).2.2⟩
theorem nil_rowsV (w : World) (k : Nat) (cs : Nat → List Value) : RowsK w (.slice none 0 0) 0 k cs := ⟨none, 0, rfl, by omega, by omega, .inl rfl⟩
theorem coded_c (hh : Int) (v : Value) (l : List Ins) (w : World) (hv : InsAt w v l) : Calls Tryd.prog 24 #[.int .i64 hh, v] w fun e w' => e = .returned (pgV (codedP hh l) ⟨.slice none 0 0, .slice none 0 0, .slice none 0 0, v⟩) ∧ Below w.heap.size w w' := by
  obtain ⟨va, vc, rfl, -, -⟩ := RowsK.shape hv
  go_enter Tryd.func24, Tryd.ntmps24
  go_wp2_with fail
  refine bodyPost_ret (v := pgV (codedP hh l) ⟨.slice none 0 0, .slice none 0 0, .slice none 0 0, .slice va l.length vc⟩) (by simp [codedP, results, Tryd.results24, go_sem, *]) rfl ⟨rfl, (Below.refl _ _).alloc (Nat.le_refl _) _⟩
theorem coded_rd {w : World} {l : List Ins} {v : Value} (hh : Int) (hv : InsAt w v l) : PgRd w (codedP hh l) ⟨.slice none 0 0, .slice none 0 0, .slice none 0 0, v⟩ := ⟨nil_rowsV _ _ _, nil_rowsV _ _ _, nil_rowsV _ _ _, hv⟩
theorem hsL_fl (pl : List (Option St)) : hsL pl = flR (fun a : Int => [Value.int .i64 a]) (pl.map htO) := by
  unfold hsL flR
  induction pl with
  | nil => rfl
  | cons x l ih => simp [ih]
/-- A row of heights, read. -/
theorem hs_rows {w : World} {B : Nat} {v : Value} {pl : List (Option St)} (h : w.ownsRow B 3 1 v pl.length (hsL pl)) : RowsK w v (pl.map htO).length 1 (fun i => [.int .i64 ((pl.map htO).getD i 0)]) := by
  rw [hsL_fl] at h
  rw [← List.length_map (f := htO)] at h
  exact OwR.rows (k := 1) (L := fun a : Int => [.int .i64 a]) (fun _ => rfl) h 0
theorem ins_new (w : World) (l : List Ins) (t : TypeId) (cs : Array Value) (hc : cs = (flR (fun a : Ins => inL a) l).toArray) (hl : l.length ≤ 9223372036854775807) : InsAt (w.alloc (.cells cs t)) (.slice (some ⟨w.heap.size, 0, none⟩) l.length l.length) l := by
  subst hc
  have B := Box.new w (flR (fun a : Ins => inL a) l) t
  refine ⟨some ⟨w.heap.size, 0, none⟩, l.length, rfl, Nat.le_refl _, hl, .inr ⟨w.heap.size, 0, rfl, B.lt, fun i hi j x hx => ?_⟩⟩
  have hg : l.getD i in0 = l[i] := by simp [List.getD, hi]
  have hx' : (inL l[i])[j]? = some x := by rw [← hg]; exact hx
  have := B.cell _ _ (flR_at (k := 2) (fun _ => rfl) l i j l[i] x (List.getElem?_eq_getElem hi) hx')
  have e : 0 + i * 2 + j = i * 2 + j := by omega
  exact e ▸ this
set_option maxRecDepth 20000 in
theorem awake23_c (w : World) (hF : FldAt w) (hT : TabAt w) : Calls Tryd.prog 12 #[] w fun e w' => e = .returned (.bool true) ∧ Below w.heap.size w w' := by
  have HF := chid hF
  have HT := chid hT
  clear hF hT
  have a1 := bel_alloc w (.cells #[.int .i64 2, .int .i64 0, .int .i64 30, .int .i64 0] 51)
  have HI := chid (ins_new w [(2, 0), (30, 0)] 51 #[.int .i64 2, .int .i64 0, .int .i64 30, .int .i64 0] rfl (by decide))
  have HA := chid a1
  clear a1
  generalize hw1 : w.alloc (.cells #[.int .i64 2, .int .i64 0, .int .i64 30, .int .i64 0] 51) = w1 at HI HA
  have HC1 := chid (coded_c 1 _ _ w1 HI.out)
  go_enter Tryd.func12, Tryd.ntmps12
  go_wp2_with fail
  refine Calls.mono HC1.out ?_
  rintro e w2 ⟨rfl, b2⟩
  have HA2 := chid (cbelow_on HA.out b2 HA.out.size)
  have HI2 := chid (RowsK.next HI.out b2)
  have HH := chid (heights_c _ _ w2 (coded_rd 1 HI2.out) (coded_ok 1 _ (by decide) (by decide) (by decide)) (HF.out.later HA2.out) (HT.out.next HA2.out))
  unfold HeP at HH
  rw [lk1] at HH
  simp only at HH
  clear HC1 b2 HI hw1
  go_wp2_with fail
  refine Calls.mono HH.out ?_
  rintro e w3 ⟨b3, v, rfl, hv⟩
  have HA3 := chid (cbelow_on HA2.out b3 HA2.out.size)
  have HV := chid (hs_rows hv)
  have HI3 := chid (RowsK.next HI2.out b3)
  have HF3 := chid (HF.out.later HA3.out)
  have HT3 := chid (HT.out.next HA3.out)
  obtain ⟨vb, vo, vcap, hve, -, -, hvl, hvx⟩ := RowsK.open HV.out (show 0 < 2 by omega)
  rw [show ([some (0, 0), some (1, 0)].map htO).length = 2 from rfl] at hve
  subst hve
  have HC2 := chid (coded_c 0 _ _ w3 HI3.out)
  clear HH b3 hv HI2 HA2 hvx hvl
  go_wp2_with fail
  refine Calls.mono HC2.out ?_
  rintro e w4 ⟨rfl, b4⟩
  have HA4 := chid (cbelow_on HA3.out b4 HA3.out.size)
  have HK := chid (check_c _ _ w4 (coded_rd 0 (RowsK.next HI3.out b4)) (coded_ok 0 _ (by decide) (by decide) (by decide)) (HF3.out.later b4) (HT3.out.next b4))
  have HV4 := chid (RowsK.next HV.out b4)
  have HF4 := chid (HF3.out.later b4)
  have HT4 := chid (HT3.out.next b4)
  have hk : ckF (codedP 0 [(2, 0), (30, 0)]) = (0, 41) := by unfold ckF; rw [lk2]; rfl
  rw [hk] at HK
  clear hk HC2 b4 HV HI3 HF3 HT3 HA3
  go_wp2_with fail
  refine Calls.mono HK.out ?_
  rintro e w5 ⟨rfl, b5⟩
  have HA5 := chid (cbelow_on HA4.out b5 HA4.out.size)
  have HV5 := chid (RowsK.next HV4.out b5)
  have HF5 := chid (HF4.out.later b5)
  have HT5 := chid (HT4.out.next b5)
  have a6 := bel_alloc w5 (.cells #[.int .i64 2, .int .i64 0, .int .i64 30, .int .i64 0, .int .i64 30, .int .i64 0] 51)
  have HI6 := chid (ins_new w5 [(2, 0), (30, 0), (30, 0)] 51 #[.int .i64 2, .int .i64 0, .int .i64 30, .int .i64 0, .int .i64 30, .int .i64 0] rfl (by decide))
  have HA6 := chid (cbelow_on HA5.out a6 HA5.out.size)
  have HV6 := chid (RowsK.next HV5.out a6)
  have HF6 := chid (HF5.out.later a6)
  have HT6 := chid (HT5.out.next a6)
  clear HK b5 HV4 HF4 HT4 HA4 a6 HV5 HF5 HT5 HA5
  generalize hw6 : w5.alloc (.cells #[.int .i64 2, .int .i64 0, .int .i64 30, .int .i64 0, .int .i64 30, .int .i64 0] 51) = w6 at HI6 HA6 HV6 HF6 HT6
  have HC6 := chid (coded_c 1 _ _ w6 HI6.out)
  go_wp2_with fail
  refine Calls.mono HC6.out ?_
  rintro e w7 ⟨rfl, b7⟩
  have HA7 := chid (cbelow_on HA6.out b7 HA6.out.size)
  have HK := chid (check_c _ _ w7 (coded_rd 1 (RowsK.next HI6.out b7)) (coded_ok 1 _ (by decide) (by decide) (by decide)) (HF6.out.later b7) (HT6.out.next b7))
  have HV7 := chid (RowsK.next HV6.out b7)
  have hk : ckF (codedP 1 [(2, 0), (30, 0), (30, 0)]) = (2, 41) := by unfold ckF; rw [lk3]; rfl
  rw [hk] at HK
  clear hk HC6 b7 HV6 HI6 HF6 HT6 HA6 hw6
  go_wp2_with fail
  refine Calls.mono HK.out ?_
  rintro e w8 ⟨rfl, b8⟩
  have HA8 := chid (cbelow_on HA7.out b8 HA7.out.size)
  obtain ⟨vb', vo', vcap', hve, -, -, hvl, hvx⟩ := RowsK.open (RowsK.next HV7.out b8) (show 0 < 2 by omega)
  cases hve
  have x1 : w8.cell? ⟨vb, vo + 1, none⟩ = some (.int .i64 1) := by
    have h1 := hvx 1 (by show 1 < 2; omega) 0 _ rfl
    rw [show vo + 1 * 1 + 0 = vo + 1 by omega] at h1
    exact h1
  clear HK b8 HV7 HA7 hvx
  go_wp2_with fail
  go_ret
  exact ⟨rfl, HA8.out⟩
end Go.Proofs.YthfnjlfhaibbeaaDoor
