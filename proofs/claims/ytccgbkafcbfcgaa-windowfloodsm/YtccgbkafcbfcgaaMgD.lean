/- The document's product (package capstanref01). The document's quotient (package capstanref01). The document's Mul, Scale, Floor, Ceil, Whole, Count, Mean and Div (package capstanref01). The document's Div and Mean (package capstanref01). -/
import Derived.Test.YtccgbkafcbfcgaaMgC
import Derived.Test.YtccgbkafcbfcgaaTims
import Derived.Deep.OwnRows
import Derived.Deep.QuietTactic
section
namespace Go.Proofs.Ytccgbkafcbfcgaa
open Go.RowKit Go.Deep

/-- The block g is a row of ints that may be written, and reads as d. -/
structure RowG (w : World) (g : Nat) (d : List Int) : Prop where
  lt : g < w.heap.size
  cell : ∀ i, i < d.length → w.cell? ⟨g, i, none⟩ = some (.int .i64 (d.getD i 0))
  free : ∀ i, i < d.length → w.frozen? ⟨g, i, none⟩ = false
theorem RowG.set {w : World} {g : Nat} {d : List Int} (h : RowG w g d) (k : Nat) (hk : k < d.length) (x : Int) : RowG (w.setCell ⟨g, k, none⟩ (.int .i64 x)) g (d.set k x) := by
  refine ⟨by simpa [World.setCell] using h.lt, fun i hi => ?_, fun i hi => ?_⟩
  · rw [List.length_set] at hi
    rw [getD_set d k i x hk]
    by_cases e : i = k
    · subst e; rw [if_pos rfl, World.cell?_setCell_same _ _ _ (h.cell i hi)]
    · rw [if_neg e, World.cell?_setCell_other _ _ _ _ (by intro e'; cases e'; exact e rfl)]; exact h.cell i hi
  · rw [List.length_set] at hi
    rw [World.frozen?_setCell]; exact h.free i hi
theorem RowG.made (w : World) (n : Nat) : RowG (w.alloc (.cells (madeCells #[.int .i64 0] n) 3)) w.heap.size (List.replicate n 0) := by
  refine ⟨by simp, fun i hi => ?_, fun i hi => ?_⟩
  · simp at hi
    rw [zeros_get]
    exact (World.rowIs_made w (.int .i64 0) n 3).cell hi
  · exact (World.rowIs_made w (.int .i64 0) n 3).frozen i
theorem RowG.isD {w : World} {g : Nat} {d : List Int} (h : RowG w g d) (hl : d.length ≤ 1000) : IsD w (.slice (some ⟨g, 0, none⟩) d.length d.length) d :=
  ⟨_, _, rfl, hl, Nat.le_refl _, by unfold maxLen; omega, .inr ⟨g, 0, rfl, h.lt, fun i hi => by rw [Nat.zero_add]; exact h.cell i hi⟩⟩
theorem RowG.later {w w' : World} {g : Nat} {d : List Int} (h : RowG w g d) (hb : Below w.heap.size w w') : RowG w' g d :=
  ⟨Nat.lt_of_lt_of_le h.lt hb.size, fun i hi => (hb.cell (p := ⟨g, i, none⟩) h.lt).trans (h.cell i hi), fun i hi => (hb.frozen (p := ⟨g, i, none⟩) h.lt).trans (h.free i hi)⟩

/-- What the product's loops find in memory: the two numbers' boxes, the result's, and the numbers' digits. -/
structure TMem (s0 : Nat) (na nb : Bool) (va vb : Value) (wr : World) : Prop where
  a0 : wr.cell? ⟨s0, 0, none⟩ = some (.bool na)
  a1 : wr.cell? ⟨s0, 1, none⟩ = some va
  b0 : wr.cell? ⟨s0 + 1, 0, none⟩ = some (.bool nb)
  b1 : wr.cell? ⟨s0 + 1, 1, none⟩ = some vb
  c0 : wr.cell? ⟨s0 + 1 + 1, 0, none⟩ = some (.bool false)
  c1 : wr.cell? ⟨s0 + 1 + 1, 1, none⟩ = some (.slice none 0 0)
  f0 : wr.frozen? ⟨s0 + 1 + 1, 0, none⟩ = false
  f1 : wr.frozen? ⟨s0 + 1 + 1, 1, none⟩ = false
theorem TMem.later {s0 : Nat} {na nb : Bool} {va vb : Value} {wr w' : World} (h : TMem s0 na nb va vb wr) (hb : Below (s0 + 1 + 1 + 1) wr w') : TMem s0 na nb va vb w' :=
  ⟨(hb.cell (p := ⟨s0, 0, none⟩) (by simp <;> omega)).trans h.a0, (hb.cell (p := ⟨s0, 1, none⟩) (by simp <;> omega)).trans h.a1, (hb.cell (p := ⟨s0 + 1, 0, none⟩) (by simp <;> omega)).trans h.b0, (hb.cell (p := ⟨s0 + 1, 1, none⟩) (by simp <;> omega)).trans h.b1, (hb.cell (p := ⟨s0 + 1 + 1, 0, none⟩) (by simp <;> omega)).trans h.c0, (hb.cell (p := ⟨s0 + 1 + 1, 1, none⟩) (by simp <;> omega)).trans h.c1, (hb.frozen (p := ⟨s0 + 1 + 1, 0, none⟩) (by simp <;> omega)).trans h.f0, (hb.frozen (p := ⟨s0 + 1 + 1, 1, none⟩) (by simp <;> omega)).trans h.f1⟩

end Go.Proofs.Ytccgbkafcbfcgaa
end
section
namespace Go.Proofs.Ytccgbkafcbfcgaa
open Go.RowKit Go.Deep

theorem set_same (q : List Int) (k : Nat) (h : k < q.length) (hz : q.getD k 0 = 0) : q.set k 0 = q := by
  apply List.ext_getElem (by simp)
  intro i h1 h2
  rw [List.getElem_set]
  split
  · rename_i e; subst e; rw [getD_at q k h] at hz; exact hz.symm
  · rfl
theorem p2_le (t : Nat) (h : t ≤ 16) : p2 t ≤ 65536 := by
  have : ∀ k : Nat, k ≤ 16 → p2 (16 - k) ≤ 65536 := by
    intro k
    induction k with
    | zero => intro _; decide
    | succ k ih =>
      intro hk
      have h1 := ih (by omega)
      have h2 := p2_succ (16 - (k + 1))
      rw [show 16 - (k + 1) + 1 = 16 - k by omega] at h2
      have h3 := p2_pos (16 - (k + 1))
      omega
  have h1 := this (16 - t) (by omega)
  rwa [show 16 - (16 - t) = t by omega] at h1
theorem ediv_ex {n D q r : Int} (h : n = q * D + r) (r0 : 0 ≤ r) (r1 : r < D) : n / D = q := by
  subst h
  rw [Int.add_comm, Int.add_mul_ediv_right _ _ (by omega), Int.ediv_eq_zero_of_lt r0 r1, Int.zero_add]
theorem dgs_one : Dgs [1] := by intro d hd; simp at hd; subst hd; decide
theorem isD_one (w : World) : IsD (w.alloc (.cells #[.int .i64 1] 3)) (.slice (some ⟨w.heap.size, 0, none⟩) 1 1) [1] := by
  refine ⟨_, 1, rfl, by decide, by decide, by unfold maxLen; omega, .inr ⟨w.heap.size, 0, rfl, by simp, fun i hi => ?_⟩⟩
  have e : i = 0 := by simp at hi; omega
  subst e
  simp [go_sem]
theorem set_again (q : List Int) (k : Nat) (x y : Int) : (q.set k x).set k y = q.set k y := by simp

/-- What the quotient's loops find in memory. -/
structure VMem (s0 : Nat) (na : Bool) (va : Value) (wr : World) : Prop where
  a0 : wr.cell? ⟨s0, 0, none⟩ = some (.bool na)
  a1 : wr.cell? ⟨s0, 1, none⟩ = some va
  c0 : wr.cell? ⟨s0 + 1, 0, none⟩ = some (.bool false)
  c1 : wr.cell? ⟨s0 + 1, 1, none⟩ = some (.slice none 0 0)
  f0 : wr.frozen? ⟨s0 + 1, 0, none⟩ = false
  f1 : wr.frozen? ⟨s0 + 1, 1, none⟩ = false
theorem VMem.later {s0 : Nat} {na : Bool} {va : Value} {wr w' : World} (h : VMem s0 na va wr) (hb : Below (s0 + 1 + 1) wr w') : VMem s0 na va w' :=
  ⟨(hb.cell (p := ⟨s0, 0, none⟩) (by simp <;> omega)).trans h.a0, (hb.cell (p := ⟨s0, 1, none⟩) (by simp <;> omega)).trans h.a1, (hb.cell (p := ⟨s0 + 1, 0, none⟩) (by simp <;> omega)).trans h.c0, (hb.cell (p := ⟨s0 + 1, 1, none⟩) (by simp <;> omega)).trans h.c1, (hb.frozen (p := ⟨s0 + 1, 0, none⟩) (by simp <;> omega)).trans h.f0, (hb.frozen (p := ⟨s0 + 1, 1, none⟩) (by simp <;> omega)).trans h.f1⟩

set_option maxHeartbeats 4000000 in
theorem Over_any (na : Bool) (sa : Value) (la : List Int) (a D : Int) (w : World) (ha : BigV w na sa la a) (ka : la.length ≤ 400) (D0 : 1 ≤ D) (D1 : D < 9223372036854775808) :
    Calls Try.prog 77 #[.agg #[.bool na, sa], .int .i64 D] w (GivesBig w (a / D)) := by
  obtain ⟨Ia, da, ta, ea⟩ := ha
  have EA : Hid _ := ea
  clear ea
  have IA := Ia
  obtain ⟨aa, ca, rfl, _, _, _, hA⟩ := Ia
  have hmk := run_make_row' (P := Try.prog) 101 3 (.int .i64 0) 8 Try.underlying101 info_int rfl .i64 .i64 la.length (by omega) (by omega)
  go_enter Try.func77, Try.ntmps77
  go_wp2_with fail
  have rw0 := RowG.made ((w.alloc (.cells #[.bool na, .slice aa la.length ca] 103)).alloc (.cells #[.bool false, .slice none 0 0] 103)) la.length
  have mm0 : VMem w.heap.size na (.slice aa la.length ca) (((w.alloc (.cells #[.bool na, .slice aa la.length ca] 103)).alloc (.cells #[.bool false, .slice none 0 0] 103)).alloc (.cells (madeCells #[.int .i64 0] la.length) 3)) := by
    constructor <;> simp [go_sem]
  have bl0 : Below w.heap.size w (((w.alloc (.cells #[.bool na, .slice aa la.length ca] 103)).alloc (.cells #[.bool false, .slice none 0 0] 103)).alloc (.cells (madeCells #[.int .i64 0] la.length) 3)) := three_allocs _ _ _ _
  have st := VOut.start la D (by omega)
  clear hmk
  go_loopw [6, 7] (fun r i wr => ∃ (m : Nat) (R : Int) (q : List Int), r = .int .u64 R ∧ i = .int .i64 ((m : Int) - 1) ∧ VOut la D m q R ∧ RowG wr (w.heap.size + 1 + 1) q ∧ VMem w.heap.size na (.slice aa la.length ca) wr ∧ Below w.heap.size w wr) (fun _ i _ => (intOf i + 1).toNat)
  case atStart => exact ⟨la.length, 0, _, rfl, rfl, st, by simpa using rw0, mm0, bl0⟩
  case round =>
    clear rw0 mm0 bl0 st
    obtain ⟨m, R, q, rfl, rfl, inv, row, mm, bl⟩ := hrel
    have m1 := mm.a0
    have m2 := mm.a1
    have hm := inv.bd
    by_cases hm0 : m = 0
    · subst hm0
      have hv := inv.done
      have r0 := inv.r0
      have r1 := inv.r1
      have qb := (val_bd q inv.dg).1
      have hln : q.length ≤ 1000 := by have := inv.len; omega
      have hI := row.isD hln
      rw [inv.len] at hI
      have m5 := mm.c0
      have m6 := mm.c1
      have m7 := mm.f0
      have m8 := mm.f1
      have HV : Hid _ := hv
      have hz0 : w.heap.size < wr.heap.size := by have := row.lt; omega
      have hz1 : w.heap.size + 1 < wr.heap.size := by have := row.lt; omega
      have hql4 : q.length ≤ 400 := by have := inv.len; omega
      clear hv hA
      go_wp2_with fail
      refine (trim_any _ q _ hI inv.dg).mono ?_
      rintro e w1 ⟨s', l', rfl, I', d', t', v', hw⟩
      subst hw
      have l4 : l'.length ≤ 400 := len_le l' d' t' 400 (by rw [v']; have h1 := (val_bd q inv.dg).2; have h2 := pw_mono hql4; omega)
      have V' : Hid _ := v'
      clear v'
      by_cases hsr : na = true ∧ 0 < R
      · obtain ⟨rfl, hR⟩ := hsr
        have en : a / D = sg true (val l' + 1) := by
          show a / D = -(val l' + 1)
          rw [EA.out, V'.out]
          exact ediv_ex (r := D - R) (by show -val la = _; rw [HV.out, Int.neg_mul, Int.add_mul]; omega) (by omega) (by omega)
        have EN : Hid _ := en
        clear en
        have I2 := I'
        obtain ⟨a', c', rfl, _⟩ := I'
        go_wp2_with fail
        refine (sum_any _ _ l' [1] _ (I2.later ((Below.refl _ _).alloc (Nat.le_refl _) _)) (isD_one _) d' dgs_one (by omega) (by decide)).mono ?_
        rintro e w2 ⟨s2, l2, rfl, I3, d3, t3, v3, hb2⟩
        have g1 := hb2.cell (p := ⟨w.heap.size, 0, none⟩) (by simp; omega)
        have g5 := hb2.cell (p := ⟨w.heap.size + 1, 0, none⟩) (by simp; omega)
        have g6 := hb2.cell (p := ⟨w.heap.size + 1, 1, none⟩) (by simp; omega)
        have g7 := hb2.frozen (p := ⟨w.heap.size + 1, 0, none⟩) (by simp; omega)
        have g8 := hb2.frozen (p := ⟨w.heap.size + 1, 1, none⟩) (by simp; omega)
        simp [go_sem, hz0, hz1, m1, m5, m6, m7, m8] at g1 g5 g6 g7 g8
        have V3 : Hid _ := v3
        clear v3
        have I4 := I3
        obtain ⟨a2, c2, rfl, _⟩ := I3
        go_wp2_with fail
        refine bodyPost_ret (v := .agg #[.bool true, .slice a2 l2.length c2]) (by simp [results, Try.results77, go_sem, g5, g6]) rfl ⟨_, _, l2, rfl, ⟨?_, d3, t3, by rw [EN.out, V3.out]; rfl⟩, ?_⟩
        · exact isD_put I4 _ g5 g6 _ _
        · exact (((bl.alloc (by omega) _).trans (hb2.mono (by simp; omega))).setCell (by simp) _).setCell (by simp) _
      · have en : a / D = sg na (val l') := by
          rw [EA.out, V'.out]
          cases na
          · exact ediv_ex (r := R) HV.out r0 r1
          · have hR : R = 0 := by simp at hsr; omega
            exact ediv_ex (r := 0) (by show -val la = -val q * D + 0; rw [HV.out, hR, Int.neg_mul]; omega) (by omega) (by omega)
        have EN : Hid _ := en
        clear en
        have I2 := I'
        obtain ⟨a', c', rfl, _⟩ := I'
        cases na
        · go_wp2_with fail
          refine bodyPost_ret (v := .agg #[.bool false, .slice a' l'.length c']) (by simp [results, Try.results77, go_sem, m5, m6]) rfl ⟨_, _, l', rfl, ⟨?_, d', t', EN.out⟩, ?_⟩
          · exact isD_put I2 _ m5 m6 _ _
          · exact (bl.setCell (by simp) _).setCell (by simp) _
        · have hR : R = 0 := by simp at hsr; omega
          subst hR
          go_wp2_with fail
          refine bodyPost_ret (v := .agg #[.bool true, .slice a' l'.length c']) (by simp [results, Try.results77, go_sem, m5, m6]) rfl ⟨_, _, l', rfl, ⟨?_, d', t', EN.out⟩, ?_⟩
          · exact isD_put I2 _ m5 m6 _ _
          · exact (bl.setCell (by simp) _).setCell (by simp) _
    · obtain ⟨k, rfl⟩ : ∃ k, m = k + 1 := ⟨m - 1, by omega⟩
      rcases hA with hA | ⟨ba, oa, rfl, h5, h6⟩
      · subst hA; simp at hm
      have ek : (((k + 1 : Nat) : Int) - 1) = (k : Int) := by omega
      rw [ek]
      have k1 : (k : Int) < (la.length : Int) := by omega
      have gx := getD_dig la da k
      have hin := VIn.start (la.getD k 0) D R gx.1 gx.2 inv.r0 inv.r1
      have hql := inv.len
      have hqz := inv.zs k (by omega)
      have row' : RowG wr (w.heap.size + 1 + 1) (q.set k 0) := by rw [set_same q k (by omega) hqz]; exact row
      have HQ : Hid _ := hql
      have HZ : Hid _ := hqz
      clear hqz hql
      go_wp2_with fail
      go_loopw [6, 8] (fun r j wr2 => ∃ (c : Nat) (y R' : Int), r = .int .u64 R' ∧ j = .int .i64 ((c : Int) - 1) ∧ c ≤ 16 ∧ VIn (la.getD k 0) D R (16 - c) y R' ∧ RowG wr2 (w.heap.size + 1 + 1) (q.set k y) ∧ VMem w.heap.size na (.slice (some ⟨ba, oa, none⟩) la.length ca) wr2 ∧ Below w.heap.size w wr2) (fun _ j _ => (intOf j + 1).toNat)
      case atStart => exact ⟨16, 0, R, rfl, rfl, by omega, hin, row', mm, bl⟩
      case round =>
        clear m1 m2 mm row row' bl hin
        obtain ⟨c, y, R', rfl, rfl, hc, vin, row, mm, bl⟩ := hrel
        have m1 := mm.a0
        have m2 := mm.a1
        by_cases hc0 : c = 0
        · subst hc0
          have nx := inv.next vin
          go_wp2_with fail
          exact ⟨⟨k, R', _, rfl, rfl, nx, row, mm, bl⟩, by simp [intOf]⟩
        · obtain ⟨e, rfl⟩ : ∃ e, c = e + 1 := ⟨c - 1, by omega⟩
          have ee : (((e + 1 : Nat) : Int) - 1) = (e : Int) := by omega
          rw [ee]
          have hca : wr.cell? ⟨ba, oa + k, none⟩ = some (.int .i64 (la.getD k 0)) := (bl.cell (p := ⟨ba, oa + k, none⟩) h5).trans (h6 k (by omega))
          have hkl : k < (q.set k y).length := by rw [List.length_set, HQ.out]; omega
          have hcd := row.cell k hkl
          rw [getD_set q k k y (by rw [HQ.out]; omega), if_pos rfl] at hcd
          have hfd := row.free k hkl
          obtain ⟨s1, s2⟩ := vin.step (by omega)
          rw [show 16 - (e + 1) + 1 = 16 - e by omega, show 15 - (16 - (e + 1)) = e by omega, show p2 e = 2 ^ e from rfl] at s1 s2
          have r0 := vin.r0
          have r1 := vin.r1
          have y0 := vin.y0
          have y1 : y < 65536 := by have h1 := vin.y1; have h2 := p2_le (16 - (e + 1)) (by omega); omega
          have x0 : 0 ≤ la.getD k 0 / 2 ^ e := Int.ediv_nonneg gx.1 (Int.le_of_lt (Int.pow_pos (by decide)))
          have S1 : Hid _ := s1
          have S2 : Hid _ := s2
          have H6 : Hid _ := h6
          have he : e ≤ 15 := by omega
          have rowA := row.set k hkl (2 * y)
          rw [set_again] at rowA
          have rowB := rowA.set k (by rw [List.length_set, HQ.out]; omega) (2 * y + 1)
          rw [set_again] at rowB
          have HR : Hid _ := row
          have HRA : Hid _ := rowA
          have HRB : Hid _ := rowB
          clear s1 s2 h6 row rowA rowB vin
          generalize la.getD k 0 = x at *
          have z0 := Int.emod_nonneg (x / 2 ^ e) (show (2 : Int) ≠ 0 by decide)
          have z1 := Int.emod_lt_of_pos (x / 2 ^ e) (show (0 : Int) < 2 by decide)
          by_cases hcmp : 2 * R' + x / 2 ^ e % 2 < D
          · go_wp2_with fail
            exact ⟨⟨e, 2 * y, _, rfl, rfl, by omega, S1.out hcmp, HRA.out, mm.later ((Below.refl _ _).setCell (by simp) _), bl.setCell (by simp; omega) _⟩, by simp [intOf]⟩
          · go_wp2_with fail
            exact ⟨⟨e, 2 * y + 1, _, rfl, rfl, by omega, S2.out (by omega), HRB.out, mm.later (((Below.refl _ _).setCell (by simp) _).setCell (by simp) _), (bl.setCell (by simp; omega) _).setCell (by simp; omega) _⟩, by simp [intOf]⟩
end Go.Proofs.Ytccgbkafcbfcgaa
end
section
namespace Go.Proofs.Ytccgbkafcbfcgaa
open Go.RowKit Go.Deep

theorem pw8 : pw 8 = 340282366920938463463374607431768211456 := by decide
theorem BigV.len8 {w : World} {neg : Bool} {s : Value} {l : List Int} {n : Int} (h : BigV w neg s l n) (h0 : -340282366920938463463374607431768211456 < n) (h1 : n < 340282366920938463463374607431768211456) : l.length ≤ 400 := by
  have := h.len 8 (by rw [pw8]; omega)
  omega
theorem prod_ex (a b : Int) (a0 : -9223372036854775808 ≤ a) (a1 : a < 9223372036854775808) (b0 : -9223372036854775808 ≤ b) (b1 : b < 9223372036854775808) :
    -85070591730234615865843651857942052864 ≤ a * b ∧ a * b ≤ 85070591730234615865843651857942052864 := by
  have h1 : (a.natAbs * b.natAbs : Nat) ≤ 9223372036854775808 * 9223372036854775808 := Nat.mul_le_mul (by omega) (by omega)
  rw [← Int.natAbs_mul] at h1
  omega

theorem rheld_bd (n : Int) : -9223372036854775808 ≤ rheld n ∧ rheld n < 9223372036854775808 := by unfold rheld; split <;> (try split) <;> omega
theorem rheld_in (n : Int) (h0 : -9223372036854775808 ≤ n) (h1 : n < 9223372036854775808) : rheld n = n := by unfold rheld; rw [if_neg (by omega), if_neg (by omega)]
end Go.Proofs.Ytccgbkafcbfcgaa
end
section
namespace Go.Proofs.Ytccgbkafcbfcgaa
open Go.RowKit Go.Deep

theorem two_allocs (w : World) (o1 o2 : Obj) : Below w.heap.size w ((w.alloc o1).alloc o2) := ((Below.refl _ _).alloc (Nat.le_refl _) _).alloc (by simp) _
/-- Rounded down, whatever the divisor's sign. -/
def rfl' (n d : Int) : Int := if 0 < d then n / d else (-n) / (-d)

set_option maxHeartbeats 400000 in
theorem rMean_any (na : Bool) (sa : Value) (la : List Int) (a n : Int) (w : World) (ha : BigV w na sa la a) (ka : la.length ≤ 400) (n0 : 1 ≤ n) (n1 : n < 9223372036854775808) :
    Calls Try.prog 54 #[.agg #[.bool na, sa], .int .i64 n] w (FitOut w (a / n)) := by
  obtain ⟨aa, ca, rfl, _⟩ := ha.isD
  have k : ¬ n < 1 := by omega
  go_enter Try.func54, Try.ntmps54
  go_wp2_with fail
  refine (Over_any na _ la a n _ (ha.later ((Below.refl _ _).alloc (Nat.le_refl _) _)) ka n0 n1).mono ?_
  rintro e w1 ⟨nd, sd, ld, rfl, vd, hb1⟩
  go_wp2_with fail
  refine (rFit_any nd sd ld _ _ vd).mono ?_
  rintro e w2 ⟨x, b, rfl, hb, hx, hb2⟩
  go_wp2_with fail
  go_ret2
  exact ⟨x, b, rfl, hb, hx, below_on (((Below.refl _ _).alloc (Nat.le_refl _) _).trans (hb1.mono (by simp))) hb2⟩
theorem rMean_none (na : Bool) (sa : Value) (la : List Int) (a n : Int) (w : World) (ha : BigV w na sa la a) (n0 : n < 1) :
    Calls Try.prog 54 #[.agg #[.bool na, sa], .int .i64 n] w fun e w' => e = .returned (.tuple #[.int .i64 0, .bool false]) ∧ Below w.heap.size w w' := by
  obtain ⟨aa, ca, rfl, _⟩ := ha.isD
  go_enter Try.func54, Try.ntmps54
  go_wp2_with fail
  go_ret2
  exact ⟨rfl, (Below.refl _ _).alloc (Nat.le_refl _) _⟩
end Go.Proofs.Ytccgbkafcbfcgaa
end
