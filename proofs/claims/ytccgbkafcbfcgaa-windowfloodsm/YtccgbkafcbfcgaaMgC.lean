/- The document's Fit, Held, Plus and Minus (package capstanref01). The document's Plus (package capstanref01). The document's Add, Sub, Neg and Abs (package capstanref01): the exact number, held. -/
import Derived.Test.YtccgbkafcbfcgaaMgB
import Derived.Laws.Bits64b
section
namespace Go.Proofs.Ytccgbkafcbfcgaa
open Go.RowKit

theorem and_most (u : Int) (u0 : 0 ≤ u) (u1 : u < 18446744073709551616) : bits .and .u64 u 9223372036854775807 = u % 9223372036854775808 := by
  obtain ⟨a, rfl⟩ := Int.eq_ofNat_of_zero_le u0
  have h := bits_and_u64_nat a 9223372036854775807 (by omega) (by omega)
  have e : a &&& 9223372036854775807 = a % 9223372036854775808 := Nat.and_two_pow_sub_one_eq_mod a 63
  rw [e] at h
  exact h

theorem bcell' {W w1 : World} (hb : Below W.heap.size W w1) : (∀ b o, b < W.heap.size → w1.cell? ⟨b, o, none⟩ = W.cell? ⟨b, o, none⟩) ∧ (∀ b o, b < W.heap.size → w1.frozen? ⟨b, o, none⟩ = W.frozen? ⟨b, o, none⟩) :=
  ⟨fun b o h => hb.cell (p := ⟨b, o, none⟩) h, fun b o h => hb.frozen (p := ⟨b, o, none⟩) h⟩
/-- Above the digit m the size is U. -/
structure FitInv (l : List Int) (m : Nat) (U : Int) : Prop where
  eq : val l = val (l.take m) + pw m * U
  u0 : 0 ≤ U
theorem FitInv.step {l : List Int} {k : Nat} {U : Int} (h : FitInv l (k + 1) U) (hd : Dgs l) : FitInv l k (U * 65536 + l.getD k 0) := by
  obtain ⟨h1, h2⟩ := h
  have g := getD_dig l hd k
  refine ⟨?_, by omega⟩
  rw [h1, val_take_succ, pw_succ]
  generalize l.getD k 0 = x at *
  have e : pw k * (U * 65536 + x) = 65536 * pw k * U + pw k * x := by rw [Int.mul_add]; congr 1; rw [Int.mul_comm U, ← Int.mul_assoc, Int.mul_comm (pw k)]
  omega
theorem FitInv.lt {l : List Int} {m : Nat} {U : Int} (h : FitInv l m U) (hd : Dgs l) : U ≤ val l := by
  obtain ⟨h1, h2⟩ := h
  have b := (val_bd _ (dgs_take hd m)).1
  have e := Int.mul_le_mul_of_nonneg_right (show 1 ≤ pw m by have := pw_pos m; omega) h2
  omega

def Fit64 (n : Int) : Prop := -9223372036854775808 ≤ n ∧ n < 9223372036854775808
/-- What Fit answers. -/
def FitOut (w : World) (n : Int) (e : Ending) (w' : World) : Prop := ∃ x b, e = .returned (.tuple #[.int .i64 x, .bool b]) ∧ (b = true ↔ Fit64 n) ∧ (b = true → x = n) ∧ Below w.heap.size w w'

set_option maxHeartbeats 1000000 in
/-- The size of a number of up to four digits, and what Fit makes of it. -/
theorem rFit_mid (neg : Bool) (s : Value) (l : List Int) (n : Int) (w : World) (h : BigV w neg s l n) (h4 : l.length ≤ 4) (h0 : l ≠ []) :
    Calls Try.prog 53 #[.agg #[.bool neg, s]] w (FitOut w n) := by
  obtain ⟨hI, dg, tr, hn⟩ := h
  obtain ⟨a, c, rfl, _, _, _, hA⟩ := hI
  rcases hA with hA | ⟨b, off, rfl, h5, h6⟩
  · exact absurd hA h0
  have hl0 : l.length ≠ 0 := fun e => h0 (List.length_eq_zero_iff.1 e)
  have k0 : ((l.length : Int) == 0) = false := beq_eq_false_iff_ne.2 (by omega)
  have vb := val_bd l dg
  have vm : val l < 18446744073709551616 := by have := pw_mono h4; rw [pw4] at this; omega
  have vlow := val_low l dg tr (l.length - 1) (by omega)
  have vpos : 0 < val l := by have := pw_pos (l.length - 1); omega
  have HL : Hid _ := vlow
  have HB : Hid _ := vb
  have H0 : Hid _ := hl0
  have HN : Hid _ := hn
  have H6 : Hid _ := h6
  clear vlow vb hl0 hn h6 h0
  go_enter Try.func53, Try.ntmps53
  go_wp2_with fail
  go_loop [4, 5] (fun u i => ∃ (m : Nat) (U : Int), u = .int .u64 U ∧ i = .int .i64 ((m : Int) - 1) ∧ m ≤ l.length ∧ FitInv l m U) (fun _ i => (intOf i + 1).toNat)
  case atStart => exact ⟨l.length, 0, rfl, rfl, Nat.le_refl _, ⟨by rw [List.take_of_length_le (Nat.le_refl _)]; omega, by decide⟩⟩
  case round =>
    obtain ⟨m, U, rfl, rfl, hm, inv⟩ := hrel
    have u0 := inv.u0
    by_cases hm0 : m = 0
    · subst hm0
      have eU : U = val l := by have := inv.eq; simp [val, pw] at this; omega
      have EU : Hid _ := eU
      have uv : U < 18446744073709551616 := by omega
      have up : 0 < U := by omega
      clear eU
      cases neg
      · have nE : Hid (n = U) := (by rw [HN.out, EU.out]; rfl : n = U)
        by_cases hU : U ≤ 9223372036854775807
        · have am : Hid (wrap64 (bits .and .u64 U 9223372036854775807) = U) := (by rw [and_most U u0 uv]; unfold wrap64; omega : wrap64 (bits .and .u64 U 9223372036854775807) = U)
          go_wp2_with fail
          go_ret2
          exact ⟨wrap64 (bits .and .u64 U 9223372036854775807), true, rfl, by have := nE.out; simp [Fit64]; omega, fun _ => am.out.trans nE.out.symm, (Below.refl _ _).alloc (Nat.le_refl _) _⟩
        · go_wp2_with fail
          go_ret2
          exact ⟨wrap64 (bits .and .u64 U 9223372036854775807), false, rfl, by have := nE.out; simp [Fit64]; omega, fun h => by simp at h, (Below.refl _ _).alloc (Nat.le_refl _) _⟩
      · have nE : Hid (n = -U) := (by rw [HN.out, EU.out]; rfl : n = -U)
        by_cases hU : U ≤ 9223372036854775808
        · go_wp2_with fail
          go_ret2
          refine ⟨_, true, rfl, by have := nE.out; simp [Fit64]; omega, fun _ => ?_, (Below.refl _ _).alloc (Nat.le_refl _) _⟩
          have := nE.out
          omega
        · go_wp2_with fail
          go_ret2
          exact ⟨0, false, rfl, by have := nE.out; simp [Fit64]; omega, fun h => by simp at h, (Below.refl _ _).alloc (Nat.le_refl _) _⟩
    · obtain ⟨k, rfl⟩ : ∃ k, m = k + 1 := ⟨m - 1, by omega⟩
      have hcell := H6.out k (by omega)
      have hcell2 : (w.alloc (.cells #[.bool neg, .slice (some ⟨b, off, none⟩) l.length c] 103)).cell? ⟨b, off + k, none⟩ = some (.int .i64 (l.getD k 0)) := by rw [World.cell?_alloc_past _ _ _ h5]; exact hcell
      have ek : (((k + 1 : Nat) : Int) - 1) = (k : Int) := by omega
      rw [ek]
      have k1 : (k : Int) < (l.length : Int) := by omega
      have nx := inv.step dg
      have nl := nx.lt dg
      have g := getD_dig l dg k
      clear hcell
      generalize l.getD k 0 = x at *
      go_wp2_with fail
      go_round
      case rel => exact ⟨k, _, rfl, rfl, by omega, nx⟩
      case measure => simp [intOf]

set_option maxHeartbeats 400000 in
theorem rFit_any (neg : Bool) (s : Value) (l : List Int) (n : Int) (w : World) (h : BigV w neg s l n) :
    Calls Try.prog 53 #[.agg #[.bool neg, s]] w (FitOut w n) := by
  by_cases h0 : l = []
  · subst h0
    have hn : n = 0 := by rw [h.num]; cases neg <;> rfl
    obtain ⟨⟨a, c, rfl, _⟩, _, _, hnum⟩ := h
    clear hnum
    subst hn
    go_enter Try.func53, Try.ntmps53
    go_wp2_with fail
    go_ret2
    exact ⟨0, true, rfl, by simp [Fit64], fun _ => rfl, (Below.refl _ _).alloc (Nat.le_refl _) _⟩
  by_cases h4 : l.length ≤ 4
  · exact rFit_mid neg s l n w h h4 h0
  · have hv : pw 4 ≤ val l := by
      have h1 := val_low l h.dg h.tr (l.length - 1) (by omega)
      have h2 := pw_mono (show 4 ≤ l.length - 1 by omega)
      omega
    rw [pw4] at hv
    have hn : ¬ Fit64 n := by
      rw [h.num]; unfold Fit64
      cases neg
      · show ¬ (_ ≤ val l ∧ val l < _); omega
      · show ¬ (_ ≤ -val l ∧ -val l < _); omega
    obtain ⟨⟨a, c, rfl, _⟩, _, _, hnum⟩ := h
    clear hnum
    have k0 : ((l.length : Int) == 0) = false := beq_eq_false_iff_ne.2 (by omega)
    have k4 : (4 : Int) < (l.length : Int) := by omega
    have HN : Hid _ := hn
    clear hn hv h0
    go_enter Try.func53, Try.ntmps53
    go_wp2_with fail
    go_ret2
    exact ⟨0, false, rfl, ⟨fun h => by simp at h, fun h => absurd h HN.out⟩, fun h => by simp at h, (Below.refl _ _).alloc (Nat.le_refl _) _⟩

/-- The nearest int64, as the document has it. -/
def rheld (n : Int) : Int := if n < -9223372036854775808 then -9223372036854775808 else if 9223372036854775807 < n then 9223372036854775807 else n

end Go.Proofs.Ytccgbkafcbfcgaa
end
section
namespace Go.Proofs.Ytccgbkafcbfcgaa
open Go.RowKit

theorem three_allocs (w : World) (o1 o2 o3 : Obj) : Below w.heap.size w (((w.alloc o1).alloc o2).alloc o3) := (((Below.refl _ _).alloc (Nat.le_refl _) _).alloc (by simp) _).alloc (by simp; omega) _
/-- A store over what is no int turns no list of ints. -/
theorem IsD.setCell {w : World} {v : Value} {l : List Int} (h : IsD w v l) {p : Addr} (u : Value) (hp : ∀ x, w.cell? p ≠ some (.int .i64 x)) : IsD (w.setCell p u) v l := by
  obtain ⟨a, c, e, h1, h2, hc, h3⟩ := h
  refine ⟨a, c, e, h1, h2, hc, ?_⟩
  rcases h3 with h3 | ⟨b, off, h4, h5, h6⟩
  · exact .inl h3
  · refine .inr ⟨b, off, h4, by simpa [World.setCell] using h5, fun i hi => ?_⟩
    rw [World.cell?_setCell_other _ _ _ _ (by intro e; subst e; exact hp _ (h6 i hi))]
    exact h6 i hi
/-- A Big's two cells are written over. -/
theorem isD_put {w : World} {v : Value} {l : List Int} (h : IsD w v l) (g : Nat) {b0 : Bool} {a0 : Option Addr} {n0 c0 : Nat} (h0 : w.cell? ⟨g, 0, none⟩ = some (.bool b0)) (h1 : w.cell? ⟨g, 1, none⟩ = some (.slice a0 n0 c0)) (b1 : Bool) (u : Value) :
    IsD ((w.setCell ⟨g, 0, none⟩ (.bool b1)).setCell ⟨g, 1, none⟩ u) v l := by
  refine (h.setCell _ (fun x e => ?_)).setCell _ (fun x e => ?_)
  · rw [h0] at e; cases e
  · rw [World.cell?_setCell_other _ _ _ _ (by simp), h1] at e; cases e

set_option maxHeartbeats 1000000 in
theorem Plus_any (na nb : Bool) (sa sb : Value) (la lb : List Int) (a b : Int) (w : World) (ha : BigV w na sa la a) (hb : BigV w nb sb lb b) (ka : la.length ≤ 500) (kb : lb.length ≤ 500) :
    Calls Try.prog 75 #[.agg #[.bool na, sa], .agg #[.bool nb, sb]] w (GivesBig w (a + b)) := by
  obtain ⟨Ia, da, ta, ea⟩ := ha
  obtain ⟨Ib, db, tb, eb⟩ := hb
  have EA : Hid _ := ea
  have EB : Hid _ := eb
  clear ea eb
  have IA := Ia
  have IB := Ib
  obtain ⟨aa, ca, rfl, _⟩ := Ia
  obtain ⟨ab, cb, rfl, _⟩ := Ib
  by_cases hs : na = nb
  · subst hs
    have en : a + b = sg na (val la + val lb) := by rw [EA.out, EB.out]; cases na <;> simp [sg]; omega
    have EN : Hid _ := en
    clear en
    go_enter Try.func75, Try.ntmps75
    go_wp2_with fail
    go_region_held3 (fun w' => w'.cell? ⟨w.heap.size, 0, none⟩ = some (.bool na) ∧ w'.cell? ⟨w.heap.size, 1, none⟩ = some (.slice aa la.length ca) ∧ w'.cell? ⟨w.heap.size + 1, 0, none⟩ = some (.bool na) ∧ w'.cell? ⟨w.heap.size + 1, 1, none⟩ = some (.slice ab lb.length cb) ∧ w'.frozen? ⟨w.heap.size + 2, 0, none⟩ = false ∧ w'.frozen? ⟨w.heap.size + 2, 1, none⟩ = false) (simp [go_sem, *])
      (first | (go_at_call 89; refine (sum_any _ _ la lb _ (IA.later (by exact (three_allocs _ _ _ _).drew)) (IB.later (by exact (three_allocs _ _ _ _).drew)) da db ka kb).mono ?_; rintro e w' ⟨s', l', rfl, I', d', t', v', hb'⟩; obtain ⟨hc, hf⟩ := bcell' hb'; have I2 := I'; obtain ⟨a', c', rfl, _⟩ := I'))
    have cR0 := hb'.cell (p := ⟨w.heap.size + 1 + 1, 0, none⟩) (by simp)
    have cR1 := hb'.cell (p := ⟨w.heap.size + 1 + 1, 1, none⟩) (by simp)
    simp [go_sem] at cR0
    simp [go_sem] at cR1
    go_wp2_with fail
    refine bodyPost_ret (v := .agg #[.bool na, .slice a' l'.length c']) (by simp [results, Try.results75, go_sem, cR0, cR1]) rfl ⟨_, _, l', rfl, ⟨?_, d', t', by rw [EN.out, ← v']⟩, ?_⟩
    · exact isD_put I2 _ cR0 cR1 _ _
    · exact (((three_allocs _ _ _ _).drew.trans (hb'.mono (by simp; omega))).setCell (by simp; omega) _).setCell (by simp; omega) _
  · have hs' : (na == nb) = false := by simpa using hs
    have HS : Hid _ := hs
    clear hs
    go_enter Try.func75, Try.ntmps75
    go_wp2_with fail
    refine (order_any _ _ la lb _ (IA.later (by exact three_allocs _ _ _ _)) (IB.later (by exact three_allocs _ _ _ _)) da db ta tb).mono ?_
    rintro e w1 ⟨cc, rfl, hcc, hb1⟩
    have hW : Below w.heap.size w w1 := (three_allocs _ _ _ _).trans (hb1.mono (by simp; omega))
    have q0 := hb1.cell (p := ⟨w.heap.size, 0, none⟩) (by simp <;> omega)
    have q1 := hb1.cell (p := ⟨w.heap.size, 1, none⟩) (by simp <;> omega)
    have q2 := hb1.cell (p := ⟨w.heap.size + 1, 0, none⟩) (by simp <;> omega)
    have q3 := hb1.cell (p := ⟨w.heap.size + 1, 1, none⟩) (by simp <;> omega)
    have q4 := hb1.cell (p := ⟨w.heap.size + 2, 0, none⟩) (by simp <;> omega)
    have q5 := hb1.cell (p := ⟨w.heap.size + 2, 1, none⟩) (by simp <;> omega)
    have q6 := hb1.frozen (p := ⟨w.heap.size + 2, 0, none⟩) (by simp <;> omega)
    have q7 := hb1.frozen (p := ⟨w.heap.size + 2, 1, none⟩) (by simp <;> omega)
    simp [go_sem] at q0 q1 q2 q3 q4 q5 q6 q7
    have hz : w.heap.size + 2 < w1.heap.size := by have := hb1.size; simp at this; omega
    have hz0 : w.heap.size < w1.heap.size := by omega
    have hz1 : w.heap.size + 1 < w1.heap.size := by omega
    have hz2 : w.heap.size + 1 + 1 < w1.heap.size := by omega
    have HB1 : Hid _ := hb1
    clear hb1
    by_cases hcmp : val lb ≤ val la
    · have hcp : 0 ≤ cc := hcc.2 hcmp
      have hll : lb.length ≤ la.length := by
        by_cases h : lb.length ≤ la.length
        · exact h
        · have := longer da db tb (by omega); omega
      have en : a + b = sg na (val la - val lb) := by
        have := HS.out
        rw [EA.out, EB.out]; cases na <;> cases nb <;> simp [sg] at * <;> omega
      have EN : Hid _ := en
      clear en hcc
      go_wp2_with fail
      go_region_held3 (fun w' => w'.cell? ⟨w.heap.size, 0, none⟩ = some (.bool na) ∧ w'.cell? ⟨w.heap.size, 1, none⟩ = some (.slice aa la.length ca) ∧ w'.cell? ⟨w.heap.size + 1, 0, none⟩ = some (.bool nb) ∧ w'.cell? ⟨w.heap.size + 1, 1, none⟩ = some (.slice ab lb.length cb) ∧ w'.frozen? ⟨w.heap.size + 2, 0, none⟩ = false ∧ w'.frozen? ⟨w.heap.size + 2, 1, none⟩ = false) (simp [go_sem, *])
        (first | (go_at_call 91; refine (less_any _ _ la lb _ (IA.later (by exact hW.drew)) (IB.later (by exact hW.drew)) da db ka hll hcmp).mono ?_; rintro e w' ⟨s', l', rfl, I', d', t', v', hb'⟩; have f0 := (hb'.cell (p := ⟨w.heap.size, 0, none⟩) hz0).trans q0; have f1 := (hb'.cell (p := ⟨w.heap.size, 1, none⟩) hz0).trans q1; have f2 := (hb'.cell (p := ⟨w.heap.size + 1, 0, none⟩) hz1).trans q2; have f3 := (hb'.cell (p := ⟨w.heap.size + 1, 1, none⟩) hz1).trans q3; have f4 := (hb'.cell (p := ⟨w.heap.size + 2, 0, none⟩) hz).trans q4; have f5 := (hb'.cell (p := ⟨w.heap.size + 2, 1, none⟩) hz).trans q5; have f6 := (hb'.frozen (p := ⟨w.heap.size + 2, 0, none⟩) hz).trans q6; have f7 := (hb'.frozen (p := ⟨w.heap.size + 2, 1, none⟩) hz).trans q7; have I2 := I'; obtain ⟨a', c', rfl, _⟩ := I'))
      have cR0 := hb'.cell (p := ⟨w.heap.size + 1 + 1, 0, none⟩) (by simp; omega)
      have cR1 := hb'.cell (p := ⟨w.heap.size + 1 + 1, 1, none⟩) (by simp; omega)
      simp [go_sem, q4] at cR0
      simp [go_sem, q5] at cR1
      go_wp2_with fail
      refine bodyPost_ret (v := .agg #[.bool na, .slice a' l'.length c']) (by simp [results, Try.results75, go_sem, cR0, cR1]) rfl ⟨_, _, l', rfl, ⟨?_, d', t', by rw [EN.out, ← v']⟩, ?_⟩
      · exact isD_put I2 _ cR0 cR1 _ _
      · exact ((hW.drew.trans (hb'.mono (by simp; omega))).setCell (by simp; omega) _).setCell (by simp; omega) _
    · have hcp : ¬ 0 ≤ cc := fun h => hcmp (hcc.1 h)
      have hll : la.length ≤ lb.length := by
        by_cases h : la.length ≤ lb.length
        · exact h
        · have := longer db da ta (by omega); omega
      have en : a + b = sg nb (val lb - val la) := by
        have := HS.out
        rw [EA.out, EB.out]; cases na <;> cases nb <;> simp [sg] at * <;> omega
      have EN : Hid _ := en
      clear en hcc
      go_wp2_with fail
      go_region_held3 (fun w' => w'.cell? ⟨w.heap.size, 0, none⟩ = some (.bool na) ∧ w'.cell? ⟨w.heap.size, 1, none⟩ = some (.slice aa la.length ca) ∧ w'.cell? ⟨w.heap.size + 1, 0, none⟩ = some (.bool nb) ∧ w'.cell? ⟨w.heap.size + 1, 1, none⟩ = some (.slice ab lb.length cb) ∧ w'.frozen? ⟨w.heap.size + 2, 0, none⟩ = false ∧ w'.frozen? ⟨w.heap.size + 2, 1, none⟩ = false) (simp [go_sem, *])
        (first | (go_at_call 91; refine (less_any _ _ lb la _ (IB.later (by exact hW.drew)) (IA.later (by exact hW.drew)) db da kb hll (by omega)).mono ?_; rintro e w' ⟨s', l', rfl, I', d', t', v', hb'⟩; have f0 := (hb'.cell (p := ⟨w.heap.size, 0, none⟩) hz0).trans q0; have f1 := (hb'.cell (p := ⟨w.heap.size, 1, none⟩) hz0).trans q1; have f2 := (hb'.cell (p := ⟨w.heap.size + 1, 0, none⟩) hz1).trans q2; have f3 := (hb'.cell (p := ⟨w.heap.size + 1, 1, none⟩) hz1).trans q3; have f4 := (hb'.cell (p := ⟨w.heap.size + 2, 0, none⟩) hz).trans q4; have f5 := (hb'.cell (p := ⟨w.heap.size + 2, 1, none⟩) hz).trans q5; have f6 := (hb'.frozen (p := ⟨w.heap.size + 2, 0, none⟩) hz).trans q6; have f7 := (hb'.frozen (p := ⟨w.heap.size + 2, 1, none⟩) hz).trans q7; have I2 := I'; obtain ⟨a', c', rfl, _⟩ := I'))
      have cR0 := hb'.cell (p := ⟨w.heap.size + 1 + 1, 0, none⟩) (by simp; omega)
      have cR1 := hb'.cell (p := ⟨w.heap.size + 1 + 1, 1, none⟩) (by simp; omega)
      simp [go_sem, q4] at cR0
      simp [go_sem, q5] at cR1
      go_wp2_with fail
      refine bodyPost_ret (v := .agg #[.bool nb, .slice a' l'.length c']) (by simp [results, Try.results75, go_sem, cR0, cR1]) rfl ⟨_, _, l', rfl, ⟨?_, d', t', by rw [EN.out, ← v']⟩, ?_⟩
      · exact isD_put I2 _ cR0 cR1 _ _
      · exact ((hW.drew.trans (hb'.mono (by simp; omega))).setCell (by simp; omega) _).setCell (by simp; omega) _
end Go.Proofs.Ytccgbkafcbfcgaa
end
section
namespace Go.Proofs.Ytccgbkafcbfcgaa
open Go.RowKit

theorem below_on {w w1 w2 : World} (h : Below w.heap.size w w1) (k : Below w1.heap.size w1 w2) : Below w.heap.size w w2 := h.trans (k.mono h.size)
theorem sg_abs {neg : Bool} {l : List Int} {n : Int} (h : n = sg neg (val l)) (hd : Dgs l) : val l = n.natAbs := by
  have := (val_bd l hd).1
  cases neg
  · have h' : n = val l := h; omega
  · have h' : n = -val l := h; omega
theorem BigV.len {w : World} {neg : Bool} {s : Value} {l : List Int} {n : Int} (h : BigV w neg s l n) (k : Nat) (hn : (n.natAbs : Int) < pw k) : l.length ≤ k := len_le l h.dg h.tr k (by rw [sg_abs h.num h.dg]; exact hn)
theorem BigV.len4 {w : World} {neg : Bool} {s : Value} {l : List Int} {n : Int} (h : BigV w neg s l n) (h0 : -18446744073709551616 < n) (h1 : n < 18446744073709551616) : l.length ≤ 500 := by
  have := h.len 4 (by rw [pw4]; omega)
  omega

end Go.Proofs.Ytccgbkafcbfcgaa
end
