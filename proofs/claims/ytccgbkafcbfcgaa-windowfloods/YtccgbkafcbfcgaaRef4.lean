/- The document's Plus (package capstanref01). -/
import Derived.Test.YtccgbkafcbfcgaaRef3
namespace Go.Proofs.Ytccgbkafcbfcgaa
open Go.RowKit

theorem three_allocs (w : World) (o1 o2 o3 : Obj) : Below w.heap.size w (((w.alloc o1).alloc o2).alloc o3) := (((Below.refl _ _).alloc (Nat.le_refl _) _).alloc (by simp) _).alloc (by simp; omega) _
/-- A store over what is no int turns no list of ints. -/
theorem IsD.setCell {w : World} {v : Value} {l : List Int} (h : IsD w v l) {p : Addr} (u : Value) (hp : ∀ x, w.cell? p ≠ some (.int .i64 x)) : IsD (w.setCell p u) v l := by
  obtain ⟨a, c, e, h1, h2, hc, h3⟩ := h
  refine ⟨a, c, e, h1, h2, hc, ?_⟩
  rcases h3 with h3 | ⟨b, off, h4, h5, h6⟩
  · exact .inl h3
  · refine .inr ⟨b, off, h4, by simpa [World.setCell] using h5, fun i hi => ?_⟩
    rw [World.cell?_setCell_other _ _ _ _ (by intro e; subst e; exact hp _ (h6 i hi))]
    exact h6 i hi
/-- A Big's two cells are written over. -/
theorem isD_put {w : World} {v : Value} {l : List Int} (h : IsD w v l) (g : Nat) {b0 : Bool} {a0 : Option Addr} {n0 c0 : Nat} (h0 : w.cell? ⟨g, 0, none⟩ = some (.bool b0)) (h1 : w.cell? ⟨g, 1, none⟩ = some (.slice a0 n0 c0)) (b1 : Bool) (u : Value) :
    IsD ((w.setCell ⟨g, 0, none⟩ (.bool b1)).setCell ⟨g, 1, none⟩ u) v l := by
  refine (h.setCell _ (fun x e => ?_)).setCell _ (fun x e => ?_)
  · rw [h0] at e; cases e
  · rw [World.cell?_setCell_other _ _ _ _ (by simp), h1] at e; cases e

set_option maxHeartbeats 1000000 in
theorem Plus_any (na nb : Bool) (sa sb : Value) (la lb : List Int) (a b : Int) (w : World) (ha : BigV w na sa la a) (hb : BigV w nb sb lb b) (ka : la.length ≤ 500) (kb : lb.length ≤ 500) :
    Calls Try.prog 75 #[.agg #[.bool na, sa], .agg #[.bool nb, sb]] w (GivesBig w (a + b)) := by
  obtain ⟨Ia, da, ta, ea⟩ := ha
  obtain ⟨Ib, db, tb, eb⟩ := hb
  have EA : Hid _ := ea
  have EB : Hid _ := eb
  clear ea eb
  have IA := Ia
  have IB := Ib
  obtain ⟨aa, ca, rfl, _⟩ := Ia
  obtain ⟨ab, cb, rfl, _⟩ := Ib
  by_cases hs : na = nb
  · subst hs
    have en : a + b = sg na (val la + val lb) := by rw [EA.out, EB.out]; cases na <;> simp [sg]; omega
    have EN : Hid _ := en
    clear en
    go_enter Try.func75, Try.ntmps75
    go_wp2_with fail
    go_region_held3 (fun w' => w'.cell? ⟨w.heap.size, 0, none⟩ = some (.bool na) ∧ w'.cell? ⟨w.heap.size, 1, none⟩ = some (.slice aa la.length ca) ∧ w'.cell? ⟨w.heap.size + 1, 0, none⟩ = some (.bool na) ∧ w'.cell? ⟨w.heap.size + 1, 1, none⟩ = some (.slice ab lb.length cb) ∧ w'.frozen? ⟨w.heap.size + 2, 0, none⟩ = false ∧ w'.frozen? ⟨w.heap.size + 2, 1, none⟩ = false) (simp [go_sem, *])
      (first | (go_at_call 89; refine (sum_any _ _ la lb _ (IA.later (by exact (three_allocs _ _ _ _).drew)) (IB.later (by exact (three_allocs _ _ _ _).drew)) da db ka kb).mono ?_; rintro e w' ⟨s', l', rfl, I', d', t', v', hb'⟩; obtain ⟨hc, hf⟩ := bcell' hb'; have I2 := I'; obtain ⟨a', c', rfl, _⟩ := I'))
    have cR0 := hb'.cell (p := ⟨w.heap.size + 1 + 1, 0, none⟩) (by simp)
    have cR1 := hb'.cell (p := ⟨w.heap.size + 1 + 1, 1, none⟩) (by simp)
    simp [go_sem] at cR0
    simp [go_sem] at cR1
    go_wp2_with fail
    refine bodyPost_ret (v := .agg #[.bool na, .slice a' l'.length c']) (by simp [results, Try.results75, go_sem, cR0, cR1]) rfl ⟨_, _, l', rfl, ⟨?_, d', t', by rw [EN.out, ← v']⟩, ?_⟩
    · exact isD_put I2 _ cR0 cR1 _ _
    · exact (((three_allocs _ _ _ _).drew.trans (hb'.mono (by simp; omega))).setCell (by simp; omega) _).setCell (by simp; omega) _
  · have hs' : (na == nb) = false := by simpa using hs
    have HS : Hid _ := hs
    clear hs
    go_enter Try.func75, Try.ntmps75
    go_wp2_with fail
    refine (order_any _ _ la lb _ (IA.later (by exact three_allocs _ _ _ _)) (IB.later (by exact three_allocs _ _ _ _)) da db ta tb).mono ?_
    rintro e w1 ⟨cc, rfl, hcc, hb1⟩
    have hW : Below w.heap.size w w1 := (three_allocs _ _ _ _).trans (hb1.mono (by simp; omega))
    have q0 := hb1.cell (p := ⟨w.heap.size, 0, none⟩) (by simp <;> omega)
    have q1 := hb1.cell (p := ⟨w.heap.size, 1, none⟩) (by simp <;> omega)
    have q2 := hb1.cell (p := ⟨w.heap.size + 1, 0, none⟩) (by simp <;> omega)
    have q3 := hb1.cell (p := ⟨w.heap.size + 1, 1, none⟩) (by simp <;> omega)
    have q4 := hb1.cell (p := ⟨w.heap.size + 2, 0, none⟩) (by simp <;> omega)
    have q5 := hb1.cell (p := ⟨w.heap.size + 2, 1, none⟩) (by simp <;> omega)
    have q6 := hb1.frozen (p := ⟨w.heap.size + 2, 0, none⟩) (by simp <;> omega)
    have q7 := hb1.frozen (p := ⟨w.heap.size + 2, 1, none⟩) (by simp <;> omega)
    simp [go_sem] at q0 q1 q2 q3 q4 q5 q6 q7
    have hz : w.heap.size + 2 < w1.heap.size := by have := hb1.size; simp at this; omega
    have hz0 : w.heap.size < w1.heap.size := by omega
    have hz1 : w.heap.size + 1 < w1.heap.size := by omega
    have hz2 : w.heap.size + 1 + 1 < w1.heap.size := by omega
    have HB1 : Hid _ := hb1
    clear hb1
    by_cases hcmp : val lb ≤ val la
    · have hcp : 0 ≤ cc := hcc.2 hcmp
      have hll : lb.length ≤ la.length := by
        by_cases h : lb.length ≤ la.length
        · exact h
        · have := longer da db tb (by omega); omega
      have en : a + b = sg na (val la - val lb) := by
        have := HS.out
        rw [EA.out, EB.out]; cases na <;> cases nb <;> simp [sg] at * <;> omega
      have EN : Hid _ := en
      clear en hcc
      go_wp2_with fail
      go_region_held3 (fun w' => w'.cell? ⟨w.heap.size, 0, none⟩ = some (.bool na) ∧ w'.cell? ⟨w.heap.size, 1, none⟩ = some (.slice aa la.length ca) ∧ w'.cell? ⟨w.heap.size + 1, 0, none⟩ = some (.bool nb) ∧ w'.cell? ⟨w.heap.size + 1, 1, none⟩ = some (.slice ab lb.length cb) ∧ w'.frozen? ⟨w.heap.size + 2, 0, none⟩ = false ∧ w'.frozen? ⟨w.heap.size + 2, 1, none⟩ = false) (simp [go_sem, *])
        (first | (go_at_call 91; refine (less_any _ _ la lb _ (IA.later (by exact hW.drew)) (IB.later (by exact hW.drew)) da db ka hll hcmp).mono ?_; rintro e w' ⟨s', l', rfl, I', d', t', v', hb'⟩; have f0 := (hb'.cell (p := ⟨w.heap.size, 0, none⟩) hz0).trans q0; have f1 := (hb'.cell (p := ⟨w.heap.size, 1, none⟩) hz0).trans q1; have f2 := (hb'.cell (p := ⟨w.heap.size + 1, 0, none⟩) hz1).trans q2; have f3 := (hb'.cell (p := ⟨w.heap.size + 1, 1, none⟩) hz1).trans q3; have f4 := (hb'.cell (p := ⟨w.heap.size + 2, 0, none⟩) hz).trans q4; have f5 := (hb'.cell (p := ⟨w.heap.size + 2, 1, none⟩) hz).trans q5; have f6 := (hb'.frozen (p := ⟨w.heap.size + 2, 0, none⟩) hz).trans q6; have f7 := (hb'.frozen (p := ⟨w.heap.size + 2, 1, none⟩) hz).trans q7; have I2 := I'; obtain ⟨a', c', rfl, _⟩ := I'))
      have cR0 := hb'.cell (p := ⟨w.heap.size + 1 + 1, 0, none⟩) (by simp; omega)
      have cR1 := hb'.cell (p := ⟨w.heap.size + 1 + 1, 1, none⟩) (by simp; omega)
      simp [go_sem, q4] at cR0
      simp [go_sem, q5] at cR1
      go_wp2_with fail
      refine bodyPost_ret (v := .agg #[.bool na, .slice a' l'.length c']) (by simp [results, Try.results75, go_sem, cR0, cR1]) rfl ⟨_, _, l', rfl, ⟨?_, d', t', by rw [EN.out, ← v']⟩, ?_⟩
      · exact isD_put I2 _ cR0 cR1 _ _
      · exact ((hW.drew.trans (hb'.mono (by simp; omega))).setCell (by simp; omega) _).setCell (by simp; omega) _
    · have hcp : ¬ 0 ≤ cc := fun h => hcmp (hcc.1 h)
      have hll : la.length ≤ lb.length := by
        by_cases h : la.length ≤ lb.length
        · exact h
        · have := longer db da ta (by omega); omega
      have en : a + b = sg nb (val lb - val la) := by
        have := HS.out
        rw [EA.out, EB.out]; cases na <;> cases nb <;> simp [sg] at * <;> omega
      have EN : Hid _ := en
      clear en hcc
      go_wp2_with fail
      go_region_held3 (fun w' => w'.cell? ⟨w.heap.size, 0, none⟩ = some (.bool na) ∧ w'.cell? ⟨w.heap.size, 1, none⟩ = some (.slice aa la.length ca) ∧ w'.cell? ⟨w.heap.size + 1, 0, none⟩ = some (.bool nb) ∧ w'.cell? ⟨w.heap.size + 1, 1, none⟩ = some (.slice ab lb.length cb) ∧ w'.frozen? ⟨w.heap.size + 2, 0, none⟩ = false ∧ w'.frozen? ⟨w.heap.size + 2, 1, none⟩ = false) (simp [go_sem, *])
        (first | (go_at_call 91; refine (less_any _ _ lb la _ (IB.later (by exact hW.drew)) (IA.later (by exact hW.drew)) db da kb hll (by omega)).mono ?_; rintro e w' ⟨s', l', rfl, I', d', t', v', hb'⟩; have f0 := (hb'.cell (p := ⟨w.heap.size, 0, none⟩) hz0).trans q0; have f1 := (hb'.cell (p := ⟨w.heap.size, 1, none⟩) hz0).trans q1; have f2 := (hb'.cell (p := ⟨w.heap.size + 1, 0, none⟩) hz1).trans q2; have f3 := (hb'.cell (p := ⟨w.heap.size + 1, 1, none⟩) hz1).trans q3; have f4 := (hb'.cell (p := ⟨w.heap.size + 2, 0, none⟩) hz).trans q4; have f5 := (hb'.cell (p := ⟨w.heap.size + 2, 1, none⟩) hz).trans q5; have f6 := (hb'.frozen (p := ⟨w.heap.size + 2, 0, none⟩) hz).trans q6; have f7 := (hb'.frozen (p := ⟨w.heap.size + 2, 1, none⟩) hz).trans q7; have I2 := I'; obtain ⟨a', c', rfl, _⟩ := I'))
      have cR0 := hb'.cell (p := ⟨w.heap.size + 1 + 1, 0, none⟩) (by simp; omega)
      have cR1 := hb'.cell (p := ⟨w.heap.size + 1 + 1, 1, none⟩) (by simp; omega)
      simp [go_sem, q4] at cR0
      simp [go_sem, q5] at cR1
      go_wp2_with fail
      refine bodyPost_ret (v := .agg #[.bool nb, .slice a' l'.length c']) (by simp [results, Try.results75, go_sem, cR0, cR1]) rfl ⟨_, _, l', rfl, ⟨?_, d', t', by rw [EN.out, ← v']⟩, ?_⟩
      · exact isD_put I2 _ cR0 cR1 _ _
      · exact ((hW.drew.trans (hb'.mono (by simp; omega))).setCell (by simp; omega) _).setCell (by simp; omega) _
end Go.Proofs.Ytccgbkafcbfcgaa
