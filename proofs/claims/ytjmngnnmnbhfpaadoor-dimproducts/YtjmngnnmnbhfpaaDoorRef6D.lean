/- The document's product (package capstanref01). -/
import Derived.Test.YtjmngnnmnbhfpaaDoorRef4
import Derived.Test.YtjmngnnmnbhfpaaDoorTims
import Derived.Deep.OwnRows
import Derived.Deep.QuietTactic
namespace Go.Proofs.YtjmngnnmnbhfpaaDoor
open Go.RowKit Go.Deep

/-- The block g is a row of ints that may be written, and reads as d. -/
structure RowG (w : World) (g : Nat) (d : List Int) : Prop where
  lt : g < w.heap.size
  cell : ∀ i, i < d.length → w.cell? ⟨g, i, none⟩ = some (.int .i64 (d.getD i 0))
  free : ∀ i, i < d.length → w.frozen? ⟨g, i, none⟩ = false
theorem RowG.set {w : World} {g : Nat} {d : List Int} (h : RowG w g d) (k : Nat) (hk : k < d.length) (x : Int) : RowG (w.setCell ⟨g, k, none⟩ (.int .i64 x)) g (d.set k x) := by
  refine ⟨by simpa [World.setCell] using h.lt, fun i hi => ?_, fun i hi => ?_⟩
  · rw [List.length_set] at hi
    rw [getD_set d k i x hk]
    by_cases e : i = k
    · subst e; rw [if_pos rfl, World.cell?_setCell_same _ _ _ (h.cell i hi)]
    · rw [if_neg e, World.cell?_setCell_other _ _ _ _ (by intro e'; cases e'; exact e rfl)]; exact h.cell i hi
  · rw [List.length_set] at hi
    rw [World.frozen?_setCell]; exact h.free i hi
theorem RowG.made (w : World) (n : Nat) : RowG (w.alloc (.cells (madeCells #[.int .i64 0] n) 3)) w.heap.size (List.replicate n 0) := by
  refine ⟨by simp, fun i hi => ?_, fun i hi => ?_⟩
  · simp at hi
    rw [zeros_get]
    exact (World.rowIs_made w (.int .i64 0) n 3).cell hi
  · exact (World.rowIs_made w (.int .i64 0) n 3).frozen i
theorem RowG.isD {w : World} {g : Nat} {d : List Int} (h : RowG w g d) (hl : d.length ≤ 1000) : IsD w (.slice (some ⟨g, 0, none⟩) d.length d.length) d :=
  ⟨_, _, rfl, hl, Nat.le_refl _, by unfold maxLen; omega, .inr ⟨g, 0, rfl, h.lt, fun i hi => by rw [Nat.zero_add]; exact h.cell i hi⟩⟩
theorem RowG.later {w w' : World} {g : Nat} {d : List Int} (h : RowG w g d) (hb : Below w.heap.size w w') : RowG w' g d :=
  ⟨Nat.lt_of_lt_of_le h.lt hb.size, fun i hi => (hb.cell (p := ⟨g, i, none⟩) h.lt).trans (h.cell i hi), fun i hi => (hb.frozen (p := ⟨g, i, none⟩) h.lt).trans (h.free i hi)⟩

/-- What the product's loops find in memory: the two numbers' boxes, the result's, and the numbers' digits. -/
structure TMem (s0 : Nat) (na nb : Bool) (va vb : Value) (wr : World) : Prop where
  a0 : wr.cell? ⟨s0, 0, none⟩ = some (.bool na)
  a1 : wr.cell? ⟨s0, 1, none⟩ = some va
  b0 : wr.cell? ⟨s0 + 1, 0, none⟩ = some (.bool nb)
  b1 : wr.cell? ⟨s0 + 1, 1, none⟩ = some vb
  c0 : wr.cell? ⟨s0 + 1 + 1, 0, none⟩ = some (.bool false)
  c1 : wr.cell? ⟨s0 + 1 + 1, 1, none⟩ = some (.slice none 0 0)
  f0 : wr.frozen? ⟨s0 + 1 + 1, 0, none⟩ = false
  f1 : wr.frozen? ⟨s0 + 1 + 1, 1, none⟩ = false
theorem TMem.later {s0 : Nat} {na nb : Bool} {va vb : Value} {wr w' : World} (h : TMem s0 na nb va vb wr) (hb : Below (s0 + 1 + 1 + 1) wr w') : TMem s0 na nb va vb w' :=
  ⟨(hb.cell (p := ⟨s0, 0, none⟩) (by simp <;> omega)).trans h.a0, (hb.cell (p := ⟨s0, 1, none⟩) (by simp <;> omega)).trans h.a1, (hb.cell (p := ⟨s0 + 1, 0, none⟩) (by simp <;> omega)).trans h.b0, (hb.cell (p := ⟨s0 + 1, 1, none⟩) (by simp <;> omega)).trans h.b1, (hb.cell (p := ⟨s0 + 1 + 1, 0, none⟩) (by simp <;> omega)).trans h.c0, (hb.cell (p := ⟨s0 + 1 + 1, 1, none⟩) (by simp <;> omega)).trans h.c1, (hb.frozen (p := ⟨s0 + 1 + 1, 0, none⟩) (by simp <;> omega)).trans h.f0, (hb.frozen (p := ⟨s0 + 1 + 1, 1, none⟩) (by simp <;> omega)).trans h.f1⟩

set_option maxHeartbeats 4000000 in
theorem Times_any (na nb : Bool) (sa sb : Value) (la lb : List Int) (a b : Int) (w : World) (ha : BigV w na sa la a) (hb : BigV w nb sb lb b) (ka : la.length ≤ 400) (kb : lb.length ≤ 400) :
    Calls Tryd.prog 60 #[.agg #[.bool na, sa], .agg #[.bool nb, sb]] w (GivesBig w (a * b)) := by
  obtain ⟨Ia, da, ta, ea⟩ := ha
  obtain ⟨Ib, db, tb, eb⟩ := hb
  have en : a * b = sg (na != nb) (val la * val lb) := by rw [ea, eb]; cases na <;> cases nb <;> simp [sg, Int.neg_mul, Int.mul_neg]
  have EN : Hid _ := en
  clear ea eb en
  have IA := Ia
  have IB := Ib
  obtain ⟨aa, ca, rfl, _, _, _, hA⟩ := Ia
  obtain ⟨ab, cb, rfl, _, _, _, hB⟩ := Ib
  have hmk := run_make_row' (P := Tryd.prog) 64 3 (.int .i64 0) 8 Tryd.underlying64 info_int rfl .i64 .i64 (la.length + lb.length) (by omega) (by omega)
  rw [show ((la.length + lb.length : Nat) : Int) = (la.length : Int) + (lb.length : Int) by omega] at hmk
  go_enter Tryd.func60, Tryd.ntmps60
  go_wp2_with fail
  have rw0 := RowG.made (((w.alloc (.cells #[.bool na, .slice aa la.length ca] 66)).alloc (.cells #[.bool nb, .slice ab lb.length cb] 66)).alloc (.cells #[.bool false, .slice none 0 0] 66)) (la.length + lb.length)
  have mm0 : TMem w.heap.size na nb (.slice aa la.length ca) (.slice ab lb.length cb) ((((w.alloc (.cells #[.bool na, .slice aa la.length ca] 66)).alloc (.cells #[.bool nb, .slice ab lb.length cb] 66)).alloc (.cells #[.bool false, .slice none 0 0] 66)).alloc (.cells (madeCells #[.int .i64 0] (la.length + lb.length)) 3)) := by
    constructor <;> simp [go_sem]
  have bl0 : Below w.heap.size w ((((w.alloc (.cells #[.bool na, .slice aa la.length ca] 66)).alloc (.cells #[.bool nb, .slice ab lb.length cb] 66)).alloc (.cells #[.bool false, .slice none 0 0] 66)).alloc (.cells (madeCells #[.int .i64 0] (la.length + lb.length)) 3)) := (three_allocs _ _ _ _).alloc (by simp; omega) _
  have st := TOut.start la lb
  clear hmk
  go_loopw [6] (fun i wr => ∃ (k : Nat) (d : List Int), i = .int .i64 k ∧ TOut la lb k d ∧ RowG wr (w.heap.size + 1 + 1 + 1) d ∧ TMem w.heap.size na nb (.slice aa la.length ca) (.slice ab lb.length cb) wr ∧ Below w.heap.size w wr) (fun i _ => la.length - (intOf i).toNat)
  case atStart => exact ⟨0, _, rfl, st, by simpa using rw0, mm0, bl0⟩
  case round =>
    obtain ⟨k, d, rfl, inv, row, mm, bl⟩ := hrel
    have m1 := mm.a0
    have m2 := mm.a1
    have m3 := mm.b0
    have m4 := mm.b1
    have hk := inv.bd
    by_cases hlt : k < la.length
    · have hin := inv.enter
      have k1 : (k : Int) < (la.length : Int) := by omega
      go_wp2_with fail
      rcases hA with hA | ⟨ba, oa, rfl, h5, h6⟩
      · subst hA; simp at hlt
      go_loopw [7, 8] (fun c j wr2 => ∃ (t : Nat) (cy : Int) (d' : List Int), c = .int .i64 cy ∧ j = .int .i64 t ∧ TIn la lb k t cy d' ∧ RowG wr2 (w.heap.size + 1 + 1 + 1) d' ∧ TMem w.heap.size na nb (.slice (some ⟨ba, oa, none⟩) la.length ca) (.slice ab lb.length cb) wr2 ∧ Below w.heap.size w wr2) (fun _ j _ => lb.length - (intOf j).toNat)
      case atStart => exact ⟨0, 0, d, rfl, rfl, hin, row, mm, bl⟩
      case round =>
        clear m1 m2 m3 m4 mm row bl inv hin
        obtain ⟨t, cy, d', rfl, rfl, inv, row, mm, bl⟩ := hrel
        have m1 := mm.a0
        have m2 := mm.a1
        have m3 := mm.b0
        have m4 := mm.b1
        have ht := inv.bd
        have c0 := inv.c0
        have c1 := inv.c1
        have hln := inv.len
        by_cases hlt2 : t < lb.length
        · rcases hB with hB | ⟨bb, ob, rfl, h5', h6'⟩
          · subst hB; simp at hlt2
          have nx := inv.step da db hlt hlt2
          have hca : wr.cell? ⟨ba, oa + k, none⟩ = some (.int .i64 (la.getD k 0)) := (bl.cell (p := ⟨ba, oa + k, none⟩) h5).trans (h6 k hlt)
          have hcb : wr.cell? ⟨bb, ob + t, none⟩ = some (.int .i64 (lb.getD t 0)) := (bl.cell (p := ⟨bb, ob + t, none⟩) h5').trans (h6' t hlt2)
          have hcd := row.cell (k + t) (by omega)
          have hfd := row.free (k + t) (by omega)
          have gx := getD_dig la da k
          have gy := getD_dig lb db t
          have gd := getD_dig d' inv.dg (k + t)
          have gp := dig_prod gx.1 gx.2 gy.1 gy.2
          have HR : Hid _ := row
          have H6 : Hid _ := h6
          have H6' : Hid _ := h6'
          have HL : Hid _ := hln
          have k2 : (t : Int) < (lb.length : Int) := by omega
          have k3 : (k : Int) + (t : Int) < (la.length : Int) + (lb.length : Int) := by omega
          clear row h6 h6' hln
          generalize la.getD k 0 = x at *
          generalize lb.getD t 0 = y at *
          generalize d'.getD (k + t) 0 = z at *
          go_wp2_with fail
          go_quiet (fail)
          have rq : RowG (wr.drewN nq) (w.heap.size + 1 + 1 + 1) d' := HR.out.later ⟨rfl, rfl, rfl, Nat.le_refl _, fun _ _ => rfl⟩
          have mq : TMem w.heap.size na nb (.slice (some ⟨ba, oa, none⟩) la.length ca) (.slice (some ⟨bb, ob, none⟩) lb.length cb) (wr.drewN nq) := mm.later ⟨rfl, rfl, rfl, Nat.le_refl _, fun _ _ => rfl⟩
          have bq : Below w.heap.size w (wr.drewN nq) := bl.trans ⟨rfl, rfl, rfl, Nat.le_refl _, fun _ _ => rfl⟩
          have cq : (wr.drewN nq).cell? ⟨w.heap.size + 1 + 1 + 1, k + t, none⟩ = some (.int .i64 z) := hcd
          have fq : (wr.drewN nq).frozen? ⟨w.heap.size + 1 + 1 + 1, k + t, none⟩ = false := hfd
          have row2 := rq.set (k + t) (by have := HL.out; omega) ((z + x * y + cy) % 65536)
          clear HR mm bl hcd hfd hca hcb
          generalize wr.drewN nq = wq at *
          go_wp2_with fail
          go_roundw
          case rel =>
            refine ⟨t + 1, _, _, rfl, by go_num, nx, row2, mq.later ?_, bq.setCell (by simp; omega) _⟩
            exact (Below.refl _ _).setCell (by simp) _
          case measure => simp [intOf]; omega
        · have htt : t = lb.length := by omega
          have INV := inv
          rw [htt] at INV
          have nx := INV.leave hlt
          have hcd := row.cell (k + lb.length) (by omega)
          have hfd := row.free (k + lb.length) (by omega)
          have row2 := row.set (k + lb.length) (by omega) cy
          have HR : Hid _ := row
          have k3 : (k : Int) + (lb.length : Int) < (la.length : Int) + (lb.length : Int) := by omega
          clear htt INV hln row
          go_wp2_with fail
          go_roundw
          case rel =>
            refine ⟨k + 1, _, by go_num, nx, row2, mm.later ?_, bl.setCell (by simp; omega) _⟩
            exact (Below.refl _ _).setCell (by simp) _
          case measure => simp [intOf]; omega
    · have hkk : k = la.length := by omega
      have INV := inv
      rw [hkk] at INV
      have hv := INV.done
      have HV : Hid _ := hv
      have hln : d.length ≤ 1000 := by have := inv.len; omega
      have hdl := inv.len
      have hI := row.isD hln
      rw [inv.len] at hI
      have m5 := mm.c0
      have m6 := mm.c1
      have m7 := mm.f0
      have m8 := mm.f1
      have HDL : Hid _ := hdl
      have hz : w.heap.size + 1 + 1 + 1 < wr.heap.size := row.lt
      clear hkk INV hv hdl hA hB
      go_wp2_with fail
      go_region_held3 (fun w' => w'.cell? ⟨w.heap.size, 0, none⟩ = some (.bool na) ∧ w'.cell? ⟨w.heap.size + 1, 0, none⟩ = some (.bool nb) ∧ w'.frozen? ⟨w.heap.size + 1 + 1, 0, none⟩ = false ∧ w'.frozen? ⟨w.heap.size + 1 + 1, 1, none⟩ = false) (simp [go_sem, *])
        (first | (go_at_call 72; refine (trim_any _ d _ (hI.later (by exact (Below.refl _ _).drew)) inv.dg).mono ?_; rintro e w' ⟨s', l', rfl, I', d', t', v', rfl⟩; have I2 := I'; obtain ⟨a', c', rfl, _⟩ := I'))
      go_wp2_with fail
      refine bodyPost_ret (v := .agg #[.bool (!(na == nb)), .slice a' l'.length c']) (by simp [results, Tryd.results60, go_sem, m5, m6]) rfl ⟨_, _, l', rfl, ⟨?_, d', t', by rw [EN.out, v', HV.out]; rfl⟩, ?_⟩
      · exact isD_put I2 _ m5 m6 _ _
      · exact ((bl.drew).setCell (by simp; omega) _).setCell (by simp; omega) _
end Go.Proofs.YtjmngnnmnbhfpaaDoor
