import Derived.Test.YtpkknifbocfeaaaGreatDoorMgJ
namespace Go.Proofs.YtpkknifbocfeaaaGreatDoor
open Go.RowKit

/-- An Env as a value. -/
abbrev envV (E : EnvP) (v1 v2 : Value) : Value := .agg #[.int .i64 E.rep, v1, v2]
/-- An Env that is handed in. -/
structure EnvAt (w : World) (E : EnvP) (v1 v2 : Value) : Prop where
  ok : EnvOk E
  wins : WinsAt w v1 E.wins
  crons : CronsAt w v2 E.crons
theorem EnvAt.next {w w' : World} {E : EnvP} {v1 v2 : Value} (h : EnvAt w E v1 v2) (k : Below w.heap.size w w') : EnvAt w' E v1 v2 := ⟨h.ok, h.wins.next k, h.crons.next k⟩
theorem EnvAt.shape {w : World} {E : EnvP} {v1 v2 : Value} (h : EnvAt w E v1 v2) : ∃ a1 c1 a2 c2, v1 = .slice a1 E.wins.length c1 ∧ v2 = .slice a2 E.crons.length c2 := by
  obtain ⟨a1, c1, e1, -⟩ := h.wins
  obtain ⟨a2, c2, e2, -⟩ := h.crons
  exact ⟨a1, c1, a2, c2, e1, e2⟩
set_option maxHeartbeats 1000000 in
theorem newTeller_c (E : EnvP) (v1 v2 : Value) (w : World) (h : EnvAt w E v1 v2) (hg : GlE w) : Calls Tryz.prog 49 #[envV E v1 v2] w fun e w' => ∃ tb b, e = .returned (.pointer (some ⟨tb, 0, none⟩)) ∧ TlAt w' tb b E ∧ Below w.heap.size w w' := by
  obtain ⟨a1, c1, a2, c2, rfl, rfl⟩ := h.shape
  have H := chid h
  have HG := chid hg
  have HA : Hid (∀ o, Below w.heap.size w (w.alloc o)) := fun o => (Below.refl _ _).alloc (Nat.le_refl _) _
  generalize E.wins.length = L1 at *
  generalize E.crons.length = L2 at *
  have X0 := Box.new w [.int .i64 E.rep, .slice a1 L1 c1, .slice a2 L2 c2] 58
  have d0 := X0.cell 0 _ rfl
  have d1 := X0.cell 1 _ rfl
  have d2 := X0.cell 2 _ rfl
  have x0 := X0.lt
  have HKa := chid (HA.out (.cells [.int .i64 E.rep, .slice a1 L1 c1, .slice a2 L2 c2].toArray 58))
  clear h hg HA X0
  go_enter Tryz.func49, Tryz.ntmps49
  go_wp2_with fail
  generalize hW0 : w.alloc _ = w0 at *
  clear hW0
  go_region_held3 (fun w' => w'.cell? ⟨w.heap.size, 0, none⟩ = some (.int .i64 E.rep) ∧ w'.cell? ⟨w.heap.size, 1, none⟩ = some (.slice a1 L1 c1) ∧ w'.cell? ⟨w.heap.size, 2, none⟩ = some (.slice a2 L2 c2)) (simp [go_sem, *]) (first | (go_at_call 51; refine Calls.mono (crows_c _) ?_; rintro e w1 ⟨b, rfl, hr, B1⟩; have g0 := fun p v hp hv => (B1.cell (p := p) hp).trans (hv : w0.cell? p = some v); replace d0 := g0 _ _ x0 d0; replace d1 := g0 _ _ x0 d1; replace d2 := g0 _ _ x0 d2; have x1 : w.heap.size < w1.heap.size := Nat.lt_of_lt_of_le x0 B1.size; clear g0))
  have hb1 : Below w0.heap.size w0 w1 := ⟨B1.os, B1.tape, B1.output, B1.size, B1.block⟩
  have hb2 := (Below.refl w1.heap.size w1).alloc (Nat.le_refl _) (.cells [.slice (some ⟨b, 0, none⟩) 33 33, .int .i64 E.rep, .slice a1 L1 c1, .slice a2 L2 c2].toArray 130)
  have X2 := Box.new w1 [.slice (some ⟨b, 0, none⟩) 33 33, .int .i64 E.rep, .slice a1 L1 c1, .slice a2 L2 c2] 130
  have HB1 := cbelow_on HKa.out hb1 HKa.out.size
  have HB2 := cbelow_on HB1 hb2 HB1.size
  have HT : Hid (TlAt (w1.alloc (.cells [.slice (some ⟨b, 0, none⟩) 33 33, .int .i64 E.rep, .slice a1 L1 c1, .slice a2 L2 c2].toArray 130)) w1.heap.size b E) := ⟨H.out.ok, ⟨_, _, X2, H.out.wins.next HB2, H.out.crons.next HB2⟩, hr.next hb2, GlE.next HG.out HB2⟩
  have HBe := chid HB2
  clear d0 d1 d2 hb1 hb2 X2 HB1 HB2 hr B1
  go_wp2_with fail
  go_ret
  exact ⟨_, _, rfl, HT.out, HBe.out⟩
/-- A result as a value. -/
def rsV (x : Rs) : Value := if x.2 = 0 then .agg #[.int .i64 0, .int .i64 x.1] else .agg #[.int .i64 x.2, .int .i64 0]
set_option maxHeartbeats 1000000 in
theorem result_c (E : EnvP) (t : Co) (HT : TeC E t) (v : Value) (tb b : Nat) (w : World) (hs : CSits w t v) (ht : TlAt w tb b E) : Calls Tryz.prog 50 #[.pointer (some ⟨tb, 0, none⟩), coV t v] w fun e w' => e = .returned (rsV (telV E t)) ∧ Below w.heap.size w w' := by
  have HA : Hid (∀ o o', Below w.heap.size w ((w.alloc o).alloc o')) := fun o o' => ((Below.refl _ _).alloc (Nat.le_refl _) _).alloc (by simp) _
  have HC := chid (fun W (hW : Below w.heap.size w W) => HT v tb b W (hs.next hW) (ht.next hW))
  have HG := chid (fun W (hW : Below w.heap.size w W) r => reasonOf_c r W (GlE.next ht.gl hW))
  obtain ⟨ad, cap, rfl, -, -⟩ := hs.parts.shape
  obtain ⟨-, Y1, -⟩ := two_boxes w 30 72 (coL t (.slice ad t.parts.length cap)) [.int .i64 0, .int .i64 0]
  have HY := chid Y1
  clear HT hs ht Y1
  obtain ⟨Rv, hRv⟩ : ∃ Rv, Hid (Rv = rsV (telV E t)) := ⟨_, rfl⟩
  rw [← hRv.out]
  generalize telV E t = r at *
  obtain ⟨n, e⟩ := r
  by_cases he : e = 0
  · subst he
    have hR : Hid (Rv = .agg #[.int .i64 0, .int .i64 n]) := by show _ = _; rw [hRv.out]; exact if_pos rfl
    have HG0 := chid (fun W hW => HG.out W hW 0)
    rw [errV_0] at HG0
    clear hRv HG
    go_enter Tryz.func50, Tryz.ntmps50
    go_wp2_with fail
    refine Calls.mono (HC.out _ (HA.out _ _)) ?_
    rintro e w1 ⟨he1, b1⟩
    rw [resV_ok (n, 0) rfl] at he1
    subst he1
    have HB := chid (cbelow_on (HA.out _ _) b1 (by simp; omega))
    have HY1 := chid (HY.out.next b1)
    clear b1 HC HY
    go_wp2_with fail
    refine Calls.mono (HG0.out _ HB.out) ?_
    rintro e w2 ⟨rfl, b2⟩
    have HB2 := chid (cbelow_on HB.out b2 HB.out.size)
    have Z := HY1.out.next b2
    have q0 := Z.cell 0 _ rfl
    have q1 := Z.cell 1 _ rfl
    have r0 := Z.free 0 (by simp)
    have r1 := Z.free 1 (by simp)
    have zl := Z.lt
    clear b2 HG0 HY1 Z
    go_wp2_with fail
    refine bodyPost_ret (v := .agg #[.int .i64 0, .int .i64 n]) (by simp [results, Tryz.results50, go_sem, *]) rfl ?_
    exact ⟨by rw [hR.out], (HB2.out.setCell (p := ⟨w.heap.size + 1, 0, none⟩) (by simp) _).setCell (p := ⟨w.heap.size + 1, 1, none⟩) (by simp) _⟩
  · have hR : Hid (Rv = .agg #[.int .i64 e, .int .i64 0]) := by show _ = _; rw [hRv.out]; exact if_neg he
    have HG0 := chid (fun W hW => HG.out W hW e)
    rw [errV_n he] at HG0
    have kz : (e != 0) = true := by simpa using he
    clear hRv HG
    go_enter Tryz.func50, Tryz.ntmps50
    go_wp2_with fail
    refine Calls.mono (HC.out _ (HA.out _ _)) ?_
    rintro e1 w1 ⟨he1, b1⟩
    rw [resV_err n he] at he1
    subst he1
    have HB := chid (cbelow_on (HA.out _ _) b1 (by simp; omega))
    have HY1 := chid (HY.out.next b1)
    clear b1 HC HY
    go_wp2_with fail
    refine Calls.mono (HG0.out _ HB.out) ?_
    rintro e1 w2 ⟨rfl, b2⟩
    have HB2 := chid (cbelow_on HB.out b2 HB.out.size)
    have Z := HY1.out.next b2
    have q0 := Z.cell 0 _ rfl
    have q1 := Z.cell 1 _ rfl
    have r0 := Z.free 0 (by simp)
    have r1 := Z.free 1 (by simp)
    have zl := Z.lt
    clear b2 HG0 HY1 Z
    go_wp2_with fail
    refine bodyPost_ret (v := .agg #[.int .i64 e, .int .i64 0]) (by simp [results, Tryz.results50, go_sem, *]) rfl ?_
    exact ⟨by rw [hR.out], (HB2.out.setCell (p := ⟨w.heap.size + 1, 0, none⟩) (by simp) _).setCell (p := ⟨w.heap.size + 1, 1, none⟩) (by simp) _⟩

/-- What Eval answers, where the core is of the sort s and comes to r. -/
def evV (s : Int) (r : Rs) : Value := if s = 1 ∨ s = 2 then .tuple #[rsV r, .int .i64 0] else .tuple #[.agg #[.int .i64 0, .int .i64 0], .int .i64 1]
set_option maxHeartbeats 4000000 in
set_option maxRecDepth 20000 in
theorem cEval_c (E : EnvP) (t : Co) (v v1 v2 : Value) (w : World) (hs : CSits w t v) (hn : cnodes t ≤ 8192) (he : EnvAt w E v1 v2) (hg : GlE w) : Calls Tryz.prog 25 #[coV t v, envV E v1 v2] w fun e w' => e = .returned (evV (srt E t) (telV E t)) ∧ Below w.heap.size w w' := by
  have HS := chid (fun W (hW : Below w.heap.size w W) => cSort_c t v E.wins.length E.crons.length 256 W (hs.next hW) hn ⟨⟨by omega, by have := he.ok.wl; omega⟩, ⟨by omega, by have := he.ok.cl; omega⟩, by unfold C64; decide⟩)
  have HT : Hid (srt E t ≠ 0 → TeC E t) := fun h => tell_all E he.ok t ⟨w, v, hs⟩ hn h
  have HN := chid (fun W (hW : Below w.heap.size w W) => newTeller_c E v1 v2 W (he.next hW) (GlE.next hg hW))
  have HSi := chid hs
  obtain ⟨ad, cap, rfl, -, -⟩ := hs.parts.shape
  obtain ⟨a1, c1, a2, c2, rfl, rfl⟩ := he.shape
  obtain ⟨Y0, Y1, Y2, B0⟩ := three_boxes w 30 58 72 (coL t (.slice ad t.parts.length cap)) [.int .i64 E.rep, .slice a1 E.wins.length c1, .slice a2 E.crons.length c2] [.int .i64 0, .int .i64 0]
  have HY := chid (And.intro Y0 (And.intro Y1 Y2))
  have HB0 := chid B0
  clear Y0 Y1 Y2 B0
  obtain ⟨Rv, hRv⟩ : ∃ Rv, Hid (Rv = evV (srt E t) (telV E t)) := ⟨_, rfl⟩
  rw [← hRv.out]
  have hL1 : E.wins.length ≤ 9223372036854775807 := he.ok.wl
  have hL2 : E.crons.length ≤ 9223372036854775807 := he.ok.cl
  clear hs he hn hg
  go_enter Tryz.func25, Tryz.ntmps25
  go_wp2_with fail
  refine Calls.mono (HS.out _ HB0.out) ?_
  rintro e w1 ⟨rfl, b1⟩
  have HB1 := chid (cbelow_on HB0.out b1 HB0.out.size)
  obtain ⟨Y0, Y1, Y2⟩ := HY.out
  have Z0 := Y0.next b1
  have Z1 := Y1.next b1
  have Z2 := Y2.next b1
  have HZ0 := chid Z0
  have HZ2 := chid Z2
  have c0 := Z1.cell 0 _ rfl
  have c1' := Z1.cell 1 _ rfl
  have c2' := Z1.cell 2 _ rfl
  have l1 := Z1.lt
  clear b1 HS HB0 HY Y0 Y1 Y2 Z0 Z1 Z2
  generalize hs : csort ladF E.wins.length E.crons.length 256 t = s at *
  have HTs : Hid (s ≠ 0 → TeC E t) := fun h => HT.out (by unfold srt; rw [hs]; exact h)
  have hRs : Hid (Rv = evV s (telV E t)) := by show _ = _; rw [hRv.out]; unfold srt; rw [hs]
  clear hs HT hRv
  by_cases h12 : s = 1 ∨ s = 2
  · have hR : Hid (Rv = .tuple #[rsV (telV E t), .int .i64 0]) := by show _ = _; rw [hRs.out]; exact if_pos h12
    have HR := chid (fun tb b W hsi hti => result_c E t (HTs.out (by omega)) (.slice ad t.parts.length cap) tb b W hsi hti)
    clear hRs HTs
    have q0 := HZ2.out.cell 0 _ rfl
    have q1 := HZ2.out.cell 1 _ rfl
    have r0 := HZ2.out.free 0 (by simp)
    have r1 := HZ2.out.free 1 (by simp)
    have zl := HZ2.out.lt
    have p0 := HZ0.out.cell 0 _ rfl
    have p1 := HZ0.out.cell 1 _ rfl
    have p2 := HZ0.out.cell 2 _ rfl
    have p3 := HZ0.out.cell 3 _ rfl
    have l0 := HZ0.out.lt
    obtain ⟨A, B, hAB⟩ : ∃ A B, Hid (rsV (telV E t) = .agg #[.int .i64 A, .int .i64 B]) := by unfold rsV; split; exact ⟨_, _, chid rfl⟩; exact ⟨_, _, chid rfl⟩
    rw [hAB.out] at hR HR
    rcases h12 with rfl | rfl
    · go_wp2_with fail
      go_region_held3 (fun w' => (w'.cell? ⟨w.heap.size + 1, 0, none⟩ = some (.int .i64 E.rep) ∧ w'.cell? ⟨w.heap.size + 1, 1, none⟩ = some (.slice a1 E.wins.length c1) ∧ w'.cell? ⟨w.heap.size + 1, 2, none⟩ = some (.slice a2 E.crons.length c2)) ∧ (w'.cell? ⟨w.heap.size, 0, none⟩ = some (.int .i64 t.op) ∧ w'.cell? ⟨w.heap.size, 1, none⟩ = some (.int .i64 t.n) ∧ w'.cell? ⟨w.heap.size, 2, none⟩ = some (.int .i64 t.m) ∧ w'.cell? ⟨w.heap.size, 3, none⟩ = some (.slice ad t.parts.length cap))) (simp [go_sem, *]) (first | (go_at_call 49; refine Calls.mono (HN.out _ (by exact cdrewN HB1.out _)) ?_; rintro e w2 ⟨tb, b, rfl, ht, B2⟩; have g0 := fun p v hp hv => (B2.cell (p := p) hp).trans (hv : w1.cell? p = some v); replace c0 := g0 _ _ l1 c0; replace c1' := g0 _ _ l1 c1'; replace c2' := g0 _ _ l1 c2'; replace p0 := g0 _ _ l0 p0; replace p1 := g0 _ _ l0 p1; replace p2 := g0 _ _ l0 p2; replace p3 := g0 _ _ l0 p3; have HB2 := chid (cbelow_on HB1.out (b := w2) ⟨B2.os, B2.tape, B2.output, B2.size, B2.block⟩ HB1.out.size); have Z3 := HZ2.out.next (w' := w2) ⟨B2.os, B2.tape, B2.output, B2.size, B2.block⟩; replace q0 := Z3.cell 0 _ rfl; replace q1 := Z3.cell 1 _ rfl; replace r0 := Z3.free 0 (by simp); replace r1 := Z3.free 1 (by simp); replace zl := Z3.lt; replace HZ2 := chid Z3; replace l1 : w.heap.size + 1 < w2.heap.size := Nat.lt_of_lt_of_le l1 B2.size; replace l0 : w.heap.size < w2.heap.size := Nat.lt_of_lt_of_le l0 B2.size; have HT2 := chid ht; clear g0 B2 Z3 ht) | (go_at_call 50; refine Calls.mono (HR.out _ _ _ (HSi.out.next HB2.out) HT2.out) ?_; rintro e w3 ⟨rfl, B3⟩; have g0 := fun p v hp hv => (B3.cell (p := p) hp).trans (hv : w2.cell? p = some v); replace c0 := g0 _ _ l1 c0; replace c1' := g0 _ _ l1 c1'; replace c2' := g0 _ _ l1 c2'; replace p0 := g0 _ _ l0 p0; replace p1 := g0 _ _ l0 p1; replace p2 := g0 _ _ l0 p2; replace p3 := g0 _ _ l0 p3; have HB3 := chid (cbelow_on HB2.out B3 HB2.out.size); have Z3 := HZ2.out.next B3; replace q0 := Z3.cell 0 _ rfl; replace q1 := Z3.cell 1 _ rfl; replace r0 := Z3.free 0 (by simp); replace r1 := Z3.free 1 (by simp); replace zl := Z3.lt; clear g0 B3 Z3))
      clear c0 c1' c2' p0 p1 p2 p3 HN HR HT2 HB1 HB2 HZ2
      go_wp2_with fail
      refine bodyPost_ret (v := .tuple #[.agg #[.int .i64 A, .int .i64 B], .int .i64 0]) (by simp [results, Tryz.results25, go_sem, *]) rfl ?_
      exact ⟨by rw [hR.out], (HB3.out.setCell (p := ⟨w.heap.size + 1 + 1, 0, none⟩) (by simp; omega) _).setCell (p := ⟨w.heap.size + 1 + 1, 1, none⟩) (by simp; omega) _⟩
    · go_wp2_with fail
      go_region_held3 (fun w' => (w'.cell? ⟨w.heap.size + 1, 0, none⟩ = some (.int .i64 E.rep) ∧ w'.cell? ⟨w.heap.size + 1, 1, none⟩ = some (.slice a1 E.wins.length c1) ∧ w'.cell? ⟨w.heap.size + 1, 2, none⟩ = some (.slice a2 E.crons.length c2)) ∧ (w'.cell? ⟨w.heap.size, 0, none⟩ = some (.int .i64 t.op) ∧ w'.cell? ⟨w.heap.size, 1, none⟩ = some (.int .i64 t.n) ∧ w'.cell? ⟨w.heap.size, 2, none⟩ = some (.int .i64 t.m) ∧ w'.cell? ⟨w.heap.size, 3, none⟩ = some (.slice ad t.parts.length cap))) (simp [go_sem, *]) (first | (go_at_call 49; refine Calls.mono (HN.out _ (by exact cdrewN HB1.out _)) ?_; rintro e w2 ⟨tb, b, rfl, ht, B2⟩; have g0 := fun p v hp hv => (B2.cell (p := p) hp).trans (hv : w1.cell? p = some v); replace c0 := g0 _ _ l1 c0; replace c1' := g0 _ _ l1 c1'; replace c2' := g0 _ _ l1 c2'; replace p0 := g0 _ _ l0 p0; replace p1 := g0 _ _ l0 p1; replace p2 := g0 _ _ l0 p2; replace p3 := g0 _ _ l0 p3; have HB2 := chid (cbelow_on HB1.out (b := w2) ⟨B2.os, B2.tape, B2.output, B2.size, B2.block⟩ HB1.out.size); have Z3 := HZ2.out.next (w' := w2) ⟨B2.os, B2.tape, B2.output, B2.size, B2.block⟩; replace q0 := Z3.cell 0 _ rfl; replace q1 := Z3.cell 1 _ rfl; replace r0 := Z3.free 0 (by simp); replace r1 := Z3.free 1 (by simp); replace zl := Z3.lt; replace HZ2 := chid Z3; replace l1 : w.heap.size + 1 < w2.heap.size := Nat.lt_of_lt_of_le l1 B2.size; replace l0 : w.heap.size < w2.heap.size := Nat.lt_of_lt_of_le l0 B2.size; have HT2 := chid ht; clear g0 B2 Z3 ht) | (go_at_call 50; refine Calls.mono (HR.out _ _ _ (HSi.out.next HB2.out) HT2.out) ?_; rintro e w3 ⟨rfl, B3⟩; have g0 := fun p v hp hv => (B3.cell (p := p) hp).trans (hv : w2.cell? p = some v); replace c0 := g0 _ _ l1 c0; replace c1' := g0 _ _ l1 c1'; replace c2' := g0 _ _ l1 c2'; replace p0 := g0 _ _ l0 p0; replace p1 := g0 _ _ l0 p1; replace p2 := g0 _ _ l0 p2; replace p3 := g0 _ _ l0 p3; have HB3 := chid (cbelow_on HB2.out B3 HB2.out.size); have Z3 := HZ2.out.next B3; replace q0 := Z3.cell 0 _ rfl; replace q1 := Z3.cell 1 _ rfl; replace r0 := Z3.free 0 (by simp); replace r1 := Z3.free 1 (by simp); replace zl := Z3.lt; clear g0 B3 Z3))
      clear c0 c1' c2' p0 p1 p2 p3 HN HR HT2 HB1 HB2 HZ2
      go_wp2_with fail
      refine bodyPost_ret (v := .tuple #[.agg #[.int .i64 A, .int .i64 B], .int .i64 0]) (by simp [results, Tryz.results25, go_sem, *]) rfl ?_
      exact ⟨by rw [hR.out], (HB3.out.setCell (p := ⟨w.heap.size + 1 + 1, 0, none⟩) (by simp; omega) _).setCell (p := ⟨w.heap.size + 1 + 1, 1, none⟩) (by simp; omega) _⟩
  · have hR : Hid (Rv = .tuple #[.agg #[.int .i64 0, .int .i64 0], .int .i64 1]) := by show _ = _; rw [hRs.out]; exact if_neg h12
    have k1 : (s == 1) = false := by simp; omega
    have k2 : (s == 2) = false := by simp; omega
    have q0 := HZ2.out.cell 0 _ rfl
    have q1 := HZ2.out.cell 1 _ rfl
    have r0 := HZ2.out.free 0 (by simp)
    have r1 := HZ2.out.free 1 (by simp)
    have zl := HZ2.out.lt
    clear hRs HTs HN c0 c1' c2' l1
    go_wp2_with fail
    refine bodyPost_ret (v := .tuple #[.agg #[.int .i64 0, .int .i64 0], .int .i64 1]) (by simp [results, Tryz.results25, go_sem, *]) rfl ?_
    exact ⟨by rw [hR.out], (HB1.out.setCell (p := ⟨w.heap.size + 1 + 1, 0, none⟩) (by simp; omega) _).setCell (p := ⟨w.heap.size + 1 + 1, 1, none⟩) (by simp; omega) _⟩

/-- A core without parts. -/
theorem csits0 (w : World) (k n m : Int) (hk : C64 k) (hn : C64 n) (hm : C64 m) : CSits w ⟨k, n, m, []⟩ (.slice none 0 0) :=
  csits_iff.2 ⟨⟨hk, hn, hm⟩, none, 0, rfl, Nat.le_refl _, by omega, .inl rfl⟩
theorem csits2 {w w' : World} {g : Nat} {a b : Co} {va vb : Value} (k n m : Int) (hk : C64 k) (hn : C64 n) (hm : C64 m) (ha : CSits w a va) (hb : CSits w b vb) (hw : Below w.heap.size w w') (hx : Box w' g (coL a va ++ coL b vb)) : CSits w' ⟨k, n, m, [a, b]⟩ (.slice (some ⟨g, 0, none⟩) 2 2) := by
  refine csits_iff.2 ⟨⟨hk, hn, hm⟩, _, 2, rfl, Nat.le_refl _, by omega, .inr ⟨g, 0, rfl, hx.lt, fun i hi => ?_⟩⟩
  have hi' : i = 0 ∨ i = 1 := by simp at hi; omega
  rcases hi' with rfl | rfl
  · exact ⟨va, ⟨hx.cell 0 _ rfl, hx.cell 1 _ rfl, hx.cell 2 _ rfl, hx.cell 3 _ rfl⟩, ha.next hw⟩
  · exact ⟨vb, ⟨hx.cell 4 _ rfl, hx.cell 5 _ rfl, hx.cell 6 _ rfl, hx.cell 7 _ rfl⟩, hb.next hw⟩
set_option maxHeartbeats 1000000 in
theorem num_c (n : Int) (w : World) : Calls Tryz.prog 27 #[.int .i64 n] w fun e w' => e = .returned (coV ⟨1, n, 0, []⟩ (.slice none 0 0)) ∧ Below w.heap.size w w' := by
  go_enter Tryz.func27, Tryz.ntmps27
  go_wp2_with fail
  refine bodyPost_ret (v := coV ⟨1, n, 0, []⟩ (.slice none 0 0)) (by simp [results, Tryz.results27, go_sem, *]) rfl ?_
  exact ⟨rfl, (Below.refl _ _).alloc (Nat.le_refl _) _⟩
set_option maxHeartbeats 1000000 in
theorem of_c (op : Int) (a b : Co) (va vb : Value) (w : World) (ho : C64 op) (ha : CSits w a va) (hb : CSits w b vb) : Calls Tryz.prog 26 #[.int .i64 op, coV a va, coV b vb] w fun e w' => ∃ v, e = .returned (coV ⟨op, 0, 0, [a, b]⟩ v) ∧ CSits w' ⟨op, 0, 0, [a, b]⟩ v ∧ Below w.heap.size w w' := by
  have HA := chid ha
  have HB := chid hb
  obtain ⟨a1, c1, rfl, -, -⟩ := ha.parts.shape
  obtain ⟨a2, c2, rfl, -, -⟩ := hb.parts.shape
  clear ha hb
  go_enter Tryz.func26, Tryz.ntmps26
  go_wp2_with fail
  refine bodyPost_ret (v := coV ⟨op, 0, 0, [a, b]⟩ (.slice (some ⟨w.heap.size + 1 + 1 + 1, 0, none⟩) 2 2)) (by simp [results, Tryz.results26, go_sem, *]) rfl ?_
  have hB : ∀ o1 o2 o3 o4, Below w.heap.size w ((((w.alloc o1).alloc o2).alloc o3).alloc o4) := fun o1 o2 o3 o4 => ((((Below.refl _ _).alloc (Nat.le_refl _) _).alloc (by simp) _).alloc (by simp; omega) _).alloc (by simp; omega) _
  have hX : ∀ o1 o2 o3, Box ((((w.alloc o1).alloc o2).alloc o3).alloc (.cells (coL a (.slice a1 a.parts.length c1) ++ coL b (.slice a2 b.parts.length c2)).toArray 30)) (w.heap.size + 1 + 1 + 1) (coL a (.slice a1 a.parts.length c1) ++ coL b (.slice a2 b.parts.length c2)) := fun o1 o2 o3 => by
    simpa using Box.new (((w.alloc o1).alloc o2).alloc o3) (coL a (.slice a1 a.parts.length c1) ++ coL b (.slice a2 b.parts.length c2)) 30
  exact ⟨_, rfl, csits2 op 0 0 ho zero_64 zero_64 HA.out HB.out (hB _ _ _ _) (hX _ _ _), hB _ _ _ _⟩
abbrev env0 (r : Int) : EnvP := ⟨r, [], []⟩
theorem env0_at (w : World) (r : Int) (h : C64 r) : EnvAt w (env0 r) (.slice none 0 0) (.slice none 0 0) :=
  ⟨⟨h, fun i => by simpa using And.intro zero_64 zero_64, by simp, by simp⟩, ⟨none, 0, rfl, .inl rfl⟩, ⟨none, 0, rfl, .inl rfl⟩⟩
abbrev coA : Co := ⟨14, 0, 0, [⟨3, 0, 0, []⟩, ⟨1, 500000, 0, []⟩]⟩
abbrev coB : Co := ⟨17, 0, 0, [⟨1, 1, 0, []⟩, ⟨1, 0, 0, []⟩]⟩
theorem soNum (wn cn ln n : Int) : csort ladF wn cn ln ⟨1, n, 0, []⟩ = 1 := by rw [csort_eq]; rfl
theorem soRep (wn cn ln : Int) : csort ladF wn cn ln ⟨3, 0, 0, []⟩ = 1 := by rw [csort_eq]; rfl
theorem teNum (E : EnvP) (n : Int) : telV E ⟨1, n, 0, []⟩ = okR n := by rw [telV_eq]; rfl
theorem teRep (E : EnvP) : telV E ⟨3, 0, 0, []⟩ = okR (held (E.rep * 1000000)) := by rw [telV_eq]; rfl
theorem evA : evV (srt (env0 3) coA) (telV (env0 3) coA) = .tuple #[.agg #[.int .i64 0, .int .i64 3500000], .int .i64 0] := by
  have h1 : srt (env0 3) coA = 1 := by
    unfold srt
    rw [csort_eq]
    simp only [List.map_cons, List.map_nil, soRep, soNum]
    rfl
  have h2 : telV (env0 3) coA = okR 3500000 := by
    have e : telV (env0 3) coA = ofTwoR (fun a b => okR (bF 14 a b)) (telV (env0 3) ⟨3, 0, 0, []⟩) (telV (env0 3) ⟨1, 500000, 0, []⟩) := by rw [telV_eq]; rfl
    rw [e, teRep, teNum]
    rfl
  rw [h1, h2]
  rfl
theorem cn0 (k n m : Int) : cnodes ⟨k, n, m, []⟩ = 1 := by rw [cnodes_eq]; rfl
theorem cn2 (k n m : Int) (a b : Co) : cnodes ⟨k, n, m, [a, b]⟩ = 1 + (cnodes a + cnodes b) := by rw [cnodes_eq]; show 1 + cnodesL [a, b] = _; rw [cnodesL_cons, cnodesL_cons, cnodesL_nil]; omega
theorem cnA : cnodes coA ≤ 8192 := by rw [cn2, cn0, cn0]; decide
theorem cnB : cnodes coB ≤ 8192 := by rw [cn2, cn0, cn0]; decide
theorem evB : evV (srt (env0 0) coB) (telV (env0 0) coB) = .tuple #[.agg #[.int .i64 2, .int .i64 0], .int .i64 0] := by
  have h1 : srt (env0 0) coB = 1 := by
    unfold srt
    rw [csort_eq]
    simp only [List.map_cons, List.map_nil, soNum]
    rfl
  have h2 : telV (env0 0) coB = noR 2 := by
    have e : telV (env0 0) coB = ofTwoR divR (telV (env0 0) ⟨1, 1, 0, []⟩) (telV (env0 0) ⟨1, 0, 0, []⟩) := by rw [telV_eq]; rfl
    rw [e, teNum, teNum]
    rfl
  rw [h1, h2]
  rfl
set_option maxHeartbeats 4000000 in
set_option maxRecDepth 20000 in
theorem awake15_c (w : World) (hg : GlE w) : Calls Tryz.prog 9 #[] w fun e w' => e = .returned (.bool true) ∧ Below w.heap.size w w' := by
  have HG := chid hg
  have HN := chid num_c
  have HO := chid of_c
  clear hg
  go_enter Tryz.func9, Tryz.ntmps9
  go_wp2_with fail
  refine Calls.mono (HN.out _ _) ?_
  rintro e w1 ⟨rfl, b1⟩
  have B1 := chid b1
  clear b1
  go_wp2_with fail
  refine Calls.mono (HO.out _ ⟨3, 0, 0, []⟩ ⟨1, 500000, 0, []⟩ _ _ _ (by unfold C64; decide) (csits0 _ _ _ _ (by unfold C64; decide) zero_64 zero_64) (csits0 _ _ _ _ (by unfold C64; decide) (by unfold C64; decide) zero_64)) ?_
  rintro e w2 ⟨v, rfl, s2, b2⟩
  have B2 := chid (cbelow_on B1.out b2 B1.out.size)
  have HE := chid (cEval_c (env0 3) coA v _ _ w2 s2 cnA (env0_at w2 3 (by unfold C64; decide)) (GlE.next HG.out B2.out))
  rw [evA] at HE
  obtain ⟨ad, cap, rfl, -, -⟩ := s2.parts.shape
  clear b2 B1 s2
  go_wp2_with fail
  refine Calls.mono HE.out ?_
  rintro e w3 ⟨rfl, b3⟩
  have B3 := chid (cbelow_on B2.out b3 B2.out.size)
  clear b3 B2 HE
  have RB := chid (Box.new w3 [.int .i64 0, .int .i64 3500000] 72)
  have B4 := chid (B3.out.alloc B3.out.size (.cells [.int .i64 0, .int .i64 3500000].toArray 72))
  obtain ⟨rb, hrb⟩ : ∃ rb, rb = w3.heap.size := ⟨_, rfl⟩
  have hrw : Hid (w.heap.size ≤ rb) := by rw [hrb]; exact B3.out.size
  rw [← hrb] at RB
  go_wp2_with fail
  rw [← hrb]
  generalize hW4 : w3.alloc _ = w4 at *
  clear hW4 hrb B3
  refine Calls.mono (HN.out _ _) ?_
  rintro e w5 ⟨rfl, b5⟩
  have B5 := chid (cbelow_on B4.out b5 B4.out.size)
  replace RB := chid (RB.out.next b5)
  clear b5 B4
  go_wp2_with fail
  refine Calls.mono (HN.out _ _) ?_
  rintro e w6 ⟨rfl, b6⟩
  have B6 := chid (cbelow_on B5.out b6 B5.out.size)
  replace RB := chid (RB.out.next b6)
  clear b6 B5
  go_wp2_with fail
  refine Calls.mono (HO.out _ ⟨1, 1, 0, []⟩ ⟨1, 0, 0, []⟩ _ _ _ (by unfold C64; decide) (csits0 _ _ _ _ (by unfold C64; decide) (by unfold C64; decide) zero_64) (csits0 _ _ _ _ (by unfold C64; decide) zero_64 zero_64)) ?_
  rintro e w7 ⟨v, rfl, s7, b7⟩
  have B7 := chid (cbelow_on B6.out b7 B6.out.size)
  replace RB := chid (RB.out.next b7)
  have HE := chid (cEval_c (env0 0) coB v _ _ w7 s7 cnB (env0_at w7 0 zero_64) (GlE.next HG.out B7.out))
  rw [evB] at HE
  obtain ⟨ad2, cap2, rfl, -, -⟩ := s7.parts.shape
  clear b7 B6 s7
  go_wp2_with fail
  refine Calls.mono HE.out ?_
  rintro e w8 ⟨rfl, b8⟩
  have B8 := chid (cbelow_on B7.out b8 B7.out.size)
  replace RB := chid (RB.out.next b8)
  clear b8 B7 HE
  have q0 := RB.out.cell 0 _ rfl
  have q1 := RB.out.cell 1 _ rfl
  have ql := RB.out.lt
  have HSo := chid (fun W => cSort_c ⟨1, 1, 0, []⟩ (.slice none 0 0) 0 0 0 W (csits0 _ _ _ _ (by unfold C64; decide) (by unfold C64; decide) zero_64) (by rw [cn0]; decide) ⟨zero_64, zero_64, zero_64⟩)
  rw [soNum] at HSo
  have HA : Hid (∀ o, Below w.heap.size w (w8.alloc o)) := fun o => B8.out.alloc B8.out.size o
  go_wp2_with fail
  refine Calls.mono (HN.out _ _) ?_
  rintro e w9 ⟨rfl, b9⟩
  have B9 := chid (cbelow_on (HA.out _) b9 (by have := B8.out.size; simp; omega))
  clear b9 q0 q1 ql RB HA
  go_wp2_with fail
  refine Calls.mono (HSo.out _) ?_
  rintro e w10 ⟨rfl, b10⟩
  have B10 := chid (cbelow_on B9.out b10 B9.out.size)
  clear b10 B9
  go_wp2_with fail
  go_ret
  exact ⟨rfl, B10.out⟩
end Go.Proofs.YtpkknifbocfeaaaGreatDoor
