/- Package core: Eval whole. -/
import Derived.Test.YtkhdcojgcnomgaaGreatDoorCpD
namespace Go.Proofs.YtkhdcojgcnomgaaGreatDoor
open Go.RowKit

/-- An Env as a value. -/
abbrev envV (E : EnvP) (v1 v2 : Value) : Value := .agg #[.int .i64 E.rep, v1, v2]
/-- An Env that is handed in. -/
structure EnvAt (w : World) (E : EnvP) (v1 v2 : Value) : Prop where
  ok : EnvOk E
  wins : WinsAt w v1 E.wins
  crons : CronsAt w v2 E.crons
theorem EnvAt.next {w w' : World} {E : EnvP} {v1 v2 : Value} (h : EnvAt w E v1 v2) (k : Below w.heap.size w w') : EnvAt w' E v1 v2 := ⟨h.ok, h.wins.next k, h.crons.next k⟩
theorem EnvAt.shape {w : World} {E : EnvP} {v1 v2 : Value} (h : EnvAt w E v1 v2) : ∃ a1 c1 a2 c2, v1 = .slice a1 E.wins.length c1 ∧ v2 = .slice a2 E.crons.length c2 := by
  obtain ⟨a1, c1, e1, -⟩ := h.wins
  obtain ⟨a2, c2, e2, -⟩ := h.crons
  exact ⟨a1, c1, a2, c2, e1, e2⟩
set_option maxHeartbeats 1000000 in
theorem newTeller_c (E : EnvP) (v1 v2 : Value) (w : World) (h : EnvAt w E v1 v2) (hg : GlE w) : Calls Tryz.prog 49 #[envV E v1 v2] w fun e w' => ∃ tb b, e = .returned (.pointer (some ⟨tb, 0, none⟩)) ∧ TlAt w' tb b E ∧ Below w.heap.size w w' := by
  obtain ⟨a1, c1, a2, c2, rfl, rfl⟩ := h.shape
  have H := chid h
  have HG := chid hg
  have HA : Hid (∀ o, Below w.heap.size w (w.alloc o)) := fun o => (Below.refl _ _).alloc (Nat.le_refl _) _
  generalize E.wins.length = L1 at *
  generalize E.crons.length = L2 at *
  have X0 := Box.new w [.int .i64 E.rep, .slice a1 L1 c1, .slice a2 L2 c2] 48
  have d0 := X0.cell 0 _ rfl
  have d1 := X0.cell 1 _ rfl
  have d2 := X0.cell 2 _ rfl
  have x0 := X0.lt
  have HKa := chid (HA.out (.cells [.int .i64 E.rep, .slice a1 L1 c1, .slice a2 L2 c2].toArray 48))
  clear h hg HA X0
  go_enter Tryz.func49, Tryz.ntmps49
  go_wp2_with fail
  generalize hW0 : w.alloc _ = w0 at *
  clear hW0
  go_region_held3 (fun w' => w'.cell? ⟨w.heap.size, 0, none⟩ = some (.int .i64 E.rep) ∧ w'.cell? ⟨w.heap.size, 1, none⟩ = some (.slice a1 L1 c1) ∧ w'.cell? ⟨w.heap.size, 2, none⟩ = some (.slice a2 L2 c2)) (simp [go_sem, *]) (first | (go_at_call 33; refine Calls.mono (crows_c _) ?_; rintro e w1 ⟨b, rfl, hr, B1⟩; have g0 := fun p v hp hv => (B1.cell (p := p) hp).trans (hv : w0.cell? p = some v); replace d0 := g0 _ _ x0 d0; replace d1 := g0 _ _ x0 d1; replace d2 := g0 _ _ x0 d2; have x1 : w.heap.size < w1.heap.size := Nat.lt_of_lt_of_le x0 B1.size; clear g0))
  have hb1 : Below w0.heap.size w0 w1 := ⟨B1.os, B1.tape, B1.output, B1.size, B1.block⟩
  have hb2 := (Below.refl w1.heap.size w1).alloc (Nat.le_refl _) (.cells [.slice (some ⟨b, 0, none⟩) 33 33, .int .i64 E.rep, .slice a1 L1 c1, .slice a2 L2 c2].toArray 132)
  have X2 := Box.new w1 [.slice (some ⟨b, 0, none⟩) 33 33, .int .i64 E.rep, .slice a1 L1 c1, .slice a2 L2 c2] 132
  have HB1 := cbelow_on HKa.out hb1 HKa.out.size
  have HB2 := cbelow_on HB1 hb2 HB1.size
  have HT : Hid (TlAt (w1.alloc (.cells [.slice (some ⟨b, 0, none⟩) 33 33, .int .i64 E.rep, .slice a1 L1 c1, .slice a2 L2 c2].toArray 132)) w1.heap.size b E) := ⟨H.out.ok, ⟨_, _, X2, H.out.wins.next HB2, H.out.crons.next HB2⟩, hr.next hb2, GlE.next HG.out HB2⟩
  have HBe := chid HB2
  clear d0 d1 d2 hb1 hb2 X2 HB1 HB2 hr B1
  go_wp2_with fail
  go_ret
  exact ⟨_, _, rfl, HT.out, HBe.out⟩
/-- A result as a value. -/
def rsV (x : Rs) : Value := if x.2 = 0 then .agg #[.int .i64 0, .int .i64 x.1] else .agg #[.int .i64 x.2, .int .i64 0]
set_option maxHeartbeats 1000000 in
theorem result_c (E : EnvP) (t : Co) (HT : TeC E t) (v : Value) (tb b : Nat) (w : World) (hs : CSits w t v) (ht : TlAt w tb b E) : Calls Tryz.prog 50 #[.pointer (some ⟨tb, 0, none⟩), coV t v] w fun e w' => e = .returned (rsV (telV E t)) ∧ Below w.heap.size w w' := by
  have HA : Hid (∀ o o', Below w.heap.size w ((w.alloc o).alloc o')) := fun o o' => ((Below.refl _ _).alloc (Nat.le_refl _) _).alloc (by simp) _
  have HC := chid (fun W (hW : Below w.heap.size w W) => HT v tb b W (hs.next hW) (ht.next hW))
  have HG := chid (fun W (hW : Below w.heap.size w W) r => reasonOf_c r W (GlE.next ht.gl hW))
  obtain ⟨ad, cap, rfl, -, -⟩ := hs.parts.shape
  obtain ⟨-, Y1, -⟩ := two_boxes w 24 51 (coL t (.slice ad t.parts.length cap)) [.int .i64 0, .int .i64 0]
  have HY := chid Y1
  clear HT hs ht Y1
  obtain ⟨Rv, hRv⟩ : ∃ Rv, Hid (Rv = rsV (telV E t)) := ⟨_, rfl⟩
  rw [← hRv.out]
  generalize telV E t = r at *
  obtain ⟨n, e⟩ := r
  by_cases he : e = 0
  · subst he
    have hR : Hid (Rv = .agg #[.int .i64 0, .int .i64 n]) := by show _ = _; rw [hRv.out]; exact if_pos rfl
    have HG0 := chid (fun W hW => HG.out W hW 0)
    rw [errV_0] at HG0
    clear hRv HG
    go_enter Tryz.func50, Tryz.ntmps50
    go_wp2_with fail
    refine Calls.mono (HC.out _ (HA.out _ _)) ?_
    rintro e w1 ⟨he1, b1⟩
    rw [resV_ok (n, 0) rfl] at he1
    subst he1
    have HB := chid (cbelow_on (HA.out _ _) b1 (by simp; omega))
    have HY1 := chid (HY.out.next b1)
    clear b1 HC HY
    go_wp2_with fail
    refine Calls.mono (HG0.out _ HB.out) ?_
    rintro e w2 ⟨rfl, b2⟩
    have HB2 := chid (cbelow_on HB.out b2 HB.out.size)
    have Z := HY1.out.next b2
    have q0 := Z.cell 0 _ rfl
    have q1 := Z.cell 1 _ rfl
    have r0 := Z.free 0 (by simp)
    have r1 := Z.free 1 (by simp)
    have zl := Z.lt
    clear b2 HG0 HY1 Z
    go_wp2_with fail
    refine bodyPost_ret (v := .agg #[.int .i64 0, .int .i64 n]) (by simp [results, Tryz.results50, go_sem, *]) rfl ?_
    exact ⟨by rw [hR.out], (HB2.out.setCell (p := ⟨w.heap.size + 1, 0, none⟩) (by simp) _).setCell (p := ⟨w.heap.size + 1, 1, none⟩) (by simp) _⟩
  · have hR : Hid (Rv = .agg #[.int .i64 e, .int .i64 0]) := by show _ = _; rw [hRv.out]; exact if_neg he
    have HG0 := chid (fun W hW => HG.out W hW e)
    rw [errV_n he] at HG0
    have kz : (e != 0) = true := by simpa using he
    clear hRv HG
    go_enter Tryz.func50, Tryz.ntmps50
    go_wp2_with fail
    refine Calls.mono (HC.out _ (HA.out _ _)) ?_
    rintro e1 w1 ⟨he1, b1⟩
    rw [resV_err n he] at he1
    subst he1
    have HB := chid (cbelow_on (HA.out _ _) b1 (by simp; omega))
    have HY1 := chid (HY.out.next b1)
    clear b1 HC HY
    go_wp2_with fail
    refine Calls.mono (HG0.out _ HB.out) ?_
    rintro e1 w2 ⟨rfl, b2⟩
    have HB2 := chid (cbelow_on HB.out b2 HB.out.size)
    have Z := HY1.out.next b2
    have q0 := Z.cell 0 _ rfl
    have q1 := Z.cell 1 _ rfl
    have r0 := Z.free 0 (by simp)
    have r1 := Z.free 1 (by simp)
    have zl := Z.lt
    clear b2 HG0 HY1 Z
    go_wp2_with fail
    refine bodyPost_ret (v := .agg #[.int .i64 e, .int .i64 0]) (by simp [results, Tryz.results50, go_sem, *]) rfl ?_
    exact ⟨by rw [hR.out], (HB2.out.setCell (p := ⟨w.heap.size + 1, 0, none⟩) (by simp) _).setCell (p := ⟨w.heap.size + 1, 1, none⟩) (by simp) _⟩
end Go.Proofs.YtkhdcojgcnomgaaGreatDoor
