/- Package core: the teller in memory; tell. -/
import Derived.Test.YtpkknifbocfeaaaGreatDoorCoJ
import Derived.Test.YtpkknifbocfeaaaGreatDoorCoK
namespace Go.Proofs.YtpkknifbocfeaaaGreatDoor
open Go.RowKit

/-- The error that tells the reason r; none, if r is 0. -/
def errV (r : Int) : Value := if r = 0 then .nilIface else .iface 190 (.agg #[.int .i64 r])
theorem errV_0 : errV 0 = .nilIface := if_pos rfl
theorem errV_n {r : Int} (h : r ≠ 0) : errV r = .iface 190 (.agg #[.int .i64 r]) := if_neg h
abbrev resV (x : Rs) : Value := .tuple #[.int .i64 x.1, errV x.2]
/-- Results in a slice. -/
def WinsAt (w : World) (v : Value) (l : List (Int × Int)) : Prop := ∃ ad cap, v = .slice ad l.length cap ∧ (l = [] ∨ ∃ b off, ad = some ⟨b, off, none⟩ ∧ b < w.heap.size ∧ ∀ i, i < l.length → w.cell? ⟨b, off + i * 2, none⟩ = some (.int .i64 (l.getD i (0, 0)).1) ∧ w.cell? ⟨b, off + i * 2 + 1, none⟩ = some (.int .i64 (l.getD i (0, 0)).2))
/-- Truths in a slice. -/
def CronsAt (w : World) (v : Value) (l : List Bool) : Prop := ∃ ad cap, v = .slice ad l.length cap ∧ (l = [] ∨ ∃ b off, ad = some ⟨b, off, none⟩ ∧ b < w.heap.size ∧ ∀ i, i < l.length → w.cell? ⟨b, off + i, none⟩ = some (.bool (l.getD i false)))
theorem WinsAt.next {w w' : World} {v : Value} {l : List (Int × Int)} (h : WinsAt w v l) (k : Below w.heap.size w w') : WinsAt w' v l := by
  obtain ⟨ad, cap, rfl, h | ⟨b, off, rfl, hb, hc⟩⟩ := h
  · exact ⟨ad, cap, rfl, .inl h⟩
  · exact ⟨_, cap, rfl, .inr ⟨b, off, rfl, Nat.lt_of_lt_of_le hb k.size, fun i hi => ⟨(k.cell (p := ⟨b, _, none⟩) hb).trans (hc i hi).1, (k.cell (p := ⟨b, _, none⟩) hb).trans (hc i hi).2⟩⟩⟩
theorem CronsAt.next {w w' : World} {v : Value} {l : List Bool} (h : CronsAt w v l) (k : Below w.heap.size w w') : CronsAt w' v l := by
  obtain ⟨ad, cap, rfl, h | ⟨b, off, rfl, hb, hc⟩⟩ := h
  · exact ⟨ad, cap, rfl, .inl h⟩
  · exact ⟨_, cap, rfl, .inr ⟨b, off, rfl, Nat.lt_of_lt_of_le hb k.size, fun i hi => (k.cell (p := ⟨b, _, none⟩) hb).trans (hc i hi)⟩⟩
/-- What Go may hold of an Env. -/
structure EnvOk (E : EnvP) : Prop where
  rep : C64 E.rep
  wins : ∀ i, C64 (E.wins.getD i (0, 0)).1 ∧ C64 (E.wins.getD i (0, 0)).2
  wl : E.wins.length ≤ 9223372036854775807
  cl : E.crons.length ≤ 9223372036854775807
/-- The handle of the library's errors. -/
abbrev GlE (w : World) : Prop := w.cell? ⟨1, 0, none⟩ = some (.iface 279 (.agg #[.pointer (some ⟨5, 132, none⟩)]))
theorem GlE.next {w w' : World} (h : GlE w) (k : Below w.heap.size w w') : GlE w' := (k.cell (p := ⟨_, 0, none⟩) (World.block_lt_of_cell? w _ h)).trans h
/-- The teller lies at tb, its rows at b. -/
structure TlAt (w : World) (tb b : Nat) (E : EnvP) : Prop where
  ok : EnvOk E
  bx : ∃ v1 v2, Box w tb [.slice (some ⟨b, 0, none⟩) 33 33, .int .i64 E.rep, v1, v2] ∧ WinsAt w v1 E.wins ∧ CronsAt w v2 E.crons
  rows : RowsAt w b
  gl : GlE w
theorem TlAt.next {w w' : World} {tb b : Nat} {E : EnvP} (h : TlAt w tb b E) (k : Below w.heap.size w w') : TlAt w' tb b E := by
  obtain ⟨v1, v2, h1, h2, h3⟩ := h.bx
  exact ⟨h.ok, ⟨v1, v2, h1.next k, h2.next k, h3.next k⟩, h.rows.next k, GlE.next h.gl k⟩
theorem TlAt.cell0 {w : World} {tb b : Nat} {E : EnvP} (h : TlAt w tb b E) : w.cell? ⟨tb, 0, none⟩ = some (.slice (some ⟨b, 0, none⟩) 33 33) ∧ w.cell? ⟨tb, 1, none⟩ = some (.int .i64 E.rep) ∧ tb < w.heap.size := by
  obtain ⟨v1, v2, h1, -, -⟩ := h.bx
  exact ⟨h1.cell 0 _ rfl, h1.cell 1 _ rfl, h1.lt⟩
/-- tell says what the core t comes to. -/
def TeC (E : EnvP) (t : Co) : Prop := ∀ (v : Value) (tb b : Nat) (w : World), CSits w t v → TlAt w tb b E → Calls Tryz.prog 77 #[.pointer (some ⟨tb, 0, none⟩), coV t v] w fun e w' => e = .returned (resV (telV E t)) ∧ Below w.heap.size w w'
/-- The work of the row k says it. -/
def WkC (E : EnvP) (k : Nat) (t : Co) : Prop := ∀ (v : Value) (tb b : Nat) (w : World) (f : Nat) (q : Array Value), CSits w t v → TlAt w tb b E → WoF w k (.func (.func f) #[] q) → Calls Tryz.prog f (#[.pointer (some ⟨tb, 0, none⟩), coV t v] ++ q) w fun e w' => e = .returned (resV (telV E t)) ∧ Below w.heap.size w w'
theorem ent_work {w : World} {k f : Nat} {q : Array Value} (h1 : 1 ≤ k) (h2 : k ≤ 32) (h : WoF w k (.func (.func f) #[] q)) : Ent f := by
  have hw : ∀ k, 1 ≤ k → k ≤ 32 → (woT.getD k (0, 0)).1 = 0 → Ent (woT.getD k (0, 0)).2 := by
    apply op_cases (p := fun k => (woT.getD k (0, 0)).1 = 0 → Ent (woT.getD k (0, 0)).2) <;> (intro h args W; first | kernel_rfl | (exact absurd h (by decide)))
  unfold WoF at h
  split at h
  · next hm =>
    cases h
    exact hw k h1 h2 hm
  · obtain ⟨p, e, _⟩ := h
    cases e
    intro args W
    kernel_rfl
  · obtain ⟨p, e, _⟩ := h
    cases e
    intro args W
    kernel_rfl
set_option maxHeartbeats 4000000 in
set_option maxRecDepth 20000 in
theorem ctell_step (E : EnvP) (t : Co) (k : Nat) (hk1 : 1 ≤ k) (hk2 : k ≤ 32) (hop : t.op = (k : Int)) (HW : WkC E k t) : TeC E t := by
  intro v tb b w hs ht
  obtain ⟨op, tn, tm, ps⟩ := t
  obtain rfl : op = (k : Int) := hop
  obtain ⟨fs, fw, g1, g2, g3, g4, g5⟩ := ht.rows.row k hk1 hk2
  obtain ⟨f1, q1, rfl⟩ := g4.shape
  obtain ⟨f2, q2, rfl⟩ := g5.shape
  have hE := ent_work hk1 hk2 g5
  unfold Ent at hE
  obtain ⟨s0, -, sl⟩ := ht.cell0
  have hbl := ht.rows.lt
  have A : ∀ o, Below w.heap.size w (w.alloc o) := fun o => (Below.refl _ _).alloc (Nat.le_refl _) _
  have HC := chid (fun W (hW : Below w.heap.size w W) => HW v tb b W f2 q2 (hs.next hW) (ht.next hW) (g5.next hW))
  obtain ⟨ad, cap, rfl, -, -⟩ := hs.parts.shape
  have HA := chid A
  have hi3 : (k : Int) < 33 := by omega
  generalize telV E _ = R at *
  generalize ps.length = N at *
  clear HW hs ht g4 g5 A
  have X0 := Box.new w (coL ⟨k, tn, tm, ps⟩ (.slice ad N cap)) 30
  have ka := HA.out (.cells (coL ⟨k, tn, tm, ps⟩ (.slice ad N cap)).toArray 30)
  have t0 := (ka.cell (p := ⟨tb, 0, none⟩) sl).trans s0
  have t3 := (ka.cell (p := ⟨b, k * 3 + 2, none⟩) hbl).trans g3
  have c0 := X0.cell 0 _ rfl
  have c1 := X0.cell 1 _ rfl
  have c2 := X0.cell 2 _ rfl
  have c3 := X0.cell 3 _ rfl
  have x0 := X0.lt
  have k0 : b < (w.alloc (.cells (coL ⟨k, tn, tm, ps⟩ (.slice ad N cap)).toArray 30)).heap.size := Nat.lt_of_lt_of_le hbl ka.size
  have k1 : tb < (w.alloc (.cells (coL ⟨k, tn, tm, ps⟩ (.slice ad N cap)).toArray 30)).heap.size := Nat.lt_of_lt_of_le sl ka.size
  have HKa := chid ka
  clear s0 g1 g2 g3 X0 ka HA
  go_enter Tryz.func77, Tryz.ntmps77
  go_wp2_with fail
  generalize hW0 : w.alloc _ = w0 at *
  clear hW0
  go_region_held3 (fun w' => w'.cell? ⟨tb, 0, none⟩ = some (.slice (some ⟨b, 0, none⟩) 33 33) ∧ (w'.cell? ⟨w.heap.size, 0, none⟩ = some (.int .i64 (k : Int)) ∧ w'.cell? ⟨w.heap.size, 1, none⟩ = some (.int .i64 tn) ∧ w'.cell? ⟨w.heap.size, 2, none⟩ = some (.int .i64 tm) ∧ w'.cell? ⟨w.heap.size, 3, none⟩ = some (.slice ad N cap)) ∧ w'.cell? ⟨b, k * 3 + 2, none⟩ = some (.func (.func f2) #[] q2)) (simp [go_sem, *]) (first | (refine Calls.mono (HC.out _ (by exact cdrewN HKa.out _)) ?_; rintro e w1 ⟨rfl, B1⟩; have g0 := fun p v hp hv => (B1.cell (p := p) hp).trans (hv : w0.cell? p = some v); replace t0 := g0 _ _ k1 t0; replace t3 := g0 _ _ k0 t3; replace c0 := g0 _ _ x0 c0; replace c1 := g0 _ _ x0 c1; replace c2 := g0 _ _ x0 c2; replace c3 := g0 _ _ x0 c3; clear g0))
  have HB1 := chid (cbelow_on HKa.out (a := w0) (b := w1) ⟨B1.os, B1.tape, B1.output, B1.size, B1.block⟩ HKa.out.size)
  clear t0 t3 c0 c1 c2 c3 B1
  go_wp2_with fail
  go_ret2
  exact ⟨rfl, HB1.out⟩
end Go.Proofs.YtpkknifbocfeaaaGreatDoor
