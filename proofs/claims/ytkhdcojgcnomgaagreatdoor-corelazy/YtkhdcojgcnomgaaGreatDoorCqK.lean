/- For the law CoreLazy: cores made on the spot; a region that makes a box at any time. -/
import Derived.Test.YtkhdcojgcnomgaaGreatDoorCqL
import Derived.Test.YtkhdcojgcnomgaaGreatDoorCoH
import Derived.Deep.DeepMust
namespace Go.Proofs.YtkhdcojgcnomgaaGreatDoor
open Go.RowKit

theorem csits3 {w w' : World} {g : Nat} {a b c : Co} {va vb vc : Value} (k n m : Int) (hk : C64 k) (hn : C64 n) (hm : C64 m) (ha : CSits w a va) (hb : CSits w b vb) (hc : CSits w c vc) (hw : Below w.heap.size w w') (hx : Box w' g (coL a va ++ coL b vb ++ coL c vc)) : CSits w' ⟨k, n, m, [a, b, c]⟩ (.slice (some ⟨g, 0, none⟩) 3 3) := by
  refine csits_iff.2 ⟨⟨hk, hn, hm⟩, _, 3, rfl, Nat.le_refl _, by omega, .inr ⟨g, 0, rfl, hx.lt, fun i hi => ?_⟩⟩
  have hi' : i = 0 ∨ i = 1 ∨ i = 2 := by simp at hi; omega
  rcases hi' with rfl | rfl | rfl
  · exact ⟨va, ⟨hx.cell 0 _ rfl, hx.cell 1 _ rfl, hx.cell 2 _ rfl, hx.cell 3 _ rfl⟩, ha.next hw⟩
  · exact ⟨vb, ⟨hx.cell 4 _ rfl, hx.cell 5 _ rfl, hx.cell 6 _ rfl, hx.cell 7 _ rfl⟩, hb.next hw⟩
  · exact ⟨vc, ⟨hx.cell 8 _ rfl, hx.cell 9 _ rfl, hx.cell 10 _ rfl, hx.cell 11 _ rfl⟩, hc.next hw⟩
theorem cn3 (k n m : Int) (a b c : Co) : cnodes ⟨k, n, m, [a, b, c]⟩ = 1 + (cnodes a + (cnodes b + cnodes c)) := by rw [cnodes_eq]; show 1 + cnodesL [a, b, c] = _; rw [cnodesL_cons, cnodesL_cons, cnodesL_cons, cnodesL_nil]; omega
/-- Eval of a core of three parts that is made on the spot. -/
theorem ev3 (E : EnvP) (k : Int) (hk : C64 k) (x y z : Co) (vx vy vz v1 v2 : Value) (w : World) (hx : CSits w x vx) (hy : CSits w y vy) (hz : CSits w z vz) (hn : cnodes x + (cnodes y + cnodes z) ≤ 8000) (he : EnvAt w E v1 v2) (hg : GlE w) (g : Nat) (hgw : w.heap.size = g) (R : Value) (hR : evV (srt E ⟨k, 0, 0, [x, y, z]⟩) (telV E ⟨k, 0, 0, [x, y, z]⟩) = R) :
    Calls Tryz.prog 23 #[.agg #[.int .i64 k, .int .i64 0, .int .i64 0, .slice (some ⟨g, 0, none⟩) 3 3], envV E v1 v2] (w.alloc (.cells (coL x vx ++ coL y vy ++ coL z vz).toArray 24)) fun e w' => e = .returned R ∧ Below w.heap.size w w' := by
  subst hgw
  subst hR
  have hb := (Below.refl w.heap.size w).alloc (Nat.le_refl _) (.cells (coL x vx ++ coL y vy ++ coL z vz).toArray 24)
  refine (cEval_c E ⟨k, 0, 0, [x, y, z]⟩ _ v1 v2 _ (csits3 k 0 0 hk zero_64 zero_64 hx hy hz hb (Box.new w _ _)) (by rw [cn3]; omega) (he.next hb) (GlE.next hg hb)).mono ?_
  rintro e w1 ⟨rfl, b1⟩
  exact ⟨rfl, cbelow_on hb b1 hb.size⟩
theorem evc (E : EnvP) (t : Co) (v v1 v2 : Value) (w : World) (hs : CSits w t v) (hn : cnodes t ≤ 8192) (he : EnvAt w E v1 v2) (hg : GlE w) (R : Value) (hR : evV (srt E t) (telV E t) = R) : Calls Tryz.prog 23 #[coV t v, envV E v1 v2] w fun e w' => e = .returned R ∧ Below w.heap.size w w' := by
  subst hR
  exact cEval_c E t v v1 v2 w hs hn he hg
theorem rsV_two (r : Rs) : ∃ A B, rsV r = .agg #[.int .i64 A, .int .i64 B] := by unfold rsV; split; exact ⟨_, _, rfl⟩; exact ⟨_, _, rfl⟩
theorem rsV_ok {r : Rs} (h : r.2 = 0) : rsV r = .agg #[.int .i64 0, .int .i64 r.1] := if_pos h
theorem rsV_no' {r : Rs} (h : ¬ r.2 = 0) : rsV r = .agg #[.int .i64 r.2, .int .i64 0] := if_neg h
/-- What stands behind a region that makes a box at any time: where the box lies, and a slice, are left open. -/
theorem via {P : Program} {c : Code} {K : Act → World → Prop} {Q' : Exit → Act → World → Prop} {a : Act} {w : World} {F : Nat → Option Addr → Nat → Act} (G : Nat → World → Prop)
    (hreg : c.wp P (Exit.then (fun a' w' => ∃ dd aa cc, a' = F dd aa cc ∧ G dd w') Q') a w) (hrest : ∀ dd aa cc w', G dd w' → K (F dd aa cc) w') : c.wp P (Exit.then K Q') a w := by
  refine Code.wp_mono (fun e a w h => ?_) hreg
  cases e with
  | normal => obtain ⟨dd, aa, cc, rfl, hg⟩ := h; exact hrest _ _ _ _ hg
  | _ => exact h
end Go.Proofs.YtkhdcojgcnomgaaGreatDoor
