import Derived.Test.YtigldebdljfnbaaGreatDoorCqMjB
import Derived.Deep.AppendLies
import Derived.Test.YtigldebdljfnbaaGreatDoorCqNaC
import Derived.Test.YtigldebdljfnbaaGreatDoorCqNaF
namespace Go.Proofs.YtigldebdljfnbaaGreatDoor
open Go.RowKit

def CSP (ok : Nat → Prop) (w : World) : Co → Value → Prop
  | ⟨k, n, m, ps⟩, v => C64 k ∧ C64 n ∧ C64 m ∧ ∃ ad cap, v = .slice ad ps.length cap ∧ ps.length ≤ cap ∧ cap ≤ 9223372036854775807 ∧
      (ps.length = 0 ∨ ∃ b off, ad = some ⟨b, off, none⟩ ∧ b < w.heap.size ∧ ok b ∧ ∀ i (h : i < ps.length), ∃ u, Four w b (off + i * 4) ps[i] u ∧
        (have : SizeOf.sizeOf ps[i] < SizeOf.sizeOf ps := List.sizeOf_lt_of_mem (List.getElem_mem h); CSP ok w ps[i] u))
def CAP (ok : Nat → Prop) (w : World) (v : Value) (ps : List Co) : Prop := ∃ ad cap, v = .slice ad ps.length cap ∧ ps.length ≤ cap ∧ cap ≤ 9223372036854775807 ∧
      (ps.length = 0 ∨ ∃ b off, ad = some ⟨b, off, none⟩ ∧ b < w.heap.size ∧ ok b ∧ ∀ i (h : i < ps.length), ∃ u, Four w b (off + i * 4) ps[i] u ∧ CSP ok w ps[i] u)
theorem csp_iff {ok : Nat → Prop} {w : World} {t : Co} {v : Value} : CSP ok w t v ↔ CFit t ∧ CAP ok w v t.parts := by
  cases t
  rw [CSP]
  exact ⟨fun ⟨a, b, c, f⟩ => ⟨⟨a, b, c⟩, f⟩, fun ⟨⟨a, b, c⟩, f⟩ => ⟨a, b, c, f⟩⟩
theorem CSP.parts {ok : Nat → Prop} {w : World} {t : Co} {v : Value} (h : CSP ok w t v) : CAP ok w v t.parts := (csp_iff.1 h).2
theorem CSP.ofSits {w : World} (t : Co) : ∀ v, CSits w t v → CSP (fun _ => True) w t v := by
  induction t using Co.ind with
  | h t ih =>
    intro v h
    obtain ⟨hf, ad, cap, hv, hl, hc, hp⟩ := csits_iff.1 h
    refine csp_iff.2 ⟨hf, ad, cap, hv, hl, hc, ?_⟩
    rcases hp with hp | ⟨b, off, ha, hb, hp⟩
    · exact .inl hp
    · refine .inr ⟨b, off, ha, hb, trivial, fun i hi => ?_⟩
      obtain ⟨u, h6, hu⟩ := hp i hi
      exact ⟨u, h6, ih _ (List.getElem_mem hi) u hu⟩
theorem CSP.keep {ok ok' : Nat → Prop} {w w' : World} (hs : w.heap.size ≤ w'.heap.size) (hk : ∀ b, b < w.heap.size → ok b → ok' b ∧ ∀ j, w'.cell? ⟨b, j, none⟩ = w.cell? ⟨b, j, none⟩) (t : Co) : ∀ v, CSP ok w t v → CSP ok' w' t v := by
  induction t using Co.ind with
  | h t ih =>
    intro v h
    obtain ⟨hf, ad, cap, hv, hl, hc, hp⟩ := csp_iff.1 h
    refine csp_iff.2 ⟨hf, ad, cap, hv, hl, hc, ?_⟩
    rcases hp with hp | ⟨b, off, ha, hb, ho, hp⟩
    · exact .inl hp
    · refine .inr ⟨b, off, ha, by omega, (hk b hb ho).1, fun i hi => ?_⟩
      obtain ⟨u, h6, hu⟩ := hp i hi
      exact ⟨u, h6.keep (fun j => (hk b hb ho).2 j), ih _ (List.getElem_mem hi) u hu⟩
theorem CSP.next {ok : Nat → Prop} {w w' : World} {t : Co} {v : Value} (h : CSP ok w t v) (hb : Below w.heap.size w w') : CSP ok w' t v :=
  CSP.keep hb.size (fun b hb1 ho => ⟨ho, fun j => hb.cell (p := ⟨b, j, none⟩) hb1⟩) t v h
theorem CSP.weak {ok ok' : Nat → Prop} {w : World} {t : Co} {v : Value} (h : CSP ok w t v) (hk : ∀ b, b < w.heap.size → ok b → ok' b) : CSP ok' w t v :=
  CSP.keep (Nat.le_refl _) (fun b hb1 ho => ⟨hk b hb1 ho, fun _ => rfl⟩) t v h
theorem CSP.leaf {ok : Nat → Prop} (w : World) {k n m : Int} (h : CFit ⟨k, n, m, []⟩) : CSP ok w ⟨k, n, m, []⟩ (.slice none 0 0) :=
  csp_iff.2 ⟨h, none, 0, rfl, Nat.le_refl _, by omega, .inl rfl⟩
theorem CAP.open {ok : Nat → Prop} {w : World} {v : Value} {ps : List Co} (h : CAP ok w v ps) (hn : 0 < ps.length) : ∃ b off cap, v = .slice (some ⟨b, off, none⟩) ps.length cap ∧ ps.length ≤ cap ∧ cap ≤ 9223372036854775807 ∧ b < w.heap.size ∧ ok b ∧
    ∀ i (h : i < ps.length), ∃ u, Four w b (off + i * 4) ps[i] u ∧ CSP ok w ps[i] u := by
  obtain ⟨ad, cap, hv, hl, hc, hp⟩ := h
  rcases hp with hp | ⟨b, off, rfl, hlt, ho, hp⟩
  · omega
  · exact ⟨b, off, cap, hv, hl, hc, hlt, ho, hp⟩
theorem CAP.shape {ok : Nat → Prop} {w : World} {v : Value} {ps : List Co} (h : CAP ok w v ps) : ∃ ad cap, v = .slice ad ps.length cap ∧ ps.length ≤ cap ∧ cap ≤ 9223372036854775807 := by
  obtain ⟨ad, cap, hv, hl, hc, _⟩ := h
  exact ⟨ad, cap, hv, hl, hc⟩

structure Wk (bb : Nat) (F : List Nat) (w0 : World) (C : List Ins) (K : List Int) (vc vk : Value) (w : World) : Prop where
  bd : Bd w bb C K vc vk
  turn : Turn F w0 w
  foot : ∀ i, i ∈ foot bb vc vk → i ∈ F ∨ w0.heap.size ≤ i
structure Opn (bb : Nat) (w0 : World) (vc vk : Value) (w : World) (j : Nat) (more : Int) (at' : Nat) : Prop where
  jm : JmAt w j bb more at'
  ge : w0.heap.size ≤ j
  lt : j + 3 ≤ w.heap.size
  far : ∀ i, i ∈ foot bb vc vk → i < j ∨ j + 3 ≤ i
theorem Wk.start {w : World} {bb : Nat} {C : List Ins} {K : List Int} {vc vk : Value} (h : Bd w bb C K vc vk) : Wk bb (Go.Proofs.YtigldebdljfnbaaGreatDoor.foot bb vc vk) w C K vc vk w := ⟨h, Turn.refl _ _, fun _ hi => .inl hi⟩
theorem Wk.done {w0 w : World} {bb : Nat} {F : List Nat} {C : List Ins} {K : List Int} {vc vk : Value} (h : Wk bb F w0 C K vc vk w) : Went bb F w0 C K w := ⟨vc, vk, h.bd, h.turn, h.foot⟩
theorem Wk.next {w0 w w' : World} {bb : Nat} {F : List Nat} {C : List Ins} {K : List Int} {vc vk : Value} (h : Wk bb F w0 C K vc vk w) (k : Below w.heap.size w w') : Wk bb F w0 C K vc vk w' := ⟨h.bd.next k, h.turn.andBelow k, h.foot⟩
theorem Opn.next {w0 w w' : World} {bb : Nat} {vc vk : Value} {j at' : Nat} {more : Int} (h : Opn bb w0 vc vk w j more at') (k : Below w.heap.size w w') : Opn bb w0 vc vk w' j more at' :=
  ⟨h.jm.turn (S := []) (Turn.of_below k) (fun _ hm => by cases hm), h.ge, Nat.le_trans h.lt k.size, h.far⟩
def Stay (bb : Nat) (w0 : World) (vc vk : Value) (w : World) (vc' vk' : Value) (w' : World) : Prop := ∀ j more at', Opn bb w0 vc vk w j more at' → Opn bb w0 vc' vk' w' j more at'
theorem Wk.went {w0 w w' : World} {bb : Nat} {F : List Nat} {C C' : List Ins} {K K' : List Int} {vc vk : Value} (h : Wk bb F w0 C K vc vk w) (g : Went bb (Go.Proofs.YtigldebdljfnbaaGreatDoor.foot bb vc vk) w C' K' w') : ∃ vc' vk', Wk bb F w0 C' K' vc' vk' w' ∧ Stay bb w0 vc vk w vc' vk' w' := by
  obtain ⟨vc', vk', q1, q2, q3⟩ := g
  refine ⟨vc', vk', ⟨q1, h.turn.trans q2 h.foot, fun i hi => ?_⟩, fun j more at' o => ⟨o.jm.turn q2 o.far, o.ge, Nat.le_trans o.lt q2.size, fun i hi => ?_⟩⟩
  · rcases q3 i hi with hm | hm
    · exact h.foot i hm
    · exact .inr (Nat.le_trans h.turn.size hm)
  · rcases q3 i hi with hm | hm
    · exact o.far i hm
    · exact .inr (Nat.le_trans o.lt hm)
theorem Wk.jumped {w0 w w' : World} {bb : Nat} {F : List Nat} {C C' : List Ins} {K K' : List Int} {vc vk : Value} {more : Int} {at' : Nat} {e : Ending} (h : Wk bb F w0 C K vc vk w) (g : Jumped bb (Go.Proofs.YtigldebdljfnbaaGreatDoor.foot bb vc vk) w C' K' more at' e w') : e = .returned (jmV w.heap.size) ∧ ∃ vc' vk', Wk bb F w0 C' K' vc' vk' w' ∧ Stay bb w0 vc vk w vc' vk' w' ∧ Opn bb w0 vc' vk' w' w.heap.size more at' := by
  obtain ⟨he, hj, vc', vk', q1, q2, q3⟩ := g
  have hb := h.bd.ge
  refine ⟨he, vc', vk', ⟨q1, h.turn.trans q2 h.foot, fun i hi => ?_⟩, fun j more at' o => ⟨o.jm.turn q2 o.far, o.ge, Nat.le_trans o.lt q2.size, fun i hi => ?_⟩, hj, h.turn.size, ?_, fun i hi => ?_⟩
  · rcases q3 i hi with hm | hm
    · exact h.foot i hm
    · have := h.turn.size
      exact .inr (by omega)
  · rcases q3 i hi with hm | hm
    · exact o.far i hm
    · have := o.lt
      exact .inr (by omega)
  · have := hj.a.lt
    omega
  · rcases q3 i hi with hm | hm
    · exact .inl (hb i hm).2
    · exact .inr hm
theorem Wk.core {w0 w : World} {bb : Nat} {F : List Nat} {C : List Ins} {K : List Int} {vc vk : Value} (h : Wk bb F w0 C K vc vk w) (hF : ∀ i, i ∈ F → bb ≤ i) {t : Co} {v : Value} (s : CSP (fun b => b < bb) w0 t v) : CSP (fun b => b < bb) w t v :=
  CSP.keep h.turn.size (fun b hb ho => ⟨ho, fun j => cturn_cell h.turn hb (fun hm => by have := hF b hm; omega)⟩) t v s
def poT : List Value := [0, 0, 0, 2, 3, 4, 5, 0, 6, 7, 8, 9, 10, 0, 12, 13, 14, 15, 16, 17, 18, 19, 20, 21, 22, 0, 0, 0, 0, 29, 30, 31].map fun x => Value.int .i64 x
structure PoAt (w : World) (bb : Nat) : Prop where
  lt : 0 < bb
  lw : 0 < w.heap.size
  at' : ∀ k v, poT[k]? = some v → w.cell? ⟨0, k, none⟩ = some v
theorem PoAt.next {w w' : World} {bb : Nat} (h : PoAt w bb) (k : Below w.heap.size w w') : PoAt w' bb := ⟨h.lt, Nat.lt_of_lt_of_le h.lw k.size, fun j v hv => (k.cell (p := ⟨0, j, none⟩) h.lw).trans (h.at' j v hv)⟩
theorem Wk.po {w0 w : World} {bb : Nat} {F : List Nat} {C : List Ins} {K : List Int} {vc vk : Value} (h : Wk bb F w0 C K vc vk w) (hF : ∀ i, i ∈ F → bb ≤ i) (s : PoAt w0 bb) : PoAt w bb :=
  ⟨s.lt, Nat.lt_of_lt_of_le s.lw h.turn.size, fun j v hv => (cturn_cell h.turn s.lw (fun hm => by have := hF _ hm; have := s.lt; omega)).trans (s.at' j v hv)⟩
def CodC (t : Co) : Prop := ∀ (v : Value) (bb : Nat) (C : List Ins) (K : List Int) (vc vk : Value) (w : World), CSP (fun b => b < bb) w t v → Bd w bb C K vc vk → PoAt w bb → sM t ≠ 0 → C.length + 8 * cnodes t ≤ 900000 → K.length + 2 * cnodes t ≤ 900000 → Calls Tryz.prog 28 #[.pointer (some ⟨bb, 0, none⟩), coV t v] w fun e w' => e = .returned (.tuple #[]) ∧ Went bb (foot bb vc vk) w (cat C (codF t K).1) (codF t K).2 w'
theorem fork_laid (C1 A B : List Ins) (op over : Int) (h1 : jmpB op = true) (h2 : jmpB over = true) :
    ((cat ((cat (C1 ++ [(op, 0)]) A ++ [(over, 0)]).set C1.length (op, (0 : Int) + ((cat (C1 ++ [(op, 0)]) A ++ [(over, 0)]).length : Int))) B).set (cat (C1 ++ [(op, 0)]) A).length (over, (0 : Int) + ((cat ((cat (C1 ++ [(op, 0)]) A ++ [(over, 0)]).set C1.length (op, (0 : Int) + ((cat (C1 ++ [(op, 0)]) A ++ [(over, 0)]).length : Int))) B).length : Int))) = cat C1 (cat (cat (cat [(op, ((A.length + 2 : Nat) : Int))] A) [(over, ((1 + B.length : Nat) : Int))]) B) := by
  have s1 : ∀ (X : List Ins) (n : Int), shI X.length (op, n) = (op, n + X.length) := fun X n => by unfold shI; rw [if_pos h1]
  have s2 : ∀ (d : Nat) (n : Int), shI d (over, n) = (over, n + d) := fun d n => by unfold shI; rw [if_pos h2]
  unfold cat
  simp only [List.length_append, List.length_set, List.length_map, List.length_singleton, List.map_append, List.map_cons, List.map_nil, List.append_assoc, shI_map]
  rw [List.set_append_right _ _ (Nat.le_refl _), Nat.sub_self]
  rw [show ∀ (x y : Ins) (l : List Ins), ([x] ++ l).set 0 y = y :: l from fun _ _ _ => rfl]
  rw [s1 C1]
  simp only [s2]
  rw [List.append_assoc, List.set_append_right _ _ (by omega)]
  rw [show C1.length + (1 + A.length) - C1.length = (A.map (shI (C1.length + 1))).length + 1 by rw [List.length_map]; omega]
  rw [List.cons_append, List.set_cons_succ, List.append_assoc, List.set_append_right _ _ (Nat.le_refl _), Nat.sub_self]
  rw [show ∀ (x y : Ins) (l : List Ins), ([x] ++ l).set 0 y = y :: l from fun _ _ _ => rfl]
  simp only [List.cons_append, List.nil_append]
  congr 2
  · refine Prod.ext rfl ?_
    simp only []; omega
  · congr 1
    congr 1
    · refine Prod.ext rfl ?_
      simp only []; omega
theorem over_laid (C1 A E : List Ins) (op more : Int) (h1 : jmpB op = true) (hE : ∀ x, x ∈ E → jmpB x.1 = false) :
    (cat (C1 ++ [(op, 0)]) A ++ E).set C1.length (op, more + ((cat (C1 ++ [(op, 0)]) A ++ E).length : Int)) = cat C1 (cat (cat [(op, more + (((A.length + 1 + E.length : Nat)) : Int))] A) E) := by
  have s1 : ∀ (X : List Ins) (n : Int), shI X.length (op, n) = (op, n + X.length) := fun X n => by unfold shI; rw [if_pos h1]
  have s2 : ∀ d : Nat, E.map (shI d) = E := fun d => by
    conv => rhs; rw [← List.map_id E]
    exact List.map_congr_left (fun x hx => by unfold shI; rw [if_neg (by rw [hE x hx]; decide)]; rfl)
  unfold cat
  simp only [List.length_append, List.length_map, List.length_singleton, List.map_append, List.map_cons, List.map_nil, List.append_assoc, shI_map, s2]
  rw [List.set_append_right _ _ (Nat.le_refl _), Nat.sub_self]
  rw [show ∀ (x y : Ins) (l : List Ins), ([x] ++ l).set 0 y = y :: l from fun _ _ _ => rfl]
  rw [s1 C1]
  simp only [List.cons_append, List.nil_append]
  congr 2
  refine Prod.ext rfl ?_
  simp only []; omega

theorem snoc_at (L : List Ins) (x : Ins) : (L ++ [x])[L.length]? = some x := by simp
theorem cat_at {L A : List Ins} {i : Nat} {x : Ins} (h : L[i]? = some x) : (cat L A)[i]? = some x := by
  unfold cat
  rw [List.getElem?_append_left (List.getElem?_eq_some_iff.1 h).1]
  exact h
theorem app_at {L A : List Ins} {i : Nat} {x : Ins} (h : L[i]? = some x) : (L ++ A)[i]? = some x := by
  rw [List.getElem?_append_left (List.getElem?_eq_some_iff.1 h).1]
  exact h
theorem small_64 {n : Nat} (h : n ≤ 2000000) : C64 (0 + (n : Int)) := by unfold C64; omega
set_option maxHeartbeats 2000000 in
set_option maxRecDepth 20000 in
theorem choice_c (x y z : Co) (hx : CodC x) (hy : CodC y) (hz : CodC z) (vx vy vz : Value) (bb : Nat) (C : List Ins) (K : List Int) (vc vk : Value) (w : World)
    (sx : CSP (fun b => b < bb) w x vx) (sy : CSP (fun b => b < bb) w y vy) (sz : CSP (fun b => b < bb) w z vz) (h : Bd w bb C K vc vk) (hp : PoAt w bb) (zx : sM x ≠ 0) (zy : sM y ≠ 0) (zz : sM z ≠ 0)
    (hC : C.length + 8 * (cnodes x + cnodes y + cnodes z) ≤ 900000) (hK : K.length + 2 * (cnodes x + cnodes y + cnodes z) ≤ 900000) :
    Calls Tryz.prog 56 #[.pointer (some ⟨bb, 0, none⟩), coV x vx, coV y vy, coV z vz] w fun e w' => e = .returned (.tuple #[]) ∧ Went bb (foot bb vc vk) w (cat C (thenM (codF x) (forkM 24 23 (codF y) (codF z)) K).1) (thenM (codF x) (forkM 24 23 (codF y) (codF z)) K).2 w' := by
  obtain ⟨ax, cx, rfl, -, -⟩ := sx.parts.shape
  obtain ⟨ay, cy, rfl, -, -⟩ := sy.parts.shape
  obtain ⟨az, cz, rfl, -, -⟩ := sz.parts.shape
  obtain ⟨Y0, Y1, Y2, YB⟩ := three_boxes w 30 30 30 (coL x (.slice ax x.parts.length cx)) (coL y (.slice ay y.parts.length cy)) (coL z (.slice az z.parts.length cz))
  have HY := chid (And.intro Y1 Y2)
  have HB := chid YB
  have HF : Hid (∀ i, i ∈ foot bb vc vk → bb ≤ i ∧ i < w.heap.size) := chid h.ge
  have H0 := chid (Wk.start (h.next YB))
  have HS := chid (And.intro (sx.next YB) (And.intro (sy.next YB) (sz.next YB)))
  have HP := chid (hp.next YB)
  have HZ := chid (And.intro zx (And.intro zy zz))
  have HN := chid (And.intro hC (And.intro hK (And.intro (cnodes_pos x) (And.intro (cnodes_pos y) (cnodes_pos z)))))
  have HX := chid (And.intro hx (And.intro hy hz))
  obtain ⟨A, K1, hA⟩ : ∃ A K1, Hid (codF x K = (A, K1)) := ⟨_, _, chid rfl⟩
  obtain ⟨B, K2, hB⟩ : ∃ B K2, Hid (codF y K1 = (B, K2)) := ⟨_, _, chid rfl⟩
  obtain ⟨D, K3, hD⟩ : ∃ D K3, Hid (codF z K2 = (D, K3)) := ⟨_, _, chid rfl⟩
  have HL : Hid (A.length ≤ 6 * cnodes x ∧ K1.length ≤ K.length + 2 * cnodes x ∧ B.length ≤ 6 * cnodes y ∧ K2.length ≤ K1.length + 2 * cnodes y ∧ D.length ≤ 6 * cnodes z) := chid (by
    have h1 := cod_lb x K
    have h2 := cod_lb y K1
    have h3 := cod_lb z K2
    rw [hA.out] at h1
    rw [hB.out] at h2
    rw [hD.out] at h3
    exact ⟨h1.1, h1.2, h2.1, h2.2, h3.1⟩)
  have HE : Hid (thenM (codF x) (forkM 24 23 (codF y) (codF z)) K = (cat A (cat (cat (cat [(24, ((B.length + 2 : Nat) : Int))] B) [(23, ((1 + D.length : Nat) : Int))]) D), K3)) := chid (by
    unfold thenM forkM
    simp only [hA.out, hB.out, hD.out])
  rw [HE.out]
  clear hx hy hz sx sy sz h hp zx zy zz hC hK Y0 Y1 Y2 YB HE
  go_enter Tryz.func56, Tryz.ntmps56
  go_wp2_with fail
  generalize hW : (((w.alloc _).alloc _).alloc _) = W at *
  clear hW
  have HNF : Hid (∀ i, w.heap.size ≤ i → i ∉ foot bb vc vk) := chid (fun i hi hm => by have := (HF.out i hm).2; omega)
  refine Calls.mono (HX.out.1 _ bb C K vc vk W HS.out.1 H0.out.bd HP.out HZ.out.1 (by have := HN.out; have := cnodes_pos y; have := cnodes_pos z; omega) (by have := HN.out; omega)) ?_
  rintro e w1 ⟨rfl, g1⟩
  rw [hA.out] at g1
  obtain ⟨vc1, vk1, k1, -⟩ := H0.out.went g1
  have H1 := chid k1
  clear g1 k1
  go_wp2_with fail
  refine Calls.mono (jump_c bb (cat C A) K1 vc1 vk1 24 0 w1 H1.out.bd (by rw [cat_len]; have := HN.out; have := HL.out; omega)) ?_
  intro e w2 g2
  obtain ⟨rfl, vc2, vk2, k2, -, o2⟩ := H1.out.jumped g2
  have H2 := chid k2
  have O2 := chid o2
  have b2 := HY.out.1.turn k2.turn (HNF.out _ (by omega))
  have c0 := b2.cell 0 _ rfl
  have c1 := b2.cell 1 _ rfl
  have c2 := b2.cell 2 _ rfl
  have c3 := b2.cell 3 _ rfl
  have cl := b2.lt
  clear g2 k2 o2 b2
  go_wp2_with fail
  refine Calls.mono (HX.out.2.1 _ bb (cat C A ++ [(24, 0)]) K1 vc2 vk2 w2 (H2.out.core (fun i hi => (HF.out i hi).1) HS.out.2.1) H2.out.bd (H2.out.po (fun i hi => (HF.out i hi).1) HP.out) HZ.out.2.1 (by rw [List.length_append, cat_len, List.length_singleton]; have := HN.out; have := HL.out; have := cnodes_pos z; omega) (by have := HN.out; have := HL.out; omega)) ?_
  rintro e w3 ⟨rfl, g3⟩
  rw [hB.out] at g3
  obtain ⟨vc3, vk3, k3, s3⟩ := H2.out.went g3
  have H3 := chid k3
  have O3 := chid (s3 _ _ _ O2.out)
  clear g3 k3 s3 c0 c1 c2 c3 cl O2
  go_wp2_with fail
  refine Calls.mono (jump_c bb (cat (cat C A ++ [(24, 0)]) B) K2 vc3 vk3 23 0 w3 H3.out.bd (by rw [cat_len, List.length_append, cat_len, List.length_singleton]; have := HN.out; have := HL.out; omega)) ?_
  intro e w4 g4
  obtain ⟨rfl, vc4, vk4, k4, s4, o4⟩ := H3.out.jumped g4
  have H4 := chid k4
  have P4 := chid (And.intro (s4 _ _ _ O3.out) o4)
  clear g4 k4 s4 o4 O3
  go_wp2_with fail
  refine Calls.mono (fill_c w1.heap.size bb (cat (cat C A ++ [(24, 0)]) B ++ [(23, 0)]) K2 vc4 vk4 0 (cat C A).length (24, 0) w4 H4.out.bd P4.out.1.jm (app_at (cat_at (snoc_at _ _))) (small_64 (by simp only [cat_len, List.length_append, List.length_singleton]; have := HN.out; have := HL.out; omega)) P4.out.1.far) ?_
  rintro e w5 ⟨rfl, g5⟩
  obtain ⟨vc5, vk5, k5, s5⟩ := H4.out.went g5
  have H5 := chid k5
  have O5 := chid (s5 _ _ _ P4.out.2)
  have b5 := HY.out.2.turn k5.turn (HNF.out _ (by omega))
  have c0 := b5.cell 0 _ rfl
  have c1 := b5.cell 1 _ rfl
  have c2 := b5.cell 2 _ rfl
  have c3 := b5.cell 3 _ rfl
  have cl := b5.lt
  clear g5 k5 s5 b5 P4
  go_wp2_with fail
  refine Calls.mono (HX.out.2.2 _ bb _ K2 vc5 vk5 w5 (H5.out.core (fun i hi => (HF.out i hi).1) HS.out.2.2) H5.out.bd (H5.out.po (fun i hi => (HF.out i hi).1) HP.out) HZ.out.2.2 (by simp only [List.length_set, cat_len, List.length_append, List.length_singleton]; have := HN.out; have := HL.out; omega) (by have := HN.out; have := HL.out; omega)) ?_
  rintro e w6 ⟨rfl, g6⟩
  rw [hD.out] at g6
  obtain ⟨vc6, vk6, k6, s6⟩ := H5.out.went g6
  have H6 := chid k6
  have O6 := chid (s6 _ _ _ O5.out)
  clear g6 k6 s6 c0 c1 c2 c3 cl O5
  go_wp2_with fail
  refine Calls.mono (fill_c w3.heap.size bb _ K3 vc6 vk6 0 (cat (cat C A ++ [(24, 0)]) B).length (23, 0) w6 H6.out.bd O6.out.jm (cat_at (by rw [List.getElem?_set_ne (by simp only [cat_len, List.length_append, List.length_singleton]; omega)]; exact snoc_at _ _)) (small_64 (by simp only [List.length_set, cat_len, List.length_append, List.length_singleton]; have := HN.out; have := HL.out; omega)) O6.out.far) ?_
  rintro e w7 ⟨rfl, g7⟩
  obtain ⟨vc7, vk7, k7, -⟩ := H6.out.went g7
  have H7 := chid k7
  clear g7 k7 O6
  go_wp2_with fail
  refine bodyPost_end (v := .tuple #[]) (by simp [results, Tryz.results56, go_sem, *]) rfl ?_
  refine ⟨rfl, ?_⟩
  have g := Went.alloc HB.out H7.out.done HB.out.size
  rw [fork_laid (cat C A) B D 24 23 rfl rfl, cat_cat] at g
  exact g

set_option maxHeartbeats 2000000 in
set_option maxRecDepth 20000 in
theorem either_c (y z : Co) (hy : CodC y) (hz : CodC z) (vy vz : Value) (bb : Nat) (C : List Ins) (K1 : List Int) (vc vk : Value) (w : World)
    (sy : CSP (fun b => b < bb) w y vy) (sz : CSP (fun b => b < bb) w z vz) (h : Bd w bb C K1 vc vk) (hp : PoAt w bb) (zy : sM y ≠ 0) (zz : sM z ≠ 0)
    (hC : C.length + 8 * (1 + cnodes y + cnodes z) ≤ 900000) (hK : K1.length + 2 * (1 + cnodes y + cnodes z) ≤ 900000) :
    Calls Tryz.prog 57 #[.pointer (some ⟨bb, 0, none⟩), coV y vy, coV z vz] w fun e w' => e = .returned (.tuple #[]) ∧ Went bb (foot bb vc vk) w (cat C (forkM 25 26 (codF y) (codF z) K1).1) (forkM 25 26 (codF y) (codF z) K1).2 w' := by
  obtain ⟨ay, cy, rfl, -, -⟩ := sy.parts.shape
  obtain ⟨az, cz, rfl, -, -⟩ := sz.parts.shape
  obtain ⟨Y1, Y2, YB⟩ := two_boxes w 30 30 (coL y (.slice ay y.parts.length cy)) (coL z (.slice az z.parts.length cz))
  have HY := chid (And.intro Y1 Y2)
  have HB := chid YB
  have HF : Hid (∀ i, i ∈ foot bb vc vk → bb ≤ i ∧ i < w.heap.size) := chid h.ge
  have H1 := chid (Wk.start (h.next YB))
  have HS := chid (And.intro (sy.next YB) (sz.next YB))
  have HP := chid (hp.next YB)
  have HZ := chid (And.intro zy zz)
  have HN := chid (And.intro hC (And.intro hK (And.intro (cnodes_pos y) (cnodes_pos z))))
  have HX := chid (And.intro hy hz)
  obtain ⟨B, K2, hB⟩ : ∃ B K2, Hid (codF y K1 = (B, K2)) := ⟨_, _, chid rfl⟩
  obtain ⟨D, K3, hD⟩ : ∃ D K3, Hid (codF z K2 = (D, K3)) := ⟨_, _, chid rfl⟩
  have HL : Hid (B.length ≤ 6 * cnodes y ∧ K2.length ≤ K1.length + 2 * cnodes y ∧ D.length ≤ 6 * cnodes z) := chid (by
    have h2 := cod_lb y K1
    have h3 := cod_lb z K2
    rw [hB.out] at h2
    rw [hD.out] at h3
    exact ⟨h2.1, h2.2, h3.1⟩)
  have HE : Hid (forkM 25 26 (codF y) (codF z) K1 = (cat (cat (cat [(25, ((B.length + 2 : Nat) : Int))] B) [(26, ((1 + D.length : Nat) : Int))]) D, K3)) := chid (by
    unfold forkM
    simp only [hB.out, hD.out])
  rw [HE.out]
  clear hy hz sy sz h hp zy zz hC hK Y1 Y2 YB HE
  go_enter Tryz.func57, Tryz.ntmps57
  go_wp2_with fail
  generalize hW : ((w.alloc _).alloc _) = W at *
  clear hW
  have HNF : Hid (∀ i, w.heap.size ≤ i → i ∉ foot bb vc vk) := chid (fun i hi hm => by have := (HF.out i hm).2; omega)
  refine Calls.mono (jump_c bb C K1 vc vk 25 0 W H1.out.bd (by have := HN.out; omega)) ?_
  intro e w2 g2
  obtain ⟨rfl, vc2, vk2, k2, -, o2⟩ := H1.out.jumped g2
  have H2 := chid k2
  have O2 := chid o2
  have b2 := HY.out.1.turn k2.turn (HNF.out _ (by omega))
  have c0 := b2.cell 0 _ rfl
  have c1 := b2.cell 1 _ rfl
  have c2 := b2.cell 2 _ rfl
  have c3 := b2.cell 3 _ rfl
  have cl := b2.lt
  clear g2 k2 o2 b2
  go_wp2_with fail
  refine Calls.mono (HX.out.1 _ bb (C ++ [(25, 0)]) K1 vc2 vk2 w2 (H2.out.core (fun i hi => (HF.out i hi).1) HS.out.1) H2.out.bd (H2.out.po (fun i hi => (HF.out i hi).1) HP.out) HZ.out.1 (by rw [List.length_append, List.length_singleton]; have := HN.out; omega) (by have := HN.out; omega)) ?_
  rintro e w3 ⟨rfl, g3⟩
  rw [hB.out] at g3
  obtain ⟨vc3, vk3, k3, s3⟩ := H2.out.went g3
  have H3 := chid k3
  have O3 := chid (s3 _ _ _ O2.out)
  clear g3 k3 s3 c0 c1 c2 c3 cl O2
  go_wp2_with fail
  refine Calls.mono (jump_c bb (cat (C ++ [(25, 0)]) B) K2 vc3 vk3 26 0 w3 H3.out.bd (by rw [cat_len, List.length_append, List.length_singleton]; have := HN.out; have := HL.out; omega)) ?_
  intro e w4 g4
  obtain ⟨rfl, vc4, vk4, k4, s4, o4⟩ := H3.out.jumped g4
  have H4 := chid k4
  have P4 := chid (And.intro (s4 _ _ _ O3.out) o4)
  clear g4 k4 s4 o4 O3
  go_wp2_with fail
  refine Calls.mono (fill_c W.heap.size bb (cat (C ++ [(25, 0)]) B ++ [(26, 0)]) K2 vc4 vk4 0 C.length (25, 0) w4 H4.out.bd P4.out.1.jm (app_at (cat_at (snoc_at _ _))) (small_64 (by simp only [cat_len, List.length_append, List.length_singleton]; have := HN.out; have := HL.out; omega)) P4.out.1.far) ?_
  rintro e w5 ⟨rfl, g5⟩
  obtain ⟨vc5, vk5, k5, s5⟩ := H4.out.went g5
  have H5 := chid k5
  have O5 := chid (s5 _ _ _ P4.out.2)
  have b5 := HY.out.2.turn k5.turn (HNF.out _ (by omega))
  have c0 := b5.cell 0 _ rfl
  have c1 := b5.cell 1 _ rfl
  have c2 := b5.cell 2 _ rfl
  have c3 := b5.cell 3 _ rfl
  have cl := b5.lt
  clear g5 k5 s5 b5 P4
  go_wp2_with fail
  refine Calls.mono (HX.out.2 _ bb _ K2 vc5 vk5 w5 (H5.out.core (fun i hi => (HF.out i hi).1) HS.out.2) H5.out.bd (H5.out.po (fun i hi => (HF.out i hi).1) HP.out) HZ.out.2 (by simp only [List.length_set, cat_len, List.length_append, List.length_singleton]; have := HN.out; have := HL.out; omega) (by have := HN.out; have := HL.out; omega)) ?_
  rintro e w6 ⟨rfl, g6⟩
  rw [hD.out] at g6
  obtain ⟨vc6, vk6, k6, s6⟩ := H5.out.went g6
  have H6 := chid k6
  have O6 := chid (s6 _ _ _ O5.out)
  clear g6 k6 s6 c0 c1 c2 c3 cl O5
  go_wp2_with fail
  refine Calls.mono (fill_c w3.heap.size bb _ K3 vc6 vk6 0 (cat (C ++ [(25, 0)]) B).length (26, 0) w6 H6.out.bd O6.out.jm (cat_at (by rw [List.getElem?_set_ne (by simp only [cat_len, List.length_append, List.length_singleton]; omega)]; exact snoc_at _ _)) (small_64 (by simp only [List.length_set, cat_len, List.length_append, List.length_singleton]; have := HN.out; have := HL.out; omega)) O6.out.far) ?_
  rintro e w7 ⟨rfl, g7⟩
  obtain ⟨vc7, vk7, k7, -⟩ := H6.out.went g7
  have H7 := chid k7
  clear g7 k7 O6
  go_wp2_with fail
  refine bodyPost_end (v := .tuple #[]) (by simp [results, Tryz.results57, go_sem, *]) rfl ?_
  refine ⟨rfl, ?_⟩
  have g := Went.alloc HB.out H7.out.done HB.out.size
  rw [fork_laid C B D 25 26 rfl rfl] at g
  exact g
theorem Wk.lay1 {w0 w : World} {bb : Nat} {F : List Nat} {C : List Ins} {K : List Int} {vc vk : Value} (h : Wk bb F w0 C K vc vk w) (op a : Int) (hb : C.length + 1 ≤ 1000000) :
    Calls Tryz.prog 52 #[.pointer (some ⟨bb, 0, none⟩), .slice (some ⟨w.heap.size, 0, none⟩) 1 1] (w.alloc (.cells #[.int .i64 op, .int .i64 a] 44)) fun e w' => e = .returned (.tuple #[]) ∧ ∃ vc' vk', Wk bb F w0 (C ++ [(op, a)]) K vc' vk' w' ∧ Stay bb w0 vc vk w vc' vk' w' := by
  have B : Below w.heap.size w (w.alloc (.cells #[.int .i64 op, .int .i64 a] 44)) := (Below.refl _ _).alloc (Nat.le_refl _) _
  have h1 := h.next B
  refine Calls.mono (lay_c bb C [(op, a)] K vc vk w.heap.size 1 _ h1.bd (by show 0 < 1; decide) (Box.new w [.int .i64 op, .int .i64 a] 44) hb) ?_
  rintro e w' ⟨rfl, g⟩
  obtain ⟨vc', vk', k, s⟩ := h1.went g
  exact ⟨rfl, vc', vk', k, fun j more at' o => s j more at' (o.next B)⟩
theorem cat_ins (C : List Ins) (op a : Int) (h : jmpB op = false) : C ++ [(op, a)] = cat C [(op, a)] := by
  unfold cat
  rw [List.map_cons, List.map_nil, show shI C.length (op, a) = (op, a) from if_neg (by rw [h]; decide)]
set_option maxHeartbeats 2000000 in
set_option maxRecDepth 20000 in
theorem memo_c (n : Int) (y : Co) (hy : CodC y) (vy : Value) (bb : Nat) (C : List Ins) (K1 : List Int) (vc vk : Value) (w : World)
    (sy : CSP (fun b => b < bb) w y vy) (h : Bd w bb C K1 vc vk) (hp : PoAt w bb) (zy : sM y ≠ 0) (hn : 0 ≤ n ∧ n < 256)
    (hC : C.length + 8 * (1 + cnodes y) ≤ 900000) (hK : K1.length + 2 * (1 + cnodes y) ≤ 900000) :
    Calls Tryz.prog 54 #[.pointer (some ⟨bb, 0, none⟩), .int .i64 n, coV y vy] w fun e w' => e = .returned (.tuple #[]) ∧ Went bb (foot bb vc vk) w (cat C (overM 27 (n * 16384) (codF y) [(28, n)] K1).1) (overM 27 (n * 16384) (codF y) [(28, n)] K1).2 w' := by
  obtain ⟨ay, cy, rfl, -, -⟩ := sy.parts.shape
  obtain ⟨Y1, YB⟩ := one_box w 30 (coL y (.slice ay y.parts.length cy))
  have HY := chid Y1
  have HB := chid YB
  have HF : Hid (∀ i, i ∈ foot bb vc vk → bb ≤ i ∧ i < w.heap.size) := chid h.ge
  have H1 := chid (Wk.start (h.next YB))
  have HS := chid (sy.next YB)
  have HP := chid (hp.next YB)
  have HZ := chid zy
  have HN := chid (And.intro hC (And.intro hK (cnodes_pos y)))
  have HX := chid hy
  have Hn := chid hn
  have hw0 : IntKind.i64.wrap (n * 16384) = n * 16384 := by rw [IntKind.wrap_i64]; omega
  obtain ⟨B, K2, hB⟩ : ∃ B K2, Hid (codF y K1 = (B, K2)) := ⟨_, _, chid rfl⟩
  have HL : Hid (B.length ≤ 6 * cnodes y ∧ K2.length ≤ K1.length + 2 * cnodes y) := chid (by
    have h2 := cod_lb y K1
    rw [hB.out] at h2
    exact h2)
  have HE : Hid (overM 27 (n * 16384) (codF y) [(28, n)] K1 = (cat (cat [(27, n * 16384 + ((B.length + 1 + [((28 : Int), n)].length : Nat) : Int))] B) [(28, n)], K2)) := chid (by
    unfold overM
    simp only [hB.out])
  rw [HE.out]
  clear hy sy h hp zy hC hK Y1 YB HE hn
  go_enter Tryz.func54, Tryz.ntmps54
  go_wp2_with fail
  generalize hW : (w.alloc _) = W at *
  clear hW
  have HNF : Hid (∀ i, w.heap.size ≤ i → i ∉ foot bb vc vk) := chid (fun i hi hm => by have := (HF.out i hm).2; omega)
  refine Calls.mono (jump_c bb C K1 vc vk 27 (n * 16384) W H1.out.bd (by have := HN.out; omega)) ?_
  intro e w2 g2
  obtain ⟨rfl, vc2, vk2, k2, -, o2⟩ := H1.out.jumped g2
  have H2 := chid k2
  have O2 := chid o2
  have b2 := HY.out.turn k2.turn (HNF.out _ (by omega))
  have c0 := b2.cell 0 _ rfl
  have c1 := b2.cell 1 _ rfl
  have c2 := b2.cell 2 _ rfl
  have c3 := b2.cell 3 _ rfl
  have cl := b2.lt
  clear g2 k2 o2 b2
  go_wp2_with fail
  refine Calls.mono (HX.out _ bb (C ++ [(27, 0)]) K1 vc2 vk2 w2 (H2.out.core (fun i hi => (HF.out i hi).1) HS.out) H2.out.bd (H2.out.po (fun i hi => (HF.out i hi).1) HP.out) HZ.out (by rw [List.length_append, List.length_singleton]; have := HN.out; omega) (by have := HN.out; omega)) ?_
  rintro e w3 ⟨rfl, g3⟩
  rw [hB.out] at g3
  obtain ⟨vc3, vk3, k3, s3⟩ := H2.out.went g3
  have H3 := chid k3
  have O3 := chid (s3 _ _ _ O2.out)
  clear g3 k3 s3 c0 c1 c2 c3 cl O2
  go_wp2_with fail
  refine Calls.mono (H3.out.lay1 28 n (by rw [cat_len, List.length_append, List.length_singleton]; have := HN.out; have := HL.out; omega)) ?_
  rintro e w4 ⟨rfl, vc4, vk4, k4, s4⟩
  have H4 := chid k4
  have O4 := chid (s4 _ _ _ O3.out)
  clear k4 s4 O3
  go_wp2_with fail
  refine Calls.mono (fill_c W.heap.size bb (cat (C ++ [(27, 0)]) B ++ [(28, n)]) K2 vc4 vk4 (n * 16384) C.length (27, 0) w4 H4.out.bd O4.out.jm (app_at (cat_at (snoc_at _ _))) (by have := HN.out; have := HL.out; have := Hn.out; unfold C64; simp only [cat_len, List.length_append, List.length_singleton]; omega) O4.out.far) ?_
  rintro e w5 ⟨rfl, g5⟩
  obtain ⟨vc5, vk5, k5, -⟩ := H4.out.went g5
  have H5 := chid k5
  clear g5 k5 O4
  go_wp2_with fail
  refine bodyPost_end (v := .tuple #[]) (by simp [results, Tryz.results54, go_sem, *]) rfl ?_
  refine ⟨rfl, ?_⟩
  have g := Went.alloc HB.out H5.out.done HB.out.size
  rw [over_laid C B [(28, n)] 27 (n * 16384) rfl (by intro x hx; rw [List.mem_singleton.1 hx]; rfl)] at g
  exact g
end Go.Proofs.YtigldebdljfnbaaGreatDoor
