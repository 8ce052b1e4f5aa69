/- Package code: programs in memory, large; what Emit needs. -/
import Derived.Test.YtbddbnjhmdbkbaaGreatDoorCaKdT
import Derived.Test.YtbddbnjhmdbkbaaGreatDoorCaMgK
import Derived.Test.YtbddbnjhmdbkbaaGreatDoorCaMhL
import Derived.Test.YtbddbnjhmdbkbaaGreatDoorCaFrP
import Derived.Laws.IdiomCopy
import Derived.Deep.WholeRow
namespace Go.Proofs.YtbddbnjhmdbkbaaGreatDoor
open Go.RowKit

/-- A program. -/
structure PgP where
  met : Int
  ru : RuP
  K : List Int
  wins : List WiP
  crons : List Cr
  loc : Int
  h : Int
  C : List Ins
/-- Where a program's lists lie. -/
structure PgV where
  k : Value
  wi : Value
  cr : Value
  c : Value
def pg0 : PgP := ⟨0, ⟨0, 0, 0, 0, 0⟩, [], [], [], 0, 0, []⟩
abbrev pgL (g : PgP) (v : PgV) : List Value := [.int .i64 g.met, .int .i64 g.ru.mn, .int .i64 g.ru.mx, .int .i64 g.ru.st, .int .i64 g.ru.up, .int .i64 g.ru.dn, v.k, v.wi, v.cr, .int .i64 g.loc, .int .i64 g.h, v.c]
abbrev pgV (g : PgP) (v : PgV) : Value := .agg (pgL g v).toArray
/-- The program lies in blocks from lo on, each list in one of its own. -/
structure PgAt (w : World) (lo : Nat) (g : PgP) (v : PgV) : Prop where
  k : w.ownsRow lo 2 1 v.k g.K.length (flK g.K)
  wi : w.ownsRow lo 63 4 v.wi g.wins.length (rowsF (fun i => wiL (g.wins.getD i wi0)) g.wins.length)
  cr : w.ownsRow lo 66 5 v.cr g.crons.length (rowsF (fun i => crL (g.crons.getD i cr0)) g.crons.length)
  c : w.ownsRow lo 61 2 v.c g.C.length (flI g.C)
/-- What a plan is made to. -/
def progF (p : PlP) : PgP := ⟨p.mets.length, p.ru, (planM p.gs p.fin []).2, p.wins, p.crons, p.loc, (plHgt p : Nat), (planM p.gs p.fin []).1⟩
def largeB (g : PgP) : Bool := decide (16384 < g.C.length) || decide (16384 < g.K.length) || decide (4096 < g.h)
def emitF (q : Co → Co → Bool) (p : PlP) : PgP × Int := if formedP q p = false then (pg0, 1) else if largeB (progF p) = true then (pg0, 14) else (progF p, 0)
theorem pg0_at (w : World) (lo : Nat) : PgAt w lo pg0 ⟨.slice none 0 0, .slice none 0 0, .slice none 0 0, .slice none 0 0⟩ :=
  ⟨World.ownsRow_nil _ _ _ _, World.ownsRow_nil _ _ _ _, World.ownsRow_nil _ _ _ _, World.ownsRow_nil _ _ _ _⟩
set_option maxHeartbeats 2000000 in
set_option maxRecDepth 20000 in
theorem large_c (g : PgP) (v : PgV) (w : World) (lo : Nat) (h : PgAt w lo g v) :
    Calls Tryz.prog 38 #[pgV g v] w fun e w' => e = .returned (.bool (largeB g)) ∧ Below w.heap.size w w' := by
  obtain ⟨ak, ck, e1⟩ := own_shape h.k
  obtain ⟨aw, cw, e2⟩ := own_shape h.wi
  obtain ⟨ar, cr, e3⟩ := own_shape h.cr
  obtain ⟨ac, cc, e4⟩ := own_shape h.c
  obtain ⟨vk, vw, vr, vc⟩ := v
  simp only at e1 e2 e3 e4
  subst e1 e2 e3 e4
  obtain ⟨Y0, YB⟩ := one_box w 55 (pgL g ⟨.slice ak g.K.length ck, .slice aw g.wins.length cw, .slice ar g.crons.length cr, .slice ac g.C.length cc⟩)
  have HB := chid YB
  have x6 := Y0.cell 6 _ rfl
  have x10 := Y0.cell 10 _ rfl
  have x11 := Y0.cell 11 _ rfl
  have xl := Y0.lt
  clear Y0 YB h
  by_cases q1 : 16384 < g.C.length
  · have r : largeB g = true := by unfold largeB; simp [q1]
    rw [r]
    have q1' : (16384 : Int) < (g.C.length : Int) := by omega
    clear q1
    go_enter Tryz.func38, Tryz.ntmps38
    go_wp2_with fail
    go_ret
    exact ⟨rfl, HB.out⟩
  · have q1' : ¬ (16384 : Int) < (g.C.length : Int) := by omega
    by_cases q2 : 16384 < g.K.length
    · have r : largeB g = true := by unfold largeB; simp [q2]
      rw [r]
      have q2' : (16384 : Int) < (g.K.length : Int) := by omega
      clear q1 q2
      go_enter Tryz.func38, Tryz.ntmps38
      go_wp2_with fail
      go_ret
      exact ⟨rfl, HB.out⟩
    · have q2' : ¬ (16384 : Int) < (g.K.length : Int) := by omega
      have r : largeB g = decide (4096 < g.h) := by unfold largeB; simp [q1, q2]
      rw [r]
      clear q1 q2
      go_enter Tryz.func38, Tryz.ntmps38
      go_wp2_with fail
      go_ret
      exact ⟨rfl, HB.out⟩
theorem set12_turn (w : World) (g : Nat) (v0 v1 v2 v3 v4 v5 v6 v7 v8 v9 v10 v11 : Value) : Turn [g] w ((((((((((((w.setCell ⟨g, 0, none⟩ v0).setCell ⟨g, 1, none⟩ v1).setCell ⟨g, 2, none⟩ v2).setCell ⟨g, 3, none⟩ v3).setCell ⟨g, 4, none⟩ v4).setCell ⟨g, 5, none⟩ v5).setCell ⟨g, 6, none⟩ v6).setCell ⟨g, 7, none⟩ v7).setCell ⟨g, 8, none⟩ v8).setCell ⟨g, 9, none⟩ v9).setCell ⟨g, 10, none⟩ v10).setCell ⟨g, 11, none⟩ v11) :=
  cturn_one (cturn_one (cturn_one (cturn_one (cturn_one (cturn_one (cturn_one (cturn_one (cturn_one (cturn_one (cturn_one (cturn_set w g 0 v0) (cturn_set _ g 1 v1)) (cturn_set _ g 2 v2)) (cturn_set _ g 3 v3)) (cturn_set _ g 4 v4)) (cturn_set _ g 5 v5)) (cturn_set _ g 6 v6)) (cturn_set _ g 7 v7)) (cturn_set _ g 8 v8)) (cturn_set _ g 9 v9)) (cturn_set _ g 10 v10)) (cturn_set _ g 11 v11)
theorem below_one {w a b : World} {g : Nat} (h : Below w.heap.size w a) (t : Turn [g] a b) (hg : w.heap.size ≤ g) : Below w.heap.size w b := h.trans (t.below (fun k hk => by rw [List.mem_singleton.1 hk]; exact hg) h.size)
theorem PgAt.keep {w w' : World} {lo : Nat} {g : PgP} {v : PgV} (h : PgAt w lo g v) (hk : ∀ b, lo ≤ b → b < w.heap.size → w'.heap[b]? = w.heap[b]?) : PgAt w' lo g v :=
  ⟨own_keep h.k hk, own_keep h.wi hk, own_keep h.cr hk, own_keep h.c hk⟩
theorem PgAt.low {w : World} {lo lo' : Nat} {g : PgP} {v : PgV} (h : PgAt w lo g v) (hl : lo' ≤ lo) : PgAt w lo' g v := ⟨own_low lo' h.k hl, own_low lo' h.wi hl, own_low lo' h.cr hl, own_low lo' h.c hl⟩
theorem bd_new (w : World) : Bd (w.alloc (.cells #[.slice none 0 0, .slice none 0 0] 88)) w.heap.size [] [] (.slice none 0 0) (.slice none 0 0) :=
  ⟨Box.new w [.slice none 0 0, .slice none 0 0] 88, World.ownsRow_nil _ _ _ _, World.ownsRow_nil _ _ _ _⟩
abbrev zcL : List Value := [.int .i64 0, .int .i64 0, .int .i64 0, .int .i64 0, .int .i64 0, .int .i64 0, .slice none 0 0, .slice none 0 0, .slice none 0 0, .int .i64 0, .int .i64 0, .slice none 0 0]
/-- The box of a program that is made, while it is empty. -/
structure MadeAt (w : World) (lo mb : Nat) : Prop where
  box : Box w mb [.int .i64 0, .int .i64 0, .int .i64 0, .int .i64 0, .int .i64 0, .int .i64 0, .slice none 0 0, .slice none 0 0, .slice none 0 0, .int .i64 0, .int .i64 0, .slice none 0 0]
  ty : ∃ cur, w.heap[mb]? = some (.cells cur 55 (0, 0))
  ge : lo ≤ mb
theorem MadeAt.next {w w' : World} {lo mb : Nat} (h : MadeAt w lo mb) (k : Below w.heap.size w w') : MadeAt w' lo mb :=
  ⟨h.box.next k, by obtain ⟨cur, e⟩ := h.ty; exact ⟨cur, (k.block mb h.box.lt).trans e⟩, h.ge⟩
theorem MadeAt.new {w : World} {lo : Nat} (h : lo ≤ w.heap.size) : MadeAt (w.alloc (.cells #[.int .i64 0, .int .i64 0, .int .i64 0, .int .i64 0, .int .i64 0, .int .i64 0, .slice none 0 0, .slice none 0 0, .slice none 0 0, .int .i64 0, .int .i64 0, .slice none 0 0] 55)) lo w.heap.size :=
  ⟨Box.new w [.int .i64 0, .int .i64 0, .int .i64 0, .int .i64 0, .int .i64 0, .int .i64 0, .slice none 0 0, .slice none 0 0, .slice none 0 0, .int .i64 0, .int .i64 0, .slice none 0 0] 55, ⟨_, heap_new w _⟩, h⟩
theorem setCells_box (g : Nat) : ∀ (vs : List Value) (i : Nat) (w : World) (l : List Value), Box w g l → i + vs.length = l.length → Box (w.setCells g i vs) g (l.take i ++ vs) ∧ Turn [g] w (w.setCells g i vs)
  | [], i, w, l, h, hl => by
    simp only [List.length_nil, Nat.add_zero] at hl
    rw [List.append_nil, hl, List.take_length]
    exact ⟨h, Turn.refl _ _⟩
  | v :: r, i, w, l, h, hl => by
    simp only [List.length_cons] at hl
    have h1 := h.set i (by omega) v
    obtain ⟨b1, t1⟩ := setCells_box g r (i + 1) (w.setCell ⟨g, i, none⟩ v) (l.set i v) h1 (by rw [List.length_set]; omega)
    have e : (l.set i v).take (i + 1) ++ r = l.take i ++ v :: r := by
      rw [List.take_succ_eq_append_getElem (by rw [List.length_set]; omega), List.take_set_of_le (Nat.le_refl _), List.getElem_set_self, List.append_assoc]
      rfl
    rw [e] at b1
    exact ⟨b1, cturn_one (cturn_set w g i v) t1⟩
theorem own_set {w w' : World} {lo k n g : Nat} {e : TypeId} {v : Value} {xs : List Value} (h : w.ownsRow lo e k v n xs) (ht : ∃ cur, w.heap[g]? = some (.cells cur 55 (0, 0))) (hne : e ≠ 55) (t : Turn [g] w w') : w'.ownsRow lo e k v n xs :=
  own_of_keep h (fun b hb => t.block b (h.lt b hb).2 (fun hm => by
    have hbg := List.mem_singleton.1 hm
    subst hbg
    obtain ⟨_, cur, e1⟩ := own_type h hb
    obtain ⟨cur', e2⟩ := ht
    rw [e1] at e2
    exact hne (by injection (Option.some.inj e2))))
theorem build_sl (a0 a1 a2 a3 a4 a5 a9 a10 : Int) (ak aw ar ac : Option Addr) (nk nw nr nc ck cw cr cc : Nat) (w : World) :
    (Instr.build 55 #[(0, .int .i64 a0), (1, .agg #[.int .i64 a1, .int .i64 a2, .int .i64 a3, .int .i64 a4, .int .i64 a5]), (2, .slice ak nk ck), (3, .slice aw nw cw), (4, .slice ar nr cr), (5, .int .i64 a9), (6, .int .i64 a10), (7, .slice ac nc cc)]).run Tryz.prog w = .ok (.agg #[.int .i64 a0, .int .i64 a1, .int .i64 a2, .int .i64 a3, .int .i64 a4, .int .i64 a5, .slice ak nk ck, .slice aw nw cw, .slice ar nr cr, .int .i64 a9, .int .i64 a10, .slice ac nc cc]) w :=
  run_build w _ _ _ (by kernel_rfl)
theorem store_made {w : World} {lo mb : Nat} (h : MadeAt w lo mb) (X : Array Value) (hs : X.size = 12) (h1 : ∀ v, v ∈ X.toList → v.oneCell' = true) :
    (storeCells ⟨mb, 0, none⟩ X.toList 0).run Tryz.prog w = .ok () (w.setCells mb 0 X.toList) := by
  have hl : X.toList.length = 12 := by rw [Array.length_toList]; exact hs
  refine run_storeCells_cells mb 0 X.toList 0 w (fun j hj => ?_) (fun j hj => ?_) h1
  · rw [show 0 + 0 + j = j by omega, h.box.cell j _ (List.getElem?_eq_getElem (show j < zcL.length by rw [hl] at hj; exact hj))]
    rfl
  · rw [show 0 + 0 + j = j by omega]
    exact h.box.free j (by rw [hl] at hj; exact hj)
theorem store_fresh (w : World) (X : Array Value) (hs : X.size = 12) (h1 : ∀ v, v ∈ X.toList → v.oneCell' = true) :
    (storeCells ⟨w.heap.size, 0, none⟩ X.toList 0).run Tryz.prog (w.alloc (.cells #[.int .i64 0, .int .i64 0, .int .i64 0, .int .i64 0, .int .i64 0, .int .i64 0, .slice none 0 0, .slice none 0 0, .slice none 0 0, .int .i64 0, .int .i64 0, .slice none 0 0] 55)) = .ok () (w.alloc (.cells X 55)) :=
  run_storeCells_new w _ _ X (by rw [hs]; kernel_rfl) (by rw [hs]; rfl) (Array.all_eq_true_iff_forall_mem.2 (fun v hv => h1 v (by simpa using hv)))
theorem step_fn {ops : Array Oper} {o : Oper} {a : Act} {w : World} {K : Act → World → Prop} {Q : Exit → Act → World → Prop} {E : Prop} (hgd : o.guard = none) {f : Nat} {args : Array Value} {R : Value → World → Prop}
    (hc : Calls Tryz.prog f args w fun e w' => ∃ u, e = .returned u ∧ R u w') (he : (execOp a.eval o).run Tryz.prog w = .ok (.enter f args) w) (hK : ∀ u w', R u w' → K (a.put o.dst u) w') :
    if Region.wanted o (yielded ops a.tmps) = true then Oper.wp Tryz.prog o a w K Q else E := by
  have hwd : Region.wanted o (yielded ops a.tmps) = true := by simp [Region.wanted, hgd]
  rw [if_pos hwd]
  unfold Oper.wp
  rw [he, Oper.upon_enter]
  refine hc.mono fun e w' h => ?_
  obtain ⟨u, rfl, h1⟩ := h
  exact hK u w' h1
theorem bel_alloc (w : World) (o : Obj) : Below w.heap.size w (w.alloc o) := (Below.refl _ _).alloc (Nat.le_refl _) _
theorem plord_gN (p : PlP) : (plord p).length = gN p.gs + cnodes p.fin := by unfold plord gN cnodes; rw [List.length_append]
end Go.Proofs.YtbddbnjhmdbkbaaGreatDoor
