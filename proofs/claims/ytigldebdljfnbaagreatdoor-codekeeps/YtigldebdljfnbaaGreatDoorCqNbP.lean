import Derived.Test.YtigldebdljfnbaaGreatDoorCqNbN
import Derived.Test.YtigldebdljfnbaaGreatDoorCqMgK
import Derived.Test.YtigldebdljfnbaaGreatDoorCqMhL
import Derived.Test.YtigldebdljfnbaaGreatDoorCqNbO
import Derived.Laws.IdiomCopy
import Derived.Deep.WholeRow
namespace Go.Proofs.YtigldebdljfnbaaGreatDoor
open Go.RowKit

structure PgP where
  met : Int
  ru : RuP
  K : List Int
  wins : List WiP
  crons : List Cr
  loc : Int
  h : Int
  C : List Ins
structure PgV where
  k : Value
  wi : Value
  cr : Value
  c : Value
def pg0 : PgP := ⟨0, ⟨0, 0, 0, 0, 0⟩, [], [], [], 0, 0, []⟩
abbrev pgL (g : PgP) (v : PgV) : List Value := [.int .i64 g.met, .int .i64 g.ru.mn, .int .i64 g.ru.mx, .int .i64 g.ru.st, .int .i64 g.ru.up, .int .i64 g.ru.dn, v.k, v.wi, v.cr, .int .i64 g.loc, .int .i64 g.h, v.c]
abbrev pgV (g : PgP) (v : PgV) : Value := .agg (pgL g v).toArray
structure PgAt (w : World) (lo : Nat) (g : PgP) (v : PgV) : Prop where
  k : w.ownsRow lo 2 1 v.k g.K.length (flK g.K)
  wi : w.ownsRow lo 46 4 v.wi g.wins.length (rowsF (fun i => wiL (g.wins.getD i wi0)) g.wins.length)
  cr : w.ownsRow lo 49 5 v.cr g.crons.length (rowsF (fun i => crL (g.crons.getD i cr0)) g.crons.length)
  c : w.ownsRow lo 44 2 v.c g.C.length (flI g.C)
def progF (p : PlP) : PgP := ⟨p.mets.length, p.ru, (planM p.gs p.fin []).2, p.wins, p.crons, p.loc, (plHgt p : Nat), (planM p.gs p.fin []).1⟩
def largeB (g : PgP) : Bool := decide (16384 < g.C.length) || decide (16384 < g.K.length) || decide (4096 < g.h)
def emitF (q : Co → Co → Bool) (p : PlP) : PgP × Int := if formedP q p = false then (pg0, 1) else if largeB (progF p) = true then (pg0, 14) else (progF p, 0)
theorem pg0_at (w : World) (lo : Nat) : PgAt w lo pg0 ⟨.slice none 0 0, .slice none 0 0, .slice none 0 0, .slice none 0 0⟩ :=
  ⟨World.ownsRow_nil _ _ _ _, World.ownsRow_nil _ _ _ _, World.ownsRow_nil _ _ _ _, World.ownsRow_nil _ _ _ _⟩
set_option maxHeartbeats 2000000 in
set_option maxRecDepth 20000 in
theorem large_c (g : PgP) (v : PgV) (w : World) (lo : Nat) (h : PgAt w lo g v) :
    Calls Tryz.prog 17 #[pgV g v] w fun e w' => e = .returned (.bool (largeB g)) ∧ Below w.heap.size w w' := by
  obtain ⟨ak, ck, e1⟩ := own_shape h.k
  obtain ⟨aw, cw, e2⟩ := own_shape h.wi
  obtain ⟨ar, cr, e3⟩ := own_shape h.cr
  obtain ⟨ac, cc, e4⟩ := own_shape h.c
  obtain ⟨vk, vw, vr, vc⟩ := v
  simp only at e1 e2 e3 e4
  subst e1 e2 e3 e4
  obtain ⟨Y0, YB⟩ := one_box w 38 (pgL g ⟨.slice ak g.K.length ck, .slice aw g.wins.length cw, .slice ar g.crons.length cr, .slice ac g.C.length cc⟩)
  have HB := chid YB
  have x6 := Y0.cell 6 _ rfl
  have x10 := Y0.cell 10 _ rfl
  have x11 := Y0.cell 11 _ rfl
  have xl := Y0.lt
  clear Y0 YB h
  by_cases q1 : 16384 < g.C.length
  · have r : largeB g = true := by unfold largeB; simp [q1]
    rw [r]
    have q1' : (16384 : Int) < (g.C.length : Int) := by omega
    clear q1
    go_enter Tryz.func17, Tryz.ntmps17
    go_wp2_with fail
    go_ret
    exact ⟨rfl, HB.out⟩
  · have q1' : ¬ (16384 : Int) < (g.C.length : Int) := by omega
    by_cases q2 : 16384 < g.K.length
    · have r : largeB g = true := by unfold largeB; simp [q2]
      rw [r]
      have q2' : (16384 : Int) < (g.K.length : Int) := by omega
      clear q1 q2
      go_enter Tryz.func17, Tryz.ntmps17
      go_wp2_with fail
      go_ret
      exact ⟨rfl, HB.out⟩
    · have q2' : ¬ (16384 : Int) < (g.K.length : Int) := by omega
      have r : largeB g = decide (4096 < g.h) := by unfold largeB; simp [q1, q2]
      rw [r]
      clear q1 q2
      go_enter Tryz.func17, Tryz.ntmps17
      go_wp2_with fail
      go_ret
      exact ⟨rfl, HB.out⟩
theorem set12_turn (w : World) (g : Nat) (v0 v1 v2 v3 v4 v5 v6 v7 v8 v9 v10 v11 : Value) : Turn [g] w ((((((((((((w.setCell ⟨g, 0, none⟩ v0).setCell ⟨g, 1, none⟩ v1).setCell ⟨g, 2, none⟩ v2).setCell ⟨g, 3, none⟩ v3).setCell ⟨g, 4, none⟩ v4).setCell ⟨g, 5, none⟩ v5).setCell ⟨g, 6, none⟩ v6).setCell ⟨g, 7, none⟩ v7).setCell ⟨g, 8, none⟩ v8).setCell ⟨g, 9, none⟩ v9).setCell ⟨g, 10, none⟩ v10).setCell ⟨g, 11, none⟩ v11) :=
  cturn_one (cturn_one (cturn_one (cturn_one (cturn_one (cturn_one (cturn_one (cturn_one (cturn_one (cturn_one (cturn_one (cturn_set w g 0 v0) (cturn_set _ g 1 v1)) (cturn_set _ g 2 v2)) (cturn_set _ g 3 v3)) (cturn_set _ g 4 v4)) (cturn_set _ g 5 v5)) (cturn_set _ g 6 v6)) (cturn_set _ g 7 v7)) (cturn_set _ g 8 v8)) (cturn_set _ g 9 v9)) (cturn_set _ g 10 v10)) (cturn_set _ g 11 v11)
theorem below_one {w a b : World} {g : Nat} (h : Below w.heap.size w a) (t : Turn [g] a b) (hg : w.heap.size ≤ g) : Below w.heap.size w b := h.trans (t.below (fun k hk => by rw [List.mem_singleton.1 hk]; exact hg) h.size)
theorem PgAt.keep {w w' : World} {lo : Nat} {g : PgP} {v : PgV} (h : PgAt w lo g v) (hk : ∀ b, lo ≤ b → b < w.heap.size → w'.heap[b]? = w.heap[b]?) : PgAt w' lo g v :=
  ⟨own_keep h.k hk, own_keep h.wi hk, own_keep h.cr hk, own_keep h.c hk⟩
theorem PgAt.low {w : World} {lo lo' : Nat} {g : PgP} {v : PgV} (h : PgAt w lo g v) (hl : lo' ≤ lo) : PgAt w lo' g v := ⟨own_low lo' h.k hl, own_low lo' h.wi hl, own_low lo' h.cr hl, own_low lo' h.c hl⟩
theorem bd_new (w : World) : Bd (w.alloc (.cells #[.slice none 0 0, .slice none 0 0] 53)) w.heap.size [] [] (.slice none 0 0) (.slice none 0 0) :=
  ⟨Box.new w [.slice none 0 0, .slice none 0 0] 53, World.ownsRow_nil _ _ _ _, World.ownsRow_nil _ _ _ _⟩
abbrev zcL : List Value := [.int .i64 0, .int .i64 0, .int .i64 0, .int .i64 0, .int .i64 0, .int .i64 0, .slice none 0 0, .slice none 0 0, .slice none 0 0, .int .i64 0, .int .i64 0, .slice none 0 0]
structure MadeAt (w : World) (lo mb : Nat) : Prop where
  box : Box w mb [.int .i64 0, .int .i64 0, .int .i64 0, .int .i64 0, .int .i64 0, .int .i64 0, .slice none 0 0, .slice none 0 0, .slice none 0 0, .int .i64 0, .int .i64 0, .slice none 0 0]
  ty : ∃ cur, w.heap[mb]? = some (.cells cur 38 (0, 0))
  ge : lo ≤ mb
theorem MadeAt.next {w w' : World} {lo mb : Nat} (h : MadeAt w lo mb) (k : Below w.heap.size w w') : MadeAt w' lo mb :=
  ⟨h.box.next k, by obtain ⟨cur, e⟩ := h.ty; exact ⟨cur, (k.block mb h.box.lt).trans e⟩, h.ge⟩
theorem MadeAt.new {w : World} {lo : Nat} (h : lo ≤ w.heap.size) : MadeAt (w.alloc (.cells #[.int .i64 0, .int .i64 0, .int .i64 0, .int .i64 0, .int .i64 0, .int .i64 0, .slice none 0 0, .slice none 0 0, .slice none 0 0, .int .i64 0, .int .i64 0, .slice none 0 0] 38)) lo w.heap.size :=
  ⟨Box.new w [.int .i64 0, .int .i64 0, .int .i64 0, .int .i64 0, .int .i64 0, .int .i64 0, .slice none 0 0, .slice none 0 0, .slice none 0 0, .int .i64 0, .int .i64 0, .slice none 0 0] 38, ⟨_, heap_new w _⟩, h⟩
theorem setCells_box (g : Nat) : ∀ (vs : List Value) (i : Nat) (w : World) (l : List Value), Box w g l → i + vs.length = l.length → Box (w.setCells g i vs) g (l.take i ++ vs) ∧ Turn [g] w (w.setCells g i vs)
  | [], i, w, l, h, hl => by
    simp only [List.length_nil, Nat.add_zero] at hl
    rw [List.append_nil, hl, List.take_length]
    exact ⟨h, Turn.refl _ _⟩
  | v :: r, i, w, l, h, hl => by
    simp only [List.length_cons] at hl
    have h1 := h.set i (by omega) v
    obtain ⟨b1, t1⟩ := setCells_box g r (i + 1) (w.setCell ⟨g, i, none⟩ v) (l.set i v) h1 (by rw [List.length_set]; omega)
    have e : (l.set i v).take (i + 1) ++ r = l.take i ++ v :: r := by
      rw [List.take_succ_eq_append_getElem (by rw [List.length_set]; omega), List.take_set_of_le (Nat.le_refl _), List.getElem_set_self, List.append_assoc]
      rfl
    rw [e] at b1
    exact ⟨b1, cturn_one (cturn_set w g i v) t1⟩
theorem own_set {w w' : World} {lo k n g : Nat} {e : TypeId} {v : Value} {xs : List Value} (h : w.ownsRow lo e k v n xs) (ht : ∃ cur, w.heap[g]? = some (.cells cur 38 (0, 0))) (hne : e ≠ 38) (t : Turn [g] w w') : w'.ownsRow lo e k v n xs :=
  own_of_keep h (fun b hb => t.block b (h.lt b hb).2 (fun hm => by
    have hbg := List.mem_singleton.1 hm
    subst hbg
    obtain ⟨_, cur, e1⟩ := own_type h hb
    obtain ⟨cur', e2⟩ := ht
    rw [e1] at e2
    exact hne (by injection (Option.some.inj e2))))
theorem store_made {w : World} {lo mb : Nat} (h : MadeAt w lo mb) (X : Array Value) (hs : X.size = 12) (h1 : ∀ v, v ∈ X.toList → v.oneCell' = true) :
    (storeCells ⟨mb, 0, none⟩ X.toList 0).run Tryz.prog w = .ok () (w.setCells mb 0 X.toList) := by
  have hl : X.toList.length = 12 := by rw [Array.length_toList]; exact hs
  refine run_storeCells_cells mb 0 X.toList 0 w (fun j hj => ?_) (fun j hj => ?_) h1
  · rw [show 0 + 0 + j = j by omega, h.box.cell j _ (List.getElem?_eq_getElem (show j < zcL.length by rw [hl] at hj; exact hj))]
    rfl
  · rw [show 0 + 0 + j = j by omega]
    exact h.box.free j (by rw [hl] at hj; exact hj)
theorem store_fresh (w : World) (X : Array Value) (hs : X.size = 12) (h1 : ∀ v, v ∈ X.toList → v.oneCell' = true) :
    (storeCells ⟨w.heap.size, 0, none⟩ X.toList 0).run Tryz.prog (w.alloc (.cells #[.int .i64 0, .int .i64 0, .int .i64 0, .int .i64 0, .int .i64 0, .int .i64 0, .slice none 0 0, .slice none 0 0, .slice none 0 0, .int .i64 0, .int .i64 0, .slice none 0 0] 38)) = .ok () (w.alloc (.cells X 38)) :=
  run_storeCells_new w _ _ X (by rw [hs]; kernel_rfl) (by rw [hs]; rfl) (Array.all_eq_true_iff_forall_mem.2 (fun v hv => h1 v (by simpa using hv)))
theorem step_fn {ops : Array Oper} {o : Oper} {a : Act} {w : World} {K : Act → World → Prop} {Q : Exit → Act → World → Prop} {E : Prop} (hgd : o.guard = none) {f : Nat} {args : Array Value} {R : Value → World → Prop}
    (hc : Calls Tryz.prog f args w fun e w' => ∃ u, e = .returned u ∧ R u w') (he : (execOp a.eval o).run Tryz.prog w = .ok (.enter f args) w) (hK : ∀ u w', R u w' → K (a.put o.dst u) w') :
    if Region.wanted o (yielded ops a.tmps) = true then Oper.wp Tryz.prog o a w K Q else E := by
  have hwd : Region.wanted o (yielded ops a.tmps) = true := by simp [Region.wanted, hgd]
  rw [if_pos hwd]
  unfold Oper.wp
  rw [he, Oper.upon_enter]
  refine hc.mono fun e w' h => ?_
  obtain ⟨u, rfl, h1⟩ := h
  exact hK u w' h1
theorem bel_alloc (w : World) (o : Obj) : Below w.heap.size w (w.alloc o) := (Below.refl _ _).alloc (Nat.le_refl _) _
theorem plord_gN (p : PlP) : (plord p).length = gN p.gs + cnodes p.fin := by unfold plord gN cnodes; rw [List.length_append]

def in0 : Ins := (0, 0)
structure PgRd (w : World) (g : PgP) (v : PgV) : Prop where
  k : RowsK w v.k g.K.length 1 (fun i => [.int .i64 (g.K.getD i 0)])
  wi : WisAt w v.wi g.wins
  cr : CrsAt w v.cr g.crons
  c : RowsK w v.c g.C.length 2 (fun i => [.int .i64 (g.C.getD i in0).1, .int .i64 (g.C.getD i in0).2])
theorem PgRd.next {w w' : World} {g : PgP} {v : PgV} (h : PgRd w g v) (k : Below w.heap.size w w') : PgRd w' g v := ⟨h.k.next k, RowsK.next h.wi k, RowsK.next h.cr k, h.c.next k⟩
theorem rows_of_box {w : World} {lo n k : Nat} {e : TypeId} {v : Value} {xs : List Value} {cs : Nat → List Value} (h : w.ownsRow lo e k v n xs) (hx : ∀ i, i < n → ∀ j x, (cs i)[j]? = some x → xs[i * k + j]? = some x) : RowsK w v n k cs := by
  obtain ⟨-, ⟨h2, h3⟩ | ⟨g, cap, cur, h2, h3, h4, h5, h6, h7, h8⟩⟩ := h
  · exact ⟨none, 0, by rw [h2, h3], by omega, by omega, .inl h3⟩
  · have BX : Box w g xs := (Box.ofBlock h4).part (by rw [← h8]; exact List.take_prefix _ _)
    exact ⟨some ⟨g, 0, none⟩, cap, h2, h5, h6, .inr ⟨g, 0, rfl, BX.lt, fun i hi j x hj => by rw [Nat.zero_add]; exact BX.cell _ _ (hx i hi j x hj)⟩⟩
theorem PgAt.rd {w : World} {lo : Nat} {g : PgP} {v : PgV} (h : PgAt w lo g v) : PgRd w g v := by
  refine ⟨rows_of_box h.k (fun i hi j x hj => ?_), rows_of_own (fun _ => rfl) h.wi, rows_of_own (fun _ => rfl) h.cr, rows_of_box h.c (fun i hi j x hj => ?_)⟩
  · have hj0 : j = 0 := by have := (List.getElem?_eq_some_iff.1 hj).1; simp at this; omega
    subst hj0
    simp only [List.getElem?_cons_zero, Option.some.injEq] at hj
    subst hj
    simp [flK, hi, List.getD]
  · have hj2 : j = 0 ∨ j = 1 := by have := (List.getElem?_eq_some_iff.1 hj).1; simp at this; omega
    have hg : g.C[i]? = some (g.C.getD i in0) := by simp [List.getD, hi]
    rcases hj2 with rfl | rfl
    · simp only [List.getElem?_cons_zero, Option.some.injEq] at hj
      subst hj
      exact (flI_at g.C i _ hg).1
    · simp only [List.getElem?_cons_succ, List.getElem?_cons_zero, Option.some.injEq] at hj
      subst hj
      exact (flI_at g.C i _ hg).2
set_option maxHeartbeats 8000000 in
set_option maxRecDepth 20000 in
theorem same21_c (g : PgP) (v u : PgV) (w : World) (h : PgRd w g v) (k : PgRd w g u) : Calls Tryz.prog 9 #[pgV g v, pgV g u] w fun e w' => e = .returned (.bool true) ∧ Below w.heap.size w w' := by
  obtain ⟨a1, c1, e1, l1, m1⟩ := RowsK.shape h.k
  obtain ⟨a2, c2, e2, l2, m2⟩ := RowsK.shape h.wi
  obtain ⟨a3, c3, e3, l3, m3⟩ := RowsK.shape h.cr
  obtain ⟨a4, c4, e4, l4, m4⟩ := RowsK.shape h.c
  obtain ⟨b1, d1, f1, -, -⟩ := RowsK.shape k.k
  obtain ⟨b2, d2, f2, -, -⟩ := RowsK.shape k.wi
  obtain ⟨b3, d3, f3, -, -⟩ := RowsK.shape k.cr
  obtain ⟨b4, d4, f4, -, -⟩ := RowsK.shape k.c
  obtain ⟨vk, vw, vr, vc⟩ := v
  obtain ⟨uk, uw, ur, uc⟩ := u
  simp only at e1 e2 e3 e4 f1 f2 f3 f4
  subst e1 e2 e3 e4 f1 f2 f3 f4
  obtain ⟨Y0, Y1, YB⟩ := two_boxes w 38 38 (pgL g ⟨.slice a1 g.K.length c1, .slice a2 g.wins.length c2, .slice a3 g.crons.length c3, .slice a4 g.C.length c4⟩) (pgL g ⟨.slice b1 g.K.length d1, .slice b2 g.wins.length d2, .slice b3 g.crons.length d3, .slice b4 g.C.length d4⟩)
  have HY := chid (And.intro Y0 Y1)
  have HB := chid YB
  have HR := chid (And.intro (h.next YB) (k.next YB))
  have hl1 : g.K.length ≤ 9223372036854775807 := by omega
  have hl2 : g.wins.length ≤ 9223372036854775807 := by omega
  have hl3 : g.crons.length ≤ 9223372036854775807 := by omega
  have hl4 : g.C.length ≤ 9223372036854775807 := by omega
  have x0 := Y0.cell 0 _ rfl
  have y0 := Y1.cell 0 _ rfl
  have x1 := Y0.cell 1 _ rfl
  have y1 := Y1.cell 1 _ rfl
  have x2 := Y0.cell 2 _ rfl
  have y2 := Y1.cell 2 _ rfl
  have x3 := Y0.cell 3 _ rfl
  have y3 := Y1.cell 3 _ rfl
  have x4 := Y0.cell 4 _ rfl
  have y4 := Y1.cell 4 _ rfl
  have x5 := Y0.cell 5 _ rfl
  have y5 := Y1.cell 5 _ rfl
  have x6 := Y0.cell 6 _ rfl
  have y6 := Y1.cell 6 _ rfl
  have x7 := Y0.cell 7 _ rfl
  have y7 := Y1.cell 7 _ rfl
  have x8 := Y0.cell 8 _ rfl
  have y8 := Y1.cell 8 _ rfl
  have x9 := Y0.cell 9 _ rfl
  have y9 := Y1.cell 9 _ rfl
  have x10 := Y0.cell 10 _ rfl
  have y10 := Y1.cell 10 _ rfl
  have x11 := Y0.cell 11 _ rfl
  have y11 := Y1.cell 11 _ rfl
  have xl := Y0.lt
  have yl := Y1.lt
  clear h k Y0 Y1 YB l1 m1 l2 m2 l3 m3 l4 m4
  obtain ⟨gm, ⟨r0, r1, r2, r3, r4⟩, K, wins, crons, loc, hh, C⟩ := g
  simp only at *
  go_enter Tryz.func9, Tryz.ntmps9
  go_wp2_with fail
  generalize hW : ((w.alloc _).alloc _) = W at *
  clear hW x0 y0 x1 y1 x2 y2 x3 y3 x4 y4 x5 y5 x6 y6 x7 y7 x8 y8 x9 y9 x10 y10 x11 y11 xl yl
  have HW := chid (Below.refl W.heap.size W)
  skip
  go_loopw [5] (fun i wr => ∃ (j : Nat), i = .int .i64 (j : Nat) ∧ j ≤ K.length ∧ Hid (Below W.heap.size W wr)) (fun i _ => match i with | .int _ z => ((K.length : Int) - z).toNat | _ => 0)
  case atStart => exact ⟨0, rfl, Nat.zero_le _, HW⟩
  case round =>
    obtain ⟨j, rfl, hj, HW0⟩ := hrel
    have Y0 := HY.out.1.next HW0.out
    have Y1 := HY.out.2.next HW0.out
    have p0 := Y0.cell 6 _ rfl
    have p1 := Y1.cell 6 _ rfl
    have pl := Y0.lt
    have ql := Y1.lt
    have s0 := Y0.cell 7 _ rfl
    have s1 := Y1.cell 7 _ rfl
    clear Y0 Y1
    by_cases hlt : j < K.length
    · have hlt' : (j : Int) < (K.length : Int) := by omega
      have hwj : IntKind.i64.wrap ((j : Int) + 1) = (j : Int) + 1 := by rw [IntKind.wrap_i64]; omega
      obtain ⟨b, off, cap, hv, -, -, hbl, hx⟩ := RowsK.open HR.out.1.k (show 0 < K.length by omega)
      obtain ⟨b', off', cap', hv', -, -, hbl', hx'⟩ := RowsK.open HR.out.2.k (show 0 < K.length by omega)
      simp only [Value.slice.injEq] at hv hv'
      obtain ⟨rfl, -, rfl⟩ := hv
      obtain ⟨rfl, -, rfl⟩ := hv'
      have z0 := keepc HW0.out (hx j hlt 0 _ rfl)
      have t0 := keepc HW0.out (hx' j hlt 0 _ rfl)
      have bl := Nat.lt_of_lt_of_le hbl HW0.out.size
      have bl' := Nat.lt_of_lt_of_le hbl' HW0.out.size
      rw [show off + j * 1 + 0 = off + j by omega] at z0
      rw [show off' + j * 1 + 0 = off' + j by omega] at t0
      clear hx hx' hbl hbl'
      generalize K.getD j 0 = e at *
      go_wp2_with fail
      go_quiet (fail)
      go_wp2_with fail
      go_roundw
      case rel => exact ⟨j + 1, by go_num, by omega, chid (cdrewN HW0.out _)⟩
      case measure => simp; omega
    · have hlt' : ¬ (j : Int) < (K.length : Int) := by omega
      obtain rfl : j = K.length := by omega
      go_wp2_with fail
      go_loopw [6] (fun i wr => ∃ (j : Nat), i = .int .i64 (j : Nat) ∧ j ≤ wins.length ∧ Hid (Below W.heap.size W wr)) (fun i _ => match i with | .int _ z => ((wins.length : Int) - z).toNat | _ => 0)
      case atStart => exact ⟨0, rfl, Nat.zero_le _, HW0⟩
      case round =>
        obtain ⟨j, rfl, hj, HW1⟩ := hrel
        have Y0 := HY.out.1.next HW1.out
        have Y1 := HY.out.2.next HW1.out
        have p0 := Y0.cell 7 _ rfl
        have p1 := Y1.cell 7 _ rfl
        have pl := Y0.lt
        have ql := Y1.lt
        have s0 := Y0.cell 8 _ rfl
        have s1 := Y1.cell 8 _ rfl
        clear Y0 Y1
        by_cases hlt : j < wins.length
        · have hlt' : (j : Int) < (wins.length : Int) := by omega
          have hwj : IntKind.i64.wrap ((j : Int) + 1) = (j : Int) + 1 := by rw [IntKind.wrap_i64]; omega
          obtain ⟨b, off, cap, hv, -, -, hbl, hx⟩ := RowsK.open HR.out.1.wi (show 0 < wins.length by omega)
          obtain ⟨b', off', cap', hv', -, -, hbl', hx'⟩ := RowsK.open HR.out.2.wi (show 0 < wins.length by omega)
          simp only [Value.slice.injEq] at hv hv'
          obtain ⟨rfl, -, rfl⟩ := hv
          obtain ⟨rfl, -, rfl⟩ := hv'
          have z0 := keepc HW1.out (hx j hlt 0 _ rfl)
          have t0 := keepc HW1.out (hx' j hlt 0 _ rfl)
          have z1 := keepc HW1.out (hx j hlt 1 _ rfl)
          have t1 := keepc HW1.out (hx' j hlt 1 _ rfl)
          have z2 := keepc HW1.out (hx j hlt 2 _ rfl)
          have t2 := keepc HW1.out (hx' j hlt 2 _ rfl)
          have z3 := keepc HW1.out (hx j hlt 3 _ rfl)
          have t3 := keepc HW1.out (hx' j hlt 3 _ rfl)
          have bl := Nat.lt_of_lt_of_le hbl HW1.out.size
          have bl' := Nat.lt_of_lt_of_le hbl' HW1.out.size
          rw [show off + j * 4 + 0 = off + j * 4 by omega] at z0
          rw [show off' + j * 4 + 0 = off' + j * 4 by omega] at t0
          clear hx hx' hbl hbl'
          generalize wins.getD j wi0 = e at *
          go_wp2_with fail
          go_quiet (fail)
          go_wp2_with fail
          go_roundw
          case rel => exact ⟨j + 1, by go_num, by omega, chid (cdrewN HW1.out _)⟩
          case measure => simp; omega
        · have hlt' : ¬ (j : Int) < (wins.length : Int) := by omega
          obtain rfl : j = wins.length := by omega
          go_wp2_with fail
          go_loopw [7] (fun i wr => ∃ (j : Nat), i = .int .i64 (j : Nat) ∧ j ≤ crons.length ∧ Hid (Below W.heap.size W wr)) (fun i _ => match i with | .int _ z => ((crons.length : Int) - z).toNat | _ => 0)
          case atStart => exact ⟨0, rfl, Nat.zero_le _, HW1⟩
          case round =>
            obtain ⟨j, rfl, hj, HW2⟩ := hrel
            have Y0 := HY.out.1.next HW2.out
            have Y1 := HY.out.2.next HW2.out
            have p0 := Y0.cell 8 _ rfl
            have p1 := Y1.cell 8 _ rfl
            have pl := Y0.lt
            have ql := Y1.lt
            have s0 := Y0.cell 11 _ rfl
            have s1 := Y1.cell 11 _ rfl
            clear Y0 Y1
            by_cases hlt : j < crons.length
            · have hlt' : (j : Int) < (crons.length : Int) := by omega
              have hwj : IntKind.i64.wrap ((j : Int) + 1) = (j : Int) + 1 := by rw [IntKind.wrap_i64]; omega
              obtain ⟨b, off, cap, hv, -, -, hbl, hx⟩ := RowsK.open HR.out.1.cr (show 0 < crons.length by omega)
              obtain ⟨b', off', cap', hv', -, -, hbl', hx'⟩ := RowsK.open HR.out.2.cr (show 0 < crons.length by omega)
              simp only [Value.slice.injEq] at hv hv'
              obtain ⟨rfl, -, rfl⟩ := hv
              obtain ⟨rfl, -, rfl⟩ := hv'
              have z0 := keepc HW2.out (hx j hlt 0 _ rfl)
              have t0 := keepc HW2.out (hx' j hlt 0 _ rfl)
              have z1 := keepc HW2.out (hx j hlt 1 _ rfl)
              have t1 := keepc HW2.out (hx' j hlt 1 _ rfl)
              have z2 := keepc HW2.out (hx j hlt 2 _ rfl)
              have t2 := keepc HW2.out (hx' j hlt 2 _ rfl)
              have z3 := keepc HW2.out (hx j hlt 3 _ rfl)
              have t3 := keepc HW2.out (hx' j hlt 3 _ rfl)
              have z4 := keepc HW2.out (hx j hlt 4 _ rfl)
              have t4 := keepc HW2.out (hx' j hlt 4 _ rfl)
              have bl := Nat.lt_of_lt_of_le hbl HW2.out.size
              have bl' := Nat.lt_of_lt_of_le hbl' HW2.out.size
              rw [show off + j * 5 + 0 = off + j * 5 by omega] at z0
              rw [show off' + j * 5 + 0 = off' + j * 5 by omega] at t0
              clear hx hx' hbl hbl'
              generalize crons.getD j cr0 = e at *
              go_wp2_with fail
              go_quiet (fail)
              go_wp2_with fail
              go_roundw
              case rel => exact ⟨j + 1, by go_num, by omega, chid (cdrewN HW2.out _)⟩
              case measure => simp; omega
            · have hlt' : ¬ (j : Int) < (crons.length : Int) := by omega
              obtain rfl : j = crons.length := by omega
              go_wp2_with fail
              go_loopw [8] (fun i wr => ∃ (j : Nat), i = .int .i64 (j : Nat) ∧ j ≤ C.length ∧ Hid (Below W.heap.size W wr)) (fun i _ => match i with | .int _ z => ((C.length : Int) - z).toNat | _ => 0)
              case atStart => exact ⟨0, rfl, Nat.zero_le _, HW2⟩
              case round =>
                obtain ⟨j, rfl, hj, HW3⟩ := hrel
                have Y0 := HY.out.1.next HW3.out
                have Y1 := HY.out.2.next HW3.out
                have p0 := Y0.cell 11 _ rfl
                have p1 := Y1.cell 11 _ rfl
                have pl := Y0.lt
                have ql := Y1.lt
                clear Y0 Y1
                by_cases hlt : j < C.length
                · have hlt' : (j : Int) < (C.length : Int) := by omega
                  have hwj : IntKind.i64.wrap ((j : Int) + 1) = (j : Int) + 1 := by rw [IntKind.wrap_i64]; omega
                  obtain ⟨b, off, cap, hv, -, -, hbl, hx⟩ := RowsK.open HR.out.1.c (show 0 < C.length by omega)
                  obtain ⟨b', off', cap', hv', -, -, hbl', hx'⟩ := RowsK.open HR.out.2.c (show 0 < C.length by omega)
                  simp only [Value.slice.injEq] at hv hv'
                  obtain ⟨rfl, -, rfl⟩ := hv
                  obtain ⟨rfl, -, rfl⟩ := hv'
                  have z0 := keepc HW3.out (hx j hlt 0 _ rfl)
                  have t0 := keepc HW3.out (hx' j hlt 0 _ rfl)
                  have z1 := keepc HW3.out (hx j hlt 1 _ rfl)
                  have t1 := keepc HW3.out (hx' j hlt 1 _ rfl)
                  have bl := Nat.lt_of_lt_of_le hbl HW3.out.size
                  have bl' := Nat.lt_of_lt_of_le hbl' HW3.out.size
                  rw [show off + j * 2 + 0 = off + j * 2 by omega] at z0
                  rw [show off' + j * 2 + 0 = off' + j * 2 by omega] at t0
                  clear hx hx' hbl hbl'
                  generalize C.getD j in0 = e at *
                  go_wp2_with fail
                  go_quiet (fail)
                  go_wp2_with fail
                  go_roundw
                  case rel => exact ⟨j + 1, by go_num, by omega, chid (cdrewN HW3.out _)⟩
                  case measure => simp; omega
                · have hlt' : ¬ (j : Int) < (C.length : Int) := by omega
                  obtain rfl : j = C.length := by omega
                  go_wp2_with fail
                  go_ret
                  exact ⟨rfl, cbelow_on HB.out HW3.out HB.out.size⟩
end Go.Proofs.YtigldebdljfnbaaGreatDoor
