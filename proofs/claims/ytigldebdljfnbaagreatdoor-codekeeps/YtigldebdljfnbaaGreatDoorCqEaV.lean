/- The law CodeKeeps walked. -/
import Derived.Test.YtigldebdljfnbaaGreatDoorCqEaU
import Derived.Deep.AppendLies
namespace Go.Proofs.YtigldebdljfnbaaGreatDoor
open Go.RowKit

def RwI (w : World) (lo hi : Nat) (e : TypeId) (k : Nat) (v : Value) (n : Nat) : Prop := ∃ xs, w.ownsRow lo e k v n xs ∧ ∀ g, v.ownBlock = some g → g < hi
theorem RwI.turn {w w' : World} {S : List Nat} {lo hi : Nat} {e : TypeId} {k n : Nat} {v : Value} (h : RwI w lo hi e k v n) (t : Turn S w w') (hS : ∀ g, v.ownBlock = some g → g ∉ S) : RwI w' lo hi e k v n := by
  obtain ⟨xs, h1, h2⟩ := h
  exact ⟨xs, own_of_keep h1 (fun b hb => t.block b (h1.lt b hb).2 (hS b hb)), h2⟩
theorem RwI.next {w w' : World} {lo hi : Nat} {e : TypeId} {k n : Nat} {v : Value} (h : RwI w lo hi e k v n) (b : Below w.heap.size w w') : RwI w' lo hi e k v n := h.turn (S := []) (Turn.of_below b) (fun _ _ hm => by cases hm)
theorem own_put' {w : World} {B size : Nat} {e : TypeId} {g n cap : Nat} {xs : List Value} (h : w.ownsRow B e size (.slice (some ⟨g, 0, none⟩) n cap) n xs) (k : Nat) (u : Value) :
    (w.setCell ⟨g, k, none⟩ u).ownsRow B e size (.slice (some ⟨g, 0, none⟩) n cap) n (xs.set k u) := by
  obtain ⟨h1, ⟨h2, _⟩ | ⟨g', cap', cur, h2, h3, h4, h5, h6, h7, h8⟩⟩ := h
  · cases h2
  · cases h2
    refine ⟨by simpa using h1, .inr ⟨g, cap, cur.setIfInBounds k u, rfl, h3, ?_, h5, h6, by simpa using h7, ?_⟩⟩
    · obtain ⟨hlt, hk⟩ := Array.getElem?_eq_some_iff.1 h4
      show (w.heap.modify g _)[g]? = _
      rw [Array.getElem?_eq_getElem (by rw [Array.size_modify]; exact hlt), Array.getElem_modify_self, hk]
      rfl
    · rw [Array.toList_setIfInBounds, List.take_set, h8]
theorem RwI.cell {w : World} {lo hi : Nat} {e : TypeId} {k n : Nat} {v : Value} (h : RwI w lo hi e k v n) (g j : Nat) (u : Value) : RwI (w.setCell ⟨g, j, none⟩ u) lo hi e k v n := by
  by_cases hg : v.ownBlock = some g
  · obtain ⟨xs, h1, h2⟩ := h
    obtain ⟨a, c, rfl⟩ := own_shape h1
    have hv : (Value.slice a n c) = .slice (some ⟨g, 0, none⟩) n c := by
      obtain ⟨-, ⟨h3, -⟩ | ⟨g', cap', cur, h3, -⟩⟩ := h1
      · rw [h3] at hg; cases hg
      · rw [h3] at hg
        cases hg
        cases h3
        rfl
    rw [hv] at h1 h2 ⊢
    exact ⟨_, own_put' h1 j u, h2⟩
  · exact h.turn (cturn_set w g j u) (fun b hb hm => hg (by rw [hb, List.mem_singleton.1 hm]))
structure KB (X : World) (Q : PgP) (B : PgV) (lo2 bb : Nat) (wr : World) : Prop where
  bel : Below X.heap.size X wr
  rows : PgAt wr lo2 Q B
  bx : Box wr bb (pgL Q B)
  xl : X.heap.size ≤ lo2
  lb : lo2 ≤ bb
theorem KB.turn {X : World} {Q : PgP} {B : PgV} {lo2 bb : Nat} {wr w' : World} {S : List Nat} (h : KB X Q B lo2 bb wr) (t : Turn S wr w') (hS : ∀ k, k ∈ S → X.heap.size ≤ k ∧ k < lo2) : KB X Q B lo2 bb w' := by
  have hlb := h.lb
  refine ⟨h.bel.trans (t.below (fun k hk => (hS k hk).1) h.bel.size), ⟨?_, ?_, ?_, ?_⟩, h.bx.turn t (fun hm => by have := hS _ hm; omega), h.xl, h.lb⟩
  · exact own_of_keep h.rows.k (fun b hb => t.block b (h.rows.k.lt b hb).2 (fun hm => by have := (h.rows.k.lt b hb).1; have := hS _ hm; omega))
  · exact own_of_keep h.rows.wi (fun b hb => t.block b (h.rows.wi.lt b hb).2 (fun hm => by have := (h.rows.wi.lt b hb).1; have := hS _ hm; omega))
  · exact own_of_keep h.rows.cr (fun b hb => t.block b (h.rows.cr.lt b hb).2 (fun hm => by have := (h.rows.cr.lt b hb).1; have := hS _ hm; omega))
  · exact own_of_keep h.rows.c (fun b hb => t.block b (h.rows.c.lt b hb).2 (fun hm => by have := (h.rows.c.lt b hb).1; have := hS _ hm; omega))
theorem KB.next {X : World} {Q : PgP} {B : PgV} {lo2 bb : Nat} {wr w' : World} (h : KB X Q B lo2 bb wr) (k : Below wr.heap.size wr w') : KB X Q B lo2 bb w' := h.turn (S := []) (Turn.of_below k) (fun _ hm => by cases hm)
structure KC (X : World) (Q : PgP) (A B : PgV) (lo lo2 ab bb : Nat) (wr : World) : Prop where
  kb : KB X Q B lo2 bb wr
  k : RwI wr lo ab 2 1 A.k Q.K.length
  wi : RwI wr lo ab 46 4 A.wi Q.wins.length
  cr : RwI wr lo ab 49 5 A.cr Q.crons.length
  c : RwI wr lo ab 44 2 A.c Q.C.length
  ax : Box wr ab (pgL Q A)
  ol : X.heap.size ≤ lo
  oa : lo ≤ ab
  ob : ab < lo2
theorem KC.cell {X : World} {Q : PgP} {A B : PgV} {lo lo2 ab bb : Nat} {wr : World} (h : KC X Q A B lo lo2 ab bb wr) {g : Nat} (h1 : lo ≤ g) (h2 : g < ab) (j : Nat) (u : Value) : KC X Q A B lo lo2 ab bb (wr.setCell ⟨g, j, none⟩ u) := by
  have ho := h.ob
  have hl := h.ol
  exact ⟨h.kb.turn (cturn_set wr g j u) (fun k hk => by rw [List.mem_singleton.1 hk]; omega), h.k.cell g j u, h.wi.cell g j u, h.cr.cell g j u, h.c.cell g j u, h.ax.turn (cturn_set wr g j u) (by simp; omega), h.ol, h.oa, h.ob⟩
theorem PgAt.next' {w w' : World} {lo : Nat} {g : PgP} {v : PgV} (h : PgAt w lo g v) (b : Below w.heap.size w w') : PgAt w' lo g v := h.keep (fun q _ hq => b.block q hq)
theorem Below.trans' {a b c : World} (h : Below a.heap.size a b) (k : Below b.heap.size b c) : Below a.heap.size a c := cbelow_on h k h.size
theorem RwI.at {w : World} {lo hi : Nat} {e : TypeId} {k n : Nat} {v : Value} (h : RwI w lo hi e k v n) (hn : 0 < n) : ∃ g cap, v = .slice (some ⟨g, 0, none⟩) n cap ∧ lo ≤ g ∧ g < hi ∧ g < w.heap.size ∧ ∀ j, j < n * k → (∃ u, w.cell? ⟨g, j, none⟩ = some u) ∧ w.frozen? ⟨g, j, none⟩ = false := by
  obtain ⟨xs, h1, h2⟩ := h
  obtain ⟨g, cap, rfl, h3, h4⟩ := h1.form hn
  refine ⟨g, cap, rfl, h3, h2 g rfl, h4, fun j hj => ⟨⟨xs[j]'(by have := h1.1; omega), ?_⟩, h1.frozenAt j⟩⟩
  rw [h1.cellAt j hj]
  exact List.getElem?_eq_getElem _
theorem emit_sizes {q : Co → Co → Bool} {p : PlP} {Q : PgP} {er : Int} (h : emitF q p = (Q, er)) : Q.C.length ≤ 16384 ∧ Q.K.length ≤ 16384 ∧ Q.wins.length ≤ 256 ∧ Q.crons.length ≤ 256 := by
  unfold emitF at h
  split at h
  · obtain rfl := (Prod.mk.inj h).1
    exact ⟨by decide, by decide, by decide, by decide⟩
  · rename_i hf
    split at h
    · obtain rfl := (Prod.mk.inj h).1
      exact ⟨by decide, by decide, by decide, by decide⟩
    · rename_i hl
      obtain rfl := (Prod.mk.inj h).1
      unfold largeB at hl
      simp only [Bool.or_eq_true, decide_eq_true_eq, not_or] at hl
      have hf' : formedP q p = true := by simpa using hf
      unfold formedP at hf'
      simp only [Bool.and_eq_true] at hf'
      have h0 := of_decide_eq_true hf'.1.1.1.1.1
      exact ⟨by omega, by omega, h0.2.1, h0.2.2.1⟩
theorem app_all {X : World} {Q : PgP} {B : PgV} {lo lo2 ab bb : Nat} {wr W1 w' : World} {L : List Value} {e : TypeId} {k n : Nat} {v : Value} {xs : List Value} (kb : KB X Q B lo2 bb wr) (ax : Box wr ab L) (ol : X.heap.size ≤ lo) (oa : lo ≤ ab) (ob : ab < lo2) (own : wr.ownsRow lo e k v n xs) (hb : ∀ g, v.ownBlock = some g → g < ab) (b1 : Below wr.heap.size wr W1) (hg : W1.grownBy w' v.ownBlock) (f : Nat) (hf : f < L.length) (u : Value) :
    Box w' ab L ∧ KB X Q B lo2 bb (w'.setCell ⟨ab, f, none⟩ u) ∧ Box (w'.setCell ⟨ab, f, none⟩ u) ab (L.set f u) ∧ ∀ e' k' v' n', e' ≠ e → RwI wr lo ab e' k' v' n' → RwI (w'.setCell ⟨ab, f, none⟩ u) lo ab e' k' v' n' := by
  have T1 : Turn (blk v) W1 w' := ⟨hg.os, hg.tape, hg.output, hg.size, fun k hk hn => hg.block k hk (fun e => hn (blk_mem.2 e.symm))⟩
  have hbl : ∀ g, g ∈ blk v → lo ≤ g ∧ g < ab := fun g hgm => ⟨(own.lt g (blk_mem.1 hgm)).1, hb g (blk_mem.1 hgm)⟩
  have bx := (ax.next b1).turn T1 (fun hm => by have := hbl _ hm; omega)
  have T2 := cturn_set w' ab f u
  refine ⟨bx, ((kb.next b1).turn T1 (fun g hgm => by have := hbl g hgm; omega)).turn T2 (fun g hgm => by rw [List.mem_singleton.1 hgm]; omega), bx.set f hf u, fun e' k' v' n' he h => ?_⟩
  refine RwI.cell ((h.next b1).turn T1 (fun g hg' hm => ?_)) ab f u
  obtain ⟨ys, h1, -⟩ := h.next b1
  obtain ⟨-, cur, h2⟩ := own_type h1 hg'
  obtain ⟨-, cur', h3⟩ := own_type (own_of_keep own (fun b hb' => b1.block b (own.lt b hb').2)) (blk_mem.1 hm)
  rw [h2] at h3
  exact he (by injection (Option.some.inj h3))
theorem info_Wi4 : (Tryz.prog.info? 46).map (fun i => (i.zero, i.size, i.bytes)) = some (some (.agg #[.int .i64 0, .int .i64 0, .int .i64 0, .int .i64 0]), 4, 32) := by kernel_rfl
theorem info_Wi4' : ∃ i, Tryz.prog.info? 46 = some i ∧ i.zero = some (.agg #[.int .i64 0, .int .i64 0, .int .i64 0, .int .i64 0]) ∧ i.size = 4 ∧ i.bytes = 32 := by
  have h := info_Wi4
  cases e : Tryz.prog.info? 46 with
  | none => rw [e] at h; cases h
  | some i =>
    rw [e] at h
    simp only [Option.map_some, Option.some.injEq, Prod.mk.injEq] at h
    exact ⟨i, rfl, h.1, h.2.1, h.2.2⟩
theorem news_c (w : World) (l : List Value) (t : TypeId) (n : Nat) (hn : n = w.heap.size) : ∀ j u, l[j]? = some u → (w.alloc (.cells l.toArray t)).cell? ((⟨n, 0, none⟩ : Addr).add j) = some u := fun j u hu => by
  subst hn
  have hadd : (⟨w.heap.size, 0, none⟩ : Addr).add j = ⟨w.heap.size, j, none⟩ := by unfold Addr.add; split <;> simp_all
  rw [hadd]
  exact (Box.new w l t).cell j u hu
theorem ints_one (l : List Int) : ∀ u, u ∈ l.map (fun x => Value.int .i64 x) → u.oneCell' = true := fun u hu => by
  obtain ⟨x, -, rfl⟩ := List.mem_map.1 hu
  rfl
set_option maxHeartbeats 16000000 in
set_option maxRecDepth 20000 in
theorem codeKeeps_c (HEm : EmitC) (p : PlP) (v : PlV) (w : World) (hs : PlAt w p v) (hp : PWt p) (hF : FldAt w) (hP : PoAt w w.heap.size) (hm : p.wins.length * 32 ≤ 140737488355328 ∧ p.crons.length * 40 ≤ 140737488355328 ∧ C64 p.mets.length) :
    Calls Tryz.prog 4 #[plV p v] w fun r w' => r = .returned (.bool true) ∧ Below w.heap.size w w' := by
  classical
  obtain ⟨q, hq⟩ : ∃ q : Co → Co → Bool, ∀ a b, q a b = true ↔ a = b := ⟨fun a b => decide (a = b), fun a b => by simp⟩
  have hPW : ∀ W, Below w.heap.size w W → PoAt W W.heap.size := fun W hW => ⟨Nat.lt_of_lt_of_le hP.lt hW.size, Nat.lt_of_lt_of_le hP.lw hW.size, (hP.next hW).at'⟩
  have HAw := chid (fun W (hW : Below w.heap.size w W) => awake21_c HEm W (hF.later hW) (hPW W hW))
  have HFw := chid (fun W (hW : Below w.heap.size w W) => few21_c p v W (hs.next hW) hp.gs)
  have HPl := chid (fun W (hW : Below w.heap.size w W) => HEm q hq p v W (hs.next hW) (hF.later hW) (hPW W hW) hm.1 hm.2.1 hm.2.2)
  have HRm := chid (fun W (hW : Below w.heap.size w W) => remit_all q hq p v W (hs.next hW) hp.gs hm.2.2)
  have HSz := chid (And.intro hm.1 hm.2.1)
  obtain ⟨a1, c1, a2, c2, a3, c3, a4, c4, a5, c5, rfl, g1, g2, g3, g4⟩ := hs.shapes
  have B0 := chid (bel_alloc w (.cells (plL p ⟨.slice a1 p.mets.length c1, .slice a2 p.wins.length c2, .slice a3 p.crons.length c3, .slice a4 p.gs.length c4, .slice a5 p.fin.parts.length c5⟩).toArray 32))
  have HY0 := chid (Box.new w (plL p ⟨.slice a1 p.mets.length c1, .slice a2 p.wins.length c2, .slice a3 p.crons.length c3, .slice a4 p.gs.length c4, .slice a5 p.fin.parts.length c5⟩) 32)
  clear hs hF hp hP hm hq g1 g2 g3 g4 hPW HEm
  unfold RemitC at HRm
  obtain ⟨Q, er, hR⟩ : ∃ Q er, Hid (emitF q p = (Q, er)) := ⟨_, _, rfl⟩
  rw [hR.out] at HPl HRm
  dsimp only at HPl HRm
  have HQs := chid (emit_sizes hR.out)
  go_enter Tryz.func4, Tryz.ntmps4
  go_wp2_with fail
  refine Calls.mono (HAw.out _ B0.out) ?_
  rintro e w1 ⟨rfl, b1⟩
  have B1 := chid (cbelow_on B0.out b1 B0.out.size)
  replace HY0 := chid (HY0.out.next b1)
  clear b1 B0
  have x0 := HY0.out.cell 0 _ rfl
  have x1 := HY0.out.cell 1 _ rfl
  have x2 := HY0.out.cell 2 _ rfl
  have x3 := HY0.out.cell 3 _ rfl
  have x4 := HY0.out.cell 4 _ rfl
  have x5 := HY0.out.cell 5 _ rfl
  have x6 := HY0.out.cell 6 _ rfl
  have x7 := HY0.out.cell 7 _ rfl
  have x8 := HY0.out.cell 8 _ rfl
  have x9 := HY0.out.cell 9 _ rfl
  have x10 := HY0.out.cell 10 _ rfl
  have x11 := HY0.out.cell 11 _ rfl
  have x12 := HY0.out.cell 12 _ rfl
  have x13 := HY0.out.cell 13 _ rfl
  have xl := HY0.out.lt
  go_wp2_with fail
  refine Calls.mono (HFw.out _ B1.out) ?_
  rintro e w2 ⟨rfl, b2⟩
  have B2 := chid (cbelow_on B1.out b2 B1.out.size)
  replace HY0 := chid (HY0.out.next b2)
  clear b2 B1 x0 x1 x2 x3 x4 x5 x6 x7 x8 x9 x10 x11 x12 x13 xl HFw
  cases hfw : fewL p with
  | false =>
    go_wp2_with fail
    refine Calls.mono (HAw.out _ B2.out) ?_
    rintro e w3 ⟨rfl, b3⟩
    have B3 := chid (cbelow_on B2.out b3 B2.out.size)
    clear b3
    go_wp2_with fail
    go_ret
    exact ⟨rfl, B3.out⟩
  | true =>
    clear HAw hfw
    have x0 := HY0.out.cell 0 _ rfl
    have x1 := HY0.out.cell 1 _ rfl
    have x2 := HY0.out.cell 2 _ rfl
    have x3 := HY0.out.cell 3 _ rfl
    have x4 := HY0.out.cell 4 _ rfl
    have x5 := HY0.out.cell 5 _ rfl
    have x6 := HY0.out.cell 6 _ rfl
    have x7 := HY0.out.cell 7 _ rfl
    have x8 := HY0.out.cell 8 _ rfl
    have x9 := HY0.out.cell 9 _ rfl
    have x10 := HY0.out.cell 10 _ rfl
    have x11 := HY0.out.cell 11 _ rfl
    have x12 := HY0.out.cell 12 _ rfl
    have x13 := HY0.out.cell 13 _ rfl
    have xl := HY0.out.lt
    go_wp2_with fail
    refine Calls.mono (HRm.out _ B2.out) ?_
    rintro r w3 ⟨u, rfl, ru, b3⟩
    obtain ⟨wk, dk, e1, -, -⟩ := RowsK.shape ru.k
    obtain ⟨ww, dw, e2, -, -⟩ := RowsK.shape ru.wi
    obtain ⟨wr', dr, e3, -, -⟩ := RowsK.shape ru.cr
    obtain ⟨wc, dc, e4, -, -⟩ := RowsK.shape ru.c
    obtain ⟨vk, vw, vr, vc⟩ := u
    simp only at e1 e2 e3 e4
    subst e1 e2 e3 e4
    have B3 := chid (cbelow_on B2.out b3 B2.out.size)
    have HRu := chid ru
    replace HY0 := chid (HY0.out.next b3)
    clear b3 ru x0 x1 x2 x3 x4 x5 x6 x7 x8 x9 x10 x11 x12 x13 xl HRm B2
    have x0 := HY0.out.cell 0 _ rfl
    have x1 := HY0.out.cell 1 _ rfl
    have x2 := HY0.out.cell 2 _ rfl
    have x3 := HY0.out.cell 3 _ rfl
    have x4 := HY0.out.cell 4 _ rfl
    have x5 := HY0.out.cell 5 _ rfl
    have x6 := HY0.out.cell 6 _ rfl
    have x7 := HY0.out.cell 7 _ rfl
    have x8 := HY0.out.cell 8 _ rfl
    have x9 := HY0.out.cell 9 _ rfl
    have x10 := HY0.out.cell 10 _ rfl
    have x11 := HY0.out.cell 11 _ rfl
    have x12 := HY0.out.cell 12 _ rfl
    have x13 := HY0.out.cell 13 _ rfl
    have xl := HY0.out.lt
    go_wp2_with fail
    have Bn := chid (bel_alloc w3 (.cells (pgL Q ⟨.slice wk Q.K.length dk, .slice ww Q.wins.length dw, .slice wr' Q.crons.length dr, .slice wc Q.C.length dc⟩).toArray 38))
    have BX := chid (Box.new w3 (pgL Q ⟨.slice wk Q.K.length dk, .slice ww Q.wins.length dw, .slice wr' Q.crons.length dr, .slice wc Q.C.length dc⟩) 38)
    obtain ⟨wb, hwb⟩ : ∃ b, Hid (b = w3.heap.size) := ⟨_, chid rfl⟩
    rw [← hwb.out] at BX ⊢
    generalize hX : (w3.alloc _) = X0 at *
    clear hX
    have BX0 := BX
    have HRX := chid (HRu.out.next Bn.out)
    have B4 := chid (cbelow_on B3.out Bn.out B3.out.size)
    replace HY0 := chid (HY0.out.next Bn.out)
    have HYX := HY0
    clear BX HRu Bn B3 x0 x1 x2 x3 x4 x5 x6 x7 x8 x9 x10 x11 x12 x13 xl
    refine Calls.mono (HPl.out X0 B4.out) ?_
    rintro r w4 ⟨u, rfl, pu, b4⟩
    obtain ⟨ak, fk, e1⟩ := own_shape pu.k
    obtain ⟨aw, fw, e2⟩ := own_shape pu.wi
    obtain ⟨ar, fr, e3⟩ := own_shape pu.cr
    obtain ⟨ac, fc, e4⟩ := own_shape pu.c
    obtain ⟨vk, vw, vr, vc⟩ := u
    simp only at e1 e2 e3 e4
    subst e1 e2 e3 e4
    have B5 := chid (cbelow_on B4.out b4 B4.out.size)
    have BXo : Hid (X0.heap.size ≤ w4.heap.size) := chid b4.size
    have BXr : Hid (Below X0.heap.size X0 w4) := chid b4
    have HPa := chid pu
    replace HY0 := chid (HY0.out.next b4)
    clear pu b4
    have x0 := HY0.out.cell 0 _ rfl
    have x1 := HY0.out.cell 1 _ rfl
    have x2 := HY0.out.cell 2 _ rfl
    have x3 := HY0.out.cell 3 _ rfl
    have x4 := HY0.out.cell 4 _ rfl
    have x5 := HY0.out.cell 5 _ rfl
    have x6 := HY0.out.cell 6 _ rfl
    have x7 := HY0.out.cell 7 _ rfl
    have x8 := HY0.out.cell 8 _ rfl
    have x9 := HY0.out.cell 9 _ rfl
    have x10 := HY0.out.cell 10 _ rfl
    have x11 := HY0.out.cell 11 _ rfl
    have x12 := HY0.out.cell 12 _ rfl
    have x13 := HY0.out.cell 13 _ rfl
    have xl := HY0.out.lt
    go_wp2_with fail
    have Bn := chid (bel_alloc w4 (.cells (pgL Q ⟨.slice ak Q.K.length fk, .slice aw Q.wins.length fw, .slice ar Q.crons.length fr, .slice ac Q.C.length fc⟩).toArray 38))
    have BX := chid (Box.new w4 (pgL Q ⟨.slice ak Q.K.length fk, .slice aw Q.wins.length fw, .slice ar Q.crons.length fr, .slice ac Q.C.length fc⟩) 38)
    obtain ⟨ab, hab⟩ : ∃ b, Hid (b = w4.heap.size) := ⟨_, chid rfl⟩
    rw [← hab.out] at BX ⊢
    have hsX : Hid ((w4.alloc (.cells (pgL Q ⟨.slice ak Q.K.length fk, .slice aw Q.wins.length fw, .slice ar Q.crons.length fr, .slice ac Q.C.length fc⟩).toArray 38)).heap.size = ab + 1) := chid (by rw [hab.out]; simp)
    generalize hX : (w4.alloc _) = X1 at *
    clear hX
    have BA1 := BX
    have s1 : Hid (X1.heap.size = ab + 1) := hsX
    have B6 := chid (cbelow_on B5.out Bn.out B5.out.size)
    replace BXr := chid (cbelow_on BXr.out Bn.out BXr.out.size)
    have HA1 : Hid (RwI X1 X0.heap.size ab 2 1 (.slice ak Q.K.length fk) Q.K.length ∧ RwI X1 X0.heap.size ab 46 4 (.slice aw Q.wins.length fw) Q.wins.length ∧ RwI X1 X0.heap.size ab 49 5 (.slice ar Q.crons.length fr) Q.crons.length ∧ RwI X1 X0.heap.size ab 44 2 (.slice ac Q.C.length fc) Q.C.length) := chid (by
      have h := HPa.out
      rw [hab.out]
      exact ⟨RwI.next ⟨_, h.k, fun g hg => (h.k.lt g hg).2⟩ Bn.out, RwI.next ⟨_, h.wi, fun g hg => (h.wi.lt g hg).2⟩ Bn.out, RwI.next ⟨_, h.cr, fun g hg => (h.cr.lt g hg).2⟩ Bn.out, RwI.next ⟨_, h.c, fun g hg => (h.c.lt g hg).2⟩ Bn.out⟩)
    replace HY0 := chid (HY0.out.next Bn.out)
    have hoa : Hid (X0.heap.size ≤ ab) := chid (by rw [hab.out]; exact BXo.out)
    clear BX Bn HPa B5 x0 x1 x2 x3 x4 x5 x6 x7 x8 x9 x10 x11 x12 x13 xl
    refine Calls.mono (HPl.out X1 B6.out) ?_
    rintro r w5 ⟨u, rfl, pu, b5⟩
    obtain ⟨bk, hk, e1⟩ := own_shape pu.k
    obtain ⟨bw, hw, e2⟩ := own_shape pu.wi
    obtain ⟨br, hr, e3⟩ := own_shape pu.cr
    obtain ⟨bc, hc, e4⟩ := own_shape pu.c
    obtain ⟨vk, vw, vr, vc⟩ := u
    simp only at e1 e2 e3 e4
    subst e1 e2 e3 e4
    have B7 := chid (cbelow_on B6.out b5 B6.out.size)
    have b5' := chid b5
    have HPb := chid pu
    clear pu b5
    go_wp2_with fail
    have Bn := chid (bel_alloc w5 (.cells (pgL Q ⟨.slice bk Q.K.length hk, .slice bw Q.wins.length hw, .slice br Q.crons.length hr, .slice bc Q.C.length hc⟩).toArray 38))
    have BX := chid (Box.new w5 (pgL Q ⟨.slice bk Q.K.length hk, .slice bw Q.wins.length hw, .slice br Q.crons.length hr, .slice bc Q.C.length hc⟩) 38)
    obtain ⟨bb, hbb⟩ : ∃ b, Hid (b = w5.heap.size) := ⟨_, chid rfl⟩
    rw [← hbb.out] at BX ⊢
    generalize hX : (w5.alloc _) = X2 at *
    clear hX
    have HK0 : Hid ((KC X0 Q ⟨.slice ak Q.K.length fk, .slice aw Q.wins.length fw, .slice ar Q.crons.length fr, .slice ac Q.C.length fc⟩ ⟨.slice bk Q.K.length hk, .slice bw Q.wins.length hw, .slice br Q.crons.length hr, .slice bc Q.C.length hc⟩ X0.heap.size X1.heap.size ab bb) X2) := chid ⟨⟨cbelow_on BXr.out (Below.trans' b5'.out Bn.out) BXr.out.size, PgAt.next' HPb.out Bn.out, BX, by have := hoa.out; have := s1.out; omega, by rw [hbb.out]; exact b5'.out.size⟩, (HA1.out.1.next b5'.out).next Bn.out, (HA1.out.2.1.next b5'.out).next Bn.out, (HA1.out.2.2.1.next b5'.out).next Bn.out, (HA1.out.2.2.2.next b5'.out).next Bn.out, (BA1.next b5'.out).next Bn.out, Nat.le_refl _, hoa.out, by rw [s1.out]; omega⟩
    have hQ1 : Q.C.length ≤ 16384 := HQs.out.1
    have hQ2 : Q.K.length ≤ 16384 := HQs.out.2.1
    have hQ3 : Q.wins.length ≤ 256 := HQs.out.2.2.1
    have hQ4 : Q.crons.length ≤ 256 := HQs.out.2.2.2
    clear BX Bn BA1 HA1 HPb b5' BXr B6 B7 HY0
    go_loopw [9] (fun i wr => ∃ (j : Nat), i = .int .i64 (j : Nat) ∧ j ≤ Q.C.length ∧ Hid ((KC X0 Q ⟨.slice ak Q.K.length fk, .slice aw Q.wins.length fw, .slice ar Q.crons.length fr, .slice ac Q.C.length fc⟩ ⟨.slice bk Q.K.length hk, .slice bw Q.wins.length hw, .slice br Q.crons.length hr, .slice bc Q.C.length hc⟩ X0.heap.size X1.heap.size ab bb) wr)) (fun i _ => match i with | .int _ z => ((Q.C.length : Int) - z).toNat | _ => 0)
    case atStart => exact ⟨0, rfl, Nat.zero_le _, HK0⟩
    case round =>
      obtain ⟨j, rfl, hj, HK1⟩ := hrel
      have x11 := HK1.out.ax.cell 11 _ rfl
      have xl := HK1.out.ax.lt
      by_cases hlt : j < Q.C.length
      · have hlt' : (j : Int) < (Q.C.length : Int) := by omega
        have hwj : IntKind.i64.wrap ((j : Int) + 1) = (j : Int) + 1 := by rw [IntKind.wrap_i64]; omega
        obtain ⟨g, cap, hv, h1, h2, h3, h4⟩ := HK1.out.c.at (by omega)
        simp only [Value.slice.injEq] at hv
        obtain ⟨rfl, -, rfl⟩ := hv
        obtain ⟨⟨u0, y0⟩, f0⟩ := h4 (j * 2) (by omega)
        obtain ⟨⟨u1, y1⟩, f1⟩ := h4 (j * 2 + 1) (by omega)
        clear h4
        have HG := chid (And.intro h1 h2)
        have hja : ((j : Int)).toNat = j := by omega
        go_wp2_with fail
        go_roundw
        case rel => exact ⟨j + 1, by go_num, by omega, chid ((HK1.out.cell HG.out.1 HG.out.2 _ _).cell HG.out.1 HG.out.2 _ _)⟩
        case measure => simp; omega
      · have hlt' : ¬ (j : Int) < (Q.C.length : Int) := by omega
        go_wp2_with fail
        clear x11 xl
        go_loopw [10] (fun i wr => ∃ (j : Nat), i = .int .i64 (j : Nat) ∧ j ≤ Q.K.length ∧ Hid ((KC X0 Q ⟨.slice ak Q.K.length fk, .slice aw Q.wins.length fw, .slice ar Q.crons.length fr, .slice ac Q.C.length fc⟩ ⟨.slice bk Q.K.length hk, .slice bw Q.wins.length hw, .slice br Q.crons.length hr, .slice bc Q.C.length hc⟩ X0.heap.size X1.heap.size ab bb) wr)) (fun i _ => match i with | .int _ z => ((Q.K.length : Int) - z).toNat | _ => 0)
        case atStart => exact ⟨0, rfl, Nat.zero_le _, HK1⟩
        case round =>
          obtain ⟨j, rfl, hj, HK2⟩ := hrel
          have x11 := HK2.out.ax.cell 6 _ rfl
          have xl := HK2.out.ax.lt
          by_cases hlt : j < Q.K.length
          · have hlt' : (j : Int) < (Q.K.length : Int) := by omega
            have hwj : IntKind.i64.wrap ((j : Int) + 1) = (j : Int) + 1 := by rw [IntKind.wrap_i64]; omega
            obtain ⟨g, cap, hv, h1, h2, h3, h4⟩ := HK2.out.k.at (by omega)
            simp only [Value.slice.injEq] at hv
            obtain ⟨rfl, -, rfl⟩ := hv
            obtain ⟨⟨u0, y0⟩, f0⟩ := h4 (j) (by omega)
            clear h4
            have HG := chid (And.intro h1 h2)
            have hja : ((j : Int)).toNat = j := by omega
            go_wp2_with fail
            go_roundw
            case rel => exact ⟨j + 1, by go_num, by omega, chid (HK2.out.cell HG.out.1 HG.out.2 _ _)⟩
            case measure => simp; omega
          · have hlt' : ¬ (j : Int) < (Q.K.length : Int) := by omega
            go_wp2_with fail
            clear x11 xl
            go_loopw [11] (fun i wr => ∃ (j : Nat), i = .int .i64 (j : Nat) ∧ j ≤ Q.wins.length ∧ Hid ((KC X0 Q ⟨.slice ak Q.K.length fk, .slice aw Q.wins.length fw, .slice ar Q.crons.length fr, .slice ac Q.C.length fc⟩ ⟨.slice bk Q.K.length hk, .slice bw Q.wins.length hw, .slice br Q.crons.length hr, .slice bc Q.C.length hc⟩ X0.heap.size X1.heap.size ab bb) wr)) (fun i _ => match i with | .int _ z => ((Q.wins.length : Int) - z).toNat | _ => 0)
            case atStart => exact ⟨0, rfl, Nat.zero_le _, HK2⟩
            case round =>
              obtain ⟨j, rfl, hj, HK3⟩ := hrel
              have x11 := HK3.out.ax.cell 7 _ rfl
              have xl := HK3.out.ax.lt
              by_cases hlt : j < Q.wins.length
              · have hlt' : (j : Int) < (Q.wins.length : Int) := by omega
                have hwj : IntKind.i64.wrap ((j : Int) + 1) = (j : Int) + 1 := by rw [IntKind.wrap_i64]; omega
                obtain ⟨g, cap, hv, h1, h2, h3, h4⟩ := HK3.out.wi.at (by omega)
                simp only [Value.slice.injEq] at hv
                obtain ⟨rfl, -, rfl⟩ := hv
                obtain ⟨⟨u0, y0⟩, f0⟩ := h4 (j * 4) (by omega)
                obtain ⟨⟨u1, y1⟩, f1⟩ := h4 (j * 4 + 1) (by omega)
                obtain ⟨⟨u2, y2⟩, f2⟩ := h4 (j * 4 + 2) (by omega)
                obtain ⟨⟨u3, y3⟩, f3⟩ := h4 (j * 4 + 3) (by omega)
                clear h4
                have HG := chid (And.intro h1 h2)
                have hja : ((j : Int)).toNat = j := by omega
                go_wp2_with fail
                go_roundw
                case rel => exact ⟨j + 1, by go_num, by omega, chid ((((HK3.out.cell HG.out.1 HG.out.2 _ _).cell HG.out.1 HG.out.2 _ _).cell HG.out.1 HG.out.2 _ _).cell HG.out.1 HG.out.2 _ _)⟩
                case measure => simp; omega
              · have hlt' : ¬ (j : Int) < (Q.wins.length : Int) := by omega
                go_wp2_with fail
                clear x11 xl
                go_loopw [12] (fun i wr => ∃ (j : Nat), i = .int .i64 (j : Nat) ∧ j ≤ Q.crons.length ∧ Hid ((KC X0 Q ⟨.slice ak Q.K.length fk, .slice aw Q.wins.length fw, .slice ar Q.crons.length fr, .slice ac Q.C.length fc⟩ ⟨.slice bk Q.K.length hk, .slice bw Q.wins.length hw, .slice br Q.crons.length hr, .slice bc Q.C.length hc⟩ X0.heap.size X1.heap.size ab bb) wr)) (fun i _ => match i with | .int _ z => ((Q.crons.length : Int) - z).toNat | _ => 0)
                case atStart => exact ⟨0, rfl, Nat.zero_le _, HK3⟩
                case round =>
                  obtain ⟨j, rfl, hj, HK4⟩ := hrel
                  have x11 := HK4.out.ax.cell 8 _ rfl
                  have xl := HK4.out.ax.lt
                  by_cases hlt : j < Q.crons.length
                  · have hlt' : (j : Int) < (Q.crons.length : Int) := by omega
                    have hwj : IntKind.i64.wrap ((j : Int) + 1) = (j : Int) + 1 := by rw [IntKind.wrap_i64]; omega
                    obtain ⟨g, cap, hv, h1, h2, h3, h4⟩ := HK4.out.cr.at (by omega)
                    simp only [Value.slice.injEq] at hv
                    obtain ⟨rfl, -, rfl⟩ := hv
                    obtain ⟨⟨u0, y0⟩, f0⟩ := h4 (j * 5) (by omega)
                    obtain ⟨⟨u1, y1⟩, f1⟩ := h4 (j * 5 + 1) (by omega)
                    obtain ⟨⟨u2, y2⟩, f2⟩ := h4 (j * 5 + 2) (by omega)
                    obtain ⟨⟨u3, y3⟩, f3⟩ := h4 (j * 5 + 3) (by omega)
                    obtain ⟨⟨u4, y4⟩, f4⟩ := h4 (j * 5 + 4) (by omega)
                    clear h4
                    have HG := chid (And.intro h1 h2)
                    have hja : ((j : Int)).toNat = j := by omega
                    go_wp2_with fail
                    go_roundw
                    case rel => exact ⟨j + 1, by go_num, by omega, chid (((((HK4.out.cell HG.out.1 HG.out.2 _ _).cell HG.out.1 HG.out.2 _ _).cell HG.out.1 HG.out.2 _ _).cell HG.out.1 HG.out.2 _ _).cell HG.out.1 HG.out.2 _ _)⟩
                    case measure => simp; omega
                  · have hlt' : ¬ (j : Int) < (Q.crons.length : Int) := by omega
                    have x11 := HK4.out.ax.cell 11 _ rfl
                    have xl := HK4.out.ax.lt
                    obtain ⟨xc, hc1, hc2⟩ := HK4.out.c
                    obtain ⟨ii, ii1, ii2, ii3, ii4⟩ := info_in'
                    obtain ⟨ik, ik1, ik2, ik3, ik4⟩ := info_i6'
                    obtain ⟨iw, iw1, iw2, iw3, iw4⟩ := info_Wi4'
                    have HC1 := chid (And.intro hc1 hc2)
                    clear hc1 hc2
                    go_wp2_with (first | (at_builtin; refine wpList_append_lies _ rfl _ _ 36 rfl X0.heap.size 44 ii (.agg #[.int .i64 0, .int .i64 0]) 2 16 Tryz.underlying36 ii1 ii2 ii3 ii4 rfl (by decide) (.slice ac Q.C.length fc) Q.C.length xc rfl (pcrow_next HC1.out.1 (ebel _ _)) ⟨wr.heap.size, 0, none⟩ 1 1 [.int .i64 98, .int .i64 0] rfl rfl (news_c wr _ _ _ rfl) (ints_one [98, 0]) (by decide) (by unfold maxLen; omega) (by omega) (Nat.le_trans HK4.out.kb.bel.size (ebel _ _).size) _ rfl ?_; intro g6 e6 w6 o6 k6 a6 l6; have q6 := app_all HK4.out.kb HK4.out.ax HK4.out.ol HK4.out.oa HK4.out.ob HC1.out.1 HC1.out.2 (ebel wr _) k6 11 (by simp) (.slice (some ⟨g6, 0, none⟩) (Q.C.length + 1) e6); have b6 := q6.1; have e6' := b6.free 11 (by simp); have f6 := b6.cell 11 _ rfl; have m6 := b6.lt; have z6 := q6.2.2.1.cell 6 _ rfl; have zl := q6.2.2.1.lt; have Q6 := chid q6.2; obtain ⟨xk, hk1, hk2⟩ := q6.2.2.2 _ _ _ _ (by decide) HK4.out.k; have HC2 := chid (And.intro hk1 hk2); have HW2 := chid (q6.2.2.2 _ _ _ _ (by decide) HK4.out.wi); clear o6 k6 a6 l6 q6 b6 hk1 hk2) | (at_builtin; refine wpList_append_lies _ rfl _ _ 35 rfl X0.heap.size 2 ik (.int .i64 0) 1 8 Tryz.underlying35 ik1 ik2 ik3 ik4 rfl (by decide) (.slice ak Q.K.length fk) Q.K.length xk rfl (pcrow_next HC2.out.1 (ebel _ _)) ⟨w6.heap.size, 0, none⟩ 1 1 [.int .i64 98] rfl rfl (news_c _ [.int .i64 98] _ _ (by simp)) (ints_one [98]) (by decide) (by unfold maxLen; omega) (by omega) (Nat.le_trans Q6.out.1.bel.size (ebel _ _).size) _ rfl ?_; intro g7 e7 w7 o7 k7 a7 l7; have q7 := app_all Q6.out.1 Q6.out.2.1 HK4.out.ol HK4.out.oa HK4.out.ob HC2.out.1 HC2.out.2 (ebel _ _) k7 6 (by simp) (.slice (some ⟨g7, 0, none⟩) (Q.K.length + 1) e7); have b7 := q7.1; have e7' := b7.free 6 (by simp); have f7 := b7.cell 6 _ rfl; have m7 := b7.lt; have y7 := q7.2.2.1.cell 7 _ rfl; have yl := q7.2.2.1.lt; have Q7 := chid q7.2; obtain ⟨xw, hw1, hw2⟩ := q7.2.2.2 _ _ _ _ (by decide) HW2.out; have HC3 := chid (And.intro hw1 hw2); clear o7 k7 a7 l7 q7 b7 hw1 hw2) | (at_builtin; refine wpList_append_lies _ rfl _ _ 25 rfl X0.heap.size 46 iw (.agg #[.int .i64 0, .int .i64 0, .int .i64 0, .int .i64 0]) 4 32 Tryz.underlying25 iw1 iw2 iw3 iw4 rfl (by decide) (.slice aw Q.wins.length fw) Q.wins.length xw rfl (pcrow_next HC3.out.1 (ebel _ _)) ⟨w7.heap.size, 0, none⟩ 1 1 [.int .i64 0, .int .i64 98, .int .i64 0, .int .i64 0] rfl rfl (news_c _ [.int .i64 0, .int .i64 98, .int .i64 0, .int .i64 0] _ _ (by simp)) (ints_one [0, 98, 0, 0]) (by decide) (by unfold maxLen; omega) (by omega) (Nat.le_trans Q7.out.1.bel.size (ebel _ _).size) _ rfl ?_; intro g8 e8 w8 o8 k8 a8 l8; have q8 := app_all Q7.out.1 Q7.out.2.1 HK4.out.ol HK4.out.oa HK4.out.ob HC3.out.1 HC3.out.2 (ebel _ _) k8 7 (by simp) (.slice (some ⟨g8, 0, none⟩) (Q.wins.length + 1) e8); have b8 := q8.1; have e8' := b8.free 7 (by simp); have f8 := b8.cell 7 _ rfl; have m8 := b8.lt; have Q8 := chid q8.2.1; have HYv := HYX.out.next q8.2.1.bel; have v0 := HYv.cell 0 _ rfl; have v1 := HYv.cell 1 _ rfl; have v2 := HYv.cell 2 _ rfl; have v3 := HYv.cell 3 _ rfl; have v4 := HYv.cell 4 _ rfl; have v5 := HYv.cell 5 _ rfl; have v6 := HYv.cell 6 _ rfl; have v7 := HYv.cell 7 _ rfl; have v8 := HYv.cell 8 _ rfl; have v9 := HYv.cell 9 _ rfl; have v10 := HYv.cell 10 _ rfl; have v11 := HYv.cell 11 _ rfl; have v12 := HYv.cell 12 _ rfl; have v13 := HYv.cell 13 _ rfl; have vl := HYv.lt; clear o8 k8 a8 l8 q8 b8 HYv))
                    have B8 := chid (cbelow_on B4.out Q8.out.bel B4.out.size)
                    have H3W := chid (HRX.out.next Q8.out.bel)
                    have H3B := chid (BX0.next Q8.out.bel)
                    generalize hV3 : (w8.setCell _ _) = V3 at *
                    clear hV3 e6' f6 m6 z6 zl e7' f7 m7 y7 yl e8' f8 m8 x11 xl Q6 Q7 HC1 HC2 HC3 HW2 HK4
                    refine Calls.mono (HPl.out V3 B8.out) ?_
                    rintro r w9 ⟨u, rfl, pu, b9⟩
                    obtain ⟨ck, lk, e1, -, -⟩ := RowsK.shape pu.rd.k
                    obtain ⟨cw, lw, e2, -, -⟩ := RowsK.shape pu.rd.wi
                    obtain ⟨cr, lr, e3, -, -⟩ := RowsK.shape pu.rd.cr
                    obtain ⟨cc, lc, e4, -, -⟩ := RowsK.shape pu.rd.c
                    obtain ⟨vk, vw, vr, vc⟩ := u
                    simp only at e1 e2 e3 e4
                    subst e1 e2 e3 e4
                    have B9 := chid (cbelow_on B8.out b9 B8.out.size)
                    have HPc := chid pu.rd
                    have HKB := chid (Q8.out.next b9)
                    replace H3W := chid (H3W.out.next b9)
                    replace H3B := chid (H3B.out.next b9)
                    clear pu b9 v0 v1 v2 v3 v4 v5 v6 v7 v8 v9 v10 v11 v12 v13 vl Q8
                    have yb0 := HKB.out.bx.cell 0 _ rfl
                    have yb1 := HKB.out.bx.cell 1 _ rfl
                    have yb2 := HKB.out.bx.cell 2 _ rfl
                    have yb3 := HKB.out.bx.cell 3 _ rfl
                    have yb4 := HKB.out.bx.cell 4 _ rfl
                    have yb5 := HKB.out.bx.cell 5 _ rfl
                    have yb6 := HKB.out.bx.cell 6 _ rfl
                    have yb7 := HKB.out.bx.cell 7 _ rfl
                    have yb8 := HKB.out.bx.cell 8 _ rfl
                    have yb9 := HKB.out.bx.cell 9 _ rfl
                    have yb10 := HKB.out.bx.cell 10 _ rfl
                    have yb11 := HKB.out.bx.cell 11 _ rfl
                    have ybl := HKB.out.bx.lt
                    have zw0 := H3B.out.cell 0 _ rfl
                    have zw1 := H3B.out.cell 1 _ rfl
                    have zw2 := H3B.out.cell 2 _ rfl
                    have zw3 := H3B.out.cell 3 _ rfl
                    have zw4 := H3B.out.cell 4 _ rfl
                    have zw5 := H3B.out.cell 5 _ rfl
                    have zw6 := H3B.out.cell 6 _ rfl
                    have zw7 := H3B.out.cell 7 _ rfl
                    have zw8 := H3B.out.cell 8 _ rfl
                    have zw9 := H3B.out.cell 9 _ rfl
                    have zw10 := H3B.out.cell 10 _ rfl
                    have zw11 := H3B.out.cell 11 _ rfl
                    have zwl := H3B.out.lt
                    go_wp2_with fail
                    have Bn := chid (bel_alloc w9 (.cells (pgL Q ⟨.slice ck Q.K.length lk, .slice cw Q.wins.length lw, .slice cr Q.crons.length lr, .slice cc Q.C.length lc⟩).toArray 38))
                    have BX := chid (Box.new w9 (pgL Q ⟨.slice ck Q.K.length lk, .slice cw Q.wins.length lw, .slice cr Q.crons.length lr, .slice cc Q.C.length lc⟩) 38)
                    obtain ⟨cb, hcb⟩ : ∃ b, Hid (b = w9.heap.size) := ⟨_, chid rfl⟩
                    rw [← hcb.out] at BX ⊢
                    generalize hX : (w9.alloc _) = X9 at *
                    clear hX
                    have B10 := chid (cbelow_on B9.out Bn.out B9.out.size)
                    replace HPc := chid (HPc.out.next Bn.out)
                    replace HKB := chid (HKB.out.next Bn.out)
                    replace H3W := chid (H3W.out.next Bn.out)
                    replace H3B := chid (H3B.out.next Bn.out)
                    have HBc := chid BX
                    clear BX Bn yb0 yb1 yb2 yb3 yb4 yb5 yb6 yb7 yb8 yb9 yb10 yb11 ybl zw0 zw1 zw2 zw3 zw4 zw5 zw6 zw7 zw8 zw9 zw10 zw11 zwl
                    refine Calls.mono (same21_c Q ⟨.slice bk Q.K.length hk, .slice bw Q.wins.length hw, .slice br Q.crons.length hr, .slice bc Q.C.length hc⟩ ⟨.slice wk Q.K.length dk, .slice ww Q.wins.length dw, .slice wr' Q.crons.length dr, .slice wc Q.C.length dc⟩ X9 HKB.out.rows.rd H3W.out) ?_
                    rintro r w10 ⟨rfl, b10⟩
                    have B11 := chid (cbelow_on B10.out b10 B10.out.size)
                    replace HPc := chid (HPc.out.next b10)
                    replace H3W := chid (H3W.out.next b10)
                    replace H3B := chid (H3B.out.next b10)
                    replace HBc := chid (HBc.out.next b10)
                    clear b10 HKB
                    have zc0 := HBc.out.cell 0 _ rfl
                    have zc1 := HBc.out.cell 1 _ rfl
                    have zc2 := HBc.out.cell 2 _ rfl
                    have zc3 := HBc.out.cell 3 _ rfl
                    have zc4 := HBc.out.cell 4 _ rfl
                    have zc5 := HBc.out.cell 5 _ rfl
                    have zc6 := HBc.out.cell 6 _ rfl
                    have zc7 := HBc.out.cell 7 _ rfl
                    have zc8 := HBc.out.cell 8 _ rfl
                    have zc9 := HBc.out.cell 9 _ rfl
                    have zc10 := HBc.out.cell 10 _ rfl
                    have zc11 := HBc.out.cell 11 _ rfl
                    have zcl := HBc.out.lt
                    have zw0 := H3B.out.cell 0 _ rfl
                    have zw1 := H3B.out.cell 1 _ rfl
                    have zw2 := H3B.out.cell 2 _ rfl
                    have zw3 := H3B.out.cell 3 _ rfl
                    have zw4 := H3B.out.cell 4 _ rfl
                    have zw5 := H3B.out.cell 5 _ rfl
                    have zw6 := H3B.out.cell 6 _ rfl
                    have zw7 := H3B.out.cell 7 _ rfl
                    have zw8 := H3B.out.cell 8 _ rfl
                    have zw9 := H3B.out.cell 9 _ rfl
                    have zw10 := H3B.out.cell 10 _ rfl
                    have zw11 := H3B.out.cell 11 _ rfl
                    have zwl := H3B.out.lt
                    go_wp2_with fail
                    refine Calls.mono (same21_c Q ⟨.slice ck Q.K.length lk, .slice cw Q.wins.length lw, .slice cr Q.crons.length lr, .slice cc Q.C.length lc⟩ ⟨.slice wk Q.K.length dk, .slice ww Q.wins.length dw, .slice wr' Q.crons.length dr, .slice wc Q.C.length dc⟩ w10 HPc.out H3W.out) ?_
                    rintro r w11 ⟨rfl, b11⟩
                    have B12 := chid (cbelow_on B11.out b11 B11.out.size)
                    clear b11
                    go_wp2_with fail
                    go_ret
                    exact ⟨rfl, B12.out⟩
end Go.Proofs.YtigldebdljfnbaaGreatDoor
