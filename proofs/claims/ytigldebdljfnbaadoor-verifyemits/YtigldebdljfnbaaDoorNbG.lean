import Derived.Test.YtigldebdljfnbaaDoorNaF
import Derived.Test.YtigldebdljfnbaaDoorNaC
import Derived.Test.YtigldebdljfnbaaDoorNaD
import Derived.Laws.AppendOwnNone
import Derived.Maps.AppendAt
namespace Go.Proofs.YtigldebdljfnbaaDoor
open Go.RowKit

structure Mkr (w : World) (mb : Nat) (K : List Int) (vk : Value) : Prop where
  box : Box w mb [vk]
  cons : w.ownsRow (mb + 1) 2 1 vk K.length (flK K)
def mft (mb : Nat) (vk : Value) : List Nat := mb :: blk vk
theorem mft_mem {mb : Nat} {vk : Value} {i : Nat} : i ∈ mft mb vk ↔ i = mb ∨ vk.ownBlock = some i := by
  unfold mft
  rw [List.mem_cons, blk_mem]
theorem Mkr.ge {w : World} {mb : Nat} {K : List Int} {vk : Value} (h : Mkr w mb K vk) : ∀ i, i ∈ mft mb vk → mb ≤ i ∧ i < w.heap.size := by
  intro i hi
  rcases mft_mem.1 hi with rfl | hi
  · exact ⟨Nat.le_refl _, h.box.lt⟩
  · have := h.cons.lt i hi; omega
theorem Mkr.turn {w w' : World} {S : List Nat} {mb : Nat} {K : List Int} {vk : Value} (h : Mkr w mb K vk) (t : Turn S w w') (hS : ∀ i, i ∈ mft mb vk → i ∉ S) : Mkr w' mb K vk :=
  ⟨h.box.turn t (hS mb (mft_mem.2 (.inl rfl))), own_of_keep h.cons (fun b hb => t.block b (h.cons.lt b hb).2 (hS b (mft_mem.2 (.inr hb))))⟩
theorem Mkr.next {w w' : World} {mb : Nat} {K : List Int} {vk : Value} (h : Mkr w mb K vk) (k : Below w.heap.size w w') : Mkr w' mb K vk := h.turn (S := []) (Turn.of_below k) (fun _ _ hm => by cases hm)
abbrev PcR (lo : Nat) (w : World) (C : List Ins) (v : Value) : Prop := w.ownsRow lo 49 2 v C.length (flI C)
abbrev pcV (v : Value) (h : Nat) : Value := .agg #[v, .int .i64 (h : Nat)]
theorem pc_turn {w w' : World} {mb lo : Nat} {K : List Int} {vk : Value} {C : List Ins} {v : Value} (h : PcR lo w C v) (m : Mkr w mb K vk) (hl : mb < lo) (t : Turn (mft mb vk) w w') : PcR lo w' C v :=
  own_of_keep h (fun b hb => t.block b (h.lt b hb).2 (fun hm => by
    rcases mft_mem.1 hm with rfl | hk
    · have := (h.lt _ hb).1; omega
    · obtain ⟨_, cur, h1⟩ := own_type h hb
      obtain ⟨_, cur', h2⟩ := own_type m.cons hk
      rw [h1] at h2
      cases h2))
theorem pc_next {w w' : World} {lo : Nat} {C : List Ins} {v : Value} (h : PcR lo w C v) (k : Below w.heap.size w w') : PcR lo w' C v := own_of_keep h (fun b hb => k.block b (h.lt b hb).2)
theorem pc_low {w : World} {lo lo' : Nat} {C : List Ins} {v : Value} (h : PcR lo w C v) (hl : lo' ≤ lo) : PcR lo' w C v := own_low lo' h hl
def PcQ (w : World) (C : List Ins) (v : Value) : Prop := (C = [] ∧ v = .slice none 0 0) ∨ ∃ g cap, v = .slice (some ⟨g, 0, none⟩) C.length cap ∧ Box w g (flI C)
theorem PcQ.nil (w : World) : PcQ w [] (.slice none 0 0) := .inl ⟨rfl, rfl⟩
theorem pc_read {w : World} {lo : Nat} {C : List Ins} {v : Value} (h : PcR lo w C v) : PcQ w C v := by
  obtain ⟨h1, ⟨h2, h3⟩ | ⟨g, cap, cur, h2, h3, h4, h5, h6, h7, h8⟩⟩ := h
  · exact .inl ⟨List.eq_nil_of_length_eq_zero h3, by rw [h2]⟩
  · exact .inr ⟨g, cap, h2, (Box.ofBlock h4).part (by rw [← h8]; exact List.take_prefix _ _)⟩
theorem PcQ.next {w w' : World} {C : List Ins} {v : Value} (h : PcQ w C v) (k : Below w.heap.size w w') : PcQ w' C v := by
  rcases h with h | ⟨g, cap, h1, h2⟩
  · exact .inl h
  · exact .inr ⟨g, cap, h1, h2.next k⟩
theorem PcQ.shape {w : World} {C : List Ins} {v : Value} (h : PcQ w C v) : ∃ a c, v = .slice a C.length c := by
  rcases h with ⟨rfl, rfl⟩ | ⟨g, cap, rfl, -⟩
  · exact ⟨none, 0, rfl⟩
  · exact ⟨_, cap, rfl⟩
structure Mw (mb : Nat) (F : List Nat) (w0 : World) (K : List Int) (vk : Value) (w : World) : Prop where
  mkr : Mkr w mb K vk
  turn : Turn F w0 w
  foot : ∀ i, i ∈ mft mb vk → i ∈ F ∨ w0.heap.size ≤ i
theorem Mw.start {w : World} {mb : Nat} {K : List Int} {vk : Value} (h : Mkr w mb K vk) : Mw mb (mft mb vk) w K vk w := ⟨h, Turn.refl _ _, fun _ hi => .inl hi⟩
theorem Mw.next {w0 w w' : World} {mb : Nat} {F : List Nat} {K : List Int} {vk : Value} (h : Mw mb F w0 K vk w) (k : Below w.heap.size w w') : Mw mb F w0 K vk w' := ⟨h.mkr.next k, h.turn.andBelow k, h.foot⟩
def Mwent (mb : Nat) (F : List Nat) (w : World) (K : List Int) (C : List Ins) (h : Nat) (e : Ending) (w' : World) : Prop := ∃ vk v, e = .returned (pcV v h) ∧ Mw mb F w K vk w' ∧ PcR w.heap.size w' C v
theorem Mw.core {w0 w : World} {mb : Nat} {F : List Nat} {K : List Int} {vk : Value} (h : Mw mb F w0 K vk w) (hF : ∀ i, i ∈ F → mb ≤ i) {t : Co} {v : Value} (s : CSP (fun b => b < mb) w0 t v) : CSP (fun b => b < mb) w t v :=
  CSP.keep h.turn.size (fun b hb ho => ⟨ho, fun j => cturn_cell h.turn hb (fun hm => by have := hF b hm; omega)⟩) t v s

theorem flI_one (C : List Ins) : ∀ u, u ∈ flI C → u.oneCell' = true := fun u hu => by
  unfold flI at hu
  obtain ⟨l, h1, h2⟩ := List.mem_flatten.1 hu
  obtain ⟨x, -, rfl⟩ := List.mem_map.1 h1
  simp only [List.mem_cons, List.not_mem_nil, or_false] at h2
  rcases h2 with rfl | rfl <;> rfl
theorem ea_grown {w w' : World} (h : w.grownBy w' none) : Below w.heap.size w w' := ⟨h.os, h.tape, h.output, h.size, fun k hk => h.block k hk (fun e => by cases e)⟩
theorem wpl_piece {w : World} {ops : Array Oper} {rest : List Oper} {o : Oper} {a : Act} {Q : Exit → Act → World → Prop} (hgd : o.guard = none) (s x : Operand)
    (ho : o.op = .call { callee := .builtin .append, args := #[s, x], argTypes := #[36, 36] })
    (C : List Ins) (v : Value) (hs : a.eval s = .slice none 0 0) (hx : a.eval x = v) (hq : PcQ w C v) (hb : C.length ≤ 1000000) (lo : Nat) (hlo : lo ≤ w.heap.size)
    (h : ∀ ad cap w', PcR lo w' C (.slice ad C.length cap) → Below w.heap.size w w' → wpList Tryd.prog ops Q rest (a.put o.dst (.slice ad C.length cap)) w') : wpList Tryd.prog ops Q (o :: rest) a w := by
  obtain ⟨i0, hi, hz0, hz1, hz2⟩ := info_in'
  rcases hq with ⟨rfl, rfl⟩ | ⟨g, cap, rfl, hbx⟩
  · exact wpList_append_own_none hgd s x 36 ho lo 49 i0 2 Tryd.underlying36 hi (.slice none 0 0) 0 [] hs (World.ownsRow_nil _ _ _ _) hx (h none 0 w (World.ownsRow_nil _ _ _ _) (Below.refl _ _))
  · refine wpList_append_own_at w hgd s x 36 ho lo 49 i0 (.agg #[.int .i64 0, .int .i64 0]) 2 16 Tryd.underlying36 hi hz0 hz1 hz2 rfl (by decide) (.slice none 0 0) 0 [] hs (World.ownsRow_nil _ _ _ _) ⟨g, 0, none⟩ C.length cap (flI C) hx (flI_len C) (fun j u hu => by
      have hadd : (⟨g, 0, none⟩ : Addr).add j = ⟨g, j, none⟩ := by unfold Addr.add; split <;> simp_all
      rw [hadd]
      exact hbx.cell j u hu) (flI_one C) (by unfold maxLen; omega) (by omega) hlo ?_
    intro v' w' h1 h2 h3 h4
    rw [Nat.zero_add, List.nil_append] at h1
    obtain ⟨ad, cp, rfl⟩ := own_shape h1
    exact h ad cp w' h1 (ea_grown h2)
set_option maxHeartbeats 1000000 in
set_option maxRecDepth 20000 in
theorem ejumps_c (op : Int) (w : World) : Calls Tryd.prog 25 #[.int .i64 op] w fun e w' => e = .returned (.bool (jmpB op)) ∧ w' = w := by
  go_enter Tryd.func25, Tryd.ntmps25
  go_wp2_with fail
  all_goals refine bodyPost_ret (v := .bool (jmpB op)) (by simp_all [results, Tryd.results25, jmpB, go_sem]) rfl ⟨rfl, rfl⟩
theorem heap_new2 (w : World) (a b : Obj) : ((w.alloc a).alloc b).heap[w.heap.size + 1]? = some b := by
  have hs : (w.alloc a).heap.size = w.heap.size + 1 := by simp
  rw [← hs]
  exact heap_alloc_new _ _
set_option maxHeartbeats 1000000 in
set_option maxRecDepth 20000 in
theorem eone_c (op a : Int) (h : Nat) (w : World) : Calls Tryd.prog 14 #[.int .i64 op, .int .i64 a, .int .i64 (h : Nat)] w fun e w' => ∃ v, e = .returned (pcV v h) ∧ Below w.heap.size w w' ∧ PcR w.heap.size w' [(op, a)] v := by
  go_enter Tryd.func14, Tryd.ntmps14
  go_wp2_with fail
  refine bodyPost_ret (v := pcV (.slice (some ⟨w.heap.size + 1, 0, none⟩) 1 1) h) (by simp [results, Tryd.results14, go_sem, *]) rfl ?_
  have B : Below w.heap.size w ((w.alloc (.cells #[.slice (some ⟨w.heap.size + 1, 0, none⟩) 1 1, .int .i64 (h : Nat)] 55)).alloc (.cells #[.int .i64 op, .int .i64 a] 49)) := ((Below.refl _ _).alloc (Nat.le_refl _) _).alloc (by simp) _
  refine ⟨_, rfl, B, rfl, .inr ⟨w.heap.size + 1, 1, #[.int .i64 op, .int .i64 a], rfl, by omega, ?_, Nat.le_refl 1, by decide, rfl, rfl⟩⟩
  exact heap_new2 w _ _

theorem emax (P : Program) (x y d : Nat) (w : World) : (Builtin.max_ #[3, 3] 3 #[.int .i64 (x : Nat), .int .i64 ((y : Int) + (d : Int))]).run P w = .ok (.int .i64 ((max x (y + d) : Nat) : Int)) w := by
  have h2 : ∀ a b : Nat, Builtin.max2 (.int .i64 (a : Nat)) (.int .i64 (b : Nat)) = pure (.int .i64 ((max a b : Nat) : Int)) := fun a b => by
    show pure (Value.int .i64 (if (b : Int) > (a : Int) then (b : Int) else (a : Int))) = _
    congr 2
    split <;> omega
  show (List.foldlM Builtin.max2 (.int .i64 (x : Nat)) [.int .i64 ((y : Int) + (d : Int))]).run P w = _
  rw [show ((y : Int) + (d : Int)) = ((y + d : Nat) : Int) by omega, List.foldlM_cons, h2]
  simp [List.foldlM_nil, go_sem]
theorem four_new (w : World) (t0 t1 t2 t3 : TypeId) (xs ys zs us : List Value) :
    Box ((((w.alloc (.cells xs.toArray t0)).alloc (.cells ys.toArray t1)).alloc (.cells zs.toArray t2)).alloc (.cells us.toArray t3)) w.heap.size xs ∧ Box ((((w.alloc (.cells xs.toArray t0)).alloc (.cells ys.toArray t1)).alloc (.cells zs.toArray t2)).alloc (.cells us.toArray t3)) (w.heap.size + 1) ys ∧
      Box ((((w.alloc (.cells xs.toArray t0)).alloc (.cells ys.toArray t1)).alloc (.cells zs.toArray t2)).alloc (.cells us.toArray t3)) (w.heap.size + 1 + 1) zs ∧ Box ((((w.alloc (.cells xs.toArray t0)).alloc (.cells ys.toArray t1)).alloc (.cells zs.toArray t2)).alloc (.cells us.toArray t3)) (w.heap.size + 1 + 1 + 1) us ∧ Below w.heap.size w ((((w.alloc (.cells xs.toArray t0)).alloc (.cells ys.toArray t1)).alloc (.cells zs.toArray t2)).alloc (.cells us.toArray t3)) := by
  obtain ⟨h1, h2, h3, h4⟩ := three_boxes w t0 t1 t2 xs ys zs
  have e := Box.new (((w.alloc (.cells xs.toArray t0)).alloc (.cells ys.toArray t1)).alloc (.cells zs.toArray t2)) us t3
  have k := (Below.refl (((w.alloc (.cells xs.toArray t0)).alloc (.cells ys.toArray t1)).alloc (.cells zs.toArray t2)).heap.size _).alloc (Nat.le_refl _) (.cells us.toArray t3)
  exact ⟨h1.next k, h2.next k, h3.next k, by simpa using e, h4.alloc (by simp; omega) _⟩
structure ThI (w : World) (A B : List Ins) (va vb : Value) (ha hb m : Int) (j : Nat) (ad : Option Addr) (cap : Nat) (wr : World) : Prop where
  b0 : Box wr w.heap.size [va, .int .i64 ha]
  b1 : Box wr (w.heap.size + 1) [vb, .int .i64 hb]
  b2 : Box wr (w.heap.size + 1 + 1) [.slice none 0 0, .int .i64 0]
  bo : Box wr (w.heap.size + 1 + 1 + 1) [.slice ad (A.length + j) cap, .int .i64 m]
  bl : Below w.heap.size w wr
  row : wr.ownsRow (w.heap.size + 1 + 1 + 1 + 1) 49 2 (.slice ad (A.length + j) cap) (A.length + j) (flI (cat A (B.take j)))
theorem ThI.set {w wr w3 : World} {A B : List Ins} {va vb : Value} {ha hb m : Int} {j j' : Nat} {ad ad' : Option Addr} {cap cap' : Nat} (h : ThI w A B va vb ha hb m j ad cap wr) (hs : wr.heap.size ≤ w3.heap.size) (hk : ∀ b, b < w.heap.size + 1 + 1 + 1 + 1 → w3.heap[b]? = wr.heap[b]?) (ho : w3.os = wr.os ∧ w3.tape = wr.tape ∧ w3.output = wr.output)
    (hr : w3.ownsRow (w.heap.size + 1 + 1 + 1 + 1) 49 2 (.slice ad' (A.length + j') cap') (A.length + j') (flI (cat A (B.take j')))) :
    Box w3 (w.heap.size + 1 + 1 + 1) [.slice ad (A.length + j) cap, .int .i64 m] ∧ ThI w A B va vb ha hb m j' ad' cap' (w3.setCell ⟨w.heap.size + 1 + 1 + 1, 0, none⟩ (.slice ad' (A.length + j') cap')) := by
  have T1 : Turn ((List.range w3.heap.size).filter (fun b => decide (w.heap.size + 1 + 1 + 1 + 1 ≤ b))) wr w3 := ⟨ho.1, ho.2.1, ho.2.2, hs, fun k hk' hn => hk k (by
    apply Classical.byContradiction
    intro hh
    exact hn (List.mem_filter.2 ⟨List.mem_range.2 (by omega), by simp; omega⟩))⟩
  have hn : ∀ i, i < w.heap.size + 1 + 1 + 1 + 1 → i ∉ (List.range w3.heap.size).filter (fun b => decide (w.heap.size + 1 + 1 + 1 + 1 ≤ b)) := fun i hi hm => by
    have := of_decide_eq_true (List.mem_filter.1 hm).2
    omega
  have c0 := h.b0.turn T1 (hn _ (by omega))
  have c1 := h.b1.turn T1 (hn _ (by omega))
  have c2 := h.b2.turn T1 (hn _ (by omega))
  have co := h.bo.turn T1 (hn _ (by omega))
  have T2 := cturn_set w3 (w.heap.size + 1 + 1 + 1) 0 (.slice ad' (A.length + j') cap')
  have k3 : Below w.heap.size w w3 := h.bl.trans (T1.below (fun k hk => by have := of_decide_eq_true (List.mem_filter.1 hk).2; omega) h.bl.size)
  refine ⟨co, c0.turn T2 (by simp; omega), c1.turn T2 (by simp), c2.turn T2 (by simp), co.set 0 (by simp) _, k3.trans (T2.below (fun k hk => by rw [List.mem_singleton.1 hk]; omega) k3.size), ?_⟩
  exact own_of_keep hr (fun b hb => T2.block b (hr.lt b hb).2 (by have := (hr.lt b hb).1; simp; omega))
theorem cat_take {A B : List Ins} {j : Nat} {x : Ins} (h : B[j]? = some x) : cat A (B.take (j + 1)) = cat A (B.take j) ++ [shI A.length x] := by
  obtain ⟨h1, h2⟩ := List.getElem?_eq_some_iff.1 h
  unfold cat
  rw [List.take_succ_eq_append_getElem h1, h2, List.map_append, List.append_assoc]
  rfl
theorem ThI.step {w wr w2 w3 : World} {A B : List Ins} {va vb : Value} {ha hb m : Int} {j g1 c1 : Nat} {ad : Option Addr} {cap : Nat} {x : Ins} (h : ThI w A B va vb ha hb m j ad cap wr) (hx : B[j]? = some x) (hw : Below wr.heap.size wr w2)
    (ho : w3.ownsRow (w.heap.size + 1 + 1 + 1 + 1) 49 2 (.slice (some ⟨g1, 0, none⟩) (A.length + j + 1) c1) (A.length + j + 1) (flI (cat A (B.take j)) ++ [.int .i64 (shI A.length x).1, .int .i64 (shI A.length x).2])) (hg : w2.grownBy w3 (Value.slice ad (A.length + j) cap).ownBlock) :
    Box w3 (w.heap.size + 1 + 1 + 1) [.slice ad (A.length + j) cap, .int .i64 m] ∧ ThI w A B va vb ha hb m (j + 1) (some ⟨g1, 0, none⟩) c1 (w3.setCell ⟨w.heap.size + 1 + 1 + 1, 0, none⟩ (.slice (some ⟨g1, 0, none⟩) (A.length + j + 1) c1)) := by
  have hlt := h.bo.lt
  refine h.set (j' := j + 1) (Nat.le_trans hw.size hg.size) (fun b hb => ?_) ⟨hg.os.trans hw.os, hg.tape.trans hw.tape, hg.output.trans hw.output⟩ ?_
  · rw [hg.block b (by have := hw.size; omega) (fun e => by have := (h.row.lt b e.symm).1; omega)]
    exact hw.block b (by omega)
  · rw [cat_take hx, flI_app]
    exact ho
theorem ThI.start {w wq w1 : World} {A B : List Ins} {va vb : Value} {ha hb m : Int} {ad : Option Addr} {cap : Nat} (hq : Box wq w.heap.size [va, .int .i64 ha] ∧ Box wq (w.heap.size + 1) [vb, .int .i64 hb] ∧ Box wq (w.heap.size + 1 + 1) [.slice none 0 0, .int .i64 0] ∧ Box wq (w.heap.size + 1 + 1 + 1) [.slice none 0 0, .int .i64 m] ∧ Below w.heap.size w wq)
    (p1 : PcR (w.heap.size + 1 + 1 + 1 + 1) w1 A (.slice ad A.length cap)) (b1 : Below wq.heap.size wq w1) :
    Box w1 (w.heap.size + 1 + 1 + 1) [.slice none 0 0, .int .i64 m] ∧ ThI w A B va vb ha hb m 0 ad cap (w1.setCell ⟨w.heap.size + 1 + 1 + 1, 0, none⟩ (.slice ad A.length cap)) := by
  obtain ⟨c0, c1, c2, co, bl⟩ := hq
  have T2 := cturn_set w1 (w.heap.size + 1 + 1 + 1) 0 (.slice ad A.length cap)
  have k1 := cbelow_on bl b1 bl.size
  have dd := co.next b1
  have hc : cat A (B.take 0) = A := by rw [List.take_zero, cat_nil]
  refine ⟨dd, (c0.next b1).turn T2 (by simp; omega), (c1.next b1).turn T2 (by simp), (c2.next b1).turn T2 (by simp), dd.set 0 (by simp) _, k1.trans (T2.below (fun k hk => by rw [List.mem_singleton.1 hk]; omega) k1.size), ?_⟩
  rw [hc]
  exact own_of_keep p1 (fun b hb => T2.block b (p1.lt b hb).2 (by have := (p1.lt b hb).1; simp; omega))
theorem pcrow_next {w w' : World} {B : Nat} {e : TypeId} {k n : Nat} {v : Value} {xs : List Value} (h : w.ownsRow B e k v n xs) (hb : Below w.heap.size w w') : w'.ownsRow B e k v n xs := own_of_keep h (fun b hb' => hb.block b (h.lt b hb').2)
theorem two_new_b (w : World) (a b : Obj) : Below w.heap.size w ((w.alloc a).alloc b) := ((Below.refl _ _).alloc (Nat.le_refl _) _).alloc (by simp) _
theorem two_new_c (w : World) (a : Obj) (x y : Value) : ∀ j u, [x, y][j]? = some u → ((w.alloc a).alloc (.cells #[x, y] 49)).cell? ((⟨w.heap.size + 1, 0, none⟩ : Addr).add j) = some u := fun j u hu => by
  have hadd : (⟨w.heap.size + 1, 0, none⟩ : Addr).add j = ⟨w.heap.size + 1, j, none⟩ := by unfold Addr.add; split <;> simp_all
  have hs : (w.alloc a).heap.size = w.heap.size + 1 := by simp
  rw [hadd, ← hs]
  exact (Box.new (w.alloc a) [x, y] 49).cell j u hu
theorem pcq_at {w : World} {B : List Ins} {ab : Option Addr} {cb j : Nat} {x : Ins} (h : PcQ w B (.slice ab B.length cb)) (hx : B[j]? = some x) : ∃ g, ab = some ⟨g, 0, none⟩ ∧ g < w.heap.size ∧ w.cell? ⟨g, j * 2, none⟩ = some (.int .i64 x.1) ∧ w.cell? ⟨g, j * 2 + 1, none⟩ = some (.int .i64 x.2) := by
  rcases h with ⟨rfl, h⟩ | ⟨g, cap, h, hb⟩
  · cases hx
  · have h1 := flI_at B j x hx
    exact ⟨g, (Value.slice.inj h).1, hb.lt, hb.cell _ _ h1.1, hb.cell _ _ h1.2⟩
set_option maxHeartbeats 2000000 in
set_option maxRecDepth 20000 in
theorem then_c (A B : List Ins) (ha hb d : Nat) (va vb : Value) (w : World) (h1 : PcQ w A va) (h2 : PcQ w B vb) (hl : A.length + B.length ≤ 1000000) (hh : ha + hb + d ≤ 1000000) (hj : ∀ x, x ∈ B → jmpB x.1 = true → 0 ≤ x.2 ∧ x.2 ≤ 1152921504606846976) :
    Calls Tryd.prog 13 #[pcV va ha, pcV vb hb, .int .i64 (d : Nat)] w fun e w' => ∃ v, e = .returned (pcV v (max ha (hb + d))) ∧ Below w.heap.size w w' ∧ PcR w.heap.size w' (cat A B) v := by
  obtain ⟨aa, ca, rfl⟩ := h1.shape
  obtain ⟨ab, cb, rfl⟩ := h2.shape
  have HM2 := fun W => emax Tryd.prog ha hb d W
  obtain ⟨m, hm⟩ : ∃ m, Hid (m = max ha (hb + d)) := ⟨_, chid rfl⟩
  rw [← hm.out] at HM2 ⊢
  have H1 := chid h1
  have H2 := chid h2
  have HJ := chid hj
  have HF := chid (four_new w 55 55 55 55 [.slice aa A.length ca, .int .i64 ha] [.slice ab B.length cb, .int .i64 hb] [.slice none 0 0, .int .i64 0] [.slice none 0 0, .int .i64 (m : Nat)])
  clear h1 h2 hj
  obtain ⟨i0, hi, hz0, hz1, hz2⟩ := info_in'
  go_enter Tryd.func13, Tryd.ntmps13
  go_wp2_with (at_builtin; refine wpl_piece rfl _ _ rfl A (.slice aa A.length ca) rfl rfl (H1.out.next HF.out.2.2.2.2) (by omega) (w.heap.size + 1 + 1 + 1 + 1) (by have := HF.out.2.2.2.1.lt; omega) ?_; intro ad cap w1 p1 b1; have q := ThI.start (B := B) HF.out p1 b1; have bo := q.1; have e1 := bo.free 0 (by simp); have f1 := bo.cell 0 _ rfl; have m1 := bo.lt; have Q := chid q.2; clear bo q p1 b1)
  clear e1 f1 m1
  go_loopw [8] (fun i wr => ∃ (j : Nat) (ad : Option Addr) (cap : Nat), i = .int .i64 (j : Nat) ∧ j ≤ B.length ∧ Hid (ThI w A B (.slice aa A.length ca) (.slice ab B.length cb) ha hb m j ad cap wr)) (fun i _ => match i with | .int _ z => ((B.length : Int) - z).toNat | _ => 0)
  case atStart => exact ⟨0, ad, cap, rfl, Nat.zero_le _, Q⟩
  case round =>
    obtain ⟨j, ad, cap, rfl, hjl, HQ⟩ := hrel
    have x0 := HQ.out.b1.cell 0 _ rfl
    have x1 := HQ.out.b0.cell 0 _ rfl
    have x2 := HQ.out.bo.cell 0 _ rfl
    have x3 := HQ.out.bo.cell 1 _ rfl
    have xf := HQ.out.bo.free 0 (by simp)
    have xl := HQ.out.bo.lt
    have xl1 := HQ.out.b1.lt
    have xl0 := HQ.out.b0.lt
    by_cases hlt : j < B.length
    · have hlt' : (j : Int) < (B.length : Int) := by omega
      have hx : B[j]? = some B[j] := List.getElem?_eq_getElem hlt
      obtain ⟨g, rfl, hgl, y0, y1⟩ := pcq_at (H2.out.next HQ.out.bl) hx
      have HX := chid hx
      have HJx := chid (HJ.out B[j] (List.getElem_mem hlt))
      generalize B[j] = x at *
      obtain ⟨xo, xa⟩ := x
      have hja : ((j : Int)).toNat = j := by omega
      have HR := chid (fun W (hW : Below wr.heap.size wr W) => And.intro (pcrow_next HQ.out.row hW) (Nat.le_trans xl hW.size))
      have HG : Hid (∀ W w3 g1 c1, Below wr.heap.size wr W → w3.ownsRow (w.heap.size + 1 + 1 + 1 + 1) 49 2 (.slice (some ⟨g1, 0, none⟩) (A.length + j + 1) c1) (A.length + j + 1) (flI (cat A (B.take j)) ++ [.int .i64 (shI A.length (xo, xa)).1, .int .i64 (shI A.length (xo, xa)).2]) → W.grownBy w3 (Value.slice ad (A.length + j) cap).ownBlock → Box w3 (w.heap.size + 1 + 1 + 1) [.slice ad (A.length + j) cap, .int .i64 m] ∧ ThI w A B (.slice aa A.length ca) (.slice (some ⟨g, 0, none⟩) B.length cb) ha hb m (j + 1) (some ⟨g1, 0, none⟩) c1 (w3.setCell ⟨w.heap.size + 1 + 1 + 1, 0, none⟩ (.slice (some ⟨g1, 0, none⟩) (A.length + j + 1) c1))) := chid (fun W w3 g1 c1 hW ho hg => HQ.out.step hx hW ho hg)
      clear hx
      go_wp2_with fail
      refine Calls.mono (ejumps_c xo _) ?_
      rintro e w2 ⟨rfl, rfl⟩
      by_cases hjb : jmpB xo = true
      · rw [hjb]
        have hwr : IntKind.i64.wrap (xa + (A.length : Int)) = xa + (A.length : Int) := by have h7 : 0 ≤ xa ∧ xa ≤ 1152921504606846976 := HJx.out hjb; rw [IntKind.wrap_i64]; omega
        have hsh : Hid (shI A.length (xo, xa) = (xo, xa + (A.length : Int))) := chid (if_pos hjb)
        rw [hsh.out] at HG
        go_wp2_with (at_builtin; refine wpList_append_lies _ rfl _ _ 36 rfl (w.heap.size + 1 + 1 + 1 + 1) 49 i0 (.agg #[.int .i64 0, .int .i64 0]) 2 16 Tryd.underlying36 hi hz0 hz1 hz2 rfl (by decide) (.slice ad (A.length + j) cap) (A.length + j) (flI (cat A (B.take j))) rfl (HR.out _ (two_new_b wr _ _)).1 ⟨wr.heap.size + 1, 0, none⟩ 1 1 [.int .i64 xo, .int .i64 (xa + (A.length : Int))] rfl rfl (two_new_c wr _ _ _) (by intro u hu; simp only [List.mem_cons, List.not_mem_nil, or_false] at hu; rcases hu with rfl | rfl <;> rfl) (by decide) (by unfold maxLen; omega) (by omega) (HR.out _ (two_new_b wr _ _)).2 _ rfl ?_; intro g1 c1 w3 o3 k3 a3 l3; have q := HG.out _ w3 g1 c1 (two_new_b wr _ _) o3 k3; have bo := q.1; have e3 := bo.free 0 (by simp); have f3 := bo.cell 0 _ rfl; have m3 := bo.lt; have Q3 := chid q.2; clear q bo o3 k3 a3 l3)
        exact ⟨⟨j + 1, _, _, by go_num, by omega, Q3⟩, by simp; omega⟩
      · have hjb' : jmpB xo = false := by simpa using hjb
        rw [hjb']
        have hsh : Hid (shI A.length (xo, xa) = (xo, xa)) := chid (if_neg hjb)
        rw [hsh.out] at HG
        go_wp2_with (at_builtin; refine wpList_append_lies _ rfl _ _ 36 rfl (w.heap.size + 1 + 1 + 1 + 1) 49 i0 (.agg #[.int .i64 0, .int .i64 0]) 2 16 Tryd.underlying36 hi hz0 hz1 hz2 rfl (by decide) (.slice ad (A.length + j) cap) (A.length + j) (flI (cat A (B.take j))) rfl (HR.out _ (two_new_b wr _ _)).1 ⟨wr.heap.size + 1, 0, none⟩ 1 1 [.int .i64 xo, .int .i64 xa] rfl rfl (two_new_c wr _ _ _) (by intro u hu; simp only [List.mem_cons, List.not_mem_nil, or_false] at hu; rcases hu with rfl | rfl <;> rfl) (by decide) (by unfold maxLen; omega) (by omega) (HR.out _ (two_new_b wr _ _)).2 _ rfl ?_; intro g1 c1 w3 o3 k3 a3 l3; have q := HG.out _ w3 g1 c1 (two_new_b wr _ _) o3 k3; have bo := q.1; have e3 := bo.free 0 (by simp); have f3 := bo.cell 0 _ rfl; have m3 := bo.lt; have Q3 := chid q.2; clear q bo o3 k3 a3 l3)
        exact ⟨⟨j + 1, _, _, by go_num, by omega, Q3⟩, by simp; omega⟩
    · have hlt' : ¬ (j : Int) < (B.length : Int) := by omega
      obtain rfl : j = B.length := by omega
      have z0 := HQ.out.b2.cell 0 _ rfl
      have z1 := HQ.out.b2.cell 1 _ rfl
      have zf0 := HQ.out.b2.free 0 (by simp)
      have zf1 := HQ.out.b2.free 1 (by simp)
      have zl := HQ.out.b2.lt
      go_wp2_with fail
      refine bodyPost_ret (v := pcV (.slice ad (A.length + B.length) cap) m) (by simp [results, Tryd.results13, go_sem, *]) rfl ?_
      have T2 := turn_tr (cturn_set wr (w.heap.size + 1 + 1) 0 (.slice ad (A.length + B.length) cap)) (cturn_set _ (w.heap.size + 1 + 1) 1 (.int .i64 (m : Nat)))
      have hr := HQ.out.row
      rw [List.take_length] at hr
      refine ⟨_, rfl, HQ.out.bl.trans (T2.below (fun k hk => by rw [List.mem_singleton.1 hk]; omega) HQ.out.bl.size), ?_⟩
      show World.ownsRow _ _ _ _ _ (cat A B).length _
      rw [cat_len]
      exact own_low _ (own_of_keep hr (fun b hb => T2.block b (hr.lt b hb).2 (by have := (hr.lt b hb).1; simp; omega))) (by omega)
end Go.Proofs.YtigldebdljfnbaaDoor
