import Derived.Test.YtigldebdljfnbaaGreatDoorCqNaF
import Derived.Test.YtigldebdljfnbaaGreatDoorCqMoM
import Derived.Test.YtigldebdljfnbaaGreatDoorCqMgB
import Derived.Test.YtigldebdljfnbaaGreatDoorCqMgK
import Derived.Deep.DeepAppendWide
import Derived.Deep.RegionHeld3
import Derived.Deep.RegionLaw
import Derived.Test.YtigldebdljfnbaaGreatDoorCqMgP
namespace Go.Proofs.YtigldebdljfnbaaGreatDoor
open Go.RowKit

def flI (l : List Ins) : List Value := (l.map fun x => [Value.int .i64 x.1, .int .i64 x.2]).flatten
theorem flI_app (a b : List Ins) : flI (a ++ b) = flI a ++ flI b := by simp [flI]
theorem flI_len (l : List Ins) : (flI l).length = l.length * 2 := by
  induction l with
  | nil => rfl
  | cons a r ih => simp [flI] at ih ⊢; omega
theorem flI_at : ∀ (l : List Ins) (i : Nat) (x : Ins), l[i]? = some x → (flI l)[i * 2]? = some (.int .i64 x.1) ∧ (flI l)[i * 2 + 1]? = some (.int .i64 x.2)
  | a :: r, 0, x, h => by cases h; exact ⟨rfl, rfl⟩
  | a :: r, i + 1, x, h => by
    obtain ⟨h1, h2⟩ := flI_at r i x h
    have e : flI (a :: r) = .int .i64 a.1 :: .int .i64 a.2 :: flI r := rfl
    rw [e, show (i + 1) * 2 = i * 2 + 1 + 1 by omega, show i * 2 + 1 + 1 + 1 = (i * 2 + 1) + 1 + 1 by omega]
    exact ⟨h1, h2⟩
theorem flI_set : ∀ (l : List Ins) (i : Nat) (x : Ins) (v : Int), l[i]? = some x → (flI l).set (i * 2 + 1) (.int .i64 v) = flI (l.set i (x.1, v))
  | a :: r, 0, x, v, h => by cases h; rfl
  | a :: r, i + 1, x, v, h => by
    have e : flI (a :: r) = .int .i64 a.1 :: .int .i64 a.2 :: flI r := rfl
    rw [e, show (i + 1) * 2 + 1 = i * 2 + 1 + 1 + 1 by omega, List.set_cons_succ, List.set_cons_succ, flI_set r i x v h]
    rfl
abbrev flK (K : List Int) : List Value := K.map fun x => .int .i64 x
structure Bd (w : World) (bb : Nat) (C : List Ins) (K : List Int) (vc vk : Value) : Prop where
  box : Box w bb [vc, vk]
  code : w.ownsRow (bb + 1) 44 2 vc C.length (flI C)
  cons : w.ownsRow (bb + 1) 2 1 vk K.length (flK K)
def blk (v : Value) : List Nat := v.ownBlock.toList
def foot (bb : Nat) (vc vk : Value) : List Nat := bb :: (blk vc ++ blk vk)
theorem blk_mem {v : Value} {i : Nat} : i ∈ blk v ↔ v.ownBlock = some i := by simp [blk, Option.mem_toList]
theorem foot_mem {bb : Nat} {vc vk : Value} {i : Nat} : i ∈ foot bb vc vk ↔ i = bb ∨ vc.ownBlock = some i ∨ vk.ownBlock = some i := by
  unfold foot
  rw [List.mem_cons, List.mem_append, blk_mem, blk_mem]
theorem Bd.ge {w : World} {bb : Nat} {C : List Ins} {K : List Int} {vc vk : Value} (h : Bd w bb C K vc vk) : ∀ i, i ∈ foot bb vc vk → bb ≤ i ∧ i < w.heap.size := by
  intro i hi
  rcases foot_mem.1 hi with rfl | hi | hi
  · exact ⟨Nat.le_refl _, h.box.lt⟩
  · have := h.code.lt i hi; omega
  · have := h.cons.lt i hi; omega
theorem own_of_keep {w w' : World} {B : Nat} {e : TypeId} {size n : Nat} {v : Value} {xs : List Value} (h : w.ownsRow B e size v n xs) (hk : ∀ b, v.ownBlock = some b → w'.heap[b]? = w.heap[b]?) : w'.ownsRow B e size v n xs := by
  obtain ⟨h1, ⟨h2, h3⟩ | ⟨g, cap, cur, h2, h3, h4, h5⟩⟩ := h
  · exact ⟨h1, .inl ⟨h2, h3⟩⟩
  · exact ⟨h1, .inr ⟨g, cap, cur, h2, h3, (hk g (by rw [h2]; rfl)).trans h4, h5⟩⟩
theorem Bd.turn {w w' : World} {S : List Nat} {bb : Nat} {C : List Ins} {K : List Int} {vc vk : Value} (h : Bd w bb C K vc vk) (t : Turn S w w') (hS : ∀ i, i ∈ foot bb vc vk → i ∉ S) : Bd w' bb C K vc vk :=
  ⟨h.box.turn t (hS bb (foot_mem.2 (.inl rfl))), own_of_keep h.code (fun b hb => t.block b (h.code.lt b hb).2 (hS b (foot_mem.2 (.inr (.inl hb))))), own_of_keep h.cons (fun b hb => t.block b (h.cons.lt b hb).2 (hS b (foot_mem.2 (.inr (.inr hb)))))⟩
theorem Bd.next {w w' : World} {bb : Nat} {C : List Ins} {K : List Int} {vc vk : Value} (h : Bd w bb C K vc vk) (k : Below w.heap.size w w') : Bd w' bb C K vc vk := h.turn (S := []) (Turn.of_below k) (fun _ _ hm => by cases hm)
def Went (bb : Nat) (F : List Nat) (w : World) (C : List Ins) (K : List Int) (w' : World) : Prop := ∃ vc vk, Bd w' bb C K vc vk ∧ Turn F w w' ∧ ∀ i, i ∈ foot bb vc vk → i ∈ F ∨ w.heap.size ≤ i
theorem Went.refl {w : World} {bb : Nat} {C : List Ins} {K : List Int} {vc vk : Value} (h : Bd w bb C K vc vk) : Went bb (foot bb vc vk) w C K w := ⟨vc, vk, h, Turn.refl _ _, fun _ hi => .inl hi⟩

theorem info_in : (Tryz.prog.info? 44).map (fun i => (i.zero, i.size, i.bytes)) = some (some (.agg #[.int .i64 0, .int .i64 0]), 2, 16) := by kernel_rfl
theorem info_in' : ∃ i, Tryz.prog.info? 44 = some i ∧ i.zero = some (.agg #[.int .i64 0, .int .i64 0]) ∧ i.size = 2 ∧ i.bytes = 16 := by
  have h := info_in
  cases e : Tryz.prog.info? 44 with
  | none => rw [e] at h; cases h
  | some i =>
    rw [e] at h
    simp only [Option.map_some, Option.some.injEq, Prod.mk.injEq] at h
    exact ⟨i, rfl, h.1, h.2.1, h.2.2⟩
theorem own_type {w : World} {B : Nat} {e : TypeId} {k n : Nat} {v : Value} {xs : List Value} (h : w.ownsRow B e k v n xs) {r : Nat} (hr : v.ownBlock = some r) : B ≤ r ∧ ∃ cur, w.heap[r]? = some (Obj.cells cur e (0, 0)) := by
  obtain ⟨h1, ⟨h2, h3⟩ | ⟨g, cap, cur, h2, h3, h4, h5⟩⟩ := h
  · rw [h2] at hr; cases hr
  · rw [h2] at hr
    cases hr
    exact ⟨h3, cur, h4⟩
theorem laid {w w3 : World} {bb : Nat} {C L : List Ins} {K : List Int} {ca : Option Addr} {cc g1 c1 : Nat} {vk : Value} (h : Bd w bb C K (.slice ca C.length cc) vk) (ho : w3.ownsRow (bb + 1) 44 2 (.slice (some ⟨g1, 0, none⟩) (C.length + L.length) c1) (C.length + L.length) (flI C ++ flI L)) (hg : w.grownBy w3 (Value.slice ca C.length cc).ownBlock) (hl : (Value.slice ca C.length cc).ownBlock = some g1 ∨ g1 = w.heap.size) :
    Box w3 bb [.slice ca C.length cc, vk] ∧ Went bb (foot bb (.slice ca C.length cc) vk) w (C ++ L) K (w3.setCell ⟨bb, 0, none⟩ (.slice (some ⟨g1, 0, none⟩) (C.length + L.length) c1)) := by
  have hnb : ∀ i, (Value.slice ca C.length cc).ownBlock = some i → bb + 1 ≤ i := fun i hi => (h.code.lt i hi).1
  have T1 : Turn (blk (.slice ca C.length cc)) w w3 := ⟨hg.os, hg.tape, hg.output, hg.size, fun k hk hn => hg.block k hk (fun e => hn (blk_mem.2 e.symm))⟩
  have b3 : Box w3 bb [.slice ca C.length cc, vk] := h.box.turn T1 (fun hm => by have := hnb bb (blk_mem.1 hm); omega)
  have T2 := cturn_set w3 bb 0 (.slice (some ⟨g1, 0, none⟩) (C.length + L.length) c1)
  have b4 := b3.set 0 (by simp) (.slice (some ⟨g1, 0, none⟩) (C.length + L.length) c1)
  have hg1 : bb + 1 ≤ g1 := (ho.lt g1 rfl).1
  have k3 : w3.ownsRow (bb + 1) 2 1 vk K.length (flK K) := own_of_keep h.cons (fun b hb => hg.block b (h.cons.lt b hb).2 (fun e => by
    obtain ⟨_, cur, h1⟩ := own_type h.code e.symm
    obtain ⟨_, cur', h2⟩ := own_type h.cons hb
    rw [h1] at h2
    cases h2))
  have T : Turn (foot bb (.slice ca C.length cc) vk) w (w3.setCell ⟨bb, 0, none⟩ (.slice (some ⟨g1, 0, none⟩) (C.length + L.length) c1)) := ⟨T2.os.trans T1.os, T2.tape.trans T1.tape, T2.output.trans T1.output, Nat.le_trans T1.size T2.size, fun k hk hn => (T2.block k (Nat.lt_of_lt_of_le hk T1.size) (fun hm => hn (foot_mem.2 (.inl (List.mem_singleton.1 hm))))).trans (T1.block k hk (fun hm => hn (foot_mem.2 (.inr (.inl (blk_mem.1 hm))))))⟩
  refine ⟨b3, .slice (some ⟨g1, 0, none⟩) (C.length + L.length) c1, vk, ⟨b4, ?_, own_of_keep k3 (fun b hb => T2.block b (k3.lt b hb).2 (by have := (k3.lt b hb).1; simp; omega))⟩, T, ?_⟩
  · rw [flI_app, List.length_append]
    exact own_of_keep ho (fun b hb => T2.block b (ho.lt b hb).2 (by have := (ho.lt b hb).1; simp; omega))
  · intro i hi
    rcases foot_mem.1 hi with rfl | hi | hi
    · exact .inl (foot_mem.2 (.inl rfl))
    · have e : g1 = i := Option.some.inj hi
      subst e
      rcases hl with hl | hl
      · exact .inl (foot_mem.2 (.inr (.inl hl)))
      · exact .inr (by omega)
    · exact .inl (foot_mem.2 (.inr (.inr hi)))
set_option maxHeartbeats 2000000 in
set_option maxRecDepth 20000 in
theorem lay_c (bb : Nat) (C L : List Ins) (K : List Int) (vc vk : Value) (lb c : Nat) (w : World) (h : Bd w bb C K vc vk) (hL : 0 < L.length) (hl : Box w lb (flI L)) (hb : C.length + L.length ≤ 1000000) :
    Calls Tryz.prog 52 #[.pointer (some ⟨bb, 0, none⟩), .slice (some ⟨lb, 0, none⟩) L.length c] w fun e w' => e = .returned (.tuple #[]) ∧ Went bb (foot bb vc vk) w (C ++ L) K w' := by
  have H := chid h
  obtain ⟨i0, hi, hz0, hz1, hz2⟩ := info_in'
  obtain ⟨ca, cc, rfl⟩ := own_shape h.code
  have x0 := h.box.cell 0 _ rfl
  have xf := h.box.free 0 (by simp)
  have xl := h.box.lt
  have hs1 := h.code.lt
  have HN : Hid (∀ j u, (flI L)[j]? = some u → w.cell? ((⟨lb, 0, none⟩ : Addr).add j) = some u) := chid (fun j u hu => by
    have hadd : (⟨lb, 0, none⟩ : Addr).add j = ⟨lb, j, none⟩ := by unfold Addr.add; split <;> simp_all
    rw [hadd]
    exact hl.cell j u hu)
  have H1 : Hid (∀ u, u ∈ flI L → u.oneCell' = true) := chid (fun u hu => by
    unfold flI at hu
    obtain ⟨l, h1, h2⟩ := List.mem_flatten.1 hu
    obtain ⟨x, -, rfl⟩ := List.mem_map.1 h1
    simp only [List.mem_cons, List.not_mem_nil, or_false] at h2
    rcases h2 with rfl | rfl <;> rfl)
  have HLn : Hid ((flI L).length = L.length * 2) := chid (flI_len L)
  have HW : Hid (∀ g1 c1 w3, w3.ownsRow (bb + 1) 44 2 (.slice (some ⟨g1, 0, none⟩) (C.length + L.length) c1) (C.length + L.length) (flI C ++ flI L) → w.grownBy w3 (Value.slice ca C.length cc).ownBlock → ((Value.slice ca C.length cc).ownBlock = some g1 ∨ g1 = w.heap.size) → Box w3 bb [.slice ca C.length cc, vk] ∧ Went bb (foot bb (.slice ca C.length cc) vk) w (C ++ L) K (w3.setCell ⟨bb, 0, none⟩ (.slice (some ⟨g1, 0, none⟩) (C.length + L.length) c1))) := chid (fun g1 c1 w3 ho hg hw => laid H.out ho hg hw)
  clear h hs1 hl
  go_enter Tryz.func52, Tryz.ntmps52
  go_wp2_with (at_builtin; refine wpList_append_lies _ rfl _ _ 36 rfl (bb + 1) 44 i0 (.agg #[.int .i64 0, .int .i64 0]) 2 16 Tryz.underlying36 hi hz0 hz1 hz2 rfl (by decide) (.slice ca C.length cc) C.length (flI C) rfl H.out.code ⟨lb, 0, none⟩ L.length c (flI L) rfl HLn.out HN.out H1.out hL (by unfold maxLen; omega) (by omega) (by omega) _ rfl ?_; intro g1 c1 w3 o3 k3 a3 l3; have hw3 := HW.out g1 c1 w3 o3 k3 a3; have b3 := hw3.1; have e3 := b3.free 0 (by simp); have f3 := b3.cell 0 _ rfl; have m3 := b3.lt; have HW3 := chid hw3.2; clear o3 k3 a3 l3 hw3 b3)
  refine bodyPost_end (v := .tuple #[]) (by simp [results, Tryz.results52, go_sem, *]) rfl ?_
  exact ⟨rfl, HW3.out⟩

structure JmAt (w : World) (j bb : Nat) (more : Int) (at' : Nat) : Prop where
  b : Box w j [.pointer (some ⟨bb, 0, none⟩)]
  m : Box w (j + 1) [.int .i64 more]
  a : Box w (j + 1 + 1) [.int .i64 (at' : Nat)]
theorem JmAt.turn {S : List Nat} {w w' : World} {j bb : Nat} {more : Int} {at' : Nat} (h : JmAt w j bb more at') (t : Turn S w w') (hS : ∀ i, i ∈ S → i < j ∨ j + 3 ≤ i) : JmAt w' j bb more at' :=
  ⟨h.b.turn t (fun hm => by have := hS _ hm; omega), h.m.turn t (fun hm => by have := hS _ hm; omega), h.a.turn t (fun hm => by have := hS _ hm; omega)⟩
abbrev jmV (j : Nat) : Value := .func (.func 59) #[] #[.pointer (some ⟨j + 1, 0, none⟩), .pointer (some ⟨j, 0, none⟩), .pointer (some ⟨j + 1 + 1, 0, none⟩)]
theorem four_bx (w : World) (t0 t1 t2 t3 : TypeId) (x0 x1 x2 x3 : List Value) :
    Box ((((w.alloc (.cells x0.toArray t0)).alloc (.cells x1.toArray t1)).alloc (.cells x2.toArray t2)).alloc (.cells x3.toArray t3)) w.heap.size x0 ∧ Box ((((w.alloc (.cells x0.toArray t0)).alloc (.cells x1.toArray t1)).alloc (.cells x2.toArray t2)).alloc (.cells x3.toArray t3)) (w.heap.size + 1) x1 ∧ Box ((((w.alloc (.cells x0.toArray t0)).alloc (.cells x1.toArray t1)).alloc (.cells x2.toArray t2)).alloc (.cells x3.toArray t3)) (w.heap.size + 1 + 1) x2 ∧ Box ((((w.alloc (.cells x0.toArray t0)).alloc (.cells x1.toArray t1)).alloc (.cells x2.toArray t2)).alloc (.cells x3.toArray t3)) (w.heap.size + 1 + 1 + 1) x3 ∧ Below w.heap.size w ((((w.alloc (.cells x0.toArray t0)).alloc (.cells x1.toArray t1)).alloc (.cells x2.toArray t2)).alloc (.cells x3.toArray t3)) := by
  obtain ⟨h1, h2, h3, h4⟩ := three_boxes w t0 t1 t2 x0 x1 x2
  have k := (Below.refl (((w.alloc (.cells x0.toArray t0)).alloc (.cells x1.toArray t1)).alloc (.cells x2.toArray t2)).heap.size _).alloc (Nat.le_refl _) (.cells x3.toArray t3)
  have n := Box.new (((w.alloc (.cells x0.toArray t0)).alloc (.cells x1.toArray t1)).alloc (.cells x2.toArray t2)) x3 t3
  exact ⟨h1.next k, h2.next k, h3.next k, by simpa using n, h4.alloc h4.size _⟩
def Jumped (bb : Nat) (F : List Nat) (w : World) (C : List Ins) (K : List Int) (more : Int) (at' : Nat) (e : Ending) (w' : World) : Prop := e = .returned (jmV w.heap.size) ∧ JmAt w' w.heap.size bb more at' ∧ ∃ vc vk, Bd w' bb C K vc vk ∧ Turn F w w' ∧ ∀ i, i ∈ foot bb vc vk → i ∈ F ∨ w.heap.size + 3 ≤ i
set_option maxHeartbeats 2000000 in
set_option maxRecDepth 20000 in
theorem jump_c (bb : Nat) (C : List Ins) (K : List Int) (vc vk : Value) (op more : Int) (w : World) (h : Bd w bb C K vc vk) (hb : C.length + 1 ≤ 1000000) :
    Calls Tryz.prog 29 #[.pointer (some ⟨bb, 0, none⟩), .int .i64 op, .int .i64 more] w (Jumped bb (foot bb vc vk) w (C ++ [(op, 0)]) K more C.length) := by
  have hge := chid h.ge
  obtain ⟨ca, cc, rfl⟩ := own_shape h.code
  have x0 := h.box.cell 0 _ rfl
  have xf := h.box.free 0 (by simp)
  have xl := h.box.lt
  obtain ⟨Y0, Y1, Y2, Y3, YB⟩ := four_bx w 70 2 3 44 [.pointer (some ⟨bb, 0, none⟩)] [.int .i64 more] [.int .i64 (C.length : Nat)] [.int .i64 op, .int .i64 0]
  have HJ : Hid (JmAt _ w.heap.size bb more C.length) := chid ⟨Y0, Y1, Y2⟩
  have HLc := chid (lay_c bb C [(op, 0)] K (.slice ca C.length cc) vk (w.heap.size + 1 + 1 + 1) 1 _ (h.next YB) (by show 0 < 1; decide) Y3 (by simpa using hb))
  have HB := chid YB
  clear h Y0 Y1 Y2 Y3 YB
  go_enter Tryz.func29, Tryz.ntmps29
  go_wp2_with fail
  generalize hW : ((((w.alloc _).alloc _).alloc _).alloc _) = W at *
  have hsz : Hid (W.heap.size = w.heap.size + 4) := by rw [← hW]; show _ = _; simp
  clear hW
  refine Calls.mono HLc.out ?_
  rintro e w2 ⟨rfl, vc2, vk2, h2, t2, f2⟩
  have hJ2 := HJ.out.turn t2 (fun i hi => .inl (hge.out i hi).2)
  have d0 := hJ2.b.cell 0 _ rfl
  have dl := hJ2.b.lt
  have HEnd : Hid (JmAt w2 w.heap.size bb more C.length ∧ ∃ vc vk', Bd w2 bb (C ++ [(op, 0)]) K vc vk' ∧ Turn (foot bb (.slice ca C.length cc) vk) w w2 ∧ ∀ i, i ∈ foot bb vc vk' → i ∈ foot bb (.slice ca C.length cc) vk ∨ w.heap.size + 3 ≤ i) := chid ⟨hJ2, vc2, vk2, h2, (Turn.of_below (S := foot bb (.slice ca C.length cc) vk) HB.out).trans t2 (fun i hi => .inl hi), fun i hi => by
    have := f2 i hi
    have := hsz.out
    rcases f2 i hi with hm | hm
    · exact .inl hm
    · exact .inr (by omega)⟩
  clear HLc HJ h2 t2 f2 hJ2 x0 xf xl
  go_wp2_with fail
  go_ret
  exact ⟨rfl, HEnd.out⟩
theorem Went.next {bb : Nat} {F : List Nat} {w w1 w2 : World} {C : List Ins} {K : List Int} (h : Went bb F w C K w1) (k : Below w1.heap.size w1 w2) : Went bb F w C K w2 := by
  obtain ⟨vc, vk, h1, h2, h3⟩ := h
  exact ⟨vc, vk, h1.next k, h2.andBelow k, h3⟩
theorem filled {w : World} {bb : Nat} {C : List Ins} {K : List Int} {g cc i : Nat} {vk : Value} {x : Ins} (h : Bd w bb C K (.slice (some ⟨g, 0, none⟩) C.length cc) vk) (hx : C[i]? = some x) (v : Int) :
    w.cell? ⟨g, i * 2 + 1, none⟩ = some (.int .i64 x.2) ∧ w.frozen? ⟨g, i * 2 + 1, none⟩ = false ∧ g < w.heap.size ∧ Went bb (foot bb (.slice (some ⟨g, 0, none⟩) C.length cc) vk) w (C.set i (x.1, v)) K (w.setCell ⟨g, i * 2 + 1, none⟩ (.int .i64 v)) := by
  have hg : g ∈ foot bb (.slice (some ⟨g, 0, none⟩) C.length cc) vk := foot_mem.2 (.inr (.inl rfl))
  have hge := (h.code.lt g rfl)
  obtain ⟨i1, i2⟩ := List.getElem?_eq_some_iff.1 hx
  obtain ⟨h1, ⟨h2, h3⟩ | ⟨g', cap, cur, h2, h3, h4, h5, h6, h7, h8⟩⟩ := h.code
  · cases h2
  · cases h2
    have BX : Box w g (flI C) := (Box.ofBlock h4).part (by rw [← h8]; exact List.take_prefix _ _)
    have hi2 : i * 2 + 1 < (flI C).length := by rw [flI_len]; omega
    have T : Turn (foot bb (.slice (some ⟨g, 0, none⟩) C.length cc) vk) w (w.setCell ⟨g, i * 2 + 1, none⟩ (.int .i64 v)) := Turn.set w _ _ hg
    have T1 := cturn_set w g (i * 2 + 1) (.int .i64 v)
    have hk : ∀ b, vk.ownBlock = some b → b ≠ g := fun b hb e => by
      subst e
      obtain ⟨_, cur', q2⟩ := own_type h.cons hb
      rw [h4] at q2
      cases q2
    refine ⟨BX.cell _ _ (flI_at C i x hx).2, BX.free _ hi2, BX.lt, .slice (some ⟨g, 0, none⟩) C.length cc, vk, ⟨h.box.turn T1 (by simp; omega), ?_, own_of_keep h.cons (fun b hb => T1.block b (h.cons.lt b hb).2 (by simp; exact hk b hb))⟩, T, fun _ hm => .inl hm⟩
    rw [List.length_set, ← flI_set C i x v hx]
    exact ((RowIn.of h.code h.box.lt).put (i * 2 + 1) (.int .i64 v)).1.2.1
set_option maxHeartbeats 2000000 in
set_option maxRecDepth 20000 in
theorem fill_c (j bb : Nat) (C : List Ins) (K : List Int) (vc vk : Value) (more : Int) (at' : Nat) (x : Ins) (w : World) (h : Bd w bb C K vc vk) (hj : JmAt w j bb more at') (hx : C[at']? = some x) (hm : C64 (more + C.length)) (hn : ∀ i, i ∈ foot bb vc vk → i < j ∨ j + 3 ≤ i) :
    Calls Tryz.prog 59 #[.pointer (some ⟨j + 1, 0, none⟩), .pointer (some ⟨j, 0, none⟩), .pointer (some ⟨j + 1 + 1, 0, none⟩)] w fun e w' => e = .returned (.tuple #[]) ∧ Went bb (foot bb vc vk) w (C.set at' (x.1, more + C.length)) K w' := by
  have hlt := (List.getElem?_eq_some_iff.1 hx).1
  obtain ⟨g, cc, rfl⟩ : ∃ g cc, vc = .slice (some ⟨g, 0, none⟩) C.length cc := by
    obtain ⟨ca, cc, rfl⟩ := own_shape h.code
    obtain ⟨h1, ⟨h2, h3⟩ | ⟨g', cap, cur, h2, h3, h4⟩⟩ := h.code
    · omega
    · exact ⟨g', cap, h2⟩
  obtain ⟨f1, f2, f3, f4⟩ := filled h hx (more + C.length)
  have HW := chid f4
  have x0 := h.box.cell 0 _ rfl
  have xl := h.box.lt
  have y0 := hj.b.cell 0 _ rfl
  have y1 := hj.m.cell 0 _ rfl
  have y2 := hj.a.cell 0 _ rfl
  have z0 := hj.b.lt
  have z1 := hj.m.lt
  have z2 := hj.a.lt
  have hlt' : (at' : Int) < (C.length : Int) := by omega
  have hw64 : Hid (IntKind.i64.wrap (more + C.length) = more + C.length) := by show _ = _; unfold C64 at hm; rw [IntKind.wrap_i64]; omega
  have hg : g ∈ foot bb (.slice (some ⟨g, 0, none⟩) C.length cc) vk := foot_mem.2 (.inr (.inl rfl))
  have hng := hn g hg
  have hbg := (h.code.lt g rfl).1
  have n0 : bb ≠ g := by omega
  have n0' : g ≠ bb := by omega
  have n1 : j ≠ g := by omega
  have n1' : g ≠ j := by omega
  have n2 : j + 1 ≠ g := by omega
  have n2' : g ≠ j + 1 := by omega
  have n3 : j + 1 + 1 ≠ g := by omega
  have n3' : g ≠ j + 1 + 1 := by omega
  clear h hj f4 hn hng hbg hg hm
  go_enter Tryz.func59, Tryz.ntmps59
  go_wp2_with fail
  go_region_held3 (fun w' => w'.cell? ⟨j, 0, none⟩ = some (.pointer (some ⟨bb, 0, none⟩)) ∧ w'.cell? ⟨bb, 0, none⟩ = some (.slice (some ⟨g, 0, none⟩) C.length cc) ∧ w'.cell? ⟨j + 1 + 1, 0, none⟩ = some (.int .i64 (at' : Nat)) ∧ w'.cell? ⟨j + 1, 0, none⟩ = some (.int .i64 more)) (simp [go_sem, *]) (fail)
  all_goals go_wp2_with fail
  refine bodyPost_end (v := .tuple #[]) (by simp [results, Tryz.results59, go_sem, *]) rfl ?_
  rw [hw64.out]
  exact ⟨rfl, HW.out.next (Below.refl _ _).drew⟩

theorem idx_of_first {n : Int} : ∀ {K : List Int} {k : Nat}, K[k]? = some n → (∀ j, j < k → K[j]? ≠ some n) → n ∈ K ∧ K.idxOf n = k
  | [], _, h, _ => by cases h
  | a :: r, 0, h, _ => by
    cases h
    exact ⟨by simp, by simp⟩
  | a :: r, k + 1, h, hn => by
    have h0 : a ≠ n := fun e => hn 0 (by omega) (by rw [e]; rfl)
    obtain ⟨h1, h2⟩ := idx_of_first (K := r) (k := k) h (fun j hj => hn (j + 1) (by omega))
    exact ⟨List.mem_cons_of_mem _ h1, by rw [List.idxOf_cons, show (a == n) = false by simpa using h0, h2]; rfl⟩
theorem idx_none {K : List Int} {n : Int} (h : ∀ j, j < K.length → K[j]? ≠ some n) : n ∉ K := fun hm => by
  obtain ⟨i, hi, e⟩ := List.mem_iff_getElem.1 hm
  exact h i hi (by rw [List.getElem?_eq_getElem hi, e])
set_option maxHeartbeats 2000000 in
set_option maxRecDepth 20000 in
theorem sIndex_c (K : List Int) (ad : Option Addr) (cap : Nat) (n : Int) (w : World) (h : K = [] ∨ ∃ g, ad = some ⟨g, 0, none⟩ ∧ Box w g (flK K)) (hl : K.length ≤ 1000000) :
    Calls Tryz.prog 122 #[.slice ad K.length cap, .int .i64 n] w fun e w' => e = .returned (.int .i64 (if n ∈ K then ((K.idxOf n : Nat) : Int) else (-1 : Int))) ∧ Below w.heap.size w w' := by
  have HP := chid h
  obtain ⟨N, hN⟩ : ∃ N, Hid (N = K.length) := ⟨_, chid rfl⟩
  rw [← hN.out] at hl ⊢
  obtain ⟨R, hR⟩ : ∃ R : Int, Hid (R = if n ∈ K then ((K.idxOf n : Nat) : Int) else (-1 : Int)) := ⟨_, chid rfl⟩
  rw [← hR.out]
  clear h
  go_enter Tryz.func122, Tryz.ntmps122
  go_wp2_with fail
  go_loopw [8] (fun i wr => ∃ (k : Nat), i = .int .i64 (k : Nat) ∧ k ≤ N ∧ Hid (∀ j, j < k → K[j]? ≠ some n) ∧ wr = w) (fun i _ => match i with | .int _ z => ((N : Int) - z).toNat | _ => 0)
  case atStart => exact ⟨0, rfl, by omega, chid (fun j hj => by omega), rfl⟩
  case round =>
    obtain ⟨k, rfl, hk, HNo, rfl⟩ := hrel
    by_cases hlt : k < N
    · have hlt' : (k : Int) < (N : Int) := by omega
      have hkl : k < K.length := by rw [← hN.out]; exact hlt
      obtain ⟨g, rfl, hb⟩ : ∃ g, ad = some ⟨g, 0, none⟩ ∧ Box wr g (flK K) := by
        rcases HP.out with h | h
        · rw [h] at hkl; simp at hkl
        · exact h
      have hy : K[k]? = some K[k] := List.getElem?_eq_getElem hkl
      have c0 := hb.cell k (.int .i64 K[k]) (by simp [flK, hkl])
      have gl := hb.lt
      generalize K[k] = y at *
      have HY := chid hy
      clear hb hy
      by_cases he : n = y
      · subst he
        have HI := chid (idx_of_first HY.out HNo.out)
        go_wp2_with fail
        go_ret
        exact ⟨by rw [hR.out, if_pos HI.out.1, HI.out.2]; rfl, Below.refl _ _⟩
      · have he' : (n == y) = false := by simpa using he
        go_wp2_with fail
        go_roundw
        case rel => exact ⟨k + 1, by go_num, by omega, chid (fun j hj => by
          by_cases h : j = k
          · subst h
            rw [HY.out]
            exact fun e => he (Option.some.inj e).symm
          · exact HNo.out j (by omega)), trivial⟩
        case measure => simp; omega
    · have hlt' : ¬ (k : Int) < (N : Int) := by omega
      have HI := chid (idx_none (K := K) (n := n) (fun j hj => HNo.out j (by rw [← hN.out] at hj; omega)))
      go_wp2_with fail
      go_ret
      exact ⟨by rw [hR.out, if_neg HI.out]; rfl, Below.refl _ _⟩

theorem info_i6 : (Tryz.prog.info? 2).map (fun i => (i.zero, i.size, i.bytes)) = some (some (.int .i64 0), 1, 8) := by kernel_rfl
theorem info_i6' : ∃ i, Tryz.prog.info? 2 = some i ∧ i.zero = some (.int .i64 0) ∧ i.size = 1 ∧ i.bytes = 8 := by
  have h := info_i6
  cases e : Tryz.prog.info? 2 with
  | none => rw [e] at h; cases h
  | some i =>
    rw [e] at h
    simp only [Option.map_some, Option.some.injEq, Prod.mk.injEq] at h
    exact ⟨i, rfl, h.1, h.2.1, h.2.2⟩
theorem consE {w w3 : World} {bb : Nat} {C : List Ins} {K : List Int} {ca : Option Addr} {cc g1 c1 : Nat} {vc : Value} {n : Int} (h : Bd w bb C K vc (.slice ca K.length cc)) (ho : w3.ownsRow (bb + 1) 2 1 (.slice (some ⟨g1, 0, none⟩) (K.length + 1) c1) (K.length + 1) (flK K ++ [.int .i64 n])) (hg : w.grownBy w3 (Value.slice ca K.length cc).ownBlock) (hl : (Value.slice ca K.length cc).ownBlock = some g1 ∨ g1 = w.heap.size) :
    Box w3 bb [vc, .slice ca K.length cc] ∧ Bd (w3.setCell ⟨bb, 1, none⟩ (.slice (some ⟨g1, 0, none⟩) (K.length + 1) c1)) bb C (K ++ [n]) vc (.slice (some ⟨g1, 0, none⟩) (K.length + 1) c1) ∧ Turn (foot bb vc (.slice ca K.length cc)) w (w3.setCell ⟨bb, 1, none⟩ (.slice (some ⟨g1, 0, none⟩) (K.length + 1) c1)) ∧ ∀ i, i ∈ foot bb vc (.slice (some ⟨g1, 0, none⟩) (K.length + 1) c1) → i ∈ foot bb vc (.slice ca K.length cc) ∨ w.heap.size ≤ i := by
  have hnb : ∀ i, (Value.slice ca K.length cc).ownBlock = some i → bb + 1 ≤ i := fun i hi => (h.cons.lt i hi).1
  have T1 : Turn (blk (.slice ca K.length cc)) w w3 := ⟨hg.os, hg.tape, hg.output, hg.size, fun k hk hn => hg.block k hk (fun e => hn (blk_mem.2 e.symm))⟩
  have b3 : Box w3 bb [vc, .slice ca K.length cc] := h.box.turn T1 (fun hm => by have := hnb bb (blk_mem.1 hm); omega)
  have T2 := cturn_set w3 bb 1 (.slice (some ⟨g1, 0, none⟩) (K.length + 1) c1)
  have b4 := b3.set 1 (by simp) (.slice (some ⟨g1, 0, none⟩) (K.length + 1) c1)
  have k3 : w3.ownsRow (bb + 1) 44 2 vc C.length (flI C) := own_of_keep h.code (fun b hb => hg.block b (h.code.lt b hb).2 (fun e => by
    obtain ⟨_, cur, h1⟩ := own_type h.cons e.symm
    obtain ⟨_, cur', h2⟩ := own_type h.code hb
    rw [h1] at h2
    cases h2))
  have T : Turn (foot bb vc (.slice ca K.length cc)) w (w3.setCell ⟨bb, 1, none⟩ (.slice (some ⟨g1, 0, none⟩) (K.length + 1) c1)) := ⟨T2.os.trans T1.os, T2.tape.trans T1.tape, T2.output.trans T1.output, Nat.le_trans T1.size T2.size, fun k hk hn => (T2.block k (Nat.lt_of_lt_of_le hk T1.size) (fun hm => hn (foot_mem.2 (.inl (List.mem_singleton.1 hm))))).trans (T1.block k hk (fun hm => hn (foot_mem.2 (.inr (.inr (blk_mem.1 hm))))))⟩
  refine ⟨b3, ⟨b4, own_of_keep k3 (fun b hb => T2.block b (k3.lt b hb).2 (by have := (k3.lt b hb).1; simp; omega)), ?_⟩, T, ?_⟩
  · rw [show flK (K ++ [n]) = flK K ++ [.int .i64 n] by simp [flK], List.length_append]
    exact own_of_keep ho (fun b hb => T2.block b (ho.lt b hb).2 (by have := (ho.lt b hb).1; simp; omega))
  · intro i hi
    rcases foot_mem.1 hi with rfl | hi | hi
    · exact .inl (foot_mem.2 (.inl rfl))
    · exact .inl (foot_mem.2 (.inr (.inl hi)))
    · have e : g1 = i := Option.some.inj hi
      subst e
      rcases hl with hl | hl
      · exact .inl (foot_mem.2 (.inr (.inr hl)))
      · exact .inr (by omega)
theorem consd {w w3 : World} {bb : Nat} {C : List Ins} {K : List Int} {ca : Option Addr} {cc g1 c1 : Nat} {vc : Value} {n : Int} (h : Bd w bb C K vc (.slice ca K.length cc)) (ho : w3.ownsRow (bb + 1) 2 1 (.slice (some ⟨g1, 0, none⟩) (K.length + 1) c1) (K.length + 1) (flK K ++ [.int .i64 n])) (hg : w.grownBy w3 (Value.slice ca K.length cc).ownBlock) (hl : (Value.slice ca K.length cc).ownBlock = some g1 ∨ g1 = w.heap.size) :
    Box w3 bb [vc, .slice ca K.length cc] ∧ Went bb (foot bb vc (.slice ca K.length cc)) w C (K ++ [n]) (w3.setCell ⟨bb, 1, none⟩ (.slice (some ⟨g1, 0, none⟩) (K.length + 1) c1)) := by
  obtain ⟨q1, q2, q3, q4⟩ := consE h ho hg hl
  exact ⟨q1, _, _, q2, q3, q4⟩
theorem Went.alloc {bb : Nat} {F : List Nat} {w w1 w2 : World} {C : List Ins} {K : List Int} (k : Below w.heap.size w w1) (h : Went bb F w1 C K w2) (hF : w.heap.size ≤ w1.heap.size) : Went bb F w C K w2 := by
  obtain ⟨vc, vk, h1, h2, h3⟩ := h
  refine ⟨vc, vk, h1, (Turn.of_below (S := F) k).trans h2 (fun i hi => .inl hi), fun i hi => ?_⟩
  rcases h3 i hi with h | h
  · exact .inl h
  · exact .inr (by omega)
theorem rdK {w : World} {bb : Nat} {C : List Ins} {K : List Int} {vc : Value} {ca : Option Addr} {cc : Nat} (h : Bd w bb C K vc (.slice ca K.length cc)) : K = [] ∨ ∃ g, ca = some ⟨g, 0, none⟩ ∧ Box w g (flK K) := by
  obtain ⟨h1, ⟨h2, h3⟩ | ⟨g', cap, cur, h2, h3, h4, h5, h6, h7, h8⟩⟩ := h.cons
  · exact .inl (List.eq_nil_of_length_eq_zero h3)
  · cases h2
    exact .inr ⟨g', rfl, (Box.ofBlock h4).part (by rw [← h8]; exact List.take_prefix _ _)⟩
theorem bx_far {w w' : World} {row : Option Nat} {b : Nat} {xs : List Value} (h : Box w b xs) (hg : w.grownBy w' row) (hn : row ≠ some b) : Box w' b xs :=
  h.turn (S := row.toList) ⟨hg.os, hg.tape, hg.output, hg.size, fun k hk hm => hg.block k hk (fun e => hm (by rw [← e]; simp))⟩ (fun hm => hn (by simpa using hm))
theorem went_res {bb : Nat} {F : List Nat} {w w2 w3 : World} {C : List Ins} {K : List Int} (hk : Below w.heap.size w w2) (h : Went bb F w2 C K w3) (hF : ∀ i, i ∈ F → i < w.heap.size) {r : Nat} (h1 : w.heap.size ≤ r) (h2 : r < w2.heap.size) (x y : Value) : Went bb F w C K ((w3.setCell ⟨r, 0, none⟩ x).setCell ⟨r, 1, none⟩ y) := by
  have hW := Went.alloc hk h hk.size
  obtain ⟨vc, vk, q1, q2, q3⟩ := h
  obtain ⟨-, -, -, e2, -⟩ := hW
  have T := turn_tr (cturn_set w3 r 0 x) (cturn_set _ r 1 y)
  have hr : ∀ i, i ∈ foot bb vc vk → i ∉ [r] := fun i hi hm => by
    have := List.mem_singleton.1 hm
    rcases q3 i hi with h | h
    · have := hF i h; omega
    · omega
  refine ⟨vc, vk, q1.turn T hr, (e2.andSet ⟨r, 0, none⟩ x (.inr h1)).andSet ⟨r, 1, none⟩ y (.inr h1), fun i hi => ?_⟩
  rcases q3 i hi with h | h
  · exact .inl h
  · exact .inr (Nat.le_trans hk.size h)
set_option maxHeartbeats 2000000 in
set_option maxRecDepth 20000 in
theorem number_c (bb : Nat) (C : List Ins) (K : List Int) (vc vk : Value) (n : Int) (w : World) (h : Bd w bb C K vc vk) (hb : K.length + 1 ≤ 1000000) :
    Calls Tryz.prog 53 #[.pointer (some ⟨bb, 0, none⟩), .int .i64 n] w fun e w' => e = .returned (.agg #[.int .i64 1, .int .i64 (K.idxOf n : Nat)]) ∧ Went bb (foot bb vc vk) w C (numK K n) w' := by
  obtain ⟨ca, cc, rfl⟩ := own_shape h.cons
  have HIx := chid (fun W (hW : Below w.heap.size w W) => sIndex_c K ca cc n W (rdK (h.next hW)) (by omega))
  have H := chid h
  have x1 := h.box.cell 1 _ rfl
  have xl := h.box.lt
  obtain ⟨i0, hi, hz0, hz1, hz2⟩ := info_i6'
  have hF : Hid (∀ i, i ∈ foot bb vc (.slice ca K.length cc) → i < w.heap.size) := chid (fun i hi => (h.ge i hi).2)
  have X0 := chid (Box.new w [.int .i64 0, .int .i64 0] 44)
  have B0 := chid ((Below.refl w.heap.size w).alloc (Nat.le_refl _) (.cells #[.int .i64 0, .int .i64 0] 44))
  have hs0 : Hid ((w.alloc (.cells #[.int .i64 0, .int .i64 0] 44)).heap.size = w.heap.size + 1) := by show _ = _; simp
  clear h
  go_enter Tryz.func53, Tryz.ntmps53
  go_wp2_with fail
  refine Calls.mono (HIx.out _ B0.out) ?_
  rintro e w1 ⟨rfl, b1⟩
  have B1 := chid (cbelow_on B0.out b1 B0.out.size)
  replace X0 : Hid (Box w1 w.heap.size [.int .i64 0, .int .i64 0]) := chid (X0.out.next b1)
  have hs1 : Hid (w.heap.size + 1 ≤ w1.heap.size) := chid (by have := b1.size; have := hs0.out; omega)
  have r0 := X0.out.cell 0 _ rfl
  have r1 := X0.out.cell 1 _ rfl
  have f0 := X0.out.free 0 (by simp)
  have f1 := X0.out.free 1 (by simp)
  have rl := X0.out.lt
  clear b1 HIx x1 xl
  by_cases hm : n ∈ K
  · have HE := chid (Went.refl (H.out.next B1.out))
    have HK : Hid (numK K n = K) := chid (if_pos hm)
    rw [if_pos hm]
    obtain ⟨ix, hix⟩ : ∃ ix, Hid (ix = K.idxOf n) := ⟨_, chid rfl⟩
    rw [← hix.out]
    have hz : ¬ (ix : Int) < 0 := by omega
    clear hm
    go_wp2_with fail
    refine bodyPost_ret (v := .agg #[.int .i64 1, .int .i64 (ix : Nat)]) (by simp [results, Tryz.results53, go_sem, *]) rfl ?_
    rw [HK.out, ← hix.out]
    exact ⟨rfl, went_res B1.out HE.out hF.out (Nat.le_refl _) hs1.out _ _⟩
  · rw [if_neg hm]
    have HK : Hid (numK K n = K ++ [n]) := chid (if_neg hm)
    have HI : Hid (K.idxOf n = K.length) := chid (List.idxOf_eq_length hm)
    have Hw1 := chid (H.out.next B1.out)
    have x1 := Hw1.out.box.cell 1 _ rfl
    have xl := Hw1.out.box.lt
    have hF1 : Hid (∀ g1 c1 w3, w3.ownsRow (bb + 1) 2 1 (.slice (some ⟨g1, 0, none⟩) (K.length + 1) c1) (K.length + 1) (flK K ++ [.int .i64 n]) → (w1.alloc (.cells #[.int .i64 n] 2)).grownBy w3 (Value.slice ca K.length cc).ownBlock → ((Value.slice ca K.length cc).ownBlock = some g1 ∨ g1 = (w1.alloc (.cells #[.int .i64 n] 2)).heap.size) → Box w3 bb [vc, .slice ca K.length cc] ∧ Went bb (foot bb vc (.slice ca K.length cc)) (w1.alloc (.cells #[.int .i64 n] 2)) C (K ++ [n]) (w3.setCell ⟨bb, 1, none⟩ (.slice (some ⟨g1, 0, none⟩) (K.length + 1) c1))) := chid (fun g1 c1 w3 ho hg hl => consd (Hw1.out.next ((Below.refl _ _).alloc (Nat.le_refl _) _)) ho hg hl)
    have HNw : Hid (∀ j u, [Value.int .i64 n][j]? = some u → (w1.alloc (.cells #[.int .i64 n] 2)).cell? ((⟨w1.heap.size, 0, none⟩ : Addr).add j) = some u) := chid (fun j u hu => by
      have hadd : (⟨w1.heap.size, 0, none⟩ : Addr).add j = ⟨w1.heap.size, j, none⟩ := by unfold Addr.add; split <;> simp_all
      rw [hadd]
      exact (Box.new w1 [.int .i64 n] 2).cell j u hu)
    have Hwa := chid (Hw1.out.next ((Below.refl _ _).alloc (Nat.le_refl _) (.cells #[.int .i64 n] 2)))
    have hsa : Hid ((w1.alloc (.cells #[.int .i64 n] 2)).heap.size = w1.heap.size + 1) := by show _ = _; simp
    have Bwa := chid (cbelow_on B1.out ((Below.refl w1.heap.size w1).alloc (Nat.le_refl _) (.cells #[.int .i64 n] 2)) B1.out.size)
    have hbs : Hid (bb + 1 ≤ (w1.alloc (.cells #[.int .i64 n] 2)).heap.size) := chid (by have := hsa.out; omega)
    have hrs : Hid (w.heap.size < (w1.alloc (.cells #[.int .i64 n] 2)).heap.size) := chid (by have := hsa.out; have := hs1.out; omega)
    have Xa : Hid (Box (w1.alloc (.cells #[.int .i64 n] 2)) w.heap.size [.int .i64 0, .int .i64 0]) := chid (X0.out.next ((Below.refl _ _).alloc (Nat.le_refl _) _))
    have hro : Hid ((Value.slice ca K.length cc).ownBlock ≠ some w.heap.size) := chid (fun e => by have := (H.out.cons.lt _ e).2; omega)
    have hbw : bb < w.heap.size := H.out.box.lt
    have nb1 : bb ≠ w.heap.size := by omega
    have nb2 : w.heap.size ≠ bb := by omega
    clear hm r0 r1 f0 f1 rl
    go_wp2_with (at_builtin; refine wpList_append_lies _ rfl _ _ 35 rfl (bb + 1) 2 i0 (.int .i64 0) 1 8 Tryz.underlying35 hi hz0 hz1 hz2 rfl (by decide) (.slice ca K.length cc) K.length (flK K) rfl Hwa.out.cons ⟨w1.heap.size, 0, none⟩ 1 1 [.int .i64 n] rfl rfl HNw.out (by intro u hu; rw [List.mem_singleton.1 hu]; rfl) (by decide) (by unfold maxLen; omega) (by omega) hbs.out _ rfl ?_; intro g1 c1 w3 o3 k3 a3 l3; have X3 := bx_far Xa.out k3 hro.out; have r0 := X3.cell 0 _ rfl; have r1 := X3.cell 1 _ rfl; have q0 := X3.free 0 (by simp); have q1 := X3.free 1 (by simp); have rl := X3.lt; clear X3; have hw3 := hF1.out g1 c1 w3 o3 k3 a3; have b3 := hw3.1; have e3 := b3.free 1 (by simp); have f3 := b3.cell 1 _ rfl; have m3 := b3.lt; have HW3 := chid hw3.2; clear o3 k3 a3 l3 hw3 b3)
    refine bodyPost_ret (v := .agg #[.int .i64 1, .int .i64 (K.length : Nat)]) (by simp [results, Tryz.results53, go_sem, *]) rfl ?_
    rw [HK.out, HI.out]
    exact ⟨rfl, went_res Bwa.out HW3.out hF.out (Nat.le_refl _) hrs.out _ _⟩

theorem findP_some {n m : Int} : ∀ {K : List Int} {k : Nat}, K[k]? = some n → K[k + 1]? = some m → (∀ j, j < k → ¬ (K[j]? = some n ∧ K[j + 1]? = some m)) → findP K n m = some k
  | [], _, h, _, _ => by cases h
  | [a], 0, _, h, _ => by cases h
  | [a], k + 1, h, _, _ => by cases h
  | a :: b :: r, 0, h, h', _ => by
    cases h; cases h'
    rw [findP, if_pos ⟨rfl, rfl⟩]
  | a :: b :: r, k + 1, h, h', hn => by
    have h0 : ¬ (a = n ∧ b = m) := fun e => hn 0 (by omega) ⟨by rw [e.1]; rfl, by rw [e.2]; rfl⟩
    rw [findP, if_neg h0, findP_some (K := b :: r) (k := k) h h' (fun j hj => hn (j + 1) (by omega))]
    rfl
theorem findP_none {n m : Int} : ∀ {K : List Int}, (∀ j, j + 1 < K.length → ¬ (K[j]? = some n ∧ K[j + 1]? = some m)) → findP K n m = none
  | [], _ => rfl
  | [a], _ => rfl
  | a :: b :: r, hn => by
    have h0 : ¬ (a = n ∧ b = m) := fun e => hn 0 (by simp) ⟨by rw [e.1]; rfl, by rw [e.2]; rfl⟩
    rw [findP, if_neg h0, findP_none (K := b :: r) (fun j hj => hn (j + 1) (by simp at hj ⊢; omega))]
    rfl
theorem one_new (w : World) (n : Int) : ∀ j u, [Value.int .i64 n][j]? = some u → (w.alloc (.cells #[.int .i64 n] 2)).cell? ((⟨w.heap.size, 0, none⟩ : Addr).add j) = some u := fun j u hu => by
  have hadd : (⟨w.heap.size, 0, none⟩ : Addr).add j = ⟨w.heap.size, j, none⟩ := by unfold Addr.add; split <;> simp_all
  rw [hadd]
  exact (Box.new w [.int .i64 n] 2).cell j u hu
theorem Bd.new {w : World} {bb : Nat} {C : List Ins} {K : List Int} {vc vk : Value} (h : Bd w bb C K vc vk) (n : Int) : Bd (w.alloc (.cells #[.int .i64 n] 2)) bb C K vc vk := h.next ((Below.refl _ _).alloc (Nat.le_refl _) _)
theorem below_new (w : World) (n : Int) : Below w.heap.size w (w.alloc (.cells #[.int .i64 n] 2)) := (Below.refl _ _).alloc (Nat.le_refl _) _
theorem Went.step {bb : Nat} {w w1 w2 : World} {C2 : List Ins} {K2 : List Int} {vc vk : Value} {F : List Nat} (t : Turn F w w1) (hF : ∀ i, i ∈ foot bb vc vk → i ∈ F ∨ w.heap.size ≤ i) (k : Went bb (foot bb vc vk) w1 C2 K2 w2) : Went bb F w C2 K2 w2 := by
  obtain ⟨vc2, vk2, q1, q2, q3⟩ := k
  refine ⟨vc2, vk2, q1, t.trans q2 hF, fun i hi => ?_⟩
  rcases q3 i hi with h | h
  · exact hF i h
  · exact .inr (Nat.le_trans t.size h)
set_option maxHeartbeats 2000000 in
set_option maxRecDepth 20000 in
theorem kpair_c (bb : Nat) (C : List Ins) (K : List Int) (vc vk : Value) (n m : Int) (w : World) (h : Bd w bb C K vc vk) (hb : K.length + 2 ≤ 1000000) :
    Calls Tryz.prog 55 #[.pointer (some ⟨bb, 0, none⟩), .int .i64 n, .int .i64 m] w fun e w' => e = .returned (.int .i64 (pairAt K n m : Nat)) ∧ Went bb (foot bb vc vk) w C (pairK K n m) w' := by
  obtain ⟨ca, cc, rfl⟩ := own_shape h.cons
  have HR := chid (rdK h)
  have H := chid h
  have x1 := h.box.cell 1 _ rfl
  have xl := h.box.lt
  obtain ⟨i0, hi, hz0, hz1, hz2⟩ := info_i6'
  have hF : Hid (∀ i, i ∈ foot bb vc (.slice ca K.length cc) → i < w.heap.size) := chid (fun i hi => (h.ge i hi).2)
  have hw1 : IntKind.i64.wrap ((K.length : Int) - 1) = (K.length : Int) - 1 := by rw [IntKind.wrap_i64]; omega
  clear h
  go_enter Tryz.func55, Tryz.ntmps55
  go_wp2_with fail
  go_loopw [16] (fun i wr => ∃ (k : Nat), i = .int .i64 (k : Nat) ∧ k ≤ K.length - 1 ∧ Hid (∀ j, j < k → ¬ (K[j]? = some n ∧ K[j + 1]? = some m)) ∧ wr = w) (fun i _ => match i with | .int _ z => ((K.length : Int) - z).toNat | _ => 0)
  case atStart => exact ⟨0, rfl, by omega, chid (fun j hj => by omega), rfl⟩
  case round =>
    obtain ⟨k, rfl, hk, HNo, rfl⟩ := hrel
    by_cases hlt : k + 1 < K.length
    · have hlt' : (k : Int) < (K.length : Int) - 1 := by omega
      obtain ⟨g, rfl, hbx⟩ : ∃ g, ca = some ⟨g, 0, none⟩ ∧ Box wr g (flK K) := by
        rcases HR.out with h | h
        · rw [h] at hlt; simp at hlt
        · exact h
      have hk1 : k < K.length := by omega
      have hy0 : K[k]? = some K[k] := List.getElem?_eq_getElem hk1
      have hy1 : K[k + 1]? = some K[k + 1] := List.getElem?_eq_getElem hlt
      have c0 := hbx.cell k (.int .i64 K[k]) (by simp [flK, hk1])
      have c1 := hbx.cell (k + 1) (.int .i64 K[k + 1]) (by simp [flK, hlt])
      have gl := hbx.lt
      have hw2 : IntKind.i64.wrap ((k : Int) + 1) = (k : Int) + 1 := by rw [IntKind.wrap_i64]; omega
      have hl2 : (k : Int) + 1 < (K.length : Int) := by omega
      have hl3 : (k : Int) < (K.length : Int) := by omega
      have ht1 : ((k : Int) + 1).toNat = k + 1 := by omega
      generalize K[k] = y0 at *
      generalize K[k + 1] = y1 at *
      have HY := chid (And.intro hy0 hy1)
      clear hbx hy0 hy1
      by_cases he0 : y0 = n
      · by_cases he1 : y1 = m
        · subst he0 he1
          have HI := chid (findP_some HY.out.1 HY.out.2 HNo.out)
          have HP1 : Hid (pairAt K y0 y1 = k) := chid (by unfold pairAt; rw [HI.out])
          have HP2 : Hid (pairK K y0 y1 = K) := chid (by unfold pairK; rw [HI.out])
          have HE := chid (Went.refl H.out)
          go_wp2_with fail
          go_ret
          rw [HP1.out, HP2.out]
          exact ⟨rfl, HE.out⟩
        · have he1' : (y1 == m) = false := by simpa using he1
          have he0' : (y0 == n) = true := by simpa using he0
          go_wp2_with fail
          go_roundw
          case rel => exact ⟨k + 1, by go_num, by omega, chid (fun j hj hh => by
            by_cases h : j = k
            · subst h
              rw [HY.out.2] at hh
              exact he1 (Option.some.inj hh.2)
            · exact HNo.out j (by omega) hh), trivial⟩
          case measure => simp; omega
      · have he0' : (y0 == n) = false := by simpa using he0
        go_wp2_with fail
        go_roundw
        case rel => exact ⟨k + 1, by go_num, by omega, chid (fun j hj hh => by
          by_cases h : j = k
          · subst h
            rw [HY.out.1] at hh
            exact he0 (Option.some.inj hh.1)
          · exact HNo.out j (by omega) hh), trivial⟩
        case measure => simp; omega
    · have hlt' : ¬ (k : Int) < (K.length : Int) - 1 := by omega
      have HI := chid (findP_none (K := K) (n := n) (m := m) (fun j hj => HNo.out j (by omega)))
      have hsm : Hid (∀ x : Int, bb + 1 ≤ (wr.alloc (.cells #[.int .i64 x] 2)).heap.size) := chid (fun x => (H.out.new x).box.lt)
      rcases Nat.eq_zero_or_pos K.length with h0 | hp
      · have hn0 : (K.length : Int) - 1 < 0 := by omega
        have hgl : K.getLast? ≠ some n := by rw [List.eq_nil_of_length_eq_zero h0]; simp
        clear h0
        have HP1 : Hid (pairAt K n m = K.length) := chid (by unfold pairAt; rw [HI.out]; exact if_neg hgl)
        have HP2 : Hid (pairK K n m = K ++ [n, m]) := chid (by unfold pairK; rw [HI.out]; exact if_neg hgl)
        have HA := chid (H.out.new n)
        replace hsm := chid (hsm.out n)
        have hw3 : IntKind.i64.wrap ((K.length : Int) - 1 + 1) = (K.length : Int) := by rw [IntKind.wrap_i64]; omega
        clear hgl
        go_wp2_with (first | (at_builtin; refine wpList_append_lies _ rfl _ _ 35 rfl (bb + 1) 2 i0 (.int .i64 0) 1 8 Tryz.underlying35 hi hz0 hz1 hz2 rfl (by decide) (.slice ca K.length cc) K.length (flK K) rfl HA.out.cons ⟨wr.heap.size, 0, none⟩ 1 1 [.int .i64 n] rfl rfl (one_new _ _) (by intro u hu; rw [List.mem_singleton.1 hu]; rfl) (by decide) (by unfold maxLen; omega) (by omega) hsm.out _ rfl ?_; intro g1 c1 w1 o1 k1 a1 l1; have q := consE HA.out o1 k1 a1; have b := q.1; have e3 := b.free 1 (by simp); have f3 := b.cell 1 _ rfl; have m3 := b.lt; obtain ⟨K2, hK2⟩ : ∃ K2, Hid (K2 = K ++ [n]) := ⟨_, chid rfl⟩; have HKl : Hid (K2.length = K.length + 1) := chid (by rw [hK2.out]; simp); rw [← hK2.out, ← HKl.out] at q; rw [← HKl.out]; have hb2 : K2.length ≤ 1000000 := (by have := HKl.out; omega); have HQ := chid q.2; have HA2 := chid (q.2.1.new m); have hsn : Hid (bb + 1 ≤ ((w1.setCell ⟨bb, 1, none⟩ (.slice (some ⟨g1, 0, none⟩) K2.length c1)).alloc (.cells #[.int .i64 m] 2)).heap.size) := chid HA2.out.box.lt; have HN2 : Hid (∀ j u, [Value.int .i64 m][j]? = some u → ((w1.setCell ⟨bb, 1, none⟩ (.slice (some ⟨g1, 0, none⟩) K2.length c1)).alloc (.cells #[.int .i64 m] 2)).cell? ((⟨w1.heap.size, 0, none⟩ : Addr).add j) = some u) := chid (by have h := one_new (w1.setCell ⟨bb, 1, none⟩ (.slice (some ⟨g1, 0, none⟩) K2.length c1)) m; rw [show (w1.setCell ⟨bb, 1, none⟩ (.slice (some ⟨g1, 0, none⟩) K2.length c1)).heap.size = w1.heap.size by simp] at h; exact h); have z1 := q.2.1.box.cell 1 _ rfl; have zl := q.2.1.box.lt; clear o1 k1 a1 l1 q b) | (at_builtin; refine wpList_append_lies _ rfl _ _ 35 rfl (bb + 1) 2 i0 (.int .i64 0) 1 8 Tryz.underlying35 hi hz0 hz1 hz2 rfl (by decide) (.slice (some ⟨g1, 0, none⟩) K2.length c1) K2.length (flK K2) rfl HA2.out.cons ⟨w1.heap.size, 0, none⟩ 1 1 [.int .i64 m] rfl rfl HN2.out (by intro u hu; rw [List.mem_singleton.1 hu]; rfl) (by decide) (by unfold maxLen; omega) (by omega) hsn.out _ rfl ?_; intro g2 c2 w2 o2 k2 a2 l2; have q := consd HA2.out o2 k2 a2; have b := q.1; have e5 := b.free 1 (by simp); have f5 := b.cell 1 _ rfl; have m5 := b.lt; have HW5 := chid (Went.alloc (below_new (w1.setCell ⟨bb, 1, none⟩ (.slice (some ⟨g1, 0, none⟩) K2.length c1)) m) q.2 (below_new (w1.setCell ⟨bb, 1, none⟩ (.slice (some ⟨g1, 0, none⟩) K2.length c1)) m).size); clear o2 k2 a2 l2 q b))
        go_ret
        rw [HP1.out, HP2.out, show K ++ [n, m] = K2 ++ [m] by rw [hK2.out]; simp]
        exact ⟨rfl, Went.step ((Turn.of_below (below_new wr n)).trans HQ.out.2.1 (fun i hi => .inl hi)) (fun i hi => (HQ.out.2.2 i hi).imp id (fun h => Nat.le_trans (below_new wr n).size h)) HW5.out⟩
      · have hkl : K.length - 1 < K.length := by omega
        obtain ⟨g, rfl, hbx⟩ : ∃ g, ca = some ⟨g, 0, none⟩ ∧ Box wr g (flK K) := by
          rcases HR.out with h | h
          · rw [h] at hp; simp at hp
          · exact h
        have hlast : Hid (K.getLast? = some K[K.length - 1]) := chid (by rw [List.getLast?_eq_getElem?, List.getElem?_eq_getElem hkl])
        have c0 := hbx.cell (K.length - 1) (.int .i64 K[K.length - 1]) (by simp [flK, hkl])
        have gl := hbx.lt
        have hn0 : ¬ (K.length : Int) - 1 < 0 := by omega
        have hl3 : (K.length : Int) - 1 < (K.length : Int) := by omega
        have ht1 : ((K.length : Int) - 1).toNat = K.length - 1 := by omega
        generalize K[K.length - 1] = y at *
        clear hbx
        by_cases he : y = n
        · subst he
          have HP1 : Hid (pairAt K y m = K.length - 1) := chid (by unfold pairAt; rw [HI.out]; exact if_pos hlast.out)
          have HP2 : Hid (pairK K y m = K ++ [m]) := chid (by unfold pairK; rw [HI.out]; exact if_pos hlast.out)
          have HA := chid (H.out.new m)
          replace hsm := chid (hsm.out m)
          go_wp2_with (at_builtin; refine wpList_append_lies _ rfl _ _ 35 rfl (bb + 1) 2 i0 (.int .i64 0) 1 8 Tryz.underlying35 hi hz0 hz1 hz2 rfl (by decide) (.slice (some ⟨g, 0, none⟩) K.length cc) K.length (flK K) rfl HA.out.cons ⟨wr.heap.size, 0, none⟩ 1 1 [.int .i64 m] rfl rfl (one_new _ _) (by intro u hu; rw [List.mem_singleton.1 hu]; rfl) (by decide) (by unfold maxLen; omega) (by omega) hsm.out _ rfl ?_; intro g1 c1 w1 o1 k1 a1 l1; have q := consd HA.out o1 k1 a1; have b := q.1; have e3 := b.free 1 (by simp); have f3 := b.cell 1 _ rfl; have m3 := b.lt; have HW3 := chid (Went.alloc (below_new wr m) q.2 (below_new wr m).size); clear o1 k1 a1 l1 q b)
          have hcast : ((K.length - 1 : Nat) : Int) = (K.length : Int) - 1 := by omega
          go_ret
          rw [HP1.out, HP2.out, hcast]
          exact ⟨rfl, HW3.out⟩
        · have he' : (y != n) = true := by simpa using he
          have hgl : K.getLast? ≠ some n := by rw [hlast.out]; exact fun e => he (Option.some.inj e)
          have HP1 : Hid (pairAt K n m = K.length) := chid (by unfold pairAt; rw [HI.out]; exact if_neg hgl)
          have HP2 : Hid (pairK K n m = K ++ [n, m]) := chid (by unfold pairK; rw [HI.out]; exact if_neg hgl)
          have HA := chid (H.out.new n)
          replace hsm := chid (hsm.out n)
          have hw3 : IntKind.i64.wrap ((K.length : Int) - 1 + 1) = (K.length : Int) := by rw [IntKind.wrap_i64]; omega
          clear hgl
          go_wp2_with (first | (at_builtin; refine wpList_append_lies _ rfl _ _ 35 rfl (bb + 1) 2 i0 (.int .i64 0) 1 8 Tryz.underlying35 hi hz0 hz1 hz2 rfl (by decide) (.slice (some ⟨g, 0, none⟩) K.length cc) K.length (flK K) rfl HA.out.cons ⟨wr.heap.size, 0, none⟩ 1 1 [.int .i64 n] rfl rfl (one_new _ _) (by intro u hu; rw [List.mem_singleton.1 hu]; rfl) (by decide) (by unfold maxLen; omega) (by omega) hsm.out _ rfl ?_; intro g1 c1 w1 o1 k1 a1 l1; have q := consE HA.out o1 k1 a1; have b := q.1; have e3 := b.free 1 (by simp); have f3 := b.cell 1 _ rfl; have m3 := b.lt; obtain ⟨K2, hK2⟩ : ∃ K2, Hid (K2 = K ++ [n]) := ⟨_, chid rfl⟩; have HKl : Hid (K2.length = K.length + 1) := chid (by rw [hK2.out]; simp); rw [← hK2.out, ← HKl.out] at q; rw [← HKl.out]; have hb2 : K2.length ≤ 1000000 := (by have := HKl.out; omega); have HQ := chid q.2; have HA2 := chid (q.2.1.new m); have hsn : Hid (bb + 1 ≤ ((w1.setCell ⟨bb, 1, none⟩ (.slice (some ⟨g1, 0, none⟩) K2.length c1)).alloc (.cells #[.int .i64 m] 2)).heap.size) := chid HA2.out.box.lt; have HN2 : Hid (∀ j u, [Value.int .i64 m][j]? = some u → ((w1.setCell ⟨bb, 1, none⟩ (.slice (some ⟨g1, 0, none⟩) K2.length c1)).alloc (.cells #[.int .i64 m] 2)).cell? ((⟨w1.heap.size, 0, none⟩ : Addr).add j) = some u) := chid (by have h := one_new (w1.setCell ⟨bb, 1, none⟩ (.slice (some ⟨g1, 0, none⟩) K2.length c1)) m; rw [show (w1.setCell ⟨bb, 1, none⟩ (.slice (some ⟨g1, 0, none⟩) K2.length c1)).heap.size = w1.heap.size by simp] at h; exact h); have z1 := q.2.1.box.cell 1 _ rfl; have zl := q.2.1.box.lt; clear o1 k1 a1 l1 q b) | (at_builtin; refine wpList_append_lies _ rfl _ _ 35 rfl (bb + 1) 2 i0 (.int .i64 0) 1 8 Tryz.underlying35 hi hz0 hz1 hz2 rfl (by decide) (.slice (some ⟨g1, 0, none⟩) K2.length c1) K2.length (flK K2) rfl HA2.out.cons ⟨w1.heap.size, 0, none⟩ 1 1 [.int .i64 m] rfl rfl HN2.out (by intro u hu; rw [List.mem_singleton.1 hu]; rfl) (by decide) (by unfold maxLen; omega) (by omega) hsn.out _ rfl ?_; intro g2 c2 w2 o2 k2 a2 l2; have q := consd HA2.out o2 k2 a2; have b := q.1; have e5 := b.free 1 (by simp); have f5 := b.cell 1 _ rfl; have m5 := b.lt; have HW5 := chid (Went.alloc (below_new (w1.setCell ⟨bb, 1, none⟩ (.slice (some ⟨g1, 0, none⟩) K2.length c1)) m) q.2 (below_new (w1.setCell ⟨bb, 1, none⟩ (.slice (some ⟨g1, 0, none⟩) K2.length c1)) m).size); clear o2 k2 a2 l2 q b))
          go_ret
          rw [HP1.out, HP2.out, show K ++ [n, m] = K2 ++ [m] by rw [hK2.out]; simp]
          exact ⟨rfl, Went.step ((Turn.of_below (below_new wr n)).trans HQ.out.2.1 (fun i hi => .inl hi)) (fun i hi => (HQ.out.2.2 i hi).imp id (fun h => Nat.le_trans (below_new wr n).size h)) HW5.out⟩
end Go.Proofs.YtigldebdljfnbaaGreatDoor
