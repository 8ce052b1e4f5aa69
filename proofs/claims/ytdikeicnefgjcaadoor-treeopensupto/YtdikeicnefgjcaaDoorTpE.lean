/- Package tree: ladderParts; partsAs of a formed node. -/
import Derived.Test.YtdikeicnefgjcaaDoorTpC
import Derived.OwnWalk
import Derived.Test.YtdikeicnefgjcaaDoorTrT
namespace Go.Proofs.YtdikeicnefgjcaaDoor
open Go.RowKit

theorem addr_add (b off j : Nat) : (⟨b, off, none⟩ : Addr).add j = ⟨b, off + j, none⟩ := by unfold Addr.add; split <;> simp_all
theorem row_built (w : World) (cur : List Value) (base : Nat) (hb : base ≤ w.heap.size) (hs : cur.length = 6) : (w.alloc (.cells cur.toArray 24)).ownsRow base 24 6 (.slice (some ⟨w.heap.size, 0, none⟩) 1 1) 1 cur :=
  ⟨by omega, .inr ⟨w.heap.size, 1, cur.toArray, rfl, hb, heap_new w _, Nat.le_refl _, by decide, by simpa using hs, by rw [show 1 * 6 = cur.length by omega]; simp⟩⟩
theorem row_keep {w w' : World} {B n s : Nat} {e : TypeId} {v : Value} {xs : List Value} (h : w.ownsRow B e s v n xs) (t : Below w.heap.size w w') : w'.ownsRow B e s v n xs := by
  refine ⟨h.1, ?_⟩
  rcases h.2 with hq | ⟨g, cap, cur, rfl, hb, hgg, rest⟩
  · exact .inl hq
  · exact .inr ⟨g, cap, cur, rfl, hb, (t.block g (Array.getElem?_eq_some_iff.1 hgg).1).trans hgg, rest⟩
theorem row_lies {w : World} {B n : Nat} {v : Value} (ts : List (Tm × Value)) (h : w.ownsRow B 24 6 v n (flatT ts)) (hn : n = ts.length) (hp : 0 < ts.length) : ∃ g c, v = .slice (some ⟨g, 0, none⟩) n c ∧ B ≤ g ∧ g < w.heap.size ∧ n ≤ c ∧ c ≤ 9223372036854775807 ∧ ∀ j u, (flatT ts)[j]? = some u → w.cell? ⟨g, j, none⟩ = some u := by
  subst hn
  have hl := h.lt
  have hh := h
  rcases h.2 with ⟨rfl, hq⟩ | ⟨g, cap, cur, rfl, hb, hgg, h5, h6, h7, h8⟩
  · omega
  · refine ⟨g, cap, rfl, hb, (hl g rfl).2, h5, h6, fun j u hu => ?_⟩
    have := hh.cells (g := g) rfl j u hu
    rwa [addr_add, Nat.zero_add] at this
/-- A slice of parts, in a row of its own; the parts lie as they lay. -/
def LadP (z : Nat) (W : World) (ps : List Tm) (w : World) (e : Ending) (w' : World) : Prop := ∃ (g n c : Nat) (ts : List (Tm × Value)), e = .returned (.slice (some ⟨g, 0, none⟩) n c) ∧ w.heap.size ≤ g ∧ g < w'.heap.size ∧ ts.map Prod.fst = ps ∧ n = ts.length ∧ n ≤ c ∧ c ≤ 9223372036854775807 ∧ (∀ p, p ∈ ts → Sits z W p.1 p.2) ∧ (∀ j u, (flatT ts)[j]? = some u → w'.cell? ⟨g, j, none⟩ = some u) ∧ Below w.heap.size w w'
theorem sl_one {z : Nat} {w : World} {t : Tm} {v : Value} (h : Sits z w t v) : v.oneCell' = true := by
  obtain ⟨ad, cap, rfl, -, -⟩ := h.parts.shape
  rfl
set_option maxRecDepth 20000 in
set_option maxHeartbeats 1000000 in
theorem ladder_2 {z : Nat} (W : World) (t x y : Tm) (a b : Value) (w : World) (hx : Sits z W x a) (hy : Sits z W y b) : Calls Tryd.prog 79 #[doubleV t x y a b] w (LadP z W [x, y] w) := by
  have n0 := is_double
  have HX := hid2 hx
  have HY := hid2 hy
  obtain ⟨ad, cap, rfl, -, -⟩ := hx.parts.shape
  obtain ⟨ad2, cap2, rfl, -, -⟩ := hy.parts.shape
  have HP : Hid (∀ o, LadP z W [x, y] w (.returned (.slice (some ⟨w.heap.size + 1, 0, none⟩) 2 2)) ((w.alloc o).alloc (.cells #[.int .i64 x.kind, .string x.text, .int .i64 x.n, .int .i64 x.m, .int .i64 x.pl, .slice ad x.parts.length cap, .int .i64 y.kind, .string y.text, .int .i64 y.n, .int .i64 y.m, .int .i64 y.pl, .slice ad2 y.parts.length cap2] 24))) := fun o => by
    have hb := Box.new (w.alloc o) (flatT [(x, .slice ad x.parts.length cap), (y, .slice ad2 y.parts.length cap2)]) 24
    rw [show (w.alloc o).heap.size = w.heap.size + 1 by simp] at hb
    have B : ∀ o1, Below w.heap.size w ((w.alloc o).alloc o1) := fun o1 => ((Below.refl _ _).alloc (Nat.le_refl _) _).alloc (by simp) _
    exact ⟨_, _, _, [(x, .slice ad x.parts.length cap), (y, .slice ad2 y.parts.length cap2)], rfl, by omega, hb.lt, rfl, rfl, Nat.le_refl _, by decide, (fun p hp => by simp at hp; rcases hp with rfl | rfl; exact HX.out; exact HY.out), fun j u hu => hb.cell j u hu, B _⟩
  clear hx hy
  go_enter Tryd.func79, Tryd.ntmps79
  go_wp2_with fail
  go_ret
  exact HP.out _
set_option maxRecDepth 20000 in
set_option maxHeartbeats 1000000 in
theorem ladder_4 {z : Nat} (W : World) (t x y : Tm) (l : List Tm) (a mid b : Value) (w : World) (hW : Below W.heap.size W w) (hl : 2 ≤ l.length) (hm : l.length ≤ 16384) (hx : Sits z W x a) (hmid : PAt z W mid l) (hy : Sits z W y b) : Calls Tryd.prog 79 #[manyV t x y a mid b] w (LadP z W (x :: (l ++ [y])) w) := by
  have n0 := many_no_double
  have n1 := must_many
  obtain ⟨i0, hi, hz0, hz1, hz2⟩ := info_parts info_term
  obtain ⟨mb, mo, mc, ts, rfl, hmbW, hts, hsits, hcellW⟩ := hmid.list (by omega)
  have hmb : mb < w.heap.size := Nat.lt_of_lt_of_le hmbW hW.size
  have hcell : ∀ j u, (flatT ts)[j]? = some u → w.cell? ⟨mb, mo + j, none⟩ = some u := fun j u hu => (hW.cell (p := ⟨mb, mo + j, none⟩) hmbW).trans (hcellW j u hu)
  have HX := hid2 hx
  have HY := hid2 hy
  have HS := hid2 hsits
  have HC := hid2 hcell
  have hlen : ts.length = l.length := by rw [← hts]; simp
  obtain ⟨M, hM⟩ : ∃ M, Hid (M = l.length) := ⟨_, rfl⟩
  rw [← hM.out] at hl hm hlen ⊢
  have HT := hid2 hts
  obtain ⟨ad, cap, rfl, -, -⟩ := hx.parts.shape
  obtain ⟨ad2, cap2, rfl, -, -⟩ := hy.parts.shape
  have HF := hid2 (fun u hu => flatT_one ts u hu (fun p hp => sl_one (hsits p hp)))
  have HFl : Hid ((flatT ts).length = M * 6) := by rw [← hlen]; exact flatT_len ts
  have HR1 : Hid (∀ o o1, (((w.alloc o).alloc o1).alloc (.cells #[.int .i64 x.kind, .string x.text, .int .i64 x.n, .int .i64 x.m, .int .i64 x.pl, .slice ad x.parts.length cap] 24)).ownsRow w.heap.size 24 6 (.slice (some ⟨w.heap.size + 1 + 1, 0, none⟩) 1 1) 1 (flatT [(x, .slice ad x.parts.length cap)])) := fun o o1 => by
    have := row_built ((w.alloc o).alloc o1) (flatT [(x, .slice ad x.parts.length cap)]) w.heap.size (by simp; omega) rfl
    rw [show ((w.alloc o).alloc o1).heap.size = w.heap.size + 1 + 1 by simp] at this
    exact this
  have HC1 : Hid (∀ o o1 o2 j u, (flatT ts)[j]? = some u → (((w.alloc o).alloc o1).alloc o2).cell? ((⟨mb, mo, none⟩ : Addr).add j) = some u) := fun o o1 o2 j u hu => by
    rw [addr_add]
    exact ((below3 w o o1 o2).cell (p := ⟨mb, mo + j, none⟩) hmb).trans (HC.out j u hu)
  obtain ⟨X, hX⟩ : ∃ X : Array Value, Hid (X = #[.int .i64 t.kind, .string t.text, .int .i64 t.n, .int .i64 t.m, .int .i64 x.kind, .string x.text, .int .i64 x.n, .int .i64 x.m, .int .i64 x.pl, .slice ad x.parts.length cap, .slice (some ⟨mb, mo, none⟩) M mc, .int .i64 y.kind, .string y.text, .int .i64 y.n, .int .i64 y.m, .int .i64 y.pl, .slice ad2 y.parts.length cap2]) := ⟨_, rfl⟩
  have st := run_storeCells_new (P := Tryd.prog) (w.alloc (.cells doubleC 81)) 85 manyC X (by rw [hX.out]; kernel_rfl) (by rw [hX.out]; rfl) (by rw [hX.out]; kernel_rfl)
  have BX := Box.new (w.alloc (.cells doubleC 81)) [.int .i64 t.kind, .string t.text, .int .i64 t.n, .int .i64 t.m, .int .i64 x.kind, .string x.text, .int .i64 x.n, .int .i64 x.m, .int .i64 x.pl, .slice ad x.parts.length cap, .slice (some ⟨mb, mo, none⟩) M mc, .int .i64 y.kind, .string y.text, .int .i64 y.n, .int .i64 y.m, .int .i64 y.pl, .slice ad2 y.parts.length cap2] 85
  show Calls _ _ #[.iface 85 (.agg #[.int .i64 t.kind, .string t.text, .int .i64 t.n, .int .i64 t.m, .int .i64 x.kind, .string x.text, .int .i64 x.n, .int .i64 x.m, .int .i64 x.pl, .slice ad x.parts.length cap, .slice (some ⟨mb, mo, none⟩) M mc, .int .i64 y.kind, .string y.text, .int .i64 y.n, .int .i64 y.m, .int .i64 y.pl, .slice ad2 y.parts.length cap2])] _ _
  rw [← hX.out] at BX ⊢
  have hXs : X.size = 17 := by rw [hX.out]; rfl
  have e2 : (w.alloc (.cells doubleC 81)).heap.size = w.heap.size + 1 := by simp
  rw [e2] at BX st
  have BX1 := hid2 BX
  have k4 := BX.cell 4 _ rfl
  have k5 := BX.cell 5 _ rfl
  have k6 := BX.cell 6 _ rfl
  have k7 := BX.cell 7 _ rfl
  have k8 := BX.cell 8 _ rfl
  have k9 := BX.cell 9 _ rfl
  have k10 := BX.cell 10 _ rfl
  have lx := BX.lt
  have HBB : Hid (∀ w2 o, (((w.alloc (.cells doubleC 81)).alloc (.cells X 85)).alloc o).grownBy w2 (some (w.heap.size + 1 + 1)) → Box w2 (w.heap.size + 1) [.int .i64 t.kind, .string t.text, .int .i64 t.n, .int .i64 t.m, .int .i64 x.kind, .string x.text, .int .i64 x.n, .int .i64 x.m, .int .i64 x.pl, .slice ad x.parts.length cap, .slice (some ⟨mb, mo, none⟩) M mc, .int .i64 y.kind, .string y.text, .int .i64 y.n, .int .i64 y.m, .int .i64 y.pl, .slice ad2 y.parts.length cap2]) := fun w2 o hg => (BX.next ((Below.refl _ _).alloc (Nat.le_refl _) o)).turn (S := [w.heap.size + 1 + 1]) ⟨hg.os, hg.tape, hg.output, hg.size, fun k hk hn => hg.block k hk (fun e => hn (by simp at e; simp [e]))⟩ (by simp)
  clear hX BX hx hy e2
  clear hmid hsits hcell hts hW hcellW hmbW
  go_enter Tryd.func79, Tryd.ntmps79
  have HN2 : Hid (∀ (w2 : World) j u, (flatT [(y, .slice ad2 y.parts.length cap2)])[j]? = some u → (w2.alloc (.cells #[.int .i64 y.kind, .string y.text, .int .i64 y.n, .int .i64 y.m, .int .i64 y.pl, .slice ad2 y.parts.length cap2] 24)).cell? ((⟨w2.heap.size, 0, none⟩ : Addr).add j) = some u) := fun w2 j u hu => by
    rw [addr_add, Nat.zero_add]
    exact (Box.new w2 (flatT [(y, .slice ad2 y.parts.length cap2)]) 24).cell j u hu
  have HO2 := hid2 (fun u hu => flatT_one [(y, .slice ad2 y.parts.length cap2)] u hu (fun p hp => by simp at hp; subst hp; rfl))
  go_wp2_with (first | (at_builtin; (refine wpList_append_own _ rfl _ _ 22 rfl w.heap.size 24 i0 (.agg #[.int .i64 0, .string ⟨#[]⟩, .int .i64 0, .int .i64 0, .int .i64 0, .slice none 0 0]) 6 72 Tryd.underlying22 hi hz0 hz1 hz2 rfl (by decide) _ 1 (flatT [(x, .slice ad x.parts.length cap)]) rfl (HR1.out _ _) ⟨mb, mo, none⟩ M mc (flatT ts) rfl HFl.out (HC1.out _ _ _) HF.out (by unfold maxLen; omega) (by omega) (by simp; omega) ?_; intro v2 w2 hrow2 hgrow2 hnil2; have bx2 := HBB.out _ _ hgrow2; have k11 := bx2.cell 11 _ rfl; have k12 := bx2.cell 12 _ rfl; have k13 := bx2.cell 13 _ rfl; have k14 := bx2.cell 14 _ rfl; have k15 := bx2.cell 15 _ rfl; have k16 := bx2.cell 16 _ rfl; have l2 := bx2.lt; have B2 := hid2 (Below.grown (below3 w _ _ _) hgrow2 (by simp; omega) (fun j hj => by have e : some (w.heap.size + 1 + 1) = some j := hj; have := Option.some.inj e; omega)); have R2 := hid2 hrow2; clear hrow2 hgrow2 hnil2 bx2)) | (at_builtin; (refine wpList_append_own _ rfl _ _ 22 rfl w.heap.size 24 i0 (.agg #[.int .i64 0, .string ⟨#[]⟩, .int .i64 0, .int .i64 0, .int .i64 0, .slice none 0 0]) 6 72 Tryd.underlying22 hi hz0 hz1 hz2 rfl (by decide) v2 (1 + M) _ rfl (row_keep R2.out ((Below.refl _ _).alloc (Nat.le_refl _) _)) ⟨w2.heap.size, 0, none⟩ 1 1 (flatT [(y, .slice ad2 y.parts.length cap2)]) rfl rfl (HN2.out _) HO2.out (by unfold maxLen; omega) (by omega) (by have := B2.out.size; simp; omega) ?_; intro v3 w3 hrow3 hgrow3 hnil3; have R3 := hid2 hrow3; have B3 := hid2 (Below.grown (B2.out.alloc B2.out.size (.cells #[.int .i64 y.kind, .string y.text, .int .i64 y.n, .int .i64 y.m, .int .i64 y.pl, .slice ad2 y.parts.length cap2] 24)) hgrow3 (by have := B2.out.size; simp; omega) (fun j hj => (R2.out.lt j hj).1)); clear hrow3 hgrow3 hnil3)))
  go_ret
  have hrow : w3.ownsRow w.heap.size 24 6 v3 (1 + M + 1) (flatT ((x, .slice ad x.parts.length cap) :: (ts ++ [(y, .slice ad2 y.parts.length cap2)]))) := by
    have := R3.out
    rw [← flatT_append, ← flatT_append] at this
    exact this
  obtain ⟨g, rc, rfl, hg1, hg2, hc1, hc2, hcc⟩ := row_lies _ hrow (by simp; omega) (by simp)
  refine ⟨g, _, rc, (x, .slice ad x.parts.length cap) :: (ts ++ [(y, .slice ad2 y.parts.length cap2)]), rfl, hg1, hg2, ?_, by simp; omega, hc1, hc2, fun p hp => ?_, hcc, B3.out⟩
  · simp only [List.map_cons, List.map_append, List.map_nil, HT.out]
  · rcases List.mem_cons.1 hp with rfl | hp
    · exact HX.out
    rcases List.mem_append.1 hp with hp | hp
    · exact HS.out p hp
    · simp at hp
      subst hp
      exact HY.out
set_option maxRecDepth 20000 in
set_option maxHeartbeats 1000000 in
theorem parts_L {z : Nat} (n : Value) (ps : List Tm) (w : World) (h : ∀ wx, Below w.heap.size w wx → Calls Tryd.prog 79 #[n] wx (LadP z w ps wx)) : Calls Tryd.prog 53 #[n, .int .i64 36] w (PartsP z ps w) := by
  have hmf : ∀ (fn : Fn) (first cap : Array Value) (w : World), (Instr.makeFunc fn first cap).run Tryd.prog w = .ok (.func fn first cap) w := fun _ _ _ _ => rfl
  obtain ⟨X0, X1, XB⟩ := two_boxes w 22 4 [.slice none 0 0] [.bool false]
  have HC := hid2 (h _ XB)
  have BX := hid2 X0
  have BY := hid2 X1
  have BB := hid2 XB
  clear h X0 X1 XB
  go_enter_defers Tryd.func53, Tryd.ntmps53
  go_wp2_with fail
  refine Calls.mono HC.out ?_
  rintro e w1 ⟨g, N, c, ts, rfl, g1, g2, hts, hN, hc1, hc2, hsits, hcell, b1⟩
  have Y0 := BX.out.next b1
  have Y1 := BY.out.next b1
  have B1 := hid2 (below_on BB.out b1 BB.out.size)
  have c0 := Y0.cell 0 _ rfl
  have c1 := Y1.cell 0 _ rfl
  have f0 := Y0.free 0 (by simp)
  have f1 := Y1.free 0 (by simp)
  have Z0 := ((Y0.set 0 (by simp) (.slice (some ⟨g, 0, none⟩) N c)).set 0 (by simp) (.slice (some ⟨g, 0, none⟩) N c)).other (q := w.heap.size + 1) (j := 0) (v := .bool true) (by omega)
  have z0 : (((w1.setCell ⟨w.heap.size, 0, none⟩ (.slice (some ⟨g, 0, none⟩) N c)).setCell ⟨w.heap.size, 0, none⟩ (.slice (some ⟨g, 0, none⟩) N c)).setCell ⟨w.heap.size + 1, 0, none⟩ (.bool true)).cell? ⟨w.heap.size, 0, none⟩ = some (.slice (some ⟨g, 0, none⟩) N c) := Z0.cell 0 _ rfl
  have Z1 := ((Y1.other (q := w.heap.size) (j := 0) (v := (.slice (some ⟨g, 0, none⟩) N c)) (by omega)).other (q := w.heap.size) (j := 0) (v := (.slice (some ⟨g, 0, none⟩) N c)) (by omega)).set 0 (by simp) (.bool true)
  have z1 : (((w1.setCell ⟨w.heap.size, 0, none⟩ (.slice (some ⟨g, 0, none⟩) N c)).setCell ⟨w.heap.size, 0, none⟩ (.slice (some ⟨g, 0, none⟩) N c)).setCell ⟨w.heap.size + 1, 0, none⟩ (.bool true)).cell? ⟨w.heap.size + 1, 0, none⟩ = some (.bool true) := Z1.cell 0 _ rfl
  have gg : w.heap.size + 1 + 1 ≤ g := by simpa using g1
  have HP : Hid (PartsP z ps w (.returned (.tuple #[.slice (some ⟨g, 0, none⟩) N c, .bool true])) (((w1.setCell ⟨w.heap.size, 0, none⟩ (.slice (some ⟨g, 0, none⟩) N c)).setCell ⟨w.heap.size, 0, none⟩ (.slice (some ⟨g, 0, none⟩) N c)).setCell ⟨w.heap.size + 1, 0, none⟩ (.bool true))) := by
    have B2 := ((B1.out.setCell (p := ⟨w.heap.size, 0, none⟩) (Nat.le_refl _) (.slice (some ⟨g, 0, none⟩) N c)).setCell (p := ⟨w.heap.size, 0, none⟩) (Nat.le_refl _) (.slice (some ⟨g, 0, none⟩) N c)).setCell (p := ⟨w.heap.size + 1, 0, none⟩) (Nat.le_succ _) (.bool true)
    subst hts hN
    refine ⟨_, rfl, pat_flat ts (fun j u hu => ?_) (by simpa using g2) (fun p hp => (hsits p hp).next B2) hc1 hc2, B2⟩
    rw [Nat.zero_add, World.cell?_setCell_far _ _ _ _ (by simp; omega), World.cell?_setCell_far _ _ _ _ (by simp; omega), World.cell?_setCell_far _ _ _ _ (by simp; omega)]
    exact hcell j u hu
  clear HC BX BY BB Y0 Y1 B1 Z0 Z1 hsits hcell hts hN b1
  go_wp2_with fail
  refine leaves_cons (f := 78) (args := #[.pointer (some ⟨w.heap.size, 0, none⟩), .pointer (some ⟨w.heap.size + 1, 0, none⟩)]) (by simp) (by simp [go_sem]) ?_
  refine (catch_idle _ _ _).mono ?_
  rintro e u' w'' ⟨rfl, rfl, rfl⟩
  simp [Leaves, settle, results, Tryd.results53, go_sem, z0, z1]
  exact HP.out
theorem leaf_kind {k : Int} {s : ByteArray} {n m : Int} (h : leafB k s n m = true) : k ≤ 12 := by
  unfold leafB at h
  split at h
  · omega
  split at h
  · omega
  split at h
  · omega
  split at h
  · omega
  split at h
  · omega
  have := (plain_iff.1 h).2.1
  omega
/-- partsAs of a formed node, of its own kind. -/
theorem partsAs_c {z : Nat} (t : Tm) (n : Value) (w : World) (hn : IsNode z w t n) (hf : formedB t = true ∨ actionB t = true) (hm : t.parts.length ≤ 16384) : Calls Tryd.prog 53 #[n, .int .i64 t.kind] w (PartsP z t.parts w) := by
  rcases hn with ⟨hp, rfl⟩ | ⟨x, a, hp, rfl, p⟩ | ⟨x, y, a, b, hp, rfl, p, q⟩ | ⟨x, y, u, a, b, c, hp, rfl, p, q, r⟩ | ⟨x, y, l, a, mid, b, hp, h2, rfl, p, q, r⟩
  · rw [hp]
    refine parts_0 t t.kind ?_ w
    rcases hf with hf | hf
    · rw [show formedB t = leafB t.kind t.text t.n t.m by rw [formedB_eq, hp]; simp [headB]] at hf
      exact .inl (leaf_kind hf)
    · rw [action_0 hp] at hf
      have := plain_iff.1 hf
      exact .inr (by omega)
  · rw [hp]
    rcases hf with hf | hf
    · rw [show formedB t = (plainB t.kind t.text t.n t.m 13 17 && formedB x) by rw [formedB_eq, hp]; simp [headB], Bool.and_eq_true] at hf
      have := plain_iff.1 hf.1
      exact parts_1 t x a t.kind (by omega) (.inl (by omega)) w p
    · rw [action_1 hp, Bool.and_eq_true] at hf
      have := plain_iff.1 hf.1
      exact parts_1 t x a t.kind (by omega) (.inr (by omega)) w p
  · rw [hp]
    rcases hf with hf | hf
    · rw [show formedB t = (plainB t.kind t.text t.n t.m 18 31 && (formedB x && formedB y)) by rw [formedB_eq, hp]; simp [headB], Bool.and_eq_true] at hf
      have := plain_iff.1 hf.1
      exact parts_2 t x y a b t.kind (by omega) (by omega) w p q
    · rw [action_2 hp, Bool.and_eq_true] at hf
      have := plain_iff.1 hf.1
      rw [show t.kind = 36 by omega]
      exact parts_L _ _ w (fun wx _ => ladder_2 w t x y a b wx p q)
  · rw [hp]
    rcases hf with hf | hf
    · rw [show formedB t = (plainB t.kind t.text t.n t.m 32 32 && (formedB x && (formedB y && formedB u))) by rw [formedB_eq, hp]; simp [headB], Bool.and_eq_true] at hf
      have := plain_iff.1 hf.1
      rw [show t.kind = 32 by omega]
      exact parts_3 t x y u a b c w p q r
    · rw [action_3 hp] at hf
      cases hf
  · have hlen : t.parts.length = l.length + 2 := by rw [hp]; simp
    rcases hf with hf | hf
    · have e : formedB t = false := by rw [formedB_eq, headB, if_neg (by omega), if_neg (by omega), if_neg (by omega), if_neg (by omega)]; rfl
      rw [e] at hf
      cases hf
    · rw [action_4 hp h2, Bool.and_eq_true] at hf
      have := plain_iff.1 hf.1
      rw [hp, show t.kind = 36 by omega]
      exact parts_L _ _ w (fun wx hb => ladder_4 w t x y l a mid b wx hb h2 (by omega) p q r)
end Go.Proofs.YtdikeicnefgjcaaDoor
