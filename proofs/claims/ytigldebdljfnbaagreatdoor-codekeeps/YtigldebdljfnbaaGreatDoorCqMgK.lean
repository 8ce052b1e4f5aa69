import Derived.Test.YtigldebdljfnbaaGreatDoorCqMgB
import Derived.Test.YtigldebdljfnbaaGreatDoorCqMoM
import Derived.Test.YtigldebdljfnbaaGreatDoorCqMjB
import Derived.Test.YtigldebdljfnbaaGreatDoorCqMgC
import Derived.Lib.LazyBuf
import Derived.Test.YtigldebdljfnbaaGreatDoorCqMgM
import Derived.Test.YtigldebdljfnbaaGreatDoorCqMgP
import Derived.Deep.AppendLies
import Derived.Deep.RegionLaw
namespace Go.Proofs.YtigldebdljfnbaaGreatDoor
open Go.RowKit

structure Rng (lo hi : Nat) (w w' : World) : Prop where
  os : w'.os = w.os
  tape : w'.tape = w.tape
  output : w'.output = w.output
  size : w.heap.size ≤ w'.heap.size
  block : ∀ k, k < w.heap.size → ¬ (lo ≤ k ∧ k < hi) → w'.heap[k]? = w.heap[k]?
theorem Rng.set {lo hi : Nat} (w : World) (p : Addr) (v : Value) (h1 : lo ≤ p.block) (h2 : p.block < hi) : Rng lo hi w (w.setCell p v) :=
  have t := Turn.set (S := [p.block]) w p v (by simp)
  ⟨t.os, t.tape, t.output, t.size, fun b hb hn => t.block b hb (fun e => hn (by have := List.mem_singleton.1 e; subst this; exact ⟨h1, h2⟩))⟩
theorem turn_tr {S : List Nat} {w w' w'' : World} (h : Turn S w w') (k : Turn S w' w'') : Turn S w w'' := h.trans k (fun _ hi => .inl hi)
def CWt : Co → Prop
  | ⟨_, _, _, ps⟩ => ps.length * 48 ≤ 140737488355328 ∧ ∀ x (h : x ∈ ps), (have : SizeOf.sizeOf x < SizeOf.sizeOf ps := List.sizeOf_lt_of_mem h; CWt x)
theorem cwt_iff {t : Co} : CWt t ↔ t.parts.length * 48 ≤ 140737488355328 ∧ ∀ x, x ∈ t.parts → CWt x := by
  cases t
  rw [CWt]




def rowsF (cs : Nat → List Value) (n : Nat) : List Value := ((List.range n).map cs).flatten
theorem rowsF_succ (cs : Nat → List Value) (n : Nat) : rowsF cs (n + 1) = rowsF cs n ++ cs n := by simp [rowsF, List.range_succ]
theorem rowsF_len {cs : Nat → List Value} {k : Nat} (h : ∀ i, (cs i).length = k) (n : Nat) : (rowsF cs n).length = n * k := by
  induction n with
  | zero => simp [rowsF]
  | succ n ih => rw [rowsF_succ, List.length_append, ih, h, Nat.succ_mul]
theorem rowsF_at {cs : Nat → List Value} {k : Nat} (h : ∀ i, (cs i).length = k) (n : Nat) : ∀ i j u, i < n → (cs i)[j]? = some u → (rowsF cs n)[i * k + j]? = some u := by
  induction n with
  | zero => intro i j u hi; omega
  | succ n ih =>
    intro i j u hi hu
    have hj : j < k := by have := (List.getElem?_eq_some_iff.1 hu).1; rw [h] at this; exact this
    rw [rowsF_succ]
    by_cases e : i < n
    · have hb : i * k + j < n * k := by
        have : (i + 1) * k ≤ n * k := Nat.mul_le_mul_right k e
        rw [Nat.succ_mul] at this
        omega
      rw [List.getElem?_append_left (by rw [rowsF_len h]; exact hb)]
      exact ih i j u e hu
    · have e2 : i = n := by omega
      subst e2
      rw [List.getElem?_append_right (by rw [rowsF_len h]; omega), rowsF_len h]
      rw [show i * k + j - i * k = j by omega]
      exact hu
theorem rowsF_of {cs : Nat → List Value} {k : Nat} (hk : 0 < k) (h : ∀ i, (cs i).length = k) (n : Nat) (q : Nat) (u : Value) (hu : (rowsF cs n)[q]? = some u) : q / k < n ∧ (cs (q / k))[q % k]? = some u := by
  have hq : q < n * k := by have := (List.getElem?_eq_some_iff.1 hu).1; rw [rowsF_len h] at this; exact this
  have h1 : q / k < n := Nat.div_lt_of_lt_mul (by rw [Nat.mul_comm]; exact hq)
  refine ⟨h1, ?_⟩
  have h2 : q % k < (cs (q / k)).length := by rw [h]; exact Nat.mod_lt _ hk
  have h3 := rowsF_at h n (q / k) (q % k) _ h1 (List.getElem?_eq_getElem h2)
  have h4 : q / k * k + q % k = q := by rw [Nat.mul_comm]; exact Nat.div_add_mod q k
  rw [h4, hu] at h3
  rw [List.getElem?_eq_getElem h2]
  exact h3.symm
theorem rows_cells {w : World} {n k : Nat} {cs : Nat → List Value} (hk : 0 < k) (hl : ∀ i, (cs i).length = k) {b off : Nat} (hx : ∀ i, i < n → ∀ j x, (cs i)[j]? = some x → w.cell? ⟨b, off + i * k + j, none⟩ = some x) : ∀ j u, (rowsF cs n)[j]? = some u → w.cell? ((⟨b, off, none⟩ : Addr).add j) = some u := by
  intro j u hu
  obtain ⟨h1, h2⟩ := rowsF_of hk hl n j u hu
  have := hx _ h1 _ _ h2
  rw [Nat.add_assoc, show j / k * k + j % k = j by rw [Nat.mul_comm]; exact Nat.div_add_mod j k] at this
  have hadd : (⟨b, off, none⟩ : Addr).add j = ⟨b, off + j, none⟩ := by unfold Addr.add; split <;> simp_all
  rw [hadd]
  exact this
theorem rows_of_own {w : World} {B n k : Nat} {e : TypeId} {v : Value} {cs : Nat → List Value} (hl : ∀ i, (cs i).length = k) (h : w.ownsRow B e k v n (rowsF cs n)) : RowsK w v n k cs := by
  obtain ⟨h1, ⟨h2, h3⟩ | ⟨g, cap, cur, h2, h3, h4, h5, h6, h7, h8⟩⟩ := h
  · exact ⟨none, 0, by rw [h2, h3], by omega, by omega, .inl h3⟩
  · have BX : Box w g (rowsF cs n) := (Box.ofBlock h4).part (by rw [← h8]; exact List.take_prefix _ _)
    refine ⟨_, cap, h2, h5, h6, .inr ⟨g, 0, rfl, BX.lt, fun i hi j x hx => ?_⟩⟩
    have := BX.cell (i * k + j) x (rowsF_at hl n i j x hi hx)
    simpa using this
theorem info_Wi : (Tryz.prog.info? 46).map (fun i => (i.zero.map (fun z => z.cells.size), i.size, i.bytes)) = some (some 4, 4, 32) := by kernel_rfl
theorem info_Wi' : ∃ i z, Tryz.prog.info? 46 = some i ∧ i.zero = some z ∧ z.cells.size = 4 ∧ i.size = 4 ∧ i.bytes = 32 := by
  have h := info_Wi
  cases hi : Tryz.prog.info? 46 with
  | none => rw [hi] at h; cases h
  | some i =>
    rw [hi] at h
    simp only [Option.map_some, Option.some.injEq, Prod.mk.injEq] at h
    obtain ⟨z, hz, h0⟩ := Option.map_eq_some_iff.1 h.1
    exact ⟨i, z, rfl, hz, h0, h.2.1, h.2.2⟩
set_option maxHeartbeats 2000000 in
set_option maxRecDepth 20000 in
theorem cloneWi_c (l : List WiP) (hl : l.length * 32 ≤ 140737488355328) (v : Value) (w : World) (hs : WisAt w v l) : Calls Tryz.prog 14 #[v] w fun e w' => ∃ u, e = .returned u ∧ w'.ownsRow w.heap.size 46 4 u l.length (rowsF (fun i => wiL (l.getD i wi0)) l.length) ∧ Below w.heap.size w w' := by
  obtain ⟨ad, cap, rfl, hle, hcap, hp⟩ := hs
  obtain ⟨i0, z, hi, hz0, hzs, hz1, hz2⟩ := info_Wi'
  have hcs : Hid (∀ i, (wiL (l.getD i wi0)).length = 4) := fun i => rfl
  obtain ⟨cs, hcsd⟩ : ∃ cs : Nat → List Value, Hid (cs = fun i => wiL (l.getD i wi0)) := ⟨_, rfl⟩
  have hone : Hid (∀ u, u ∈ rowsF cs l.length → u.oneCell' = true) := by
    show ∀ u, _
    intro u hu
    obtain ⟨q, hq⟩ := List.mem_iff_getElem?.1 hu
    obtain ⟨-, h2⟩ := rowsF_of (k := 4) (by decide) (by rw [hcsd.out]; exact hcs.out) _ _ _ hq
    rw [hcsd.out] at h2
    have h3 := List.mem_of_getElem? h2
    simp at h3
    rcases h3 with rfl | rfl | rfl | rfl <;> rfl
  have hcs' : Hid (∀ i, (cs i).length = 4) := by rw [hcsd.out]; exact hcs
  simp only at hp
  rw [← hcsd.out]
  have hp' : l.length = 0 ∨ ∃ b off, ad = some ⟨b, off, none⟩ ∧ b < w.heap.size ∧ ∀ i, i < l.length → ∀ j x, (cs i)[j]? = some x → w.cell? ⟨b, off + i * 4 + j, none⟩ = some x := by rw [hcsd.out]; exact hp
  clear hp hcs hcsd
  generalize l.length = N at *
  have hnil := fun W : World => run_eql_slice_nil (P := Tryz.prog) W 25 46 ad N cap Tryz.underlying25
  cases ad with
  | none =>
    have hn0 : N = 0 := by
      rcases hp' with h | ⟨b, off, e, -⟩
      · exact h
      · cases e
    subst hn0
    go_enter Tryz.func14, Tryz.ntmps14
    go_wp2_with fail
    go_ret
    exact ⟨.slice none 0 0, rfl, World.ownsRow_nil _ _ _ _, Below.refl _ _⟩
  | some a =>
    have HC : Hid (∀ W, Below w.heap.size w W → ∀ j u, (rowsF cs N)[j]? = some u → W.cell? (a.add j) = some u) := by
      show ∀ W, _
      intro W hW j u hu
      rcases hp' with h | ⟨b, off, e, hb, hx⟩
      · subst h; simp [rowsF] at hu
      · cases e
        exact rows_cells (by decide) hcs'.out (fun i hi j x h => keepc hW (hx i hi j x h)) j u hu
    have ba := (Below.refl w.heap.size w).alloc (Nat.le_refl _) (.cells #[] 46)
    have BA := chid ba
    have hO := chid (World.ownsRow_lit (base := w.heap.size) (e := 46) (size := 4) w #[] 0 (Nat.le_refl _) (by unfold maxLen; omega) rfl)
    clear hp' ba
    go_enter Tryz.func14, Tryz.ntmps14
    go_wp2_with (at_builtin; refine wpList_append_own_wide _ rfl _ _ 25 rfl w.heap.size 46 i0 z 4 32 Tryz.underlying25 hi hz0 hz1 hz2 hzs (by decide) _ 0 [] rfl hO.out a N cap (rowsF cs N) rfl (by rw [rowsF_len hcs'.out]) (HC.out _ BA.out) hone.out (by unfold maxLen; omega) (by omega) (by simp) ?_; intro v1 w1 ho1 hg1 _)
    have B1 := below_grown BA.out hO.out hg1 (by simp)
    rw [Nat.zero_add, List.nil_append] at ho1
    go_wp2_with fail
    go_ret
    exact ⟨_, rfl, ho1, B1⟩
theorem info_Cr : (Tryz.prog.info? 49).map (fun i => (i.zero.map (fun z => z.cells.size), i.size, i.bytes)) = some (some 5, 5, 40) := by kernel_rfl
theorem info_Cr' : ∃ i z, Tryz.prog.info? 49 = some i ∧ i.zero = some z ∧ z.cells.size = 5 ∧ i.size = 5 ∧ i.bytes = 40 := by
  have h := info_Cr
  cases hi : Tryz.prog.info? 49 with
  | none => rw [hi] at h; cases h
  | some i =>
    rw [hi] at h
    simp only [Option.map_some, Option.some.injEq, Prod.mk.injEq] at h
    obtain ⟨z, hz, h0⟩ := Option.map_eq_some_iff.1 h.1
    exact ⟨i, z, rfl, hz, h0, h.2.1, h.2.2⟩
set_option maxHeartbeats 2000000 in
set_option maxRecDepth 20000 in
theorem cloneCr_c (l : List Cr) (hl : l.length * 40 ≤ 140737488355328) (v : Value) (w : World) (hs : CrsAt w v l) : Calls Tryz.prog 15 #[v] w fun e w' => ∃ u, e = .returned u ∧ w'.ownsRow w.heap.size 49 5 u l.length (rowsF (fun i => crL (l.getD i cr0)) l.length) ∧ Below w.heap.size w w' := by
  obtain ⟨ad, cap, rfl, hle, hcap, hp⟩ := hs
  obtain ⟨i0, z, hi, hz0, hzs, hz1, hz2⟩ := info_Cr'
  have hcs : Hid (∀ i, (crL (l.getD i cr0)).length = 5) := fun i => rfl
  obtain ⟨cs, hcsd⟩ : ∃ cs : Nat → List Value, Hid (cs = fun i => crL (l.getD i cr0)) := ⟨_, rfl⟩
  have hone : Hid (∀ u, u ∈ rowsF cs l.length → u.oneCell' = true) := by
    show ∀ u, _
    intro u hu
    obtain ⟨q, hq⟩ := List.mem_iff_getElem?.1 hu
    obtain ⟨-, h2⟩ := rowsF_of (k := 5) (by decide) (by rw [hcsd.out]; exact hcs.out) _ _ _ hq
    rw [hcsd.out] at h2
    have h3 := List.mem_of_getElem? h2
    simp at h3
    rcases h3 with rfl | rfl | rfl | rfl | rfl <;> rfl
  have hcs' : Hid (∀ i, (cs i).length = 5) := by rw [hcsd.out]; exact hcs
  simp only at hp
  rw [← hcsd.out]
  have hp' : l.length = 0 ∨ ∃ b off, ad = some ⟨b, off, none⟩ ∧ b < w.heap.size ∧ ∀ i, i < l.length → ∀ j x, (cs i)[j]? = some x → w.cell? ⟨b, off + i * 5 + j, none⟩ = some x := by rw [hcsd.out]; exact hp
  clear hp hcs hcsd
  generalize l.length = N at *
  have hnil := fun W : World => run_eql_slice_nil (P := Tryz.prog) W 26 49 ad N cap Tryz.underlying26
  cases ad with
  | none =>
    have hn0 : N = 0 := by
      rcases hp' with h | ⟨b, off, e, -⟩
      · exact h
      · cases e
    subst hn0
    go_enter Tryz.func15, Tryz.ntmps15
    go_wp2_with fail
    go_ret
    exact ⟨.slice none 0 0, rfl, World.ownsRow_nil _ _ _ _, Below.refl _ _⟩
  | some a =>
    have HC : Hid (∀ W, Below w.heap.size w W → ∀ j u, (rowsF cs N)[j]? = some u → W.cell? (a.add j) = some u) := by
      show ∀ W, _
      intro W hW j u hu
      rcases hp' with h | ⟨b, off, e, hb, hx⟩
      · subst h; simp [rowsF] at hu
      · cases e
        exact rows_cells (by decide) hcs'.out (fun i hi j x h => keepc hW (hx i hi j x h)) j u hu
    have ba := (Below.refl w.heap.size w).alloc (Nat.le_refl _) (.cells #[] 49)
    have BA := chid ba
    have hO := chid (World.ownsRow_lit (base := w.heap.size) (e := 49) (size := 5) w #[] 0 (Nat.le_refl _) (by unfold maxLen; omega) rfl)
    clear hp' ba
    go_enter Tryz.func15, Tryz.ntmps15
    go_wp2_with (at_builtin; refine wpList_append_own_wide _ rfl _ _ 26 rfl w.heap.size 49 i0 z 5 40 Tryz.underlying26 hi hz0 hz1 hz2 hzs (by decide) _ 0 [] rfl hO.out a N cap (rowsF cs N) rfl (by rw [rowsF_len hcs'.out]) (HC.out _ BA.out) hone.out (by unfold maxLen; omega) (by omega) (by simp) ?_; intro v1 w1 ho1 hg1 _)
    have B1 := below_grown BA.out hO.out hg1 (by simp)
    rw [Nat.zero_add, List.nil_append] at ho1
    go_wp2_with fail
    go_ret
    exact ⟨_, rfl, ho1, B1⟩


theorem own_keep {w w' : World} {B : Nat} {e : TypeId} {size n : Nat} {v : Value} {xs : List Value} (h : w.ownsRow B e size v n xs) (hk : ∀ b, B ≤ b → b < w.heap.size → w'.heap[b]? = w.heap[b]?) : w'.ownsRow B e size v n xs := by
  obtain ⟨h1, h2 | ⟨g, cap, cur, h2, h3, h4, h5⟩⟩ := h
  · exact ⟨h1, .inl h2⟩
  · exact ⟨h1, .inr ⟨g, cap, cur, h2, h3, (hk g h3 (by rcases Nat.lt_or_ge g w.heap.size with h | h; exact h; rw [Array.getElem?_eq_none h] at h4; cases h4)).trans h4, h5⟩⟩
theorem own_shape {w : World} {B : Nat} {e : TypeId} {size n : Nat} {v : Value} {xs : List Value} (h : w.ownsRow B e size v n xs) : ∃ a c, v = .slice a n c := by
  obtain ⟨-, ⟨h2, h3⟩ | ⟨g, cap, cur, h2, -⟩⟩ := h
  · exact ⟨none, 0, by rw [h2, h3]⟩
  · exact ⟨_, _, h2⟩
theorem own_low {w : World} {B : Nat} {e : TypeId} {size n : Nat} {v : Value} {xs : List Value} (B' : Nat) (h : w.ownsRow B e size v n xs) (hb : B' ≤ B) : w.ownsRow B' e size v n xs := by
  obtain ⟨h1, h2 | ⟨g, cap, cur, h2, h3, h4⟩⟩ := h
  · exact ⟨h1, .inl h2⟩
  · exact ⟨h1, .inr ⟨g, cap, cur, h2, Nat.le_trans hb h3, h4⟩⟩
def RowIn (w : World) (lo hi : Nat) (e : TypeId) (k : Nat) (v : Value) (n : Nat) (xs : List Value) : Prop := lo ≤ hi ∧ w.ownsRow lo e k v n xs ∧ ∀ g, v.ownBlock = some g → g < hi
theorem RowIn.of {w : World} {lo : Nat} {e : TypeId} {k n : Nat} {v : Value} {xs : List Value} (h : w.ownsRow lo e k v n xs) (h0 : lo ≤ w.heap.size) : RowIn w lo w.heap.size e k v n xs := ⟨h0, h, fun g hg => (h.lt g hg).2⟩
structure PWt (p : PlP) : Prop where
  me : p.mets.length * 16 ≤ 140737488355328
  st : ∀ x, x ∈ p.mets → x.size ≤ 140737488355328
  wi : p.wins.length * 32 ≤ 140737488355328
  cr : p.crons.length * 40 ≤ 140737488355328
  gs : p.gs.length * 96 ≤ 140737488355328
  co : ∀ x, x ∈ p.gs → CWt x.1 ∧ CWt x.2
  fi : CWt p.fin
theorem RowIn.put {w : World} {lo hi : Nat} {e : TypeId} {k n g cap : Nat} {cs : List Value} (h : RowIn w lo hi e k (.slice (some ⟨g, 0, none⟩) n cap) n cs) (j : Nat) (u : Value) : RowIn (w.setCell ⟨g, j, none⟩ u) lo hi e k (.slice (some ⟨g, 0, none⟩) n cap) n (cs.set j u) ∧ Rng lo hi w (w.setCell ⟨g, j, none⟩ u) :=
  ⟨⟨h.1, (h.2.1.stored j u).1, h.2.2⟩, Rng.set w _ _ (h.2.1.lt g rfl).1 (h.2.2 g rfl)⟩
end Go.Proofs.YtigldebdljfnbaaGreatDoor
