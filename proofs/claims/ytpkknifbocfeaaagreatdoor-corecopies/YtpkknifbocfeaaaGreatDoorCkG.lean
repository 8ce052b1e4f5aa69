/- slices.Clone of windows and of schedules. -/
import Derived.Test.YtpkknifbocfeaaaGreatDoorMgP
import Derived.Test.YtpkknifbocfeaaaGreatDoorCeA
import Derived.Deep.AppendLies
import Derived.Deep.RegionLaw
import Derived.Lib.LazyBuf
namespace Go.Proofs.YtpkknifbocfeaaaGreatDoor
open Go.RowKit

/-- Rows one behind the other. -/
def rowsF (cs : Nat → List Value) (n : Nat) : List Value := ((List.range n).map cs).flatten
theorem rowsF_succ (cs : Nat → List Value) (n : Nat) : rowsF cs (n + 1) = rowsF cs n ++ cs n := by simp [rowsF, List.range_succ]
theorem rowsF_len {cs : Nat → List Value} {k : Nat} (h : ∀ i, (cs i).length = k) (n : Nat) : (rowsF cs n).length = n * k := by
  induction n with
  | zero => simp [rowsF]
  | succ n ih => rw [rowsF_succ, List.length_append, ih, h, Nat.succ_mul]
theorem rowsF_at {cs : Nat → List Value} {k : Nat} (h : ∀ i, (cs i).length = k) (n : Nat) : ∀ i j u, i < n → (cs i)[j]? = some u → (rowsF cs n)[i * k + j]? = some u := by
  induction n with
  | zero => intro i j u hi; omega
  | succ n ih =>
    intro i j u hi hu
    have hj : j < k := by have := (List.getElem?_eq_some_iff.1 hu).1; rw [h] at this; exact this
    rw [rowsF_succ]
    by_cases e : i < n
    · have hb : i * k + j < n * k := by
        have : (i + 1) * k ≤ n * k := Nat.mul_le_mul_right k e
        rw [Nat.succ_mul] at this
        omega
      rw [List.getElem?_append_left (by rw [rowsF_len h]; exact hb)]
      exact ih i j u e hu
    · have e2 : i = n := by omega
      subst e2
      rw [List.getElem?_append_right (by rw [rowsF_len h]; omega), rowsF_len h]
      rw [show i * k + j - i * k = j by omega]
      exact hu
theorem rowsF_of {cs : Nat → List Value} {k : Nat} (hk : 0 < k) (h : ∀ i, (cs i).length = k) (n : Nat) (q : Nat) (u : Value) (hu : (rowsF cs n)[q]? = some u) : q / k < n ∧ (cs (q / k))[q % k]? = some u := by
  have hq : q < n * k := by have := (List.getElem?_eq_some_iff.1 hu).1; rw [rowsF_len h] at this; exact this
  have h1 : q / k < n := Nat.div_lt_of_lt_mul (by rw [Nat.mul_comm]; exact hq)
  refine ⟨h1, ?_⟩
  have h2 : q % k < (cs (q / k)).length := by rw [h]; exact Nat.mod_lt _ hk
  have h3 := rowsF_at h n (q / k) (q % k) _ h1 (List.getElem?_eq_getElem h2)
  have h4 : q / k * k + q % k = q := by rw [Nat.mul_comm]; exact Nat.div_add_mod q k
  rw [h4, hu] at h3
  rw [List.getElem?_eq_getElem h2]
  exact h3.symm
/-- What a row in memory holds, cell by cell. -/
theorem rows_cells {w : World} {n k : Nat} {cs : Nat → List Value} (hk : 0 < k) (hl : ∀ i, (cs i).length = k) {b off : Nat} (hx : ∀ i, i < n → ∀ j x, (cs i)[j]? = some x → w.cell? ⟨b, off + i * k + j, none⟩ = some x) : ∀ j u, (rowsF cs n)[j]? = some u → w.cell? ((⟨b, off, none⟩ : Addr).add j) = some u := by
  intro j u hu
  obtain ⟨h1, h2⟩ := rowsF_of hk hl n j u hu
  have := hx _ h1 _ _ h2
  rw [Nat.add_assoc, show j / k * k + j % k = j by rw [Nat.mul_comm]; exact Nat.div_add_mod j k] at this
  have hadd : (⟨b, off, none⟩ : Addr).add j = ⟨b, off + j, none⟩ := by unfold Addr.add; split <;> simp_all
  rw [hadd]
  exact this
theorem rows_of_own {w : World} {B n k : Nat} {e : TypeId} {v : Value} {cs : Nat → List Value} (hl : ∀ i, (cs i).length = k) (h : w.ownsRow B e k v n (rowsF cs n)) : RowsK w v n k cs := by
  obtain ⟨h1, ⟨h2, h3⟩ | ⟨g, cap, cur, h2, h3, h4, h5, h6, h7, h8⟩⟩ := h
  · exact ⟨none, 0, by rw [h2, h3], by omega, by omega, .inl h3⟩
  · have BX : Box w g (rowsF cs n) := (Box.ofBlock h4).part (by rw [← h8]; exact List.take_prefix _ _)
    refine ⟨_, cap, h2, h5, h6, .inr ⟨g, 0, rfl, BX.lt, fun i hi j x hx => ?_⟩⟩
    have := BX.cell (i * k + j) x (rowsF_at hl n i j x hi hx)
    simpa using this
theorem info_Wi : (Tryz.prog.info? 42).map (fun i => (i.zero.map (fun z => z.cells.size), i.size, i.bytes)) = some (some 4, 4, 32) := by kernel_rfl
theorem info_Wi' : ∃ i z, Tryz.prog.info? 42 = some i ∧ i.zero = some z ∧ z.cells.size = 4 ∧ i.size = 4 ∧ i.bytes = 32 := by
  have h := info_Wi
  cases hi : Tryz.prog.info? 42 with
  | none => rw [hi] at h; cases h
  | some i =>
    rw [hi] at h
    simp only [Option.map_some, Option.some.injEq, Prod.mk.injEq] at h
    obtain ⟨z, hz, h0⟩ := Option.map_eq_some_iff.1 h.1
    exact ⟨i, z, rfl, hz, h0, h.2.1, h.2.2⟩
set_option maxHeartbeats 2000000 in
set_option maxRecDepth 20000 in
theorem cloneWi_c (l : List WiP) (hl : l.length * 32 ≤ 140737488355328) (v : Value) (w : World) (hs : WisAt w v l) : Calls Tryz.prog 32 #[v] w fun e w' => ∃ u, e = .returned u ∧ w'.ownsRow w.heap.size 42 4 u l.length (rowsF (fun i => wiL (l.getD i wi0)) l.length) ∧ Below w.heap.size w w' := by
  obtain ⟨ad, cap, rfl, hle, hcap, hp⟩ := hs
  obtain ⟨i0, z, hi, hz0, hzs, hz1, hz2⟩ := info_Wi'
  have hcs : Hid (∀ i, (wiL (l.getD i wi0)).length = 4) := fun i => rfl
  obtain ⟨cs, hcsd⟩ : ∃ cs : Nat → List Value, Hid (cs = fun i => wiL (l.getD i wi0)) := ⟨_, rfl⟩
  have hone : Hid (∀ u, u ∈ rowsF cs l.length → u.oneCell' = true) := by
    show ∀ u, _
    intro u hu
    obtain ⟨q, hq⟩ := List.mem_iff_getElem?.1 hu
    obtain ⟨-, h2⟩ := rowsF_of (k := 4) (by decide) (by rw [hcsd.out]; exact hcs.out) _ _ _ hq
    rw [hcsd.out] at h2
    have h3 := List.mem_of_getElem? h2
    simp at h3
    rcases h3 with rfl | rfl | rfl | rfl <;> rfl
  have hcs' : Hid (∀ i, (cs i).length = 4) := by rw [hcsd.out]; exact hcs
  simp only at hp
  rw [← hcsd.out]
  have hp' : l.length = 0 ∨ ∃ b off, ad = some ⟨b, off, none⟩ ∧ b < w.heap.size ∧ ∀ i, i < l.length → ∀ j x, (cs i)[j]? = some x → w.cell? ⟨b, off + i * 4 + j, none⟩ = some x := by rw [hcsd.out]; exact hp
  clear hp hcs hcsd
  generalize l.length = N at *
  have hnil := fun W : World => run_eql_slice_nil (P := Tryz.prog) W 25 42 ad N cap Tryz.underlying25
  cases ad with
  | none =>
    have hn0 : N = 0 := by
      rcases hp' with h | ⟨b, off, e, -⟩
      · exact h
      · cases e
    subst hn0
    go_enter Tryz.func32, Tryz.ntmps32
    go_wp2_with fail
    go_ret
    exact ⟨.slice none 0 0, rfl, World.ownsRow_nil _ _ _ _, Below.refl _ _⟩
  | some a =>
    have HC : Hid (∀ W, Below w.heap.size w W → ∀ j u, (rowsF cs N)[j]? = some u → W.cell? (a.add j) = some u) := by
      show ∀ W, _
      intro W hW j u hu
      rcases hp' with h | ⟨b, off, e, hb, hx⟩
      · subst h; simp [rowsF] at hu
      · cases e
        exact rows_cells (by decide) hcs'.out (fun i hi j x h => keepc hW (hx i hi j x h)) j u hu
    have ba := (Below.refl w.heap.size w).alloc (Nat.le_refl _) (.cells #[] 42)
    have BA := chid ba
    have hO := chid (World.ownsRow_lit (base := w.heap.size) (e := 42) (size := 4) w #[] 0 (Nat.le_refl _) (by unfold maxLen; omega) rfl)
    clear hp' ba
    go_enter Tryz.func32, Tryz.ntmps32
    go_wp2_with (at_builtin; refine wpList_append_own_wide _ rfl _ _ 25 rfl w.heap.size 42 i0 z 4 32 Tryz.underlying25 hi hz0 hz1 hz2 hzs (by decide) _ 0 [] rfl hO.out a N cap (rowsF cs N) rfl (by rw [rowsF_len hcs'.out]) (HC.out _ BA.out) hone.out (by unfold maxLen; omega) (by omega) (by simp) ?_; intro v1 w1 ho1 hg1 _)
    have B1 := below_grown BA.out hO.out hg1 (by simp)
    rw [Nat.zero_add, List.nil_append] at ho1
    go_wp2_with fail
    go_ret
    exact ⟨_, rfl, ho1, B1⟩
theorem info_Cr : (Tryz.prog.info? 45).map (fun i => (i.zero.map (fun z => z.cells.size), i.size, i.bytes)) = some (some 5, 5, 40) := by kernel_rfl
theorem info_Cr' : ∃ i z, Tryz.prog.info? 45 = some i ∧ i.zero = some z ∧ z.cells.size = 5 ∧ i.size = 5 ∧ i.bytes = 40 := by
  have h := info_Cr
  cases hi : Tryz.prog.info? 45 with
  | none => rw [hi] at h; cases h
  | some i =>
    rw [hi] at h
    simp only [Option.map_some, Option.some.injEq, Prod.mk.injEq] at h
    obtain ⟨z, hz, h0⟩ := Option.map_eq_some_iff.1 h.1
    exact ⟨i, z, rfl, hz, h0, h.2.1, h.2.2⟩
set_option maxHeartbeats 2000000 in
set_option maxRecDepth 20000 in
theorem cloneCr_c (l : List Cr) (hl : l.length * 40 ≤ 140737488355328) (v : Value) (w : World) (hs : CrsAt w v l) : Calls Tryz.prog 33 #[v] w fun e w' => ∃ u, e = .returned u ∧ w'.ownsRow w.heap.size 45 5 u l.length (rowsF (fun i => crL (l.getD i cr0)) l.length) ∧ Below w.heap.size w w' := by
  obtain ⟨ad, cap, rfl, hle, hcap, hp⟩ := hs
  obtain ⟨i0, z, hi, hz0, hzs, hz1, hz2⟩ := info_Cr'
  have hcs : Hid (∀ i, (crL (l.getD i cr0)).length = 5) := fun i => rfl
  obtain ⟨cs, hcsd⟩ : ∃ cs : Nat → List Value, Hid (cs = fun i => crL (l.getD i cr0)) := ⟨_, rfl⟩
  have hone : Hid (∀ u, u ∈ rowsF cs l.length → u.oneCell' = true) := by
    show ∀ u, _
    intro u hu
    obtain ⟨q, hq⟩ := List.mem_iff_getElem?.1 hu
    obtain ⟨-, h2⟩ := rowsF_of (k := 5) (by decide) (by rw [hcsd.out]; exact hcs.out) _ _ _ hq
    rw [hcsd.out] at h2
    have h3 := List.mem_of_getElem? h2
    simp at h3
    rcases h3 with rfl | rfl | rfl | rfl | rfl <;> rfl
  have hcs' : Hid (∀ i, (cs i).length = 5) := by rw [hcsd.out]; exact hcs
  simp only at hp
  rw [← hcsd.out]
  have hp' : l.length = 0 ∨ ∃ b off, ad = some ⟨b, off, none⟩ ∧ b < w.heap.size ∧ ∀ i, i < l.length → ∀ j x, (cs i)[j]? = some x → w.cell? ⟨b, off + i * 5 + j, none⟩ = some x := by rw [hcsd.out]; exact hp
  clear hp hcs hcsd
  generalize l.length = N at *
  have hnil := fun W : World => run_eql_slice_nil (P := Tryz.prog) W 26 45 ad N cap Tryz.underlying26
  cases ad with
  | none =>
    have hn0 : N = 0 := by
      rcases hp' with h | ⟨b, off, e, -⟩
      · exact h
      · cases e
    subst hn0
    go_enter Tryz.func33, Tryz.ntmps33
    go_wp2_with fail
    go_ret
    exact ⟨.slice none 0 0, rfl, World.ownsRow_nil _ _ _ _, Below.refl _ _⟩
  | some a =>
    have HC : Hid (∀ W, Below w.heap.size w W → ∀ j u, (rowsF cs N)[j]? = some u → W.cell? (a.add j) = some u) := by
      show ∀ W, _
      intro W hW j u hu
      rcases hp' with h | ⟨b, off, e, hb, hx⟩
      · subst h; simp [rowsF] at hu
      · cases e
        exact rows_cells (by decide) hcs'.out (fun i hi j x h => keepc hW (hx i hi j x h)) j u hu
    have ba := (Below.refl w.heap.size w).alloc (Nat.le_refl _) (.cells #[] 45)
    have BA := chid ba
    have hO := chid (World.ownsRow_lit (base := w.heap.size) (e := 45) (size := 5) w #[] 0 (Nat.le_refl _) (by unfold maxLen; omega) rfl)
    clear hp' ba
    go_enter Tryz.func33, Tryz.ntmps33
    go_wp2_with (at_builtin; refine wpList_append_own_wide _ rfl _ _ 26 rfl w.heap.size 45 i0 z 5 40 Tryz.underlying26 hi hz0 hz1 hz2 hzs (by decide) _ 0 [] rfl hO.out a N cap (rowsF cs N) rfl (by rw [rowsF_len hcs'.out]) (HC.out _ BA.out) hone.out (by unfold maxLen; omega) (by omega) (by simp) ?_; intro v1 w1 ho1 hg1 _)
    have B1 := below_grown BA.out hO.out hg1 (by simp)
    rw [Nat.zero_add, List.nil_append] at ho1
    go_wp2_with fail
    go_ret
    exact ⟨_, rfl, ho1, B1⟩
end Go.Proofs.YtpkknifbocfeaaaGreatDoor
