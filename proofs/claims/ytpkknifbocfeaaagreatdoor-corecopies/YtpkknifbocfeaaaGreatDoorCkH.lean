/- Package core: each of strings. -/
import Derived.Test.YtpkknifbocfeaaaGreatDoorCkG
import Derived.Test.YtpkknifbocfeaaaGreatDoorMgK
import Derived.Test.YtpkknifbocfeaaaGreatDoorCoE
namespace Go.Proofs.YtpkknifbocfeaaaGreatDoor
open Go.RowKit

theorem info_str : (Tryz.prog.info? 9).map (fun i => (i.zero, i.size, i.bytes)) = some (some (.string ⟨#[]⟩), 1, 16) := by kernel_rfl
theorem info_str' : ∃ i, Tryz.prog.info? 9 = some i ∧ i.zero = some (.string ⟨#[]⟩) ∧ i.size = 1 ∧ i.bytes = 16 := by
  have h := info_str
  cases hi : Tryz.prog.info? 9 with
  | none => rw [hi] at h; cases h
  | some i =>
    rw [hi] at h
    simp only [Option.map_some, Option.some.injEq, Prod.mk.injEq] at h
    exact ⟨i, rfl, h.1, h.2.1, h.2.2⟩
theorem own_next' {w w' : World} {B : Nat} {e : TypeId} {size n : Nat} {v : Value} {xs : List Value} (h : w.ownsRow B e size v n xs) (hb : Below w.heap.size w w') : w'.ownsRow B e size v n xs := by
  obtain ⟨h1, h2 | ⟨g, cap, cur, h2, h3, h4, h5⟩⟩ := h
  · exact ⟨h1, .inl h2⟩
  · exact ⟨h1, .inr ⟨g, cap, cur, h2, h3, (hb.block g (by rcases Nat.lt_or_ge g w.heap.size with h | h; exact h; rw [Array.getElem?_eq_none h] at h4; cases h4)).trans h4, h5⟩⟩
theorem take_set_succ {xs R : List Value} {k : Nat} {u : Value} (h : xs.take k = R.take k) (hk : k < xs.length) (hu : R[k]? = some u) : (xs.set k u).take (k + 1) = R.take (k + 1) := by
  apply List.ext_getElem?
  intro i
  rcases Nat.lt_trichotomy i k with hi | hi | hi
  · have := congrArg (fun l => l[i]?) h
    simp only [List.getElem?_take, hi, if_true] at this
    simp only [List.getElem?_take, show i < k + 1 by omega, if_true]
    rw [List.getElem?_set_ne (by omega)]
    exact this
  · subst hi
    simp only [List.getElem?_take, show i < i + 1 by omega, if_true]
    rw [List.getElem?_set_self hk, hu]
  · simp only [List.getElem?_take, show ¬ i < k + 1 by omega, if_false]
set_option maxHeartbeats 4000000 in
set_option maxRecDepth 20000 in
theorem eachS_c (hcl : ∀ (s : ByteArray) (W : World), s.size ≤ 140737488355328 → Calls Tryz.prog 31 #[.string s] W fun e w' => e = .returned (.string s) ∧ Below W.heap.size W w') (ps : List ByteArray) (hl : ps.length * 16 ≤ 140737488355328) (ih : ∀ x, x ∈ ps → x.size ≤ 140737488355328) (v : Value) (w : World) (hs : MetsAt w v ps) :
    Calls Tryz.prog 30 #[v, .func (.func 31) #[] #[]] w fun e w' => ∃ u, e = .returned u ∧ w'.ownsRow w.heap.size 9 1 u ps.length (rowsF (fun i => [.string (ps.getD i default)]) ps.length) ∧ Below w.heap.size w w' := by
  have HCl := chid hcl
  clear hcl
  obtain ⟨ad, cap, rfl, hle, hcap, hp⟩ := hs
  obtain ⟨N, hN⟩ : ∃ N, Hid (N = ps.length) := ⟨_, rfl⟩
  rw [← hN.out] at hl hle hp ⊢
  have HP := chid hp
  obtain ⟨R, hR⟩ : ∃ R, Hid (R = rowsF (fun i => [Value.string (ps.getD i default)]) N) := ⟨_, rfl⟩
  have hRl : Hid (R.length = N) := by rw [hR.out]; exact chid ((rowsF_len (k := 1) (fun i => rfl) N).trans (by omega))
  rw [← hR.out]
  obtain ⟨i0, hi, hz0, hz1, hz2⟩ := info_str'
  have hnil := fun W : World => run_eql_slice_nil (P := Tryz.prog) W 22 9 ad N cap Tryz.underlying22
  cases ad with
  | none =>
    have hn0 : N = 0 := by
      rcases hp with h | ⟨b, off, e, -⟩
      · exact h
      · cases e
    subst hn0
    go_enter Tryz.func30, Tryz.ntmps30
    go_wp2_with fail
    go_ret
    have hR0 : R = [] := List.eq_nil_of_length_eq_zero hRl.out
    exact ⟨.slice none 0 0, rfl, by rw [hR0]; exact World.ownsRow_nil _ _ _ _, Below.refl _ _⟩
  | some a =>
    go_enter Tryz.func30, Tryz.ntmps30
    go_wp2_with (at_make; refine wpList_make_full _ rfl _ _ 22 rfl w.heap.size 9 i0 (.string ⟨#[]⟩) 1 Tryz.underlying22 hi hz0 hz1 _ _ _ _ N rfl rfl rfl rfl (by rw [hz2]; omega) (by unfold maxLen; omega) (Nat.le_refl _) ?_; intro w3 hown hgrow; have hb3 : Below w.heap.size w w3 := (Below.refl _ _).grown hgrow (Nat.le_refl _) (by simp); have HB3 := chid hb3; have HO := chid hown; clear hb3 hown hgrow)
    obtain ⟨g, hg⟩ : ∃ g, Hid (g = w.heap.size) := ⟨_, rfl⟩
    have HO2 : Hid (∃ xs : List Value, xs.length = N ∧ w3.ownsRow w.heap.size 9 1 (.slice (some ⟨g, 0, none⟩) N N) N xs) := by
      rw [hg.out]
      exact chid ⟨_, by have := HO.out.1; omega, HO.out⟩
    obtain ⟨xs0, hx0, ho0⟩ := HO2.out
    have HO0 := chid ho0
    have HX0 := chid hx0
    have HIh := chid ih
    rw [← hg.out]
    clear HO HO2 ho0 hx0 hi hz0 hz1 hz2 ih hnil hp
    go_loopw [15] (fun i wr => ∃ (k : Nat) (xs : List Value), i = .int .i64 (k : Nat) ∧ k ≤ N ∧ Hid (xs.length = N) ∧ Hid (xs.take k = R.take k) ∧ Hid (wr.ownsRow w.heap.size 9 1 (.slice (some ⟨g, 0, none⟩) N N) N xs) ∧ Hid (Below w.heap.size w wr)) (fun i _ => match i with | .int _ p => ((N : Int) - p).toNat | _ => 0)
    case atStart => exact ⟨0, xs0, rfl, by omega, HX0, chid rfl, HO0, HB3⟩
    case round =>
      obtain ⟨k, xs, rfl, hk, HXl, HXs, HOw, HBr⟩ := hrel
      by_cases hlt : k < N
      · have hlt' : (k : Int) < (N : Int) := by omega
        have hl1 : k < ps.length := by rw [← hN.out]; exact hlt
        obtain ⟨b, off, e, hbl, hx⟩ : ∃ b off, some a = some ⟨b, off, none⟩ ∧ b < w.heap.size ∧ ∀ i, i < N → ∀ j x, ([Value.string (ps.getD i default)])[j]? = some x → w.cell? ⟨b, off + i * 1 + j, none⟩ = some x := by
          rcases HP.out with h | h
          · omega
          · exact h
        cases e
        have y0 := keepc HBr.out (hx k hlt 0 _ rfl)
        rw [Nat.mul_one, Nat.add_zero] at y0
        have hRk : Hid (R[k]? = some (.string (ps.getD k default))) := by
          rw [hR.out]
          have := rowsF_at (k := 1) (cs := fun i => [Value.string (ps.getD i default)]) (fun i => rfl) N k 0 _ hlt rfl
          rw [Nat.mul_one, Nat.add_zero] at this
          exact chid this
        have hsz : Hid ((ps.getD k default).size ≤ 140737488355328) := HIh.out _ (by simp [List.getD, hl1])
        have lbr : b < wr.heap.size := World.block_lt_of_cell? wr _ y0
        generalize ps.getD k default = s at *
        clear hx
        go_wp2_with fail
        refine Calls.mono (HCl.out s _ hsz.out) ?_
        rintro e w4 ⟨rfl, b4⟩
        have O4 := chid (own_next' HOw.out b4)
        have B4 := chid (cbelow_on HBr.out b4 HBr.out.size)
        have f0 := O4.out.frozenAt k
        have c0 := O4.out.cellAt k (by omega)
        have hgl := (O4.out.lt g rfl).2
        rw [List.getElem?_eq_getElem (by have := HXl.out; omega)] at c0
        have St := chid (O4.out.stored k (.string s))
        have HT := chid (take_set_succ HXs.out (by have := HXl.out; omega) hRk.out)
        go_wp2_with fail
        go_roundw
        · exact ⟨k + 1, xs.set k (.string s), by simp, by omega, chid (by rw [List.length_set]; exact HXl.out), HT, St.out.1, B4.out.setCell (by show w.heap.size ≤ g; have := hg.out; omega) _⟩
        · simp; omega
      · have hkN : k = N := by omega
        subst hkN
        have hE : Hid (xs = R) := by
          have h1 := HXs.out
          rw [List.take_of_length_le (by have := HXl.out; omega), List.take_of_length_le (by have := hRl.out; omega)] at h1
          exact chid h1
        go_wp2_with fail
        go_ret
        exact ⟨_, rfl, by rw [← hE.out]; exact HOw.out, HBr.out⟩
end Go.Proofs.YtpkknifbocfeaaaGreatDoor
