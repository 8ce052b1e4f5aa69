/- A list of pointers to windows, and an append onto it; a window of each aggregate. -/
import Derived.Test.YtccgbkafcbfcgaaSixA
import Derived.Test.YtccgbkafcbfcgaaMoW
namespace Go.Proofs.Ytccgbkafcbfcgaa
open Go.RowKit

/-- The block g holds vs from off on, and has room for cap values there. -/
structure VAt (w : World) (g off cap : Nat) (vs : List Value) : Prop where
  lt : g < w.heap.size
  cell : ∀ i v, vs[i]? = some v → w.cell? ⟨g, off + i, none⟩ = some v
  spare : ∀ i, i < cap → (w.cell? ⟨g, off + i, none⟩).isSome = true
  free : ∀ i, i < cap → w.frozen? ⟨g, off + i, none⟩ = false
  le : vs.length ≤ cap
  most : cap ≤ maxLen
theorem VAt.turn {S : List Nat} {w w' : World} {g off cap : Nat} {vs : List Value} (h : VAt w g off cap vs) (t : Turn S w w') (hn : g ∉ S) : VAt w' g off cap vs :=
  ⟨Nat.lt_of_lt_of_le h.lt t.size, fun i x hx => (t.cell (p := ⟨g, off + i, none⟩) h.lt hn).trans (h.cell i x hx), fun i hi => by rw [t.cell (p := ⟨g, off + i, none⟩) h.lt hn]; exact h.spare i hi, fun i hi => (t.frozen (p := ⟨g, off + i, none⟩) h.lt hn).trans (h.free i hi), h.le, h.most⟩
theorem vAt_of_box {w : World} {g cap : Nat} {us vs : List Value} (h : Box w g vs) (hv : vs.length = cap) (hp : us <+: vs) (hm : cap ≤ maxLen) : VAt w g 0 cap us := by
  obtain ⟨r, rfl⟩ := hp
  refine ⟨h.lt, fun i x hx => ?_, fun i hi => ?_, fun i hi => ?_, by simp at hv; omega, hm⟩
  · have hi : i < us.length := (List.getElem?_eq_some_iff.1 hx).1
    rw [Nat.zero_add]
    exact h.cell i _ (by rw [List.getElem?_append_left (by omega)]; exact hx)
  · rw [Nat.zero_add, h.cell i _ (List.getElem?_eq_getElem (by omega))]; rfl
  · rw [Nat.zero_add]; exact h.free i (by omega)
theorem VAt.snoc {w : World} {g off cap : Nat} {vs : List Value} (h : VAt w g off cap vs) (y : Value) (hl : vs.length < cap) : VAt (w.setCell ⟨g, off + vs.length, none⟩ y) g off cap (vs ++ [y]) := by
  have hs := h.spare vs.length hl
  refine ⟨by simpa [World.setCell] using h.lt, fun i x hx => ?_, fun i hi => ?_, fun i hi => (World.frozen?_setCell _ _ _ _).trans (h.free i hi), by simp; omega, h.most⟩
  · by_cases hi : i < vs.length
    · rw [List.getElem?_append_left hi] at hx
      exact (World.cell?_setCell_other _ _ _ _ (by intro e; have := congrArg Addr.off e; simp at this; omega)).trans (h.cell i x hx)
    · have : i < (vs ++ [y]).length := (List.getElem?_eq_some_iff.1 hx).1
      simp at this
      obtain rfl : i = vs.length := by omega
      simp at hx
      subst hx
      obtain ⟨u, hu⟩ := Option.isSome_iff_exists.1 hs
      exact World.cell?_setCell_same _ _ _ hu
  · by_cases e : i = vs.length
    · subst e
      obtain ⟨u, hu⟩ := Option.isSome_iff_exists.1 hs
      rw [World.cell?_setCell_same _ _ _ hu]; rfl
    · rw [World.cell?_setCell_other _ _ _ _ (by intro e'; have := congrArg Addr.off e'; simp at this; omega)]
      exact h.spare i hi
/-- A list of pointers in a block from B on, or none yet. -/
def VLs (w : World) (B : Nat) (lv : Value) (vs : List Value) : Prop := (lv = .slice none 0 0 ∧ vs = []) ∨ ∃ g off cap, B ≤ g ∧ lv = .slice (some ⟨g, off, none⟩) vs.length cap ∧ VAt w g off cap vs
theorem VLs.shape {w : World} {B : Nat} {lv : Value} {vs : List Value} (h : VLs w B lv vs) : ∃ a c, lv = .slice a vs.length c := by
  rcases h with ⟨rfl, rfl⟩ | ⟨g, off, cap, _, e, _⟩
  · exact ⟨none, 0, rfl⟩
  · exact ⟨_, _, e⟩
theorem VLs.next {w w' : World} {B : Nat} {lv : Value} {vs : List Value} (h : VLs w B lv vs) (t : Below w.heap.size w w') : VLs w' B lv vs := by
  rcases h with h | ⟨g, off, cap, o, e, h⟩
  · exact .inl h
  · exact .inr ⟨g, off, cap, o, e, h.turn (S := []) (Turn.of_below t) (by simp)⟩
theorem info_wptr : (Try.prog.info? 26).map (fun i => (i.zero, i.size, i.bytes)) = some (some (.pointer none), 1, 8) := by kernel_rfl
theorem cell_one_ptr (w : World) (x : Value) (t : TypeId) : ∀ j u, [x][j]? = some u → (w.alloc (.cells #[x] t)).cell? ((⟨w.heap.size, 0, none⟩ : Addr).add j) = some u := by
  intro j u hu
  have hj : j < 1 := (List.getElem?_eq_some_iff.1 hu).1
  obtain rfl : j = 0 := by omega
  have := (Box.new w [x] t).cell 0 u hu
  simpa [Addr.add] using this
/-- An append of one pointer: the list in a block that was its own or is new; nothing of what lay ahead of B, nor what isn't the list's, has turned. -/
def VGrew (w : World) (B : Nat) (lv0 lv : Value) (vs : List Value) (w' : World) : Prop := (∃ g' off cap, B ≤ g' ∧ lv = .slice (some ⟨g', off, none⟩) vs.length cap ∧ VAt w' g' off cap vs ∧ ((∃ o c, lv0 = .slice (some ⟨g', o, none⟩) (vs.length - 1) c) ∨ w.heap.size ≤ g')) ∧ ∃ S, Turn S w w' ∧ ∀ i, i ∈ S → ∃ o n c, lv0 = .slice (some ⟨i, o, none⟩) n c
theorem run_append_wptr (ty : TypeId) (w : World) (B : Nat) (hB : B ≤ w.heap.size) (lv : Value) (vs : List Value) (h : VLs w B lv vs) (hl : vs.length < 1000) (q : Option Addr) :
    ∃ a c w', (Builtin.append_ #[53, 53] ty #[lv, .slice (some ⟨w.heap.size, 0, none⟩) 1 1]).run Try.prog (w.alloc (.cells #[.pointer q] 26)) = .ok (.slice a (vs.length + 1) c) w' ∧ VGrew w B lv (.slice a (vs.length + 1) c) (vs ++ [.pointer q]) w' := by
  obtain ⟨i0, hi, hz0, hz1, hz2⟩ := info_parts info_wptr
  obtain ⟨w1, hw1⟩ : ∃ w1, w1 = w.alloc (.cells #[.pointer q] 26) := ⟨_, rfl⟩
  have hb : Below w.heap.size w w1 := by rw [hw1]; exact (Below.refl _ _).alloc (Nat.le_refl _) _
  have hs1 : w1.heap.size = w.heap.size + 1 := by rw [hw1]; simp
  have hy := cell_one_ptr w (.pointer q) 26
  rw [← hw1] at hy ⊢
  have hmax : ∀ n old, n ≤ 1001 → grownCap w1 n old 26 ≤ maxLen := fun n old hn => grownCap_le_maxLen w1 n old _ (by simp only [maxLen]; omega)
  have grown : ∀ old, VAt (w1.drew.alloc (.cells (vs.toArray ++ #[.pointer q] ++ Builtin.zeroCells (Value.pointer none).cells (grownCap w1 (vs.length + 1) old 26 - (vs.length + 1))) 26)) w1.heap.size 0 (grownCap w1 (vs.length + 1) old 26) (vs ++ [.pointer q]) := by
    intro old
    have hge := grownCap_ge w1 (vs.length + 1) old 26
    refine vAt_of_box (Box.ofBlock (t := 26) (cur := vs.toArray ++ #[.pointer q] ++ Builtin.zeroCells (Value.pointer none).cells (grownCap w1 (vs.length + 1) old 26 - (vs.length + 1))) (heap_new w1.drew _)) ?_ ?_ (hmax _ _ (by omega))
    · simp [size_zeroCells, Value.cells]; omega
    · exact ⟨_, by simp; rfl⟩
  have gturn : ∀ (o : Obj), Turn [] w (w1.drew.alloc o) := fun o => (Turn.of_below hb).trans (Turn.of_below (S := []) (((Below.refl _ w1).drew).alloc (Nat.le_refl _) o)) (by simp)
  rcases h with ⟨rfl, rfl⟩ | ⟨g, off, cap, hg, rfl, h⟩
  · have hr := run_append_nil (P := Try.prog) w1 53 ty 26 i0 (.pointer none) Try.underlying53 hi hz0 ⟨w.heap.size, 0, none⟩ 1 1 [.pointer q] (by rw [hz1]; rfl) hy (by decide) (by decide) (by rw [hz2]; decide)
    exact ⟨_, _, _, hr, ⟨w1.heap.size, 0, _, by omega, rfl, by simpa using grown 0, .inr (by omega)⟩, [], gturn _, by simp⟩
  · have hgl := h.lt
    have h1 := h.turn (S := []) (Turn.of_below hb) (by simp)
    by_cases hc : vs.length + 1 ≤ cap
    · have hr := run_append_room_cells (P := Try.prog) w1 53 ty 26 i0 Try.underlying53 hi g off vs.length cap ⟨w.heap.size, 0, none⟩ 1 1 [.pointer q] (by rw [hz1]; rfl) hy (by simp [Value.oneCell']) hc (fun j hj => by
          have : j = 0 := by simpa using hj
          subst this
          rw [hz1, Nat.mul_one, Nat.add_zero]; exact h1.spare _ (by omega)) (fun j hj => by
          have : j = 0 := by simpa using hj
          subst this
          rw [hz1, Nat.mul_one, Nat.add_zero]; exact h1.free _ (by omega))
      rw [hz1, Nat.mul_one] at hr
      refine ⟨_, _, _, hr, ⟨g, off, cap, hg, by simp, h1.snoc _ (by omega), .inl ⟨off, cap, by simp⟩⟩, [g], (Turn.of_below hb).trans (Turn.set (S := [g]) _ _ _ (by simp)) (by simp), ?_⟩
      intro i hi'
      simp at hi'
      subst hi'
      exact ⟨off, vs.length, cap, rfl⟩
    · have hr := run_append_grow (P := Try.prog) w1 53 ty 26 i0 (.pointer none) Try.underlying53 hi hz0 ⟨g, off, none⟩ vs.length cap vs (by rw [hz1, Nat.mul_one]) (fun j v hv => by
          have := h1.cell j v hv
          by_cases hj : j = 0
          · subst hj; simpa [Addr.add] using this
          · simpa [Addr.add, hj] using this) ⟨w.heap.size, 0, none⟩ 1 1 [.pointer q] (by rw [hz1]; rfl) hy (by have := h1.le; omega) (by omega) (growslice_fits (by have := h1.le; omega) (by rw [hz2]; omega))
      exact ⟨_, _, _, hr, ⟨w1.heap.size, 0, _, by omega, by simp, grown cap, .inr (by omega)⟩, [], gturn _, by simp⟩
theorem wpList_append_wptr (w0 w : World) {ops : Array Oper} {rest : List Oper} {o : Oper} {a : Act} {Q : Exit → Act → World → Prop} (hgd : o.guard = none) (s x : Operand)
    (hop : o.op = Op.call { callee := Callee.builtin Builtin.append, args := #[s, x], argTypes := #[53, 53] }) (B : Nat) (hB : B ≤ w0.heap.size) (lv : Value) (vs : List Value) (q : Option Addr) (hw : w = w0.alloc (.cells #[.pointer q] 26)) (hs : a.eval s = lv) (h : VLs w0 B lv vs) (hl : vs.length < 1000)
    (hx : a.eval x = .slice (some ⟨w0.heap.size, 0, none⟩) 1 1)
    (hK : ∀ b c w', VGrew w0 B lv (.slice b (vs.length + 1) c) (vs ++ [.pointer q]) w' → wpList Try.prog ops Q rest (a.put o.dst (.slice b (vs.length + 1) c)) w') :
    wpList Try.prog ops Q (o :: rest) a w := by
  refine wpList_plain hgd fun K hK' => ?_
  subst hw
  obtain ⟨b, c, w', hrun, r⟩ := run_append_wptr o.type w0 B hB lv vs h hl q
  unfold Oper.wp
  simp [execOp, hop, resolve, invoke, builtin, hs, hx, hrun, Result.andThen]
  exact hK' _ _ (hK b c w' r)
end Go.Proofs.Ytccgbkafcbfcgaa
