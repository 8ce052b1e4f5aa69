/- The document's ring: its list as a slice that is cut at its front and put onto at its end. -/
import Derived.Test.YtcochjicaogofaaRgH
import Derived.ArgAppend
namespace Go.Proofs.Ytcochjicaogofaa
open Go.RowKit

/-- The block g holds L from off on, and has room for cap numbers there. -/
structure SlAt (w : World) (g off cap : Nat) (L : List Int) : Prop where
  lt : g < w.heap.size
  cell : ∀ i x, L[i]? = some x → w.cell? ⟨g, off + i, none⟩ = some (.int .i64 x)
  spare : ∀ i, i < cap → (w.cell? ⟨g, off + i, none⟩).isSome = true
  free : ∀ i, i < cap → w.frozen? ⟨g, off + i, none⟩ = false
  le : L.length ≤ cap
  most : cap ≤ maxLen
/-- The value lv is a slice of the list L, in the block g. -/
def Sl (w : World) (g : Nat) (lv : Value) (L : List Int) : Prop := (lv = .slice none 0 0 ∧ L = [] ∧ g < w.heap.size) ∨ ∃ off cap, lv = .slice (some ⟨g, off, none⟩) L.length cap ∧ SlAt w g off cap L
theorem SlAt.turn {S : List Nat} {w w' : World} {g off cap : Nat} {L : List Int} (h : SlAt w g off cap L) (t : Turn S w w') (hn : g ∉ S) : SlAt w' g off cap L :=
  ⟨Nat.lt_of_lt_of_le h.lt t.size, fun i x hx => (t.cell (p := ⟨g, off + i, none⟩) h.lt hn).trans (h.cell i x hx), fun i hi => by rw [t.cell (p := ⟨g, off + i, none⟩) h.lt hn]; exact h.spare i hi, fun i hi => (t.frozen (p := ⟨g, off + i, none⟩) h.lt hn).trans (h.free i hi), h.le, h.most⟩
theorem Sl.turn {S : List Nat} {w w' : World} {g : Nat} {lv : Value} {L : List Int} (h : Sl w g lv L) (t : Turn S w w') (hn : g ∉ S) : Sl w' g lv L := by
  rcases h with ⟨a, b, c⟩ | ⟨off, cap, e, h⟩
  · exact .inl ⟨a, b, Nat.lt_of_lt_of_le c t.size⟩
  · exact .inr ⟨off, cap, e, h.turn t hn⟩
theorem Sl.next {w w' : World} {g : Nat} {lv : Value} {L : List Int} (h : Sl w g lv L) (t : Below w.heap.size w w') : Sl w' g lv L := h.turn (S := []) (Turn.of_below t) (by simp)
theorem Sl.lt {w : World} {g : Nat} {lv : Value} {L : List Int} (h : Sl w g lv L) : g < w.heap.size := by
  rcases h with ⟨a, b, c⟩ | ⟨off, cap, e, h⟩
  · exact c
  · exact h.lt
theorem slAt_of_box {w : World} {g cap : Nat} {L : List Int} {vs : List Value} (h : Box w g vs) (hv : vs.length = cap) (hp : ints L <+: vs) (hm : cap ≤ maxLen) : SlAt w g 0 cap L := by
  have hlen : (ints L).length = L.length := by simp [ints]
  obtain ⟨r, rfl⟩ := hp
  refine ⟨h.lt, fun i x hx => ?_, fun i hi => ?_, fun i hi => ?_, by simp [ints] at hv; omega, hm⟩
  · have hi : i < L.length := (List.getElem?_eq_some_iff.1 hx).1
    rw [Nat.zero_add]
    exact h.cell i _ (by rw [List.getElem?_append_left (by omega)]; simp [ints, hx])
  · rw [Nat.zero_add, h.cell i _ (List.getElem?_eq_getElem (by omega))]; rfl
  · rw [Nat.zero_add]; exact h.free i (by omega)
theorem SlAt.snoc {w : World} {g off cap : Nat} {L : List Int} (h : SlAt w g off cap L) (y : Int) (hl : L.length < cap) : SlAt (w.setCell ⟨g, off + L.length, none⟩ (.int .i64 y)) g off cap (L ++ [y]) := by
  have hs := h.spare L.length hl
  refine ⟨by simpa [World.setCell] using h.lt, fun i x hx => ?_, fun i hi => ?_, fun i hi => (World.frozen?_setCell _ _ _ _).trans (h.free i hi), by simp; omega, h.most⟩
  · by_cases hi : i < L.length
    · rw [List.getElem?_append_left hi] at hx
      exact (World.cell?_setCell_other _ _ _ _ (by intro e; have := congrArg Addr.off e; simp at this; omega)).trans (h.cell i x hx)
    · have : i < (L ++ [y]).length := (List.getElem?_eq_some_iff.1 hx).1
      simp at this
      obtain rfl : i = L.length := by omega
      simp at hx
      subst hx
      obtain ⟨u, hu⟩ := Option.isSome_iff_exists.1 hs
      exact World.cell?_setCell_same _ _ _ hu
  · by_cases e : i = L.length
    · subst e
      obtain ⟨u, hu⟩ := Option.isSome_iff_exists.1 hs
      rw [World.cell?_setCell_same _ _ _ hu]; rfl
    · rw [World.cell?_setCell_other _ _ _ _ (by intro e'; have := congrArg Addr.off e'; simp at this; omega)]
      exact h.spare i hi
theorem run_append_sl (ty : TypeId) (w : World) (g : Nat) (lv : Value) (L : List Int) (h : Sl w g lv L) (hl : L.length ≤ 4096) (ad : Addr) (y : Int) (hy : ∀ j u, [Value.int .i64 y][j]? = some u → w.cell? (ad.add j) = some u) :
    ∃ g' off' cap' w', (Builtin.append_ #[35, 35] ty #[lv, .slice (some ad) 1 1]).run Try.prog w = .ok (.slice (some ⟨g', off', none⟩) (L.length + 1) cap') w' ∧
      Sl w' g' (.slice (some ⟨g', off', none⟩) (L.length + 1) cap') (L ++ [y]) ∧ Turn [g] w w' ∧ (lv = .slice none 0 0 → Turn [] w w' ∧ w.heap.size ≤ g') ∧ (g' = g ∨ w.heap.size ≤ g') := by
  obtain ⟨i0, hi, hz0, hz1, hz2⟩ := info_parts info_i64
  have hmax : ∀ n old, n ≤ 4097 → grownCap w n old 2 ≤ maxLen := fun n old hn => grownCap_le_maxLen w n old _ (by simp only [maxLen]; omega)
  have grown : ∀ (olds : List Int) (old : Nat), olds = L → Sl (w.drew.alloc (.cells ((ints olds).toArray ++ #[.int .i64 y] ++ Builtin.zeroCells (Value.int .i64 0).cells (grownCap w (L.length + 1) old 2 - (L.length + 1))) 2)) w.heap.size
      (.slice (some ⟨w.heap.size, 0, none⟩) (L.length + 1) (grownCap w (L.length + 1) old 2)) (L ++ [y]) := by
    rintro olds old rfl
    have hge := grownCap_ge w (olds.length + 1) old 2
    refine .inr ⟨0, grownCap w (olds.length + 1) old 2, by simp, slAt_of_box (Box.ofBlock (t := 2) (cur := (ints olds).toArray ++ #[.int .i64 y] ++ Builtin.zeroCells (Value.int .i64 0).cells (grownCap w (olds.length + 1) old 2 - (olds.length + 1))) (World.alloc_heap_new w.drew _)) ?_ ?_ (hmax _ _ (by omega))⟩
    · simp [ints, size_zeroCells, Value.cells]; omega
    · exact ⟨_, by simp [ints]; rfl⟩
  have gturn : ∀ (S : List Nat) (o : Obj), Turn S w (w.drew.alloc o) := fun _ o => Turn.of_below (((Below.refl _ _).drew).alloc (Nat.le_refl _) _)
  rcases h with ⟨rfl, rfl, hg⟩ | ⟨off, cap, rfl, h⟩
  · have hr := run_append_nil (P := Try.prog) w 35 ty 2 i0 (.int .i64 0) Try.underlying35 hi hz0 ad 1 1 [.int .i64 y] (by rw [hz1]; rfl) hy (by decide) (by decide) (by rw [hz2]; decide)
    exact ⟨w.heap.size, 0, _, _, hr, by simpa [ints] using grown [] 0 rfl, gturn _ _, fun _ => ⟨gturn _ _, Nat.le_refl _⟩, .inr (Nat.le_refl _)⟩
  · by_cases hc : L.length + 1 ≤ cap
    · have hr := run_append_room_cells (P := Try.prog) w 35 ty 2 i0 Try.underlying35 hi g off L.length cap ad 1 1 [.int .i64 y] (by rw [hz1]; rfl) hy (by simp [Value.oneCell']) hc (fun j hj => by
          have : j = 0 := by simpa using hj
          subst this
          rw [hz1, Nat.mul_one, Nat.add_zero]; exact h.spare _ (by omega)) (fun j hj => by
          have : j = 0 := by simpa using hj
          subst this
          rw [hz1, Nat.mul_one, Nat.add_zero]; exact h.free _ (by omega))
      rw [hz1, Nat.mul_one] at hr
      refine ⟨g, off, cap, _, hr, .inr ⟨off, cap, by simp, h.snoc y (by omega)⟩, Turn.set _ _ _ (by simp), fun e => (by cases e), .inl rfl⟩
    · have hr := run_append_grow (P := Try.prog) w 35 ty 2 i0 (.int .i64 0) Try.underlying35 hi hz0 ⟨g, off, none⟩ L.length cap (ints L) (by rw [hz1]; simp [ints]) (fun j v hv => by
          obtain ⟨x, hx, rfl⟩ : ∃ x, L[j]? = some x ∧ Value.int .i64 x = v := by simpa [ints] using hv
          have := h.cell j x hx
          by_cases hj : j = 0
          · subst hj; simpa [Addr.add] using this
          · simpa [Addr.add, hj] using this) ad 1 1 [.int .i64 y] (by rw [hz1]; rfl) hy (by have := h.le; omega) (by omega) (growslice_fits (by have := h.le; omega) (by rw [hz2]; omega))
      exact ⟨w.heap.size, 0, _, _, hr, by simpa using grown L cap rfl, gturn _ _, fun e => (by cases e), .inr (Nat.le_refl _)⟩
theorem wpList_append_sl (w : World) {ops : Array Oper} {rest : List Oper} {o : Oper} {a : Act} {Q : Exit → Act → World → Prop} (hgd : o.guard = none) (s x : Operand)
    (hop : o.op = Op.call { callee := Callee.builtin Builtin.append, args := #[s, x], argTypes := #[35, 35] }) (g : Nat) (lv : Value) (L : List Int) (hs : a.eval s = lv) (h : Sl w g lv L) (hl : L.length ≤ 4096)
    (ad : Addr) (y : Int) (hx : a.eval x = .slice (some ad) 1 1) (hy : ∀ j u, [Value.int .i64 y][j]? = some u → w.cell? (ad.add j) = some u)
    (hK : ∀ g' off' cap' w', Sl w' g' (.slice (some ⟨g', off', none⟩) (L.length + 1) cap') (L ++ [y]) → Turn [g] w w' → (lv = .slice none 0 0 → Turn [] w w' ∧ w.heap.size ≤ g') → (g' = g ∨ w.heap.size ≤ g') → wpList Try.prog ops Q rest (a.put o.dst (.slice (some ⟨g', off', none⟩) (L.length + 1) cap')) w') :
    wpList Try.prog ops Q (o :: rest) a w := by
  refine wpList_plain hgd fun K hK' => ?_
  obtain ⟨g', off', cap', w', hrun, r1, r2, r3, r4⟩ := run_append_sl o.type w g lv L h hl ad y hy
  unfold Oper.wp
  simp [execOp, hop, resolve, invoke, builtin, hs, hx, hrun, Result.andThen]
  exact hK' _ _ (hK g' off' cap' w' r1 r2 r3 r4)
end Go.Proofs.Ytcochjicaogofaa
