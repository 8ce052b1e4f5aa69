/- An append onto a list of numbers, wherever it lies; two lists held against each other. -/
import Derived.Test.YtccgbkafcbfcgaaMoM
namespace Go.Proofs.Ytccgbkafcbfcgaa
open Go.RowKit

theorem run_append_sl (ty : TypeId) (w : World) (g : Nat) (lv : Value) (L : List Int) (h : Sl w g lv L) (hl : L.length < 17592186044416) (ad : Addr) (y : Int) (hy : ∀ j u, [Value.int .i64 y][j]? = some u → w.cell? (ad.add j) = some u) :
    ∃ g' off' cap' w', (Builtin.append_ #[90, 90] ty #[lv, .slice (some ad) 1 1]).run Try.prog w = .ok (.slice (some ⟨g', off', none⟩) (L.length + 1) cap') w' ∧
      Sl w' g' (.slice (some ⟨g', off', none⟩) (L.length + 1) cap') (L ++ [y]) ∧ Turn [g] w w' ∧ (lv = .slice none 0 0 → Turn [] w w' ∧ w.heap.size ≤ g') ∧ (g' = g ∨ w.heap.size ≤ g') := by
  obtain ⟨i0, hi, hz0, hz1, hz2⟩ := info_parts info_i64
  have hmax : ∀ n old, n ≤ 17592186044416 → grownCap w n old 2 ≤ maxLen := fun n old hn => grownCap_le_maxLen w n old _ (by simp only [maxLen]; omega)
  have grown : ∀ (olds : List Int) (old : Nat), olds = L → Sl (w.drew.alloc (.cells ((ints olds).toArray ++ #[.int .i64 y] ++ Builtin.zeroCells (Value.int .i64 0).cells (grownCap w (L.length + 1) old 2 - (L.length + 1))) 2)) w.heap.size
      (.slice (some ⟨w.heap.size, 0, none⟩) (L.length + 1) (grownCap w (L.length + 1) old 2)) (L ++ [y]) := by
    rintro olds old rfl
    have hge := grownCap_ge w (olds.length + 1) old 2
    refine .inr ⟨0, grownCap w (olds.length + 1) old 2, by simp, slAt_of_box (Box.ofBlock (t := 2) (cur := (ints olds).toArray ++ #[.int .i64 y] ++ Builtin.zeroCells (Value.int .i64 0).cells (grownCap w (olds.length + 1) old 2 - (olds.length + 1))) (heap_new w.drew _)) ?_ ?_ (hmax _ _ (by omega))⟩
    · simp [ints, size_zeroCells, Value.cells]; omega
    · exact ⟨_, by simp [ints]; rfl⟩
  have gturn : ∀ (S : List Nat) (o : Obj), Turn S w (w.drew.alloc o) := fun _ o => Turn.of_below (((Below.refl _ _).drew).alloc (Nat.le_refl _) _)
  rcases h with ⟨rfl, rfl, hg⟩ | ⟨off, cap, rfl, h⟩
  · have hr := run_append_nil (P := Try.prog) w 90 ty 2 i0 (.int .i64 0) Try.underlying90 hi hz0 ad 1 1 [.int .i64 y] (by rw [hz1]; rfl) hy (by decide) (by decide) (by rw [hz2]; decide)
    exact ⟨w.heap.size, 0, _, _, hr, by simpa [ints] using grown [] 0 rfl, gturn _ _, fun _ => ⟨gturn _ _, Nat.le_refl _⟩, .inr (Nat.le_refl _)⟩
  · by_cases hc : L.length + 1 ≤ cap
    · have hr := run_append_room_cells (P := Try.prog) w 90 ty 2 i0 Try.underlying90 hi g off L.length cap ad 1 1 [.int .i64 y] (by rw [hz1]; rfl) hy (by simp [Value.oneCell']) hc (fun j hj => by
          have : j = 0 := by simpa using hj
          subst this
          rw [hz1, Nat.mul_one, Nat.add_zero]; exact h.spare _ (by omega)) (fun j hj => by
          have : j = 0 := by simpa using hj
          subst this
          rw [hz1, Nat.mul_one, Nat.add_zero]; exact h.free _ (by omega))
      rw [hz1, Nat.mul_one] at hr
      refine ⟨g, off, cap, _, hr, .inr ⟨off, cap, by simp, h.snoc y (by omega)⟩, Turn.set _ _ _ (by simp), fun e => (by cases e), .inl rfl⟩
    · have hr := run_append_grow (P := Try.prog) w 90 ty 2 i0 (.int .i64 0) Try.underlying90 hi hz0 ⟨g, off, none⟩ L.length cap (ints L) (by rw [hz1]; simp [ints]) (fun j v hv => by
          obtain ⟨x, hx, rfl⟩ : ∃ x, L[j]? = some x ∧ Value.int .i64 x = v := by simpa [ints] using hv
          have := h.cell j x hx
          by_cases hj : j = 0
          · subst hj; simpa [Addr.add] using this
          · simpa [Addr.add, hj] using this) ad 1 1 [.int .i64 y] (by rw [hz1]; rfl) hy (by have := h.le; omega) (by omega) (growslice_fits (by have := h.le; omega) (by rw [hz2]; omega))
      exact ⟨w.heap.size, 0, _, _, hr, by simpa using grown L cap rfl, gturn _ _, fun e => (by cases e), .inr (Nat.le_refl _)⟩
theorem wpList_append_sl (w : World) {ops : Array Oper} {rest : List Oper} {o : Oper} {a : Act} {Q : Exit → Act → World → Prop} (hgd : o.guard = none) (s x : Operand)
    (hop : o.op = Op.call { callee := Callee.builtin Builtin.append, args := #[s, x], argTypes := #[90, 90] }) (g : Nat) (lv : Value) (L : List Int) (hs : a.eval s = lv) (h : Sl w g lv L) (hl : L.length < 17592186044416)
    (ad : Addr) (y : Int) (hx : a.eval x = .slice (some ad) 1 1) (hy : ∀ j u, [Value.int .i64 y][j]? = some u → w.cell? (ad.add j) = some u)
    (hK : ∀ g' off' cap' w', Sl w' g' (.slice (some ⟨g', off', none⟩) (L.length + 1) cap') (L ++ [y]) → Turn [g] w w' → (lv = .slice none 0 0 → Turn [] w w' ∧ w.heap.size ≤ g') → (g' = g ∨ w.heap.size ≤ g') → wpList Try.prog ops Q rest (a.put o.dst (.slice (some ⟨g', off', none⟩) (L.length + 1) cap')) w') :
    wpList Try.prog ops Q (o :: rest) a w := by
  refine wpList_plain hgd fun K hK' => ?_
  obtain ⟨g', off', cap', w', hrun, r1, r2, r3, r4⟩ := run_append_sl o.type w g lv L h hl ad y hy
  unfold Oper.wp
  simp [execOp, hop, resolve, invoke, builtin, hs, hx, hrun, Result.andThen]
  exact hK' _ _ (hK g' off' cap' w' r1 r2 r3 r4)
end Go.Proofs.Ytccgbkafcbfcgaa
