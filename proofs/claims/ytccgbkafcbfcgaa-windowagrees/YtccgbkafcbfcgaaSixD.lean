/- A list of results, and an append onto it; what six windows of one span say of each other. -/
import Derived.Test.YtccgbkafcbfcgaaPaB
import Derived.Test.YtccgbkafcbfcgaaSixC
import Derived.Test.YtccgbkafcbfcgaaWnE
namespace Go.Proofs.Ytccgbkafcbfcgaa
open Go.RowKit

theorem info_res : (Try.prog.info? 49).map (fun i => (i.zero, i.size, i.bytes)) = some (some (.agg #[.int .i64 0, .int .i64 0]), 2, 16) := by kernel_rfl
theorem run_append_rp (ty : TypeId) (w : World) (b g : Nat) (lv : Value) (K : List (Int × Int)) (hb : b < w.heap.size) (h : PSl w b g lv K) (hl : K.length < 8796093022208) (ad : Addr) (y a : Int) (hy : ∀ j u, [Value.int .i64 y, .int .i64 a][j]? = some u → w.cell? (ad.add j) = some u) :
    ∃ g' off' cap' w', (Builtin.append_ #[56, 56] ty #[lv, .slice (some ad) 1 1]).run Try.prog w = .ok (.slice (some ⟨g', off', none⟩) (K.length + 1) cap') w' ∧
      PGrew w b g g' (.slice (some ⟨g', off', none⟩) (K.length + 1) cap') (K ++ [(y, a)]) w' := by
  obtain ⟨i0, hi, hz0, hz1, hz2⟩ := info_parts info_res
  have hmax : ∀ n old, n ≤ 8796093022208 → grownCap w n old 49 ≤ maxLen := fun n old hn => grownCap_le_maxLen w n old _ (by simp only [maxLen]; omega)
  have grown : ∀ (old : Nat), PAt (w.drew.alloc (.cells ((prs K).toArray ++ #[.int .i64 y, .int .i64 a] ++ Builtin.zeroCells (Value.agg #[.int .i64 0, .int .i64 0]).cells (grownCap w (K.length + 1) old 49 - (K.length + 1))) 49)) w.heap.size 0 (grownCap w (K.length + 1) old 49) (K ++ [(y, a)]) := by
    intro old
    have hge := grownCap_ge w (K.length + 1) old 49
    refine pAt_of_box (Box.ofBlock (t := 49) (cur := (prs K).toArray ++ #[.int .i64 y, .int .i64 a] ++ Builtin.zeroCells (Value.agg #[.int .i64 0, .int .i64 0]).cells (grownCap w (K.length + 1) old 49 - (K.length + 1))) (heap_new w.drew _)) ?_ ?_ (hmax _ _ (by omega))
    · simp [prs_length, size_zeroCells, Value.cells]; omega
    · exact ⟨_, by simp [prs_append, prs]; rfl⟩
  have gturn : ∀ (S : List Nat) (o : Obj), Turn S w (w.drew.alloc o) := fun _ o => Turn.of_below (((Below.refl _ _).drew).alloc (Nat.le_refl _) _)
  rcases h with ⟨rfl, rfl, hg⟩ | ⟨hgb, off, cap, rfl, h⟩
  · have hr := run_append_nil (P := Try.prog) w 56 ty 49 i0 (.agg #[.int .i64 0, .int .i64 0]) Try.underlying56 hi hz0 ad 1 1 [.int .i64 y, .int .i64 a] (by rw [hz1]; rfl) hy (by decide) (by decide) (by rw [hz2]; decide)
    exact ⟨w.heap.size, 0, _, _, hr, .inr ⟨by omega, 0, _, rfl, by simpa [prs] using grown 0⟩, ⟨[], gturn _ _, by simp, by simp⟩, .inr (Nat.le_refl _)⟩
  · by_cases hc : K.length + 1 ≤ cap
    · have hr := run_append_room_cells (P := Try.prog) w 56 ty 49 i0 Try.underlying56 hi g off K.length cap ad 1 1 [.int .i64 y, .int .i64 a] (by rw [hz1]; rfl) hy (by simp [Value.oneCell']) hc (fun j hj => by
          have : j < 2 := by simpa using hj
          rw [hz1, Nat.add_assoc]; exact h.spare _ (by omega)) (fun j hj => by
          have : j < 2 := by simpa using hj
          rw [hz1, Nat.add_assoc]; exact h.free _ (by omega))
      rw [hz1] at hr
      refine ⟨g, off, cap, _, hr, .inr ⟨hgb, off, cap, by simp, ?_⟩, ⟨[g], ?_, by simpa using Ne.symm hgb, by simp⟩, .inl rfl⟩
      · simpa [World.setCells] using h.snoc y a (by omega)
      · simpa [World.setCells] using (Turn.set (S := [g]) w ⟨g, off + K.length * 2, none⟩ (.int .i64 y) (by simp)).andSet ⟨g, off + K.length * 2 + 1, none⟩ (.int .i64 a) (.inl (by simp))
    · have hr := run_append_grow (P := Try.prog) w 56 ty 49 i0 (.agg #[.int .i64 0, .int .i64 0]) Try.underlying56 hi hz0 ⟨g, off, none⟩ K.length cap (prs K) (by rw [hz1]; exact prs_length K) (fun j v hv => by
          have := h.cells j v hv
          by_cases hj : j = 0
          · subst hj; simpa [Addr.add] using this
          · simpa [Addr.add, hj] using this) ad 1 1 [.int .i64 y, .int .i64 a] (by rw [hz1]; rfl) hy (by have := h.le; omega) (by omega) (growslice_fits (by have := h.le; omega) (by rw [hz2]; omega))
      exact ⟨w.heap.size, 0, _, _, hr, .inr ⟨by omega, 0, _, by simp, grown cap⟩, ⟨[], gturn _ _, by simp, by simp⟩, .inr (Nat.le_refl _)⟩
theorem run_append_rls (ty : TypeId) (w : World) (ok : Nat → Prop) (lv : Value) (L : List Pr) (h : PLs w ok lv L) (hl : L.length < 8796093022208) (y : Pr) :
    ∃ a c w', (Builtin.append_ #[56, 56] ty #[lv, .slice (some ⟨w.heap.size, 0, none⟩) 1 1]).run Try.prog (w.alloc (.cells #[.int .i64 y.1, .int .i64 y.2] 49)) = .ok (.slice a (L.length + 1) c) w' ∧ PLsGrew w ok (.slice a (L.length + 1) c) (L ++ [y]) w' := by
  have hb : Below w.heap.size w (w.alloc (.cells #[.int .i64 y.1, .int .i64 y.2] 49)) := (Below.refl _ _).alloc (Nat.le_refl _) _
  have hy := cell_two_new w (.int .i64 y.1) (.int .i64 y.2) 49
  have hs : (w.alloc (.cells #[.int .i64 y.1, .int .i64 y.2] 49)).heap.size = w.heap.size + 1 := by simp
  rcases h with ⟨rfl, rfl⟩ | ⟨gl, off, cap, hok, rfl, h⟩
  · obtain ⟨g', off', cap', w', h1, h2, ⟨S, t, s1, s2⟩, h5⟩ := run_append_rp ty (w.alloc (.cells #[.int .i64 y.1, .int .i64 y.2] 49)) w.heap.size w.heap.size (.slice none 0 0) [] (by omega) (.inl ⟨rfl, rfl, rfl⟩) (by simp) ⟨w.heap.size, 0, none⟩ y.1 y.2 hy
    rcases h2 with ⟨e, _, _⟩ | ⟨hne, o2, c2, e2, h2⟩
    · cases e
    refine ⟨_, _, w', h1, ⟨g', o2, c2, .inr (by omega), by simpa using e2, h2⟩, [], ?_, by simp⟩
    exact (Turn.of_below hb).trans t (fun i hi => .inr (by have := s2 i hi; omega))
  · have hgl := h.lt
    obtain ⟨g', off', cap', w', h1, h2, ⟨S, t, s1, s2⟩, h5⟩ := run_append_rp ty (w.alloc (.cells #[.int .i64 y.1, .int .i64 y.2] 49)) w.heap.size gl (.slice (some ⟨gl, off, none⟩) L.length cap) L (by omega) (.inr ⟨by omega, off, cap, rfl, h.turn (S := []) (Turn.of_below hb) (by simp)⟩) hl ⟨w.heap.size, 0, none⟩ y.1 y.2 hy
    rcases h2 with ⟨e, _, _⟩ | ⟨hne, o2, c2, e2, h2⟩
    · cases e
    refine ⟨_, _, w', h1, ⟨g', o2, c2, ?_, by simpa using e2, h2⟩, [gl], (Turn.of_below hb).trans t (fun i hi => .inl (by have := s2 i hi; simp [this])), by simpa using hok⟩
    rcases h5 with e | e
    · exact .inl (e ▸ hok)
    · exact .inr (by omega)
theorem wpList_append_rls (w0 w : World) {ops : Array Oper} {rest : List Oper} {o : Oper} {a : Act} {Q : Exit → Act → World → Prop} (hgd : o.guard = none) (s x : Operand)
    (hop : o.op = Op.call { callee := Callee.builtin Builtin.append, args := #[s, x], argTypes := #[56, 56] }) (ok : Nat → Prop) (lv : Value) (L : List Pr) (y : Pr) (hw : w = w0.alloc (.cells #[.int .i64 y.1, .int .i64 y.2] 49)) (hs : a.eval s = lv) (h : PLs w0 ok lv L) (hl : L.length < 8796093022208)
    (hx : a.eval x = .slice (some ⟨w0.heap.size, 0, none⟩) 1 1)
    (hK : ∀ b c w', PLsGrew w0 ok (.slice b (L.length + 1) c) (L ++ [y]) w' → wpList Try.prog ops Q rest (a.put o.dst (.slice b (L.length + 1) c)) w') :
    wpList Try.prog ops Q (o :: rest) a w := by
  refine wpList_plain hgd fun K hK' => ?_
  subst hw
  obtain ⟨b, c, w', hrun, r⟩ := run_append_rls o.type w0 ok lv L h hl y
  unfold Oper.wp
  simp [execOp, hop, resolve, invoke, builtin, hs, hx, hrun, Result.andThen]
  exact hK' _ _ (hK b c w' r)
/-- What the window number j says of V. -/
def sixRes (V : List Int) (j : Nat) : Pr := toldOf ((j : Int) + 1) (perOf j) V
/-- Small values. -/
def Mild (V : List Int) : Prop := V.length ≤ 4096 ∧ ∀ x, x ∈ V → -8796093022208 ≤ x ∧ x ≤ 8796093022208
theorem mild_sum {V : List Int} (h : ∀ x, x ∈ V → -8796093022208 ≤ x ∧ x ≤ 8796093022208) : -((V.length : Int) * 8796093022208) ≤ V.sum ∧ V.sum ≤ (V.length : Int) * 8796093022208 := by
  induction V with
  | nil => simp
  | cons x V ih =>
    obtain ⟨h1, h2⟩ := h x (by simp)
    obtain ⟨h3, h4⟩ := ih (fun y hy => h y (by simp [hy]))
    simp only [List.sum_cons, List.length_cons]
    omega
theorem sum_ge {V : List Int} {m : Int} (h : ∀ x, x ∈ V → m ≤ x) : (V.length : Int) * m ≤ V.sum := by
  induction V with
  | nil => simp
  | cons x V ih =>
    have h1 := h x (by simp)
    have h2 := ih (fun y hy => h y (by simp [hy]))
    simp only [List.sum_cons, List.length_cons]
    have : ((V.length + 1 : Nat) : Int) * m = (V.length : Int) * m + m := by rw [Int.natCast_add, Int.add_mul]; simp
    omega
theorem sum_le {V : List Int} {m : Int} (h : ∀ x, x ∈ V → x ≤ m) : V.sum ≤ (V.length : Int) * m := by
  induction V with
  | nil => simp
  | cons x V ih =>
    have h1 := h x (by simp)
    have h2 := ih (fun y hy => h y (by simp [hy]))
    simp only [List.sum_cons, List.length_cons]
    have : ((V.length + 1 : Nat) : Int) * m = (V.length : Int) * m + m := by rw [Int.natCast_add, Int.add_mul]; simp
    omega
theorem six_sum {V : List Int} (h : Mild V) : sixRes V 0 = (0, V.sum) ∧ sixRes V 4 = (0, (V.length : Int) * 1000000) := by
  obtain ⟨h1, h2⟩ := h
  have h3 := mild_sum h2
  refine ⟨?_, ?_⟩
  · show toldOf 1 _ V = _
    rw [toldOf, if_pos rfl, if_pos (by omega)]
  · show toldOf 5 _ V = _
    rw [toldOf, if_neg (by decide), if_pos rfl]
theorem six_nil : sixRes [] 1 = (1, 0) ∧ sixRes [] 2 = (1, 0) ∧ sixRes [] 3 = (1, 0) ∧ sixRes [] 5 = (1, 0) := by decide
theorem six_some {V : List Int} (hv : V ≠ []) : ∃ av lo hi, sixRes V 1 = (0, av) ∧ sixRes V 2 = (0, lo) ∧ sixRes V 3 = (0, hi) ∧ sixRes V 5 = (0, hi) ∧ 0 ≤ V.sum - av * (V.length : Int) ∧ V.sum - av * (V.length : Int) < (V.length : Int) ∧ lo ≤ av ∧ av ≤ hi ∧ lo ∈ V ∧ hi ∈ V := by
  have hn : 0 < (V.length : Int) := by have := List.length_pos_iff.2 hv; omega
  obtain ⟨lo, K1, hlo⟩ : ∃ y K, kept false V = y :: K := by
    cases hk : kept false V with
    | nil => exact absurd hk (kept_ne false hv)
    | cons y K => exact ⟨y, K, rfl⟩
  obtain ⟨hi, K2, hhi⟩ : ∃ y K, kept true V = y :: K := by
    cases hk : kept true V with
    | nil => exact absurd hk (kept_ne true hv)
    | cons y K => exact ⟨y, K, rfl⟩
  obtain ⟨l1, l2⟩ := kept_best hlo
  obtain ⟨g1, g2⟩ := kept_best hhi
  have l3 : ∀ x, x ∈ V → lo ≤ x := fun x hx => by have := l2 x hx; simp [win] at this; omega
  have g3 : ∀ x, x ∈ V → x ≤ hi := fun x hx => by have := g2 x hx; simp [win] at this; omega
  have hs1 := sum_ge l3
  have hs2 := sum_le g3
  have htop : (srt V)[nearest 100000000 V.length - 1]? = some hi := by
    have hne : nearest 100000000 V.length = V.length := by
      obtain ⟨_, _, n3⟩ := nearest_bounds (p := 100000000) (n := V.length) (by decide) (by decide) (by omega)
      omega
    rw [hne]
    obtain ⟨i, hi'⟩ := List.getElem?_of_mem ((srt_perm V).mem_iff.2 g1)
    have hil : i < (srt V).length := (List.getElem?_eq_some_iff.1 hi').1
    rw [srt_length] at hil
    obtain ⟨y, hy⟩ : ∃ y, (srt V)[V.length - 1]? = some y := ⟨_, List.getElem?_eq_getElem (by rw [srt_length]; omega)⟩
    have h1 := asc_get (srt_asc V) (show i ≤ V.length - 1 by omega) hi' hy
    have h2 := g3 y ((srt_perm V).mem_iff.1 (List.mem_of_getElem? hy))
    rw [hy]
    congr 1
    omega
  refine ⟨V.sum / (V.length : Int), lo, hi, ?_, ?_, ?_, ?_, ?_, ?_, ?_, ?_, l1, g1⟩
  · show toldOf 2 _ V = _
    rw [toldOf, if_neg (by decide), if_neg (by decide), if_neg hv, if_pos rfl]
  · show toldOf 3 _ V = _
    rw [toldOf, if_neg (by decide), if_neg (by decide), if_neg hv, if_neg (by decide), if_pos rfl, hlo]; rfl
  · show toldOf 4 _ V = _
    rw [toldOf, if_neg (by decide), if_neg (by decide), if_neg hv, if_neg (by decide), if_neg (by decide), if_pos rfl, hhi]; rfl
  · show toldOf 6 100000000 V = _
    rw [toldOf, if_neg (by decide), if_neg (by decide), if_neg hv, if_neg (by decide), if_neg (by decide), if_neg (by decide), htop]; rfl
  · have := Int.ediv_mul_le V.sum (show (V.length : Int) ≠ 0 by omega); omega
  · have := Int.lt_ediv_add_one_mul_self V.sum hn
    rw [Int.add_mul] at this
    omega
  · exact (Int.le_ediv_iff_mul_le hn).2 (by rw [Int.mul_comm]; exact hs1)
  · have h1 : V.sum / (V.length : Int) < hi + 1 := (Int.ediv_lt_iff_lt_mul hn).2 (by rw [Int.add_mul, Int.mul_comm]; omega)
    omega
end Go.Proofs.Ytccgbkafcbfcgaa
