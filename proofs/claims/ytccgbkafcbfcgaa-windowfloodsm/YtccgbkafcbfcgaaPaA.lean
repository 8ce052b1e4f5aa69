/- Lists of samples, wherever they lie; an append onto one. -/
import Derived.Test.YtccgbkafcbfcgaaMgA
import Derived.Test.YtccgbkafcbfcgaaMoT
namespace Go.Proofs.Ytccgbkafcbfcgaa
open Go.RowKit

/-- The block g holds K from off on, two cells each, and has room for cap of them there. -/
structure PAt (w : World) (g off cap : Nat) (K : List (Int × Int)) : Prop where
  lt : g < w.heap.size
  num : ∀ i k, K[i]? = some k → w.cell? ⟨g, off + i * 2, none⟩ = some (.int .i64 k.1)
  ahd : ∀ i k, K[i]? = some k → w.cell? ⟨g, off + i * 2 + 1, none⟩ = some (.int .i64 k.2)
  spare : ∀ i, i < cap * 2 → (w.cell? ⟨g, off + i, none⟩).isSome = true
  free : ∀ i, i < cap * 2 → w.frozen? ⟨g, off + i, none⟩ = false
  le : K.length ≤ cap
  most : cap ≤ maxLen
theorem PAt.turn {S : List Nat} {w w' : World} {g off cap : Nat} {K : List (Int × Int)} (h : PAt w g off cap K) (t : Turn S w w') (hn : g ∉ S) : PAt w' g off cap K :=
  ⟨Nat.lt_of_lt_of_le h.lt t.size, fun i k hk => (t.cell (p := ⟨g, off + i * 2, none⟩) h.lt hn).trans (h.num i k hk), fun i k hk => (t.cell (p := ⟨g, off + i * 2 + 1, none⟩) h.lt hn).trans (h.ahd i k hk), fun i hi => by rw [t.cell (p := ⟨g, off + i, none⟩) h.lt hn]; exact h.spare i hi, fun i hi => (t.frozen (p := ⟨g, off + i, none⟩) h.lt hn).trans (h.free i hi), h.le, h.most⟩
theorem PAt.part {w : World} {g off cap : Nat} {K : List (Int × Int)} (h : PAt w g off cap K) (n : Nat) : PAt w g off cap (K.take n) := by
  have hp : ∀ i k, (K.take n)[i]? = some k → K[i]? = some k := fun i k hk => by
    have hi : i < (K.take n).length := (List.getElem?_eq_some_iff.1 hk).1
    rw [List.getElem?_take_of_lt (by simp at hi; omega)] at hk
    exact hk
  exact ⟨h.lt, fun i k hk => h.num i k (hp i k hk), fun i k hk => h.ahd i k (hp i k hk), h.spare, h.free, by have := h.le; simp; omega, h.most⟩
/-- The value lv is a slice of K: none yet, or in the block g, which isn't b. -/
def PSl (w : World) (b g : Nat) (lv : Value) (K : List (Int × Int)) : Prop := (lv = .slice none 0 0 ∧ K = [] ∧ g = b) ∨ (g ≠ b ∧ ∃ off cap, lv = .slice (some ⟨g, off, none⟩) K.length cap ∧ PAt w g off cap K)
theorem PSl.turn {S : List Nat} {w w' : World} {b g : Nat} {lv : Value} {K : List (Int × Int)} (h : PSl w b g lv K) (t : Turn S w w') (hn : g ≠ b → g ∉ S) : PSl w' b g lv K := by
  rcases h with h | ⟨hg, off, cap, e, h⟩
  · exact .inl h
  · exact .inr ⟨hg, off, cap, e, h.turn t (hn hg)⟩
theorem PSl.shape {w : World} {b g : Nat} {lv : Value} {K : List (Int × Int)} (h : PSl w b g lv K) : ∃ a c, lv = .slice a K.length c := by
  rcases h with ⟨rfl, rfl, _⟩ | ⟨_, off, cap, e, _⟩
  · exact ⟨none, 0, rfl⟩
  · exact ⟨_, _, e⟩
theorem pAt_of_box {w : World} {g cap : Nat} {K : List (Int × Int)} {vs : List Value} (h : Box w g vs) (hv : vs.length = cap * 2) (hp : prs K <+: vs) (hm : cap ≤ maxLen) : PAt w g 0 cap K := by
  obtain ⟨r, rfl⟩ := hp
  have hlen := prs_length K
  refine ⟨h.lt, fun i k hk => ?_, fun i k hk => ?_, fun i hi => ?_, fun i hi => ?_, by simp at hv; omega, hm⟩
  · have hi : i < K.length := (List.getElem?_eq_some_iff.1 hk).1
    rw [Nat.zero_add]
    exact h.cell _ _ (by rw [List.getElem?_append_left (by omega)]; exact prs_zero hk)
  · have hi : i < K.length := (List.getElem?_eq_some_iff.1 hk).1
    rw [Nat.zero_add]
    exact h.cell _ _ (by rw [List.getElem?_append_left (by omega)]; exact prs_one hk)
  · rw [Nat.zero_add, h.cell i _ (List.getElem?_eq_getElem (by omega))]; rfl
  · rw [Nat.zero_add]; exact h.free i (by omega)
theorem PAt.cells {w : World} {g off cap : Nat} {K : List (Int × Int)} (h : PAt w g off cap K) : ∀ j v, (prs K)[j]? = some v → w.cell? ⟨g, off + j, none⟩ = some v := by
  intro j v hv
  have hj : j < K.length * 2 := by have := (List.getElem?_eq_some_iff.1 hv).1; rwa [prs_length] at this
  obtain ⟨k, hk⟩ : ∃ k, K[j / 2]? = some k := ⟨_, List.getElem?_eq_getElem (by omega)⟩
  rcases Nat.mod_two_eq_zero_or_one j with e | e
  · have e2 : j = j / 2 * 2 := by omega
    have h1 := prs_zero hk
    have h2 := h.num _ _ hk
    rw [← e2] at h1 h2
    rw [hv] at h1
    cases h1
    exact h2
  · have e2 : j = j / 2 * 2 + 1 := by omega
    have h1 := prs_one hk
    have h2 := h.ahd _ _ hk
    rw [← e2] at h1
    rw [Nat.add_assoc, ← e2] at h2
    rw [hv] at h1
    cases h1
    exact h2
theorem PAt.snoc {w : World} {g off cap : Nat} {K : List (Int × Int)} (h : PAt w g off cap K) (y a : Int) (hl : K.length < cap) :
    PAt ((w.setCell ⟨g, off + K.length * 2, none⟩ (.int .i64 y)).setCell ⟨g, off + K.length * 2 + 1, none⟩ (.int .i64 a)) g off cap (K ++ [(y, a)]) := by
  obtain ⟨u0, hu0⟩ := Option.isSome_iff_exists.1 (h.spare (K.length * 2) (by omega))
  obtain ⟨u1, hu1⟩ := Option.isSome_iff_exists.1 (h.spare (K.length * 2 + 1) (by omega))
  rw [← Nat.add_assoc] at hu1
  have hother : ∀ j, j ≠ K.length * 2 → j ≠ K.length * 2 + 1 → ((w.setCell ⟨g, off + K.length * 2, none⟩ (.int .i64 y)).setCell ⟨g, off + K.length * 2 + 1, none⟩ (.int .i64 a)).cell? ⟨g, off + j, none⟩ = w.cell? ⟨g, off + j, none⟩ := fun j h1 h2 => by
    rw [World.cell?_setCell_other _ _ _ _ (by intro e; have := congrArg Addr.off e; simp at this; omega), World.cell?_setCell_other _ _ _ _ (by intro e; have := congrArg Addr.off e; simp at this; omega)]
  have hn0 : ((w.setCell ⟨g, off + K.length * 2, none⟩ (.int .i64 y)).setCell ⟨g, off + K.length * 2 + 1, none⟩ (.int .i64 a)).cell? ⟨g, off + K.length * 2, none⟩ = some (.int .i64 y) := by
    rw [World.cell?_setCell_other _ _ _ _ (by intro e; have := congrArg Addr.off e; simp at this)]
    exact World.cell?_setCell_same _ _ _ hu0
  have hn1 : ((w.setCell ⟨g, off + K.length * 2, none⟩ (.int .i64 y)).setCell ⟨g, off + K.length * 2 + 1, none⟩ (.int .i64 a)).cell? ⟨g, off + K.length * 2 + 1, none⟩ = some (.int .i64 a) :=
    World.cell?_setCell_same _ _ _ (u := u1) (by rw [World.cell?_setCell_other _ _ _ _ (by intro e; have := congrArg Addr.off e; simp at this)]; exact hu1)
  have hcase : ∀ i k, (K ++ [(y, a)])[i]? = some k → K[i]? = some k ∧ i < K.length ∨ i = K.length ∧ k = (y, a) := fun i k hk => by
    by_cases hi : i < K.length
    · rw [List.getElem?_append_left hi] at hk; exact .inl ⟨hk, hi⟩
    · have : i < (K ++ [(y, a)]).length := (List.getElem?_eq_some_iff.1 hk).1
      simp at this
      obtain rfl : i = K.length := by omega
      simp at hk
      exact .inr ⟨rfl, hk.symm⟩
  refine ⟨by simpa [World.setCell] using h.lt, fun i k hk => ?_, fun i k hk => ?_, fun i hi => ?_, fun i hi => (World.frozen?_setCell _ _ _ _).trans ((World.frozen?_setCell _ _ _ _).trans (h.free i hi)), by simp; omega, h.most⟩
  · rcases hcase i k hk with ⟨hk, hi⟩ | ⟨rfl, rfl⟩
    · rw [hother _ (by omega) (by omega)]; exact h.num i k hk
    · exact hn0
  · rcases hcase i k hk with ⟨hk, hi⟩ | ⟨rfl, rfl⟩
    · have e := hother (i * 2 + 1) (by omega) (by omega)
      simp only [← Nat.add_assoc] at e
      rw [e]; exact h.ahd i k hk
    · exact hn1
  · by_cases h1 : i = K.length * 2
    · subst h1; rw [hn0]; rfl
    · by_cases h2 : i = K.length * 2 + 1
      · subst h2; rw [← Nat.add_assoc, hn1]; rfl
      · rw [hother i h1 h2]; exact h.spare i hi
/-- What an append leaves: nothing else has turned. -/
def PGrew (w : World) (b g g' : Nat) (lv : Value) (K : List (Int × Int)) (w' : World) : Prop := PSl w' b g' lv K ∧ (∃ S, Turn S w w' ∧ b ∉ S ∧ ∀ i, i ∈ S → i = g) ∧ (g' = g ∨ w.heap.size ≤ g')
theorem run_append_p (ty : TypeId) (w : World) (b g : Nat) (lv : Value) (K : List (Int × Int)) (hb : b < w.heap.size) (h : PSl w b g lv K) (hl : K.length < 8796093022208) (ad : Addr) (y a : Int) (hy : ∀ j u, [Value.int .i64 y, .int .i64 a][j]? = some u → w.cell? (ad.add j) = some u) :
    ∃ g' off' cap' w', (Builtin.append_ #[32, 32] ty #[lv, .slice (some ad) 1 1]).run Try.prog w = .ok (.slice (some ⟨g', off', none⟩) (K.length + 1) cap') w' ∧
      PGrew w b g g' (.slice (some ⟨g', off', none⟩) (K.length + 1) cap') (K ++ [(y, a)]) w' := by
  obtain ⟨i0, hi, hz0, hz1, hz2⟩ := info_parts info_pair
  have hmax : ∀ n old, n ≤ 8796093022208 → grownCap w n old 45 ≤ maxLen := fun n old hn => grownCap_le_maxLen w n old _ (by simp only [maxLen]; omega)
  have grown : ∀ (old : Nat), PAt (w.drew.alloc (.cells ((prs K).toArray ++ #[.int .i64 y, .int .i64 a] ++ Builtin.zeroCells (Value.agg #[.int .i64 0, .int .i64 0]).cells (grownCap w (K.length + 1) old 45 - (K.length + 1))) 45)) w.heap.size 0 (grownCap w (K.length + 1) old 45) (K ++ [(y, a)]) := by
    intro old
    have hge := grownCap_ge w (K.length + 1) old 45
    refine pAt_of_box (Box.ofBlock (t := 45) (cur := (prs K).toArray ++ #[.int .i64 y, .int .i64 a] ++ Builtin.zeroCells (Value.agg #[.int .i64 0, .int .i64 0]).cells (grownCap w (K.length + 1) old 45 - (K.length + 1))) (heap_new w.drew _)) ?_ ?_ (hmax _ _ (by omega))
    · simp [prs_length, size_zeroCells, Value.cells]; omega
    · exact ⟨_, by simp [prs_append, prs]; rfl⟩
  have gturn : ∀ (S : List Nat) (o : Obj), Turn S w (w.drew.alloc o) := fun _ o => Turn.of_below (((Below.refl _ _).drew).alloc (Nat.le_refl _) _)
  rcases h with ⟨rfl, rfl, hg⟩ | ⟨hgb, off, cap, rfl, h⟩
  · have hr := run_append_nil (P := Try.prog) w 32 ty 45 i0 (.agg #[.int .i64 0, .int .i64 0]) Try.underlying32 hi hz0 ad 1 1 [.int .i64 y, .int .i64 a] (by rw [hz1]; rfl) hy (by decide) (by decide) (by rw [hz2]; decide)
    exact ⟨w.heap.size, 0, _, _, hr, .inr ⟨by omega, 0, _, rfl, by simpa [prs] using grown 0⟩, ⟨[], gturn _ _, by simp, by simp⟩, .inr (Nat.le_refl _)⟩
  · by_cases hc : K.length + 1 ≤ cap
    · have hr := run_append_room_cells (P := Try.prog) w 32 ty 45 i0 Try.underlying32 hi g off K.length cap ad 1 1 [.int .i64 y, .int .i64 a] (by rw [hz1]; rfl) hy (by simp [Value.oneCell']) hc (fun j hj => by
          have : j < 2 := by simpa using hj
          rw [hz1, Nat.add_assoc]; exact h.spare _ (by omega)) (fun j hj => by
          have : j < 2 := by simpa using hj
          rw [hz1, Nat.add_assoc]; exact h.free _ (by omega))
      rw [hz1] at hr
      refine ⟨g, off, cap, _, hr, .inr ⟨hgb, off, cap, by simp, ?_⟩, ⟨[g], ?_, by simpa using Ne.symm hgb, by simp⟩, .inl rfl⟩
      · simpa [World.setCells] using h.snoc y a (by omega)
      · simpa [World.setCells] using (Turn.set (S := [g]) w ⟨g, off + K.length * 2, none⟩ (.int .i64 y) (by simp)).andSet ⟨g, off + K.length * 2 + 1, none⟩ (.int .i64 a) (.inl (by simp))
    · have hr := run_append_grow (P := Try.prog) w 32 ty 45 i0 (.agg #[.int .i64 0, .int .i64 0]) Try.underlying32 hi hz0 ⟨g, off, none⟩ K.length cap (prs K) (by rw [hz1]; exact prs_length K) (fun j v hv => by
          have := h.cells j v hv
          by_cases hj : j = 0
          · subst hj; simpa [Addr.add] using this
          · simpa [Addr.add, hj] using this) ad 1 1 [.int .i64 y, .int .i64 a] (by rw [hz1]; rfl) hy (by have := h.le; omega) (by omega) (growslice_fits (by have := h.le; omega) (by rw [hz2]; omega))
      exact ⟨w.heap.size, 0, _, _, hr, .inr ⟨by omega, 0, _, by simp, grown cap⟩, ⟨[], gturn _ _, by simp, by simp⟩, .inr (Nat.le_refl _)⟩
theorem wpList_append_p (w : World) {ops : Array Oper} {rest : List Oper} {o : Oper} {a : Act} {Q : Exit → Act → World → Prop} (hgd : o.guard = none) (s x : Operand)
    (hop : o.op = Op.call { callee := Callee.builtin Builtin.append, args := #[s, x], argTypes := #[32, 32] }) (b g : Nat) (lv : Value) (K : List (Int × Int)) (hs : a.eval s = lv) (hb : b < w.heap.size) (h : PSl w b g lv K) (hl : K.length < 8796093022208)
    (ad : Addr) (y c : Int) (hx : a.eval x = .slice (some ad) 1 1) (hy : ∀ j u, [Value.int .i64 y, .int .i64 c][j]? = some u → w.cell? (ad.add j) = some u)
    (hK : ∀ g' off' cap' w', PGrew w b g g' (.slice (some ⟨g', off', none⟩) (K.length + 1) cap') (K ++ [(y, c)]) w' → wpList Try.prog ops Q rest (a.put o.dst (.slice (some ⟨g', off', none⟩) (K.length + 1) cap')) w') :
    wpList Try.prog ops Q (o :: rest) a w := by
  refine wpList_plain hgd fun K hK' => ?_
  obtain ⟨g', off', cap', w', hrun, r⟩ := run_append_p o.type w b g lv _ hb h hl ad y c hy
  unfold Oper.wp
  simp [execOp, hop, resolve, invoke, builtin, hs, hx, hrun, Result.andThen]
  exact hK' _ _ (hK g' off' cap' w' r)
/-- The value v is a slice that reads as the samples A. -/
def RdP (w : World) (v : Value) (A : List Pr) : Prop := ∃ (a : Option Addr) (c : Nat), v = .slice a A.length c ∧ (A = [] ∨ ∃ g off, a = some ⟨g, off, none⟩ ∧ g < w.heap.size ∧ ∀ i x, A[i]? = some x → w.cell? ⟨g, off + i * 2, none⟩ = some (.int .i64 x.1) ∧ w.cell? ⟨g, off + i * 2 + 1, none⟩ = some (.int .i64 x.2))
theorem RdP.next {w w' : World} {v : Value} {A : List Pr} (h : RdP w v A) (t : Below w.heap.size w w') : RdP w' v A := by
  obtain ⟨a, c, e, h | ⟨g, off, e2, hg, h⟩⟩ := h
  · exact ⟨a, c, e, .inl h⟩
  · exact ⟨a, c, e, .inr ⟨g, off, e2, Nat.lt_of_lt_of_le hg t.size, fun i x hx => ⟨(t.cell (p := ⟨g, off + i * 2, none⟩) hg).trans (h i x hx).1, (t.cell (p := ⟨g, off + i * 2 + 1, none⟩) hg).trans (h i x hx).2⟩⟩⟩
theorem RdP.alike {w w' : World} {v : Value} {A : List Pr} (h : RdP w v A) (e : w'.heap = w.heap) : RdP w' v A := by
  obtain ⟨a, c, e1, h | ⟨g, off, e2, hg, h⟩⟩ := h
  · exact ⟨a, c, e1, .inl h⟩
  · exact ⟨a, c, e1, .inr ⟨g, off, e2, by rw [e]; exact hg, fun i x hx => ⟨(World.cell?_of_block (by rw [e])).trans (h i x hx).1, (World.cell?_of_block (by rw [e])).trans (h i x hx).2⟩⟩⟩
theorem PSl.rd {w : World} {b g : Nat} {lv : Value} {L : List Pr} (h : PSl w b g lv L) : RdP w lv L := by
  rcases h with ⟨rfl, rfl, _⟩ | ⟨_, off, cap, rfl, h⟩
  · exact ⟨none, 0, rfl, .inl rfl⟩
  · exact ⟨_, cap, rfl, .inr ⟨g, off, rfl, h.lt, fun i x hx => ⟨h.num i x hx, h.ahd i x hx⟩⟩⟩
theorem box_rdp {w : World} {g : Nat} {L : List Pr} (h : Box w g (prs L)) (c : Nat) : RdP w (.slice (some ⟨g, 0, none⟩) L.length c) L := ⟨_, c, rfl, .inr ⟨g, 0, rfl, h.lt, fun i x hx => by rw [Nat.zero_add]; exact ⟨h.cell _ _ (prs_zero hx), h.cell _ _ (prs_one hx)⟩⟩⟩
end Go.Proofs.Ytccgbkafcbfcgaa
