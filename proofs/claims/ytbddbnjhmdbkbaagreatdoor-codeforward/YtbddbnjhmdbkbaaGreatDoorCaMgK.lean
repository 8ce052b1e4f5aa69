import Derived.Test.YtbddbnjhmdbkbaaGreatDoorCaMgB
import Derived.Test.YtbddbnjhmdbkbaaGreatDoorCaMoM
import Derived.Test.YtbddbnjhmdbkbaaGreatDoorCaMjB
import Derived.Test.YtbddbnjhmdbkbaaGreatDoorCaMgC
import Derived.Lib.LazyBuf
import Derived.Test.YtbddbnjhmdbkbaaGreatDoorCaMgM
import Derived.Test.YtbddbnjhmdbkbaaGreatDoorCaMgP
import Derived.Deep.AppendLies
import Derived.Deep.RegionLaw
section
namespace Go.Proofs.YtbddbnjhmdbkbaaGreatDoor
open Go.RowKit

/-- The parts of the core t lie at v, in blocks from lo on below hi, each list of parts in a block of its own; a part's blocks lie behind those of the part before. -/
def CNew (w : World) : Co → Nat → Nat → Value → Prop
  | ⟨_, _, _, ps⟩, lo, hi, v => lo ≤ hi ∧ ((ps.length = 0 ∧ ∃ ad, v = .slice ad 0 0) ∨ ∃ (g : Nat) (s : Nat → Nat) (us : Nat → Value), v = .slice (some ⟨g, 0, none⟩) ps.length ps.length ∧ lo ≤ g ∧ g < s 0 ∧ s ps.length ≤ hi ∧ g < w.heap.size ∧ (∀ j, j < ps.length * 4 → w.frozen? ⟨g, j, none⟩ = false) ∧
      ∀ i (h : i < ps.length), Four w g (i * 4) ps[i] (us i) ∧ s i ≤ s (i + 1) ∧
        (have : SizeOf.sizeOf ps[i] < SizeOf.sizeOf ps := List.sizeOf_lt_of_mem (List.getElem_mem h); CNew w ps[i] (s i) (s (i + 1)) (us i)))
/-- The same of a list of cores. -/
def CRow (w : World) (ps : List Co) (lo hi : Nat) (v : Value) : Prop :=
  lo ≤ hi ∧ ((ps.length = 0 ∧ ∃ ad, v = .slice ad 0 0) ∨ ∃ (g : Nat) (s : Nat → Nat) (us : Nat → Value), v = .slice (some ⟨g, 0, none⟩) ps.length ps.length ∧ lo ≤ g ∧ g < s 0 ∧ s ps.length ≤ hi ∧ g < w.heap.size ∧ (∀ j, j < ps.length * 4 → w.frozen? ⟨g, j, none⟩ = false) ∧
      ∀ i (h : i < ps.length), Four w g (i * 4) ps[i] (us i) ∧ s i ≤ s (i + 1) ∧ CNew w ps[i] (s i) (s (i + 1)) (us i))
theorem cnew_iff {w : World} {t : Co} {lo hi : Nat} {v : Value} : CNew w t lo hi v ↔ CRow w t.parts lo hi v := by
  cases t
  rw [CNew]
  exact Iff.rfl
theorem up_to {s : Nat → Nat} {n : Nat} (h : ∀ i, i < n → s i ≤ s (i + 1)) : ∀ i j, i ≤ j → j ≤ n → s i ≤ s j := by
  intro i j hij
  induction j with
  | zero => intro _; have : i = 0 := by omega
            subst this; exact Nat.le_refl _
  | succ j ih =>
    intro hj
    by_cases e : i = j + 1
    · subst e; exact Nat.le_refl _
    · exact Nat.le_trans (ih (by omega) (by omega)) (h j (by omega))
/-- What lies so, lies on where its blocks stay. -/
theorem CNew.keep {w w' : World} (hs : w.heap.size ≤ w'.heap.size) (t : Co) : ∀ lo hi v, (∀ b, lo ≤ b → b < hi → w'.heap[b]? = w.heap[b]?) → CNew w t lo hi v → CNew w' t lo hi v := by
  induction t using Co.ind with
  | h t ih =>
    intro lo hi v hk h
    rw [cnew_iff] at h ⊢
    obtain ⟨h0, h | ⟨g, s, us, hv, h1, h2, h3, h4, h5, h6⟩⟩ := h
    · exact ⟨h0, .inl h⟩
    · have hm := up_to (fun i hi => (h6 i hi).2.1)
      have hg : w'.heap[g]? = w.heap[g]? := hk g h1 (by have := hm 0 _ (Nat.zero_le _) (Nat.le_refl _); omega)
      refine ⟨h0, .inr ⟨g, s, us, hv, h1, h2, h3, by omega, fun j hj => (World.frozen?_of_block (a := ⟨g, j, none⟩) hg).trans (h5 j hj), fun i hi => ?_⟩⟩
      obtain ⟨q1, q2, q3⟩ := h6 i hi
      refine ⟨q1.keep (fun j => World.cell?_of_block (a := ⟨g, j, none⟩) hg), q2, ih _ (List.getElem_mem hi) _ _ _ (fun b hb1 hb2 => hk b ?_ ?_) q3⟩
      · have := hm 0 i (Nat.zero_le _) (by omega); omega
      · have := hm (i + 1) _ (by omega) (Nat.le_refl _); omega
/-- Blocks outside of lo to hi stay. -/
structure Rng (lo hi : Nat) (w w' : World) : Prop where
  os : w'.os = w.os
  tape : w'.tape = w.tape
  output : w'.output = w.output
  size : w.heap.size ≤ w'.heap.size
  block : ∀ k, k < w.heap.size → ¬ (lo ≤ k ∧ k < hi) → w'.heap[k]? = w.heap[k]?
theorem Rng.refl (lo hi : Nat) (w : World) : Rng lo hi w w := ⟨rfl, rfl, rfl, Nat.le_refl _, fun _ _ _ => rfl⟩
theorem Rng.trans {lo hi : Nat} {w w' w'' : World} (h : Rng lo hi w w') (k : Rng lo hi w' w'') : Rng lo hi w w'' :=
  ⟨k.os.trans h.os, k.tape.trans h.tape, k.output.trans h.output, Nat.le_trans h.size k.size, fun b hb hn => (k.block b (Nat.lt_of_lt_of_le hb h.size) hn).trans (h.block b hb hn)⟩
theorem Rng.wide {lo hi lo' hi' : Nat} {w w' : World} (h : Rng lo hi w w') (h1 : lo' ≤ lo) (h2 : hi ≤ hi') : Rng lo' hi' w w' :=
  ⟨h.os, h.tape, h.output, h.size, fun b hb hn => h.block b hb (fun ⟨a, c⟩ => hn ⟨by omega, by omega⟩)⟩
theorem Rng.ofBelow {lo hi : Nat} {w w' : World} (h : Below w.heap.size w w') : Rng lo hi w w' := ⟨h.os, h.tape, h.output, h.size, fun b hb _ => h.block b hb⟩
theorem Rng.set {lo hi : Nat} (w : World) (p : Addr) (v : Value) (h1 : lo ≤ p.block) (h2 : p.block < hi) : Rng lo hi w (w.setCell p v) :=
  have t := Turn.set (S := [p.block]) w p v (by simp)
  ⟨t.os, t.tape, t.output, t.size, fun b hb hn => t.block b hb (fun e => hn (by have := List.mem_singleton.1 e; subst this; exact ⟨h1, h2⟩))⟩
theorem CNew.wide {w : World} {t : Co} {lo hi lo' hi' : Nat} {v : Value} (h : CNew w t lo hi v) (h1 : lo' ≤ lo) (h2 : hi ≤ hi') : CNew w t lo' hi' v := by
  rw [cnew_iff] at h ⊢
  obtain ⟨h0, h | ⟨g, s, us, hv, q1, q2, q3, q4⟩⟩ := h
  · exact ⟨by omega, .inl h⟩
  · exact ⟨by omega, .inr ⟨g, s, us, hv, by omega, q2, by omega, q4⟩⟩
/-- A copy of what sits, sits. -/
theorem csits_of_new {w0 w : World} (t : Co) : ∀ v u lo hi, CSits w0 t v → CNew w t lo hi u → CSits w t u := by
  induction t using Co.ind with
  | h t ih =>
    intro v u lo hi hs hn
    rw [csits_iff] at hs ⊢
    rw [cnew_iff] at hn
    refine ⟨hs.1, ?_⟩
    obtain ⟨-, ⟨h1, ad, rfl⟩ | ⟨g, s, us, rfl, q1, q2, q3, q4, q5, q6⟩⟩ := hn
    · exact ⟨ad, 0, by rw [h1], by omega, by omega, .inl h1⟩
    · obtain ⟨ad, cap, hv, hl, hc, hp⟩ := hs.2
      refine ⟨_, _, rfl, Nat.le_refl _, by omega, .inr ⟨g, 0, rfl, q4, fun i hi => ?_⟩⟩
      rcases hp with hp | ⟨b, off, -, -, hp⟩
      · omega
      · obtain ⟨u', -, hu'⟩ := hp i hi
        exact ⟨us i, by rw [Nat.zero_add]; exact (q6 i hi).1, ih _ (List.getElem_mem hi) u' _ _ _ hu' (q6 i hi).2.2⟩
theorem cat_of_row {w0 w : World} {ps : List Co} {v u : Value} {lo hi : Nat} (hs : CAt w0 v ps) (hn : CRow w ps lo hi u) : CAt w u ps := by
  obtain ⟨-, ⟨h1, ad, rfl⟩ | ⟨g, s, us, rfl, q1, q2, q3, q4, q5, q6⟩⟩ := hn
  · exact ⟨ad, 0, by rw [h1], by omega, by omega, .inl h1⟩
  · obtain ⟨ad, cap, hv, hl, hc, hp⟩ := hs
    refine ⟨_, _, rfl, Nat.le_refl _, by omega, .inr ⟨g, 0, rfl, q4, fun i hi => ?_⟩⟩
    rcases hp with hp | ⟨b, off, -, -, hp⟩
    · omega
    · obtain ⟨u', -, hu'⟩ := hp i hi
      exact ⟨us i, by rw [Nat.zero_add]; exact (q6 i hi).1, csits_of_new _ u' _ _ _ hu' (q6 i hi).2.2⟩
/-- While the copies are made, one after another: k of them lie in the row at g. -/
structure EInv (w3 : World) (g : Nat) (ps : List Co) (k : Nat) (xs : List (Co × Value)) (s : Nat → Nat) (wr : World) : Prop where
  len : xs.length = ps.length
  box : Box wr g (flC xs)
  s0 : g < s 0
  mono : ∀ i, i < k → s i ≤ s (i + 1)
  top : s k ≤ wr.heap.size
  it : ∀ i (h : i < ps.length) (h2 : i < xs.length), i < k → xs[i].1 = ps[i] ∧ CNew wr ps[i] (s i) (s (i + 1)) xs[i].2
  turn : Turn [g] w3 wr
theorem EInv.row {w3 wr : World} {g lo : Nat} {ps : List Co} {xs : List (Co × Value)} {s : Nat → Nat} (h : EInv w3 g ps ps.length xs s wr) (hlo : lo ≤ g) : CRow wr ps lo wr.heap.size (.slice (some ⟨g, 0, none⟩) ps.length ps.length) := by
  have hg := h.box.lt
  refine ⟨by omega, .inr ⟨g, s, fun i => (xs.getD i (⟨0, 0, 0, []⟩, .slice none 0 0)).2, rfl, hlo, h.s0, h.top, hg, fun j hj => h.box.free j (by rw [flC_len, h.len]; exact hj), fun i hi => ?_⟩⟩
  have hx : i < xs.length := by rw [h.len]; exact hi
  obtain ⟨e1, e2⟩ := h.it i hi hx hi
  have eu : (xs.getD i (⟨0, 0, 0, []⟩, .slice none 0 0)) = xs[i] := by simp [List.getD, hx]
  simp only [eu]
  have hc := fun j u hu => h.box.cell (i * 4 + j) u (flC_at xs i hx j u hu)
  rw [← e1]
  exact ⟨⟨hc 0 _ rfl, hc 1 _ rfl, hc 2 _ rfl, hc 3 _ rfl⟩, h.mono i hi, by rw [e1]; exact e2⟩
theorem flC_set (xs : List (Co × Value)) (k : Nat) (hk : k < xs.length) (x : Co × Value) : flC (xs.set k x) = ((((flC xs).set (k * 4) (.int .i64 x.1.op)).set (k * 4 + 1) (.int .i64 x.1.n)).set (k * 4 + 2) (.int .i64 x.1.m)).set (k * 4 + 3) x.2 := by
  induction xs generalizing k with
  | nil => simp at hk
  | cons y r ih =>
    cases k with
    | zero => simp [flC]
    | succ k =>
      have := ih k (by simpa using hk)
      simp only [flC, List.set_cons_succ, List.map_cons, List.flatten_cons] at this ⊢
      rw [this]
      have e0 : (k + 1) * 4 = k * 4 + 1 + 1 + 1 + 1 := by omega
      simp only [e0, List.cons_append, List.nil_append, List.set_cons_succ]
theorem turn_tr {S : List Nat} {w w' w'' : World} (h : Turn S w w') (k : Turn S w' w'') : Turn S w w'' := h.trans k (fun _ hi => .inl hi)
/-- One round: a copy was made in new blocks, and is stored in the row. -/
theorem EInv.more {w3 wr w' : World} {g k : Nat} {ps : List Co} {xs : List (Co × Value)} {s : Nat → Nat} {u : Value} (h : EInv w3 g ps k xs s wr) (hk : k < ps.length) (b : Below wr.heap.size wr w') {lo : Nat} (hlo : wr.heap.size ≤ lo) (hn : CNew w' ps[k] lo w'.heap.size u) :
    EInv w3 g ps (k + 1) (xs.set k (ps[k], u)) (fun i => if i ≤ k then s i else w'.heap.size) ((((w'.setCell ⟨g, k * 4, none⟩ (.int .i64 ps[k].op)).setCell ⟨g, k * 4 + 1, none⟩ (.int .i64 ps[k].n)).setCell ⟨g, k * 4 + 2, none⟩ (.int .i64 ps[k].m)).setCell ⟨g, k * 4 + 3, none⟩ u) := by
  have hx : k < xs.length := by rw [h.len]; exact hk
  have hm := up_to h.mono
  have hgs : g < s k := Nat.lt_of_lt_of_le h.s0 (hm 0 k (Nat.zero_le _) (Nat.le_refl _))
  have htop := h.top
  have hsz := b.size
  have B := h.box.next b
  have hlen : (flC xs).length = xs.length * 4 := flC_len xs
  have T : Turn [g] w' ((((w'.setCell ⟨g, k * 4, none⟩ (.int .i64 ps[k].op)).setCell ⟨g, k * 4 + 1, none⟩ (.int .i64 ps[k].n)).setCell ⟨g, k * 4 + 2, none⟩ (.int .i64 ps[k].m)).setCell ⟨g, k * 4 + 3, none⟩ u) :=
    turn_tr (turn_tr (turn_tr (Turn.set w' _ _ (by simp)) (Turn.set _ _ _ (by simp))) (Turn.set _ _ _ (by simp))) (Turn.set _ _ _ (by simp))
  have T0 : Turn [g] wr w' := ⟨b.os, b.tape, b.output, b.size, fun q hq _ => b.block q hq⟩
  have hW := T.size
  have key : ∀ (q : Co) lo' hi' v, g < lo' → hi' ≤ w'.heap.size → CNew w' q lo' hi' v → CNew ((((w'.setCell ⟨g, k * 4, none⟩ (.int .i64 ps[k].op)).setCell ⟨g, k * 4 + 1, none⟩ (.int .i64 ps[k].n)).setCell ⟨g, k * 4 + 2, none⟩ (.int .i64 ps[k].m)).setCell ⟨g, k * 4 + 3, none⟩ u) q lo' hi' v :=
    fun q lo' hi' v h1 h2 h3 => CNew.keep T.size q lo' hi' v (fun b' hb1 hb2 => T.block b' (by omega) (by simp; omega)) h3
  refine ⟨by rw [List.length_set, h.len], ?_, by simpa using h.s0, fun i hi => ?_, ?_, fun i hi hi2 hik => ?_, turn_tr h.turn (turn_tr T0 T)⟩
  · rw [flC_set xs k hx]
    exact (((B.set (k * 4) (by omega) _).set (k * 4 + 1) (by simp; omega) _).set (k * 4 + 2) (by simp; omega) _).set (k * 4 + 3) (by simp; omega) _
  · by_cases e : i = k
    · subst e
      simp only [Nat.le_refl, if_true, show ¬ i + 1 ≤ i by omega, if_false]
      omega
    · have := h.mono i (by omega)
      simp only [show i ≤ k by omega, show i + 1 ≤ k by omega, if_true]
      exact this
  · simp only [show ¬ k + 1 ≤ k by omega, if_false]
    exact hW
  · by_cases e : i = k
    · subst e
      simp only [List.getElem_set_self, Nat.le_refl, if_true, show ¬ i + 1 ≤ i by omega, if_false]
      exact ⟨trivial, key _ _ _ _ (by omega) (Nat.le_refl _) (hn.wide (by omega) (Nat.le_refl _))⟩
    · have hi3 : i < xs.length := by simpa using hi2
      obtain ⟨q1, q2⟩ := h.it i hi hi3 (by omega)
      rw [List.getElem_set_ne (fun e2 => e e2.symm)]
      simp only [show i ≤ k by omega, show i + 1 ≤ k by omega, if_true]
      have h1 := hm 0 i (Nat.zero_le _) (by omega)
      have h2 := hm (i + 1) k (by omega) (Nat.le_refl _)
      have h0 := h.s0
      refine ⟨q1, key _ _ _ _ (by omega) (by omega) (CNew.keep b.size _ _ _ _ (fun b' hb1 hb2 => b.block b' (by omega)) q2)⟩
/-- No list of parts is beyond what memory holds. -/
def CWt : Co → Prop
  | ⟨_, _, _, ps⟩ => ps.length * 48 ≤ 140737488355328 ∧ ∀ x (h : x ∈ ps), (have : SizeOf.sizeOf x < SizeOf.sizeOf ps := List.sizeOf_lt_of_mem h; CWt x)
theorem cwt_iff {t : Co} : CWt t ↔ t.parts.length * 48 ≤ 140737488355328 ∧ ∀ x, x ∈ t.parts → CWt x := by
  cases t
  rw [CWt]

theorem kmade_four (n : Nat) : (madeCells (coV ⟨0, 0, 0, []⟩ (.slice none 0 0)).cells (n * 4)).toList = flC (List.replicate n ((⟨0, 0, 0, []⟩ : Co), Value.slice none 0 0)) := by
  apply List.ext_getElem?
  intro i
  by_cases hi : i < n * 4
  · have h1 : i / 4 < (List.replicate n ((⟨0, 0, 0, []⟩ : Co), Value.slice none 0 0)).length := by simp; omega
    have hm : i % 4 = 0 ∨ i % 4 = 1 ∨ i % 4 = 2 ∨ i % 4 = 3 := by omega
    have hd : i / 4 * 4 + i % 4 = i := by omega
    have hL : (madeCells (coV ⟨0, 0, 0, []⟩ (.slice none 0 0)).cells (n * 4)).toList[i]? = some ((coV ⟨0, 0, 0, []⟩ (.slice none 0 0)).cells[i % 4]!) := by
      have : (coV ⟨0, 0, 0, []⟩ (.slice none 0 0)).cells.size = 4 := rfl
      simp [madeCells, hi, this]
    rw [hL]
    have hR := flC_at (List.replicate n ((⟨0, 0, 0, []⟩ : Co), Value.slice none 0 0)) (i / 4) h1 (i % 4)
    rw [hd] at hR
    symm
    apply hR
    rw [List.getElem_replicate]
    rcases hm with h | h | h | h <;> rw [h] <;> rfl
  · rw [List.getElem?_eq_none (by simp [size_madeCells]; omega), List.getElem?_eq_none (by rw [flC_len]; simp; omega)]


abbrev GPr := (Co × Value) × (Co × Value)
def flG (xs : List GPr) : List Value := (xs.map fun x => coL x.1.1 x.1.2 ++ coL x.2.1 x.2.2).flatten
theorem flG_len (xs : List GPr) : (flG xs).length = xs.length * 8 := by
  induction xs with
  | nil => rfl
  | cons x r ih => simp only [flG, List.map_cons, List.flatten_cons, List.length_append, List.length_cons] at ih ⊢; simp at ih ⊢; omega
theorem flG_at : ∀ (xs : List GPr) (i : Nat) (hi : i < xs.length) (j : Nat) (u : Value), (coL xs[i].1.1 xs[i].1.2 ++ coL xs[i].2.1 xs[i].2.2)[j]? = some u → (flG xs)[i * 8 + j]? = some u
  | x :: r, 0, _, j, u, h => by
    have hj : j < 8 := by have := (List.getElem?_eq_some_iff.1 h).1; simpa using this
    simp only [flG, List.map_cons, List.flatten_cons, Nat.zero_mul, Nat.zero_add]
    rw [List.getElem?_append_left (by simpa using hj)]
    exact h
  | x :: r, i + 1, hi, j, u, h => by
    have := flG_at r i (by simpa using hi) j u (by simpa using h)
    simp only [flG, List.map_cons, List.flatten_cons] at this ⊢
    rw [List.getElem?_append_right (by simp; omega)]
    have e : (i + 1) * 8 + j - (coL x.1.1 x.1.2 ++ coL x.2.1 x.2.2).length = i * 8 + j := by simp; omega
    rw [e]
    exact this
theorem flG_set (xs : List GPr) (k : Nat) (hk : k < xs.length) (x : GPr) : flG (xs.set k x) = (((((((((flG xs).set (k * 8) (.int .i64 x.1.1.op)).set (k * 8 + 1) (.int .i64 x.1.1.n)).set (k * 8 + 2) (.int .i64 x.1.1.m)).set (k * 8 + 3) (x.1.2)).set (k * 8 + 4) (.int .i64 x.2.1.op)).set (k * 8 + 5) (.int .i64 x.2.1.n)).set (k * 8 + 6) (.int .i64 x.2.1.m)).set (k * 8 + 7) (x.2.2)) := by
  induction xs generalizing k with
  | nil => simp at hk
  | cons y r ih =>
    cases k with
    | zero => simp [flG]
    | succ k =>
      have := ih k (by simpa using hk)
      simp only [flG, List.set_cons_succ, List.map_cons, List.flatten_cons] at this ⊢
      rw [this]
      have e0 : (k + 1) * 8 = k * 8 + 1 + 1 + 1 + 1 + 1 + 1 + 1 + 1 := by omega
      simp only [e0, List.cons_append, List.nil_append, List.set_cons_succ]
/-- A row of one's own stays where its block stays. -/
theorem own_at {w w' : World} {g n c : Nat} {e : TypeId} {k : Nat} {xs : List Value} (h : w.ownsRow g e k (.slice (some ⟨g, 0, none⟩) n c) n xs) (hk : w'.heap[g]? = w.heap[g]?) : w'.ownsRow g e k (.slice (some ⟨g, 0, none⟩) n c) n xs := by
  obtain ⟨h1, ⟨h2, h3⟩ | ⟨g', cap, cur, h2, h3, h4, h5⟩⟩ := h
  · cases h2
  · have h2' := h2
    simp only [Value.slice.injEq, Option.some.injEq, Addr.mk.injEq, and_true, true_and] at h2'
    obtain ⟨rfl, rfl⟩ := h2'
    exact ⟨h1, .inr ⟨g, c, cur, h2, h3, hk.trans h4, h5⟩⟩
/-- Guards in new blocks. -/
def GNew (w : World) (x : Co × Co) (lo hi : Nat) (v u : Value) : Prop := ∃ m, lo ≤ m ∧ m ≤ hi ∧ CNew w x.1 lo m v ∧ CNew w x.2 m hi u
theorem GNew.keep {w w' : World} {x : Co × Co} {lo hi : Nat} {v u : Value} (hs : w.heap.size ≤ w'.heap.size) (hk : ∀ b, lo ≤ b → b < hi → w'.heap[b]? = w.heap[b]?) (h : GNew w x lo hi v u) : GNew w' x lo hi v u := by
  obtain ⟨m, h1, h2, h3, h4⟩ := h
  exact ⟨m, h1, h2, CNew.keep hs _ _ _ _ (fun b hb1 hb2 => hk b hb1 (by omega)) h3, CNew.keep hs _ _ _ _ (fun b hb1 hb2 => hk b (by omega) hb2) h4⟩
theorem GNew.wide {w : World} {x : Co × Co} {lo lo' hi : Nat} {v u : Value} (h : GNew w x lo hi v u) (h1 : lo' ≤ lo) : GNew w x lo' hi v u := by
  obtain ⟨m, q1, q2, q3, q4⟩ := h
  exact ⟨m, by omega, q2, q3.wide h1 (Nat.le_refl _), q4⟩
def GRow (w : World) (gs : List (Co × Co)) (lo hi : Nat) (v : Value) : Prop :=
  lo ≤ hi ∧ ((gs.length = 0 ∧ v = .slice none 0 0) ∨ ∃ (g : Nat) (s : Nat → Nat) (us vs : Nat → Value), v = .slice (some ⟨g, 0, none⟩) gs.length gs.length ∧ lo ≤ g ∧ g < s 0 ∧ s gs.length ≤ hi ∧ g < w.heap.size ∧ ((∀ j, j < gs.length * 8 → w.frozen? ⟨g, j, none⟩ = false) ∧ ∃ cs, w.ownsRow g 101 8 (.slice (some ⟨g, 0, none⟩) gs.length gs.length) gs.length cs) ∧
      ∀ i (h : i < gs.length), Four w g (i * 8) gs[i].1 (us i) ∧ Four w g (i * 8 + 4) gs[i].2 (vs i) ∧ s i ≤ s (i + 1) ∧ GNew w gs[i] (s i) (s (i + 1)) (us i) (vs i))
theorem gat_of_row {w0 w : World} {gs : List (Co × Co)} {v u : Value} {lo hi : Nat} (hs : GsAt w0 v gs) (hn : GRow w gs lo hi u) : GsAt w u gs := by
  obtain ⟨-, ⟨h1, rfl⟩ | ⟨g, s, us, vs, rfl, q1, q2, q3, q4, q5, q6⟩⟩ := hn
  · exact ⟨none, 0, by rw [h1], by omega, by omega, .inl h1⟩
  · obtain ⟨ad, cap, hv, hl, hc, hp⟩ := hs
    refine ⟨_, _, rfl, Nat.le_refl _, by omega, .inr ⟨g, 0, rfl, q4, fun i hi => ?_⟩⟩
    rcases hp with hp | ⟨b, off, -, -, hp⟩
    · omega
    · obtain ⟨u1, u2, -, -, s1, s2⟩ := hp i hi
      obtain ⟨r1, r2, r3, m, r4, r5, r6, r7⟩ := q6 i hi
      exact ⟨us i, vs i, by rw [Nat.zero_add]; exact r1, by rw [Nat.zero_add]; exact r2, csits_of_new _ u1 _ _ _ s1 r6, csits_of_new _ u2 _ _ _ s2 r7⟩
structure GInv (w3 : World) (g : Nat) (gs : List (Co × Co)) (k : Nat) (xs : List GPr) (s : Nat → Nat) (wr : World) : Prop where
  len : xs.length = gs.length
  box : Box wr g (flG xs)
  s0 : g < s 0
  mono : ∀ i, i < k → s i ≤ s (i + 1)
  top : s k ≤ wr.heap.size
  own : ∃ cs, wr.ownsRow g 101 8 (.slice (some ⟨g, 0, none⟩) gs.length gs.length) gs.length cs
  it : ∀ i (h : i < gs.length) (h2 : i < xs.length), i < k → xs[i].1.1 = gs[i].1 ∧ xs[i].2.1 = gs[i].2 ∧ GNew wr gs[i] (s i) (s (i + 1)) xs[i].1.2 xs[i].2.2
  turn : Turn [g] w3 wr
theorem GInv.row {w3 wr : World} {g lo : Nat} {gs : List (Co × Co)} {xs : List GPr} {s : Nat → Nat} (h : GInv w3 g gs gs.length xs s wr) (hlo : lo ≤ g) : GRow wr gs lo wr.heap.size (.slice (some ⟨g, 0, none⟩) gs.length gs.length) := by
  have hg := h.box.lt
  refine ⟨by omega, .inr ⟨g, s, fun i => (xs.getD i ((⟨0, 0, 0, []⟩, .slice none 0 0), (⟨0, 0, 0, []⟩, .slice none 0 0))).1.2, fun i => (xs.getD i ((⟨0, 0, 0, []⟩, .slice none 0 0), (⟨0, 0, 0, []⟩, .slice none 0 0))).2.2, rfl, hlo, h.s0, h.top, hg, ⟨fun j hj => h.box.free j (by rw [flG_len, h.len]; exact hj), h.own⟩, fun i hi => ?_⟩⟩
  have hx : i < xs.length := by rw [h.len]; exact hi
  obtain ⟨e1, e2, e3⟩ := h.it i hi hx hi
  have eu : (xs.getD i ((⟨0, 0, 0, []⟩, .slice none 0 0), (⟨0, 0, 0, []⟩, .slice none 0 0))) = xs[i] := by simp [List.getD, hx]
  simp only [eu]
  have hc := fun j u hu => h.box.cell (i * 8 + j) u (flG_at xs i hx j u hu)
  refine ⟨?_, ?_, h.mono i hi, e3⟩
  · rw [← e1]; exact ⟨hc 0 _ rfl, hc 1 _ rfl, hc 2 _ rfl, hc 3 _ rfl⟩
  · rw [← e2]; exact ⟨hc 4 _ rfl, hc 5 _ rfl, hc 6 _ rfl, hc 7 _ rfl⟩
theorem GInv.more {w3 wr w' : World} {g k : Nat} {gs : List (Co × Co)} {xs : List GPr} {s : Nat → Nat} {u1 u2 : Value} (h : GInv w3 g gs k xs s wr) (hk : k < gs.length) (b : Below wr.heap.size wr w') {lo : Nat} (hlo : wr.heap.size ≤ lo) (hn : GNew w' gs[k] lo w'.heap.size u1 u2) :
    GInv w3 g gs (k + 1) (xs.set k ((gs[k].1, u1), (gs[k].2, u2))) (fun i => if i ≤ k then s i else w'.heap.size) ((((((((w'.setCell ⟨g, k * 8, none⟩ (.int .i64 gs[k].1.op)).setCell ⟨g, k * 8 + 1, none⟩ (.int .i64 gs[k].1.n)).setCell ⟨g, k * 8 + 2, none⟩ (.int .i64 gs[k].1.m)).setCell ⟨g, k * 8 + 3, none⟩ (u1)).setCell ⟨g, k * 8 + 4, none⟩ (.int .i64 gs[k].2.op)).setCell ⟨g, k * 8 + 5, none⟩ (.int .i64 gs[k].2.n)).setCell ⟨g, k * 8 + 6, none⟩ (.int .i64 gs[k].2.m)).setCell ⟨g, k * 8 + 7, none⟩ (u2)) := by
  have hx : k < xs.length := by rw [h.len]; exact hk
  have hm := up_to h.mono
  have hgs : g < s k := Nat.lt_of_lt_of_le h.s0 (hm 0 k (Nat.zero_le _) (Nat.le_refl _))
  have htop := h.top
  have hsz := b.size
  have B := h.box.next b
  have hlen : (flG xs).length = xs.length * 8 := flG_len xs
  have T : Turn [g] w' ((((((((w'.setCell ⟨g, k * 8, none⟩ (.int .i64 gs[k].1.op)).setCell ⟨g, k * 8 + 1, none⟩ (.int .i64 gs[k].1.n)).setCell ⟨g, k * 8 + 2, none⟩ (.int .i64 gs[k].1.m)).setCell ⟨g, k * 8 + 3, none⟩ (u1)).setCell ⟨g, k * 8 + 4, none⟩ (.int .i64 gs[k].2.op)).setCell ⟨g, k * 8 + 5, none⟩ (.int .i64 gs[k].2.n)).setCell ⟨g, k * 8 + 6, none⟩ (.int .i64 gs[k].2.m)).setCell ⟨g, k * 8 + 7, none⟩ (u2)) := turn_tr (turn_tr (turn_tr (turn_tr (turn_tr (turn_tr (turn_tr (Turn.set w' _ _ (by simp)) (Turn.set _ _ _ (by simp))) (Turn.set _ _ _ (by simp))) (Turn.set _ _ _ (by simp))) (Turn.set _ _ _ (by simp))) (Turn.set _ _ _ (by simp))) (Turn.set _ _ _ (by simp))) (Turn.set _ _ _ (by simp))
  have T0 : Turn [g] wr w' := ⟨b.os, b.tape, b.output, b.size, fun q hq _ => b.block q hq⟩
  have hW := T.size
  have hB : Box ((((((((w'.setCell ⟨g, k * 8, none⟩ (.int .i64 gs[k].1.op)).setCell ⟨g, k * 8 + 1, none⟩ (.int .i64 gs[k].1.n)).setCell ⟨g, k * 8 + 2, none⟩ (.int .i64 gs[k].1.m)).setCell ⟨g, k * 8 + 3, none⟩ (u1)).setCell ⟨g, k * 8 + 4, none⟩ (.int .i64 gs[k].2.op)).setCell ⟨g, k * 8 + 5, none⟩ (.int .i64 gs[k].2.n)).setCell ⟨g, k * 8 + 6, none⟩ (.int .i64 gs[k].2.m)).setCell ⟨g, k * 8 + 7, none⟩ (u2)) g (flG (xs.set k ((gs[k].1, u1), (gs[k].2, u2)))) := by
    rw [flG_set xs k hx]
    exact ((((((((B.set (k * 8) (by omega) _).set (k * 8 + 1) (by simp; omega) _).set (k * 8 + 2) (by simp; omega) _).set (k * 8 + 3) (by simp; omega) _).set (k * 8 + 4) (by simp; omega) _).set (k * 8 + 5) (by simp; omega) _).set (k * 8 + 6) (by simp; omega) _).set (k * 8 + 7) (by simp; omega) _)
  have hOw : ∃ cs, (((((((((w'.setCell ⟨g, k * 8, none⟩ (.int .i64 gs[k].1.op)).setCell ⟨g, k * 8 + 1, none⟩ (.int .i64 gs[k].1.n)).setCell ⟨g, k * 8 + 2, none⟩ (.int .i64 gs[k].1.m)).setCell ⟨g, k * 8 + 3, none⟩ (u1)).setCell ⟨g, k * 8 + 4, none⟩ (.int .i64 gs[k].2.op)).setCell ⟨g, k * 8 + 5, none⟩ (.int .i64 gs[k].2.n)).setCell ⟨g, k * 8 + 6, none⟩ (.int .i64 gs[k].2.m)).setCell ⟨g, k * 8 + 7, none⟩ (u2))).ownsRow g 101 8 (.slice (some ⟨g, 0, none⟩) gs.length gs.length) gs.length cs := by
    obtain ⟨cs, o⟩ := h.own
    have o0 := own_at o (b.block g h.box.lt)
    exact ⟨_, ((((((((o0.stored _ _).1.stored _ _).1.stored _ _).1.stored _ _).1.stored _ _).1.stored _ _).1.stored _ _).1.stored _ _).1⟩
  generalize ((((((((w'.setCell ⟨g, k * 8, none⟩ (.int .i64 gs[k].1.op)).setCell ⟨g, k * 8 + 1, none⟩ (.int .i64 gs[k].1.n)).setCell ⟨g, k * 8 + 2, none⟩ (.int .i64 gs[k].1.m)).setCell ⟨g, k * 8 + 3, none⟩ (u1)).setCell ⟨g, k * 8 + 4, none⟩ (.int .i64 gs[k].2.op)).setCell ⟨g, k * 8 + 5, none⟩ (.int .i64 gs[k].2.n)).setCell ⟨g, k * 8 + 6, none⟩ (.int .i64 gs[k].2.m)).setCell ⟨g, k * 8 + 7, none⟩ (u2)) = W at *
  have key : ∀ (q : Co × Co) lo' hi' v u, g < lo' → hi' ≤ w'.heap.size → GNew w' q lo' hi' v u → GNew W q lo' hi' v u :=
    fun q lo' hi' v u h1 h2 h3 => GNew.keep T.size (fun b' hb1 hb2 => T.block b' (by omega) (by simp; omega)) h3
  refine ⟨by rw [List.length_set, h.len], hB, by simpa using h.s0, fun i hi => ?_, ?_, hOw, fun i hi hi2 hik => ?_, turn_tr h.turn (turn_tr T0 T)⟩
  · by_cases e : i = k
    · subst e
      simp only [Nat.le_refl, if_true, show ¬ i + 1 ≤ i by omega, if_false]
      omega
    · have := h.mono i (by omega)
      simp only [show i ≤ k by omega, show i + 1 ≤ k by omega, if_true]
      exact this
  · simp only [show ¬ k + 1 ≤ k by omega, if_false]
    exact hW
  · by_cases e : i = k
    · subst e
      simp only [List.getElem_set_self, Nat.le_refl, if_true, show ¬ i + 1 ≤ i by omega, if_false]
      exact ⟨trivial, trivial, key _ _ _ _ _ (by omega) (Nat.le_refl _) (hn.wide (by omega))⟩
    · have hi3 : i < xs.length := by simpa using hi2
      obtain ⟨q1, q2, q3⟩ := h.it i hi hi3 (by omega)
      rw [List.getElem_set_ne (fun e2 => e e2.symm)]
      simp only [show i ≤ k by omega, show i + 1 ≤ k by omega, if_true]
      have h1 := hm 0 i (Nat.zero_le _) (by omega)
      have h2 := hm (i + 1) k (by omega) (Nat.le_refl _)
      have h0 := h.s0
      exact ⟨q1, q2, key _ _ _ _ _ (by omega) (by omega) (GNew.keep b.size (fun b' hb1 hb2 => b.block b' (by omega)) q3)⟩
end Go.Proofs.YtbddbnjhmdbkbaaGreatDoor
end
section
namespace Go.Proofs.YtbddbnjhmdbkbaaGreatDoor
open Go.RowKit

abbrev gz0 : Value := .agg #[.int .i64 0, .int .i64 0, .int .i64 0, .slice none 0 0, .int .i64 0, .int .i64 0, .int .i64 0, .slice none 0 0]
theorem info_guard : (Tryz.prog.info? 101).map (fun i => (i.zero, i.size, i.bytes)) = some (some gz0, 8, 96) := by kernel_rfl
theorem info_guard' : ∃ i, Tryz.prog.info? 101 = some i ∧ i.zero = some gz0 ∧ i.size = 8 ∧ i.bytes = 96 := by
  have h := info_guard
  cases hi : Tryz.prog.info? 101 with
  | none => rw [hi] at h; cases h
  | some i =>
    rw [hi] at h
    simp only [Option.map_some, Option.some.injEq, Prod.mk.injEq] at h
    exact ⟨i, rfl, h.1, h.2.1, h.2.2⟩
theorem GsAt.shape' {w : World} {v : Value} {l : List (Co × Co)} (h : GsAt w v l) : ∃ ad cap, v = .slice ad l.length cap ∧ l.length ≤ cap ∧ cap ≤ 9223372036854775807 := by
  obtain ⟨ad, cap, hv, h1, h2, -⟩ := h
  exact ⟨ad, cap, hv, h1, h2⟩
theorem kmade_eight (n : Nat) : (madeCells gz0.cells (n * 8)).toList = flG (List.replicate n (((⟨0, 0, 0, []⟩ : Co), Value.slice none 0 0), ((⟨0, 0, 0, []⟩ : Co), Value.slice none 0 0))) := by
  apply List.ext_getElem?
  intro i
  by_cases hi : i < n * 8
  · have h1 : i / 8 < (List.replicate n (((⟨0, 0, 0, []⟩ : Co), Value.slice none 0 0), ((⟨0, 0, 0, []⟩ : Co), Value.slice none 0 0))).length := by simp; omega
    have hm : i % 8 = 0 ∨ i % 8 = 1 ∨ i % 8 = 2 ∨ i % 8 = 3 ∨ i % 8 = 4 ∨ i % 8 = 5 ∨ i % 8 = 6 ∨ i % 8 = 7 := by omega
    have hd : i / 8 * 8 + i % 8 = i := by omega
    have hL : (madeCells gz0.cells (n * 8)).toList[i]? = some (gz0.cells[i % 8]!) := by
      have : gz0.cells.size = 8 := rfl
      simp [madeCells, hi, this]
    rw [hL]
    have hR := flG_at (List.replicate n (((⟨0, 0, 0, []⟩ : Co), Value.slice none 0 0), ((⟨0, 0, 0, []⟩ : Co), Value.slice none 0 0))) (i / 8) h1 (i % 8)
    rw [hd] at hR
    symm
    apply hR
    rw [List.getElem_replicate]
    rcases hm with h | h | h | h | h | h | h | h <;> rw [h] <;> rfl
  · rw [List.getElem?_eq_none (by simp [size_madeCells]; omega), List.getElem?_eq_none (by rw [flG_len]; simp; omega)]
end Go.Proofs.YtbddbnjhmdbkbaaGreatDoor
end
section
namespace Go.Proofs.YtbddbnjhmdbkbaaGreatDoor
open Go.RowKit

/-- Rows one behind the other. -/
def rowsF (cs : Nat → List Value) (n : Nat) : List Value := ((List.range n).map cs).flatten
theorem rowsF_succ (cs : Nat → List Value) (n : Nat) : rowsF cs (n + 1) = rowsF cs n ++ cs n := by simp [rowsF, List.range_succ]
theorem rowsF_len {cs : Nat → List Value} {k : Nat} (h : ∀ i, (cs i).length = k) (n : Nat) : (rowsF cs n).length = n * k := by
  induction n with
  | zero => simp [rowsF]
  | succ n ih => rw [rowsF_succ, List.length_append, ih, h, Nat.succ_mul]
theorem rowsF_at {cs : Nat → List Value} {k : Nat} (h : ∀ i, (cs i).length = k) (n : Nat) : ∀ i j u, i < n → (cs i)[j]? = some u → (rowsF cs n)[i * k + j]? = some u := by
  induction n with
  | zero => intro i j u hi; omega
  | succ n ih =>
    intro i j u hi hu
    have hj : j < k := by have := (List.getElem?_eq_some_iff.1 hu).1; rw [h] at this; exact this
    rw [rowsF_succ]
    by_cases e : i < n
    · have hb : i * k + j < n * k := by
        have : (i + 1) * k ≤ n * k := Nat.mul_le_mul_right k e
        rw [Nat.succ_mul] at this
        omega
      rw [List.getElem?_append_left (by rw [rowsF_len h]; exact hb)]
      exact ih i j u e hu
    · have e2 : i = n := by omega
      subst e2
      rw [List.getElem?_append_right (by rw [rowsF_len h]; omega), rowsF_len h]
      rw [show i * k + j - i * k = j by omega]
      exact hu
theorem rowsF_of {cs : Nat → List Value} {k : Nat} (hk : 0 < k) (h : ∀ i, (cs i).length = k) (n : Nat) (q : Nat) (u : Value) (hu : (rowsF cs n)[q]? = some u) : q / k < n ∧ (cs (q / k))[q % k]? = some u := by
  have hq : q < n * k := by have := (List.getElem?_eq_some_iff.1 hu).1; rw [rowsF_len h] at this; exact this
  have h1 : q / k < n := Nat.div_lt_of_lt_mul (by rw [Nat.mul_comm]; exact hq)
  refine ⟨h1, ?_⟩
  have h2 : q % k < (cs (q / k)).length := by rw [h]; exact Nat.mod_lt _ hk
  have h3 := rowsF_at h n (q / k) (q % k) _ h1 (List.getElem?_eq_getElem h2)
  have h4 : q / k * k + q % k = q := by rw [Nat.mul_comm]; exact Nat.div_add_mod q k
  rw [h4, hu] at h3
  rw [List.getElem?_eq_getElem h2]
  exact h3.symm
/-- What a row in memory holds, cell by cell. -/
theorem rows_cells {w : World} {n k : Nat} {cs : Nat → List Value} (hk : 0 < k) (hl : ∀ i, (cs i).length = k) {b off : Nat} (hx : ∀ i, i < n → ∀ j x, (cs i)[j]? = some x → w.cell? ⟨b, off + i * k + j, none⟩ = some x) : ∀ j u, (rowsF cs n)[j]? = some u → w.cell? ((⟨b, off, none⟩ : Addr).add j) = some u := by
  intro j u hu
  obtain ⟨h1, h2⟩ := rowsF_of hk hl n j u hu
  have := hx _ h1 _ _ h2
  rw [Nat.add_assoc, show j / k * k + j % k = j by rw [Nat.mul_comm]; exact Nat.div_add_mod j k] at this
  have hadd : (⟨b, off, none⟩ : Addr).add j = ⟨b, off + j, none⟩ := by unfold Addr.add; split <;> simp_all
  rw [hadd]
  exact this
theorem rows_of_own {w : World} {B n k : Nat} {e : TypeId} {v : Value} {cs : Nat → List Value} (hl : ∀ i, (cs i).length = k) (h : w.ownsRow B e k v n (rowsF cs n)) : RowsK w v n k cs := by
  obtain ⟨h1, ⟨h2, h3⟩ | ⟨g, cap, cur, h2, h3, h4, h5, h6, h7, h8⟩⟩ := h
  · exact ⟨none, 0, by rw [h2, h3], by omega, by omega, .inl h3⟩
  · have BX : Box w g (rowsF cs n) := (Box.ofBlock h4).part (by rw [← h8]; exact List.take_prefix _ _)
    refine ⟨_, cap, h2, h5, h6, .inr ⟨g, 0, rfl, BX.lt, fun i hi j x hx => ?_⟩⟩
    have := BX.cell (i * k + j) x (rowsF_at hl n i j x hi hx)
    simpa using this
theorem info_Wi : (Tryz.prog.info? 63).map (fun i => (i.zero.map (fun z => z.cells.size), i.size, i.bytes)) = some (some 4, 4, 32) := by kernel_rfl
theorem info_Wi' : ∃ i z, Tryz.prog.info? 63 = some i ∧ i.zero = some z ∧ z.cells.size = 4 ∧ i.size = 4 ∧ i.bytes = 32 := by
  have h := info_Wi
  cases hi : Tryz.prog.info? 63 with
  | none => rw [hi] at h; cases h
  | some i =>
    rw [hi] at h
    simp only [Option.map_some, Option.some.injEq, Prod.mk.injEq] at h
    obtain ⟨z, hz, h0⟩ := Option.map_eq_some_iff.1 h.1
    exact ⟨i, z, rfl, hz, h0, h.2.1, h.2.2⟩
set_option maxHeartbeats 2000000 in
set_option maxRecDepth 20000 in
theorem cloneWi_c (l : List WiP) (hl : l.length * 32 ≤ 140737488355328) (v : Value) (w : World) (hs : WisAt w v l) : Calls Tryz.prog 35 #[v] w fun e w' => ∃ u, e = .returned u ∧ w'.ownsRow w.heap.size 63 4 u l.length (rowsF (fun i => wiL (l.getD i wi0)) l.length) ∧ Below w.heap.size w w' := by
  obtain ⟨ad, cap, rfl, hle, hcap, hp⟩ := hs
  obtain ⟨i0, z, hi, hz0, hzs, hz1, hz2⟩ := info_Wi'
  have hcs : Hid (∀ i, (wiL (l.getD i wi0)).length = 4) := fun i => rfl
  obtain ⟨cs, hcsd⟩ : ∃ cs : Nat → List Value, Hid (cs = fun i => wiL (l.getD i wi0)) := ⟨_, rfl⟩
  have hone : Hid (∀ u, u ∈ rowsF cs l.length → u.oneCell' = true) := by
    show ∀ u, _
    intro u hu
    obtain ⟨q, hq⟩ := List.mem_iff_getElem?.1 hu
    obtain ⟨-, h2⟩ := rowsF_of (k := 4) (by decide) (by rw [hcsd.out]; exact hcs.out) _ _ _ hq
    rw [hcsd.out] at h2
    have h3 := List.mem_of_getElem? h2
    simp at h3
    rcases h3 with rfl | rfl | rfl | rfl <;> rfl
  have hcs' : Hid (∀ i, (cs i).length = 4) := by rw [hcsd.out]; exact hcs
  simp only at hp
  rw [← hcsd.out]
  have hp' : l.length = 0 ∨ ∃ b off, ad = some ⟨b, off, none⟩ ∧ b < w.heap.size ∧ ∀ i, i < l.length → ∀ j x, (cs i)[j]? = some x → w.cell? ⟨b, off + i * 4 + j, none⟩ = some x := by rw [hcsd.out]; exact hp
  clear hp hcs hcsd
  generalize l.length = N at *
  have hnil := fun W : World => run_eql_slice_nil (P := Tryz.prog) W 25 63 ad N cap Tryz.underlying25
  cases ad with
  | none =>
    have hn0 : N = 0 := by
      rcases hp' with h | ⟨b, off, e, -⟩
      · exact h
      · cases e
    subst hn0
    go_enter Tryz.func35, Tryz.ntmps35
    go_wp2_with fail
    go_ret
    exact ⟨.slice none 0 0, rfl, World.ownsRow_nil _ _ _ _, Below.refl _ _⟩
  | some a =>
    have HC : Hid (∀ W, Below w.heap.size w W → ∀ j u, (rowsF cs N)[j]? = some u → W.cell? (a.add j) = some u) := by
      show ∀ W, _
      intro W hW j u hu
      rcases hp' with h | ⟨b, off, e, hb, hx⟩
      · subst h; simp [rowsF] at hu
      · cases e
        exact rows_cells (by decide) hcs'.out (fun i hi j x h => keepc hW (hx i hi j x h)) j u hu
    have ba := (Below.refl w.heap.size w).alloc (Nat.le_refl _) (.cells #[] 63)
    have BA := chid ba
    have hO := chid (World.ownsRow_lit (base := w.heap.size) (e := 63) (size := 4) w #[] 0 (Nat.le_refl _) (by unfold maxLen; omega) rfl)
    clear hp' ba
    go_enter Tryz.func35, Tryz.ntmps35
    go_wp2_with (at_builtin; refine wpList_append_own_wide _ rfl _ _ 25 rfl w.heap.size 63 i0 z 4 32 Tryz.underlying25 hi hz0 hz1 hz2 hzs (by decide) _ 0 [] rfl hO.out a N cap (rowsF cs N) rfl (by rw [rowsF_len hcs'.out]) (HC.out _ BA.out) hone.out (by unfold maxLen; omega) (by omega) (by simp) ?_; intro v1 w1 ho1 hg1 _)
    have B1 := below_grown BA.out hO.out hg1 (by simp)
    rw [Nat.zero_add, List.nil_append] at ho1
    go_wp2_with fail
    go_ret
    exact ⟨_, rfl, ho1, B1⟩
theorem info_Cr : (Tryz.prog.info? 66).map (fun i => (i.zero.map (fun z => z.cells.size), i.size, i.bytes)) = some (some 5, 5, 40) := by kernel_rfl
theorem info_Cr' : ∃ i z, Tryz.prog.info? 66 = some i ∧ i.zero = some z ∧ z.cells.size = 5 ∧ i.size = 5 ∧ i.bytes = 40 := by
  have h := info_Cr
  cases hi : Tryz.prog.info? 66 with
  | none => rw [hi] at h; cases h
  | some i =>
    rw [hi] at h
    simp only [Option.map_some, Option.some.injEq, Prod.mk.injEq] at h
    obtain ⟨z, hz, h0⟩ := Option.map_eq_some_iff.1 h.1
    exact ⟨i, z, rfl, hz, h0, h.2.1, h.2.2⟩
set_option maxHeartbeats 2000000 in
set_option maxRecDepth 20000 in
theorem cloneCr_c (l : List Cr) (hl : l.length * 40 ≤ 140737488355328) (v : Value) (w : World) (hs : CrsAt w v l) : Calls Tryz.prog 36 #[v] w fun e w' => ∃ u, e = .returned u ∧ w'.ownsRow w.heap.size 66 5 u l.length (rowsF (fun i => crL (l.getD i cr0)) l.length) ∧ Below w.heap.size w w' := by
  obtain ⟨ad, cap, rfl, hle, hcap, hp⟩ := hs
  obtain ⟨i0, z, hi, hz0, hzs, hz1, hz2⟩ := info_Cr'
  have hcs : Hid (∀ i, (crL (l.getD i cr0)).length = 5) := fun i => rfl
  obtain ⟨cs, hcsd⟩ : ∃ cs : Nat → List Value, Hid (cs = fun i => crL (l.getD i cr0)) := ⟨_, rfl⟩
  have hone : Hid (∀ u, u ∈ rowsF cs l.length → u.oneCell' = true) := by
    show ∀ u, _
    intro u hu
    obtain ⟨q, hq⟩ := List.mem_iff_getElem?.1 hu
    obtain ⟨-, h2⟩ := rowsF_of (k := 5) (by decide) (by rw [hcsd.out]; exact hcs.out) _ _ _ hq
    rw [hcsd.out] at h2
    have h3 := List.mem_of_getElem? h2
    simp at h3
    rcases h3 with rfl | rfl | rfl | rfl | rfl <;> rfl
  have hcs' : Hid (∀ i, (cs i).length = 5) := by rw [hcsd.out]; exact hcs
  simp only at hp
  rw [← hcsd.out]
  have hp' : l.length = 0 ∨ ∃ b off, ad = some ⟨b, off, none⟩ ∧ b < w.heap.size ∧ ∀ i, i < l.length → ∀ j x, (cs i)[j]? = some x → w.cell? ⟨b, off + i * 5 + j, none⟩ = some x := by rw [hcsd.out]; exact hp
  clear hp hcs hcsd
  generalize l.length = N at *
  have hnil := fun W : World => run_eql_slice_nil (P := Tryz.prog) W 26 66 ad N cap Tryz.underlying26
  cases ad with
  | none =>
    have hn0 : N = 0 := by
      rcases hp' with h | ⟨b, off, e, -⟩
      · exact h
      · cases e
    subst hn0
    go_enter Tryz.func36, Tryz.ntmps36
    go_wp2_with fail
    go_ret
    exact ⟨.slice none 0 0, rfl, World.ownsRow_nil _ _ _ _, Below.refl _ _⟩
  | some a =>
    have HC : Hid (∀ W, Below w.heap.size w W → ∀ j u, (rowsF cs N)[j]? = some u → W.cell? (a.add j) = some u) := by
      show ∀ W, _
      intro W hW j u hu
      rcases hp' with h | ⟨b, off, e, hb, hx⟩
      · subst h; simp [rowsF] at hu
      · cases e
        exact rows_cells (by decide) hcs'.out (fun i hi j x h => keepc hW (hx i hi j x h)) j u hu
    have ba := (Below.refl w.heap.size w).alloc (Nat.le_refl _) (.cells #[] 66)
    have BA := chid ba
    have hO := chid (World.ownsRow_lit (base := w.heap.size) (e := 66) (size := 5) w #[] 0 (Nat.le_refl _) (by unfold maxLen; omega) rfl)
    clear hp' ba
    go_enter Tryz.func36, Tryz.ntmps36
    go_wp2_with (at_builtin; refine wpList_append_own_wide _ rfl _ _ 26 rfl w.heap.size 66 i0 z 5 40 Tryz.underlying26 hi hz0 hz1 hz2 hzs (by decide) _ 0 [] rfl hO.out a N cap (rowsF cs N) rfl (by rw [rowsF_len hcs'.out]) (HC.out _ BA.out) hone.out (by unfold maxLen; omega) (by omega) (by simp) ?_; intro v1 w1 ho1 hg1 _)
    have B1 := below_grown BA.out hO.out hg1 (by simp)
    rw [Nat.zero_add, List.nil_append] at ho1
    go_wp2_with fail
    go_ret
    exact ⟨_, rfl, ho1, B1⟩

theorem info_str : (Tryz.prog.info? 9).map (fun i => (i.zero, i.size, i.bytes)) = some (some (.string ⟨#[]⟩), 1, 16) := by kernel_rfl
theorem info_str' : ∃ i, Tryz.prog.info? 9 = some i ∧ i.zero = some (.string ⟨#[]⟩) ∧ i.size = 1 ∧ i.bytes = 16 := by
  have h := info_str
  cases hi : Tryz.prog.info? 9 with
  | none => rw [hi] at h; cases h
  | some i =>
    rw [hi] at h
    simp only [Option.map_some, Option.some.injEq, Prod.mk.injEq] at h
    exact ⟨i, rfl, h.1, h.2.1, h.2.2⟩
theorem own_next' {w w' : World} {B : Nat} {e : TypeId} {size n : Nat} {v : Value} {xs : List Value} (h : w.ownsRow B e size v n xs) (hb : Below w.heap.size w w') : w'.ownsRow B e size v n xs := by
  obtain ⟨h1, h2 | ⟨g, cap, cur, h2, h3, h4, h5⟩⟩ := h
  · exact ⟨h1, .inl h2⟩
  · exact ⟨h1, .inr ⟨g, cap, cur, h2, h3, (hb.block g (by rcases Nat.lt_or_ge g w.heap.size with h | h; exact h; rw [Array.getElem?_eq_none h] at h4; cases h4)).trans h4, h5⟩⟩
theorem take_set_succ {xs R : List Value} {k : Nat} {u : Value} (h : xs.take k = R.take k) (hk : k < xs.length) (hu : R[k]? = some u) : (xs.set k u).take (k + 1) = R.take (k + 1) := by
  apply List.ext_getElem?
  intro i
  rcases Nat.lt_trichotomy i k with hi | hi | hi
  · have := congrArg (fun l => l[i]?) h
    simp only [List.getElem?_take, hi, if_true] at this
    simp only [List.getElem?_take, show i < k + 1 by omega, if_true]
    rw [List.getElem?_set_ne (by omega)]
    exact this
  · subst hi
    simp only [List.getElem?_take, show i < i + 1 by omega, if_true]
    rw [List.getElem?_set_self hk, hu]
  · simp only [List.getElem?_take, show ¬ i < k + 1 by omega, if_false]

theorem own_keep {w w' : World} {B : Nat} {e : TypeId} {size n : Nat} {v : Value} {xs : List Value} (h : w.ownsRow B e size v n xs) (hk : ∀ b, B ≤ b → b < w.heap.size → w'.heap[b]? = w.heap[b]?) : w'.ownsRow B e size v n xs := by
  obtain ⟨h1, h2 | ⟨g, cap, cur, h2, h3, h4, h5⟩⟩ := h
  · exact ⟨h1, .inl h2⟩
  · exact ⟨h1, .inr ⟨g, cap, cur, h2, h3, (hk g h3 (by rcases Nat.lt_or_ge g w.heap.size with h | h; exact h; rw [Array.getElem?_eq_none h] at h4; cases h4)).trans h4, h5⟩⟩
theorem own_shape {w : World} {B : Nat} {e : TypeId} {size n : Nat} {v : Value} {xs : List Value} (h : w.ownsRow B e size v n xs) : ∃ a c, v = .slice a n c := by
  obtain ⟨-, ⟨h2, h3⟩ | ⟨g, cap, cur, h2, -⟩⟩ := h
  · exact ⟨none, 0, by rw [h2, h3]⟩
  · exact ⟨_, _, h2⟩
theorem own_low {w : World} {B : Nat} {e : TypeId} {size n : Nat} {v : Value} {xs : List Value} (B' : Nat) (h : w.ownsRow B e size v n xs) (hb : B' ≤ B) : w.ownsRow B' e size v n xs := by
  obtain ⟨h1, h2 | ⟨g, cap, cur, h2, h3, h4⟩⟩ := h
  · exact ⟨h1, .inl h2⟩
  · exact ⟨h1, .inr ⟨g, cap, cur, h2, Nat.le_trans hb h3, h4⟩⟩
/-- A row of one's own, in a range of blocks. -/
def RowIn (w : World) (lo hi : Nat) (e : TypeId) (k : Nat) (v : Value) (n : Nat) (xs : List Value) : Prop := lo ≤ hi ∧ w.ownsRow lo e k v n xs ∧ ∀ g, v.ownBlock = some g → g < hi
theorem RowIn.of {w : World} {lo : Nat} {e : TypeId} {k n : Nat} {v : Value} {xs : List Value} (h : w.ownsRow lo e k v n xs) (h0 : lo ≤ w.heap.size) : RowIn w lo w.heap.size e k v n xs := ⟨h0, h, fun g hg => (h.lt g hg).2⟩
theorem RowIn.keep {w w' : World} {lo hi : Nat} {e : TypeId} {k n : Nat} {v : Value} {xs : List Value} (h : RowIn w lo hi e k v n xs) (hk : ∀ b, lo ≤ b → b < hi → w'.heap[b]? = w.heap[b]?) : RowIn w' lo hi e k v n xs := by
  obtain ⟨h0, ⟨h1, h2 | ⟨g, cap, cur, h2, h3, h4, h5⟩⟩, h6⟩ := h
  · exact ⟨h0, ⟨h1, .inl h2⟩, h6⟩
  · exact ⟨h0, ⟨h1, .inr ⟨g, cap, cur, h2, h3, (hk g h3 (h6 g (by rw [h2]; rfl))).trans h4, h5⟩⟩, h6⟩
theorem GRow.keep {w w' : World} {gs : List (Co × Co)} {lo hi : Nat} {v : Value} (hs : w.heap.size ≤ w'.heap.size) (hk : ∀ b, lo ≤ b → b < hi → w'.heap[b]? = w.heap[b]?) (h : GRow w gs lo hi v) : GRow w' gs lo hi v := by
  obtain ⟨h0, h | ⟨g, s, us, vs, hv, h1, h2, h3, h4, h5, h6⟩⟩ := h
  · exact ⟨h0, .inl h⟩
  · have hm := up_to (fun i hi => (h6 i hi).2.2.1)
    have hg : w'.heap[g]? = w.heap[g]? := hk g h1 (by have := hm 0 _ (Nat.zero_le _) (Nat.le_refl _); omega)
    refine ⟨h0, .inr ⟨g, s, us, vs, hv, h1, h2, h3, by omega, ⟨fun j hj => (World.frozen?_of_block (a := ⟨g, j, none⟩) hg).trans (h5.1 j hj), by obtain ⟨cs, o⟩ := h5.2; exact ⟨cs, own_at o hg⟩⟩, fun i hi => ?_⟩⟩
    obtain ⟨q1, q2, q3, q4⟩ := h6 i hi
    refine ⟨q1.keep (fun j => World.cell?_of_block (a := ⟨g, j, none⟩) hg), q2.keep (fun j => World.cell?_of_block (a := ⟨g, j, none⟩) hg), q3, q4.keep hs (fun b hb1 hb2 => hk b ?_ ?_)⟩
    · have := hm 0 i (Nat.zero_le _) (by omega); omega
    · have := hm (i + 1) _ (by omega) (Nat.le_refl _); omega
theorem GRow.wide {w : World} {gs : List (Co × Co)} {lo lo' hi : Nat} {v : Value} (h : GRow w gs lo hi v) (h1 : lo' ≤ lo) : GRow w gs lo' hi v := by
  obtain ⟨h0, h | ⟨g, s, us, vs, hv, q1, q2⟩⟩ := h
  · exact ⟨by omega, .inl h⟩
  · exact ⟨by omega, .inr ⟨g, s, us, vs, hv, by omega, q2⟩⟩
abbrev strsF (l : List ByteArray) : List Value := rowsF (fun i => [.string (l.getD i default)]) l.length
abbrev winsF (l : List WiP) : List Value := rowsF (fun i => wiL (l.getD i wi0)) l.length
abbrev crsF (l : List Cr) : List Value := rowsF (fun i => crL (l.getD i cr0)) l.length
/-- The same of a plan. -/
structure PWt (p : PlP) : Prop where
  me : p.mets.length * 16 ≤ 140737488355328
  st : ∀ x, x ∈ p.mets → x.size ≤ 140737488355328
  wi : p.wins.length * 32 ≤ 140737488355328
  cr : p.crons.length * 40 ≤ 140737488355328
  gs : p.gs.length * 96 ≤ 140737488355328
  co : ∀ x, x ∈ p.gs → CWt x.1 ∧ CWt x.2
  fi : CWt p.fin
/-- A plan's copy: each list in a range of blocks of its own. -/
structure CopP (w : World) (p : PlP) (v : PlV) (s0 s1 s2 s3 s4 s5 : Nat) : Prop where
  me : RowIn w s0 s1 9 1 v.me p.mets.length (strsF p.mets)
  wi : RowIn w s1 s2 63 4 v.wi p.wins.length (winsF p.wins)
  cr : RowIn w s2 s3 66 5 v.cr p.crons.length (crsF p.crons)
  gs : GRow w p.gs s3 s4 v.gs
  fi : CNew w p.fin s4 s5 v.fi
  si : CSits w p.fin v.fi
  ga : GsAt w v.gs p.gs
  top : s5 ≤ w.heap.size
theorem CopP.le {w : World} {p : PlP} {v : PlV} {s0 s1 s2 s3 s4 s5 : Nat} (h : CopP w p v s0 s1 s2 s3 s4 s5) : s0 ≤ s1 ∧ s1 ≤ s2 ∧ s2 ≤ s3 ∧ s3 ≤ s4 ∧ s4 ≤ s5 := ⟨h.me.1, h.wi.1, h.cr.1, h.gs.1, (cnew_iff.1 h.fi).1⟩
theorem CopP.keep {w w' : World} {p : PlP} {v : PlV} {s0 s1 s2 s3 s4 s5 : Nat} (h : CopP w p v s0 s1 s2 s3 s4 s5) (hs : w.heap.size ≤ w'.heap.size) (hk : ∀ b, s0 ≤ b → b < s5 → w'.heap[b]? = w.heap[b]?) : CopP w' p v s0 s1 s2 s3 s4 s5 := by
  obtain ⟨e0, e1, e2, e3, e4⟩ := h.le
  have G := GRow.keep hs (fun b h1 h2 => hk b (by omega) (by omega)) h.gs
  have F := CNew.keep hs p.fin _ _ _ (fun b h1 h2 => hk b (by omega) (by omega)) h.fi
  exact ⟨h.me.keep (fun b h1 h2 => hk b (by omega) (by omega)), h.wi.keep (fun b h1 h2 => hk b (by omega) (by omega)), h.cr.keep (fun b h1 h2 => hk b (by omega) (by omega)), G, F, csits_of_new p.fin _ _ _ _ h.si F, gat_of_row h.ga G, Nat.le_trans h.top hs⟩
/-- A plan's copy is a plan. -/
theorem CopP.plan {w0 w : World} {p : PlP} {u v : PlV} {s0 s1 s2 s3 s4 s5 : Nat} (h : CopP w p v s0 s1 s2 s3 s4 s5) (hp : PlAt w0 p u) : PlAt w p v :=
  ⟨hp.ru, hp.loc, hp.wok, hp.cok, rows_of_own (fun _ => rfl) h.me.2.1, rows_of_own (fun _ => rfl) h.wi.2.1, rows_of_own (fun _ => rfl) h.cr.2.1, h.ga, h.si⟩
/-- Guards in a slice, of whose cores something holds by their number. -/
def GsQ (Q : Nat → Co → Value → Prop) (w : World) (v : Value) (l : List (Co × Co)) : Prop := ∃ ad cap, v = .slice ad l.length cap ∧ l.length ≤ cap ∧ cap ≤ 9223372036854775807 ∧
  (l.length = 0 ∨ ∃ b off, ad = some ⟨b, off, none⟩ ∧ b < w.heap.size ∧ ∀ i (h : i < l.length), ∃ u1 u2, Four w b (off + i * 8) l[i].1 u1 ∧ Four w b (off + i * 8 + 4) l[i].2 u2 ∧ (CSits w l[i].1 u1 ∧ Q (2 * i) l[i].1 u1) ∧ (CSits w l[i].2 u2 ∧ Q (2 * i + 1) l[i].2 u2))
theorem GsQ.shape {Q : Nat → Co → Value → Prop} {w : World} {v : Value} {l : List (Co × Co)} (h : GsQ Q w v l) : ∃ ad cap, v = .slice ad l.length cap ∧ l.length ≤ cap ∧ cap ≤ 9223372036854775807 := by
  obtain ⟨ad, cap, hv, h1, h2, _⟩ := h
  exact ⟨ad, cap, hv, h1, h2⟩
theorem GsQ.open {Q : Nat → Co → Value → Prop} {w : World} {v : Value} {l : List (Co × Co)} (h : GsQ Q w v l) (hn : 0 < l.length) : ∃ b off cap, v = .slice (some ⟨b, off, none⟩) l.length cap ∧ l.length ≤ cap ∧ cap ≤ 9223372036854775807 ∧ b < w.heap.size ∧
    ∀ i (h : i < l.length), ∃ u1 u2, Four w b (off + i * 8) l[i].1 u1 ∧ Four w b (off + i * 8 + 4) l[i].2 u2 ∧ (CSits w l[i].1 u1 ∧ Q (2 * i) l[i].1 u1) ∧ (CSits w l[i].2 u2 ∧ Q (2 * i + 1) l[i].2 u2) := by
  obtain ⟨ad, cap, hv, h1, h2, hp⟩ := h
  rcases hp with hp | ⟨b, off, rfl, hl, hc⟩
  · omega
  · exact ⟨b, off, cap, hv, h1, h2, hl, hc⟩
theorem ev_half (i : Nat) : (2 * i) % 2 = 0 ∧ (2 * i) / 2 = i ∧ (2 * i + 1) % 2 = 1 ∧ (2 * i + 1) / 2 = i ∧ (2 * i + 1 + 1) % 2 = 0 ∧ (2 * i + 1 + 1) / 2 = i + 1 := by omega
/-- The cores of a plan's copy lie in ranges of blocks one behind the other. -/
theorem CopP.ranges {w : World} {p : PlP} {v : PlV} {s0 s1 s2 s3 s4 s5 : Nat} (h : CopP w p v s0 s1 s2 s3 s4 s5) : ∃ r : Nat → Nat, s3 ≤ r 0 ∧ r (2 * p.gs.length + 1) ≤ s5 ∧ (∀ j, j < 2 * p.gs.length + 1 → r j ≤ r (j + 1)) ∧
    GsQ (fun j c x => CNew w c (r j) (r (j + 1)) x) w v.gs p.gs ∧ CNew w p.fin (r (2 * p.gs.length)) (r (2 * p.gs.length + 1)) v.fi ∧ ∃ cs, RowIn w s3 (r 0) 101 8 v.gs p.gs.length cs := by
  obtain ⟨e0, e1, e2, e3, e4⟩ := h.le
  have F := h.fi
  have A := h.ga
  obtain ⟨h0, ⟨h1, hv⟩ | ⟨g, s, us, vs, hv, q1, q2, q3, q4, q5, q6⟩⟩ := h.gs
  · refine ⟨fun j => if j = 0 then s4 else s5, by simp; omega, by simp, fun j hj => ?_, ?_, ?_, [], by simp; omega, ⟨by rw [h1]; rfl, .inl ⟨hv, h1⟩⟩, fun g hg => by rw [hv] at hg; cases hg⟩
    · have : j = 0 := by omega
      subst this
      simpa using e4
    · obtain ⟨ad, cap, e, g1, g2, _⟩ := A
      exact ⟨ad, cap, e, g1, g2, .inl h1⟩
    · rw [h1]; simpa using F
  · obtain ⟨m, hm⟩ : ∃ m : Nat → Nat, ∀ i (hi : i < p.gs.length), s i ≤ m i ∧ m i ≤ s (i + 1) ∧ CNew w p.gs[i].1 (s i) (m i) (us i) ∧ CNew w p.gs[i].2 (m i) (s (i + 1)) (vs i) := by
      refine ⟨fun i => if hi : i < p.gs.length then (q6 i hi).2.2.2.choose else 0, fun i hi => ?_⟩
      simp only [hi, dif_pos]
      exact (q6 i hi).2.2.2.choose_spec
    have ev := ev_half
    refine ⟨fun j => if j = 2 * p.gs.length + 1 then s5 else if j % 2 = 0 then s (j / 2) else m (j / 2), ?_, by simp, fun j hj => ?_, ?_, ?_, ?_⟩
    · simp; omega
    · have hj1 : ¬ j = 2 * p.gs.length + 1 := by omega
      simp only [hj1, if_false]
      by_cases hl : j = 2 * p.gs.length
      · subst hl
        simp only [if_true, (ev _).1, (ev _).2.1]
        omega
      · have hjl : j / 2 < p.gs.length := by omega
        have hj2 : ¬ j + 1 = 2 * p.gs.length + 1 := by omega
        obtain ⟨a1, a2, -, -⟩ := hm _ hjl
        simp only [hj2, if_false]
        rcases Nat.mod_two_eq_zero_or_one j with h2 | h2
        · rw [if_pos h2, if_neg (by omega), show (j + 1) / 2 = j / 2 by omega]; exact a1
        · rw [if_neg (by omega), if_pos (by omega), show (j + 1) / 2 = j / 2 + 1 by omega]; exact a2
    · refine ⟨_, _, hv, Nat.le_refl _, ?_, .inr ⟨g, 0, rfl, q4, fun i hi => ?_⟩⟩
      · obtain ⟨ad', cap', e, g1, g2, _⟩ := A
        omega
      · obtain ⟨r1, r2, r3, r4⟩ := q6 i hi
        obtain ⟨a1, a2, a3, a4⟩ := hm i hi
        have n1 : ¬ 2 * i = 2 * p.gs.length + 1 := by omega
        have n2 : ¬ 2 * i + 1 = 2 * p.gs.length + 1 := by omega
        have n3 : ¬ 2 * i + 1 + 1 = 2 * p.gs.length + 1 := by omega
        obtain ⟨z1, z2, z3, z4, z5, z6⟩ := ev i
        have hsit : CSits w p.gs[i].1 (us i) ∧ CSits w p.gs[i].2 (vs i) := by
          obtain ⟨ad', cap', e, g1, g2, hp⟩ := A
          rcases hp with hp | ⟨b, off, -, -, hp⟩
          · omega
          · obtain ⟨u1, u2, -, -, c1, c2⟩ := hp i hi
            exact ⟨csits_of_new _ u1 _ _ _ c1 a3, csits_of_new _ u2 _ _ _ c2 a4⟩
        refine ⟨us i, vs i, by rw [Nat.zero_add]; exact r1, by rw [Nat.zero_add]; exact r2, ⟨hsit.1, ?_⟩, ⟨hsit.2, ?_⟩⟩
        · simp only [n1, n2, if_false, z1, z2, z3, z4, if_true]
          exact a3
        · simp only [n2, n3, if_false, z3, z4, z5, z6, if_true]
          exact a4
    · obtain ⟨z1, z2, -⟩ := ev p.gs.length
      have n1 : ¬ 2 * p.gs.length = 2 * p.gs.length + 1 := by omega
      simp only [n1, if_false, z1, z2, if_true]
      exact F.wide (by omega) (Nat.le_refl _)
    · obtain ⟨cs, o⟩ := q5.2
      refine ⟨cs, by simp; omega, by rw [hv]; exact own_low _ o q1, fun g' hg' => ?_⟩
      rw [hv] at hg'
      cases hg'
      simp
      omega
/-- One cell of a row of one's own is written over. -/
theorem RowIn.put {w : World} {lo hi : Nat} {e : TypeId} {k n g cap : Nat} {cs : List Value} (h : RowIn w lo hi e k (.slice (some ⟨g, 0, none⟩) n cap) n cs) (j : Nat) (u : Value) : RowIn (w.setCell ⟨g, j, none⟩ u) lo hi e k (.slice (some ⟨g, 0, none⟩) n cap) n (cs.set j u) ∧ Rng lo hi w (w.setCell ⟨g, j, none⟩ u) :=
  ⟨⟨h.1, (h.2.1.stored j u).1, h.2.2⟩, Rng.set w _ _ (h.2.1.lt g rfl).1 (h.2.2 g rfl)⟩
theorem RowIn.at {w : World} {lo hi : Nat} {e : TypeId} {k n g cap : Nat} {cs : List Value} (h : RowIn w lo hi e k (.slice (some ⟨g, 0, none⟩) n cap) n cs) (j : Nat) (hj : j < n * k) : (∃ u, w.cell? ⟨g, j, none⟩ = some u) ∧ w.frozen? ⟨g, j, none⟩ = false ∧ g < w.heap.size ∧ lo ≤ g ∧ g < hi :=
  ⟨⟨_, (h.2.1.cellAt j hj).trans (List.getElem?_eq_getElem (by rw [h.2.1.1]; exact hj))⟩, h.2.1.frozenAt j, (h.2.1.lt g rfl).2, (h.2.1.lt g rfl).1, h.2.2 g rfl⟩
theorem RowIn.form {w : World} {lo hi : Nat} {e : TypeId} {k n : Nat} {ad : Option Addr} {cap : Nat} {cs : List Value} (h : RowIn w lo hi e k (.slice ad n cap) n cs) (hn : 0 < n) : ∃ g, ad = some ⟨g, 0, none⟩ := by
  obtain ⟨g, c, e, -, -⟩ := h.2.1.form hn
  cases e
  exact ⟨g, rfl⟩
theorem RowIn.rng {w w' : World} {lo hi lo' hi' : Nat} {e : TypeId} {k n : Nat} {v : Value} {cs : List Value} (h : RowIn w lo hi e k v n cs) (r : Rng lo' hi' w w') (hd : hi ≤ lo' ∨ hi' ≤ lo) : RowIn w' lo hi e k v n cs := by
  obtain ⟨h0, ⟨h1, h2 | ⟨g, cap, cur, h2, h3, h4, h5⟩⟩, h6⟩ := h
  · exact ⟨h0, ⟨h1, .inl h2⟩, h6⟩
  · have hg := h6 g (by rw [h2]; rfl)
    exact ⟨h0, ⟨h1, .inr ⟨g, cap, cur, h2, h3, (r.block g (by rcases Nat.lt_or_ge g w.heap.size with h | h; exact h; rw [Array.getElem?_eq_none h] at h4; cases h4) (by omega)).trans h4, h5⟩⟩, h6⟩
theorem Box.rng {w w' : World} {g lo hi : Nat} {xs : List Value} (h : Box w g xs) (r : Rng lo hi w w') (hg : g < lo ∨ hi ≤ g) : Box w' g xs := by
  have hb := r.block g h.lt (by omega)
  exact ⟨fun i v hv => (World.cell?_of_block (a := ⟨g, i, none⟩) hb).trans (h.cell i v hv), fun i hi => (World.frozen?_of_block (a := ⟨g, i, none⟩) hb).trans (h.free i hi), Nat.lt_of_lt_of_le h.lt r.size⟩
theorem CopP.rng {w w' : World} {p : PlP} {v : PlV} {s0 s1 s2 s3 s4 s5 lo hi : Nat} (h : CopP w p v s0 s1 s2 s3 s4 s5) (r : Rng lo hi w w') (hd : s5 ≤ lo ∨ hi ≤ s0) : CopP w' p v s0 s1 s2 s3 s4 s5 :=
  h.keep r.size (fun b h1 h2 => r.block b (Nat.lt_of_lt_of_le h2 h.top) (by omega))
theorem Rng.below {B lo hi : Nat} {w w0 w' : World} (h : Below B w w0) (r : Rng lo hi w0 w') (hB : B ≤ lo) (hs : B ≤ w0.heap.size) : Below B w w' :=
  ⟨r.os.trans h.os, r.tape.trans h.tape, r.output.trans h.output, Nat.le_trans h.size r.size, fun k hk => (r.block k (by omega) (by omega)).trans (h.block k hk)⟩
theorem cwt_cores {p : PlP} (h : PWt p) : ∀ c, c ∈ coresP p → CWt c := by
  intro c hc
  simp only [coresP, List.mem_append, List.mem_flatten, List.mem_map, List.mem_singleton] at hc
  rcases hc with ⟨l, ⟨g, hg, rfl⟩, hc⟩ | rfl
  · simp only [twoOf, List.mem_cons, List.not_mem_nil, or_false] at hc
    rcases hc with rfl | rfl
    · exact (h.co g hg).1
    · exact (h.co g hg).2
  · exact h.fi
theorem coresP_len (p : PlP) : (coresP p).length = 2 * p.gs.length + 1 := by
  have : ∀ l : List (Co × Co), ((l.map twoOf).flatten).length = 2 * l.length := by
    intro l
    induction l with
    | nil => rfl
    | cons x r ih => simp only [List.map_cons, List.flatten_cons, List.length_append, List.length_cons, ih, twoOf, List.length_nil]; omega
  simp only [coresP, List.length_append, this, List.length_cons, List.length_nil]
end Go.Proofs.YtbddbnjhmdbkbaaGreatDoor
end
