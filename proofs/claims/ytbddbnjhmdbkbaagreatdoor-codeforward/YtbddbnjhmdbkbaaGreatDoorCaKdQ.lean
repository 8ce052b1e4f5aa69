/- Programs, plain: all jumps lead on, and all that is asked for is there. -/
import Derived.Test.YtbddbnjhmdbkbaaGreatDoorCaKdP
namespace Go.Proofs.YtbddbnjhmdbkbaaGreatDoor

/-- What is asked of the instruction x that stands at i: b bounds its jump, K are the constants, nl the number of locals. -/
structure InOk (nl b : Nat) (K : List Int) (i : Nat) (x : Ins) : Prop where
  jump : x.1 = 23 ∨ x.1 = 24 ∨ x.1 = 25 ∨ x.1 = 26 → (i : Int) < x.2 ∧ x.2 ≤ b
  have_ : x.1 = 27 → ∃ n to : Int, 0 ≤ n ∧ n < nl ∧ (i : Int) < to ∧ to ≤ b ∧ x.2 = n * 16384 + to
  num : x.1 = 1 → ∃ k : Nat, x.2 = k ∧ ∃ v, K[k]? = some v ∧ K.idxOf v = k
  scale : x.1 = 11 → ∃ k : Nat, x.2 = k ∧ k + 1 < K.length
def AllOk (nl b : Nat) (K : List Int) (L : List Ins) : Prop := ∀ i x, L[i]? = some x → InOk nl b K i x
theorem InOk.plain {nl b i : Nat} {K : List Int} {x : Ins} (h : jmpB x.1 = false) (h1 : x.1 ≠ 1) (h2 : x.1 ≠ 11) : InOk nl b K i x := by
  unfold jmpB at h
  simp only [Bool.or_eq_false_iff, beq_eq_false_iff_ne, ne_eq] at h
  exact ⟨fun e => by omega, fun e => by omega, fun e => absurd e h1, fun e => absurd e h2⟩
theorem InOk.more {nl b b' i : Nat} {K K' : List Int} {x : Ins} (h : InOk nl b K i x) (hb : b ≤ b') (hK : K <+: K') : InOk nl b' K' i x := by
  obtain ⟨r, rfl⟩ := hK
  refine ⟨fun e => ?_, fun e => ?_, fun e => ?_, fun e => ?_⟩
  · obtain ⟨h1, h2⟩ := h.jump e
    exact ⟨h1, by omega⟩
  · obtain ⟨n, to, h1, h2, h3, h4, h5⟩ := h.have_ e
    exact ⟨n, to, h1, h2, h3, by omega, h5⟩
  · obtain ⟨k, h1, v, h2, h3⟩ := h.num e
    have hk := (List.getElem?_eq_some_iff.1 h2).1
    refine ⟨k, h1, v, by rw [List.getElem?_append_left hk]; exact h2, ?_⟩
    rw [List.idxOf_append, if_pos (List.mem_of_getElem? h2)]
    exact h3
  · obtain ⟨k, h1, h2⟩ := h.scale e
    exact ⟨k, h1, by rw [List.length_append]; omega⟩
theorem jmp_of {op : Int} (h : op = 23 ∨ op = 24 ∨ op = 25 ∨ op = 26 ∨ op = 27) : jmpB op = true := by
  unfold jmpB
  rcases h with rfl | rfl | rfl | rfl | rfl <;> rfl
theorem InOk.sh {nl b i : Nat} {K : List Int} {x : Ins} (h : InOk nl b K i x) (d : Nat) : InOk nl (d + b) K (d + i) (shI d x) := by
  refine ⟨fun e => ?_, fun e => ?_, fun e => ?_, fun e => ?_⟩
  · rw [shI_fst] at e
    obtain ⟨h1, h2⟩ := h.jump e
    have hj : jmpB x.1 = true := jmp_of (by omega)
    unfold shI
    rw [if_pos hj]
    exact ⟨by show ((d + i : Nat) : Int) < x.2 + d; omega, by show x.2 + (d : Int) ≤ ((d + b : Nat) : Int); omega⟩
  · rw [shI_fst] at e
    obtain ⟨n, to, h1, h2, h3, h4, h5⟩ := h.have_ e
    have hj : jmpB x.1 = true := jmp_of (by omega)
    unfold shI
    rw [if_pos hj]
    exact ⟨n, to + d, h1, h2, by omega, by omega, by show x.2 + (d : Int) = _; omega⟩
  · rw [shI_fst] at e
    have hj : ¬ jmpB x.1 = true := by rw [e]; decide
    unfold shI
    rw [if_neg hj]
    exact h.num e
  · rw [shI_fst] at e
    have hj : ¬ jmpB x.1 = true := by rw [e]; decide
    unfold shI
    rw [if_neg hj]
    exact h.scale e
theorem AllOk.more {nl b b' : Nat} {K K' : List Int} {L : List Ins} (h : AllOk nl b K L) (hb : b ≤ b') (hK : K <+: K') : AllOk nl b' K' L := fun i x hx => (h i x hx).more hb hK
theorem AllOk.cat {nl b c : Nat} {K : List Int} {La Lb : List Ins} (ha : AllOk nl b K La) (hb : AllOk nl c K Lb) (h : La.length + c ≤ b) : AllOk nl b K (cat La Lb) := by
  intro i x hx
  unfold Go.Proofs.YtbddbnjhmdbkbaaGreatDoor.cat at hx
  by_cases hi : i < La.length
  · rw [List.getElem?_append_left hi] at hx
    exact ha i x hx
  · rw [List.getElem?_append_right (by omega), List.getElem?_map] at hx
    obtain ⟨y, hy, rfl⟩ := Option.map_eq_some_iff.1 hx
    have := (hb _ y hy).sh La.length
    rw [show La.length + (i - La.length) = i by omega] at this
    exact this.more h (List.prefix_refl _)
theorem AllOk.one {nl b : Nat} {K : List Int} {x : Ins} (h : InOk nl b K 0 x) : AllOk nl b K [x] := by
  intro i y hy
  cases i with
  | zero => cases hy; exact h
  | succ n => cases hy
theorem AllOk.nil (nl b : Nat) (K : List Int) : AllOk nl b K [] := fun i x hx => by cases hx
/-- A piece that leaves a number or truth. -/
def VOk (nl : Nat) (m : Mk) : Prop := ∀ K, K <+: (m K).2 ∧ AllOk nl (m K).1.length (m K).2 (m K).1
/-- A piece that ends the program. -/
def AOk (nl : Nat) (m : Mk) : Prop := ∀ K, K <+: (m K).2 ∧ AllOk nl ((m K).1.length - 1) (m K).2 (m K).1 ∧ ∃ x, (m K).1.getLast? = some x ∧ (x.1 = 29 ∨ x.1 = 30 ∨ x.1 = 31)
theorem numK_pre (K : List Int) (n : Int) : K <+: numK K n := by
  unfold numK
  split
  · exact List.prefix_refl _
  · exact List.prefix_append _ _
theorem numM_ok (nl : Nat) (n : Int) : VOk nl (numM n) := by
  intro K
  refine ⟨numK_pre K n, AllOk.one ⟨(fun e => by rcases e with e | e | e | e <;> cases e), (fun e => by cases e), fun _ => ⟨_, rfl, n, numK_at K n, ?_⟩, (fun e => by cases e)⟩⟩
  show (numK K n).idxOf n = K.idxOf n
  unfold numK
  split
  · rfl
  · rename_i h
    rw [List.idxOf_append, if_neg h, List.idxOf_eq_length h]
    simp
theorem insM_ok (nl : Nat) (op a : Int) (h : jmpB op = false) (h1 : op ≠ 1) (h2 : op ≠ 11) : VOk nl (insM op a) := fun _ => ⟨List.prefix_refl _, AllOk.one (InOk.plain h h1 h2)⟩
theorem findP_lt : ∀ (K : List Int) (a b : Int) (i : Nat), findP K a b = some i → i + 1 < K.length
  | [], _, _, _, h => by cases h
  | [_], _, _, _, h => by cases h
  | x :: y :: r, a, b, i, h => by
    rw [findP] at h
    by_cases hc : x = a ∧ y = b
    · rw [if_pos hc] at h; cases h; simp
    · rw [if_neg hc] at h
      obtain ⟨j, hj, rfl⟩ := Option.map_eq_some_iff.1 h
      have := findP_lt (y :: r) a b j hj
      simp at this ⊢
      omega
theorem scaM_ok (nl : Nat) (n m : Int) : VOk nl (scaM n m) := by
  intro K
  have key : K <+: pairK K n m ∧ pairAt K n m + 1 < (pairK K n m).length := by
    unfold pairK pairAt
    cases h : findP K n m with
    | some i => exact ⟨List.prefix_refl _, findP_lt K n m i h⟩
    | none =>
      by_cases hl : K.getLast? = some n
      · have hk : K ≠ [] := fun e => by rw [e] at hl; cases hl
        have := List.length_pos_iff.2 hk
        simp only [hl, if_true]
        exact ⟨List.prefix_append _ _, by simp; omega⟩
      · simp only [hl, if_false]
        exact ⟨List.prefix_append _ _, by simp⟩
  exact ⟨key.1, AllOk.one ⟨(fun e => by rcases e with e | e | e | e <;> cases e), (fun e => by cases e), (fun e => by cases e), fun _ => ⟨_, rfl, key.2⟩⟩⟩
theorem thenM_ok {nl : Nat} {a b : Mk} (ha : VOk nl a) (hb : VOk nl b) : VOk nl (thenM a b) := by
  intro K
  obtain ⟨p1, g1⟩ := ha K
  obtain ⟨p2, g2⟩ := hb (a K).2
  refine ⟨p1.trans p2, ?_⟩
  show AllOk nl (cat (a K).1 (b (a K).2).1).length (b (a K).2).2 (cat (a K).1 (b (a K).2).1)
  exact AllOk.cat (g1.more (by rw [cat_len]; omega) p2) g2 (by rw [cat_len]; omega)
theorem cat_last {a b : List Ins} {x : Ins} (h : b.getLast? = some x) : (cat a b).getLast? = some (shI a.length x) := by
  unfold cat
  rw [List.getLast?_append, List.getLast?_map, h]
  rfl
theorem thenM_act {nl : Nat} {a b : Mk} (ha : VOk nl a) (hb : AOk nl b) : AOk nl (thenM a b) := by
  intro K
  obtain ⟨p1, g1⟩ := ha K
  obtain ⟨p2, g2, x, hx, ho⟩ := hb (a K).2
  have hn : 0 < (b (a K).2).1.length := List.length_pos_iff.2 (fun e => by rw [e] at hx; cases hx)
  refine ⟨p1.trans p2, ?_, _, cat_last hx, by rw [shI_fst]; exact ho⟩
  show AllOk nl ((cat (a K).1 (b (a K).2).1).length - 1) (b (a K).2).2 (cat (a K).1 (b (a K).2).1)
  exact AllOk.cat (g1.more (by rw [cat_len]; omega) p2) g2 (by rw [cat_len]; omega)
theorem insM_act (nl : Nat) (op a : Int) (h : op = 29 ∨ op = 30 ∨ op = 31) : AOk nl (insM op a) := fun _ => ⟨List.prefix_refl _, AllOk.one (InOk.plain (by rcases h with rfl | rfl | rfl <;> rfl) (by show op ≠ 1; omega) (by show op ≠ 11; omega)), _, rfl, h⟩
theorem allM_ok {nl : Nat} : ∀ (ms : List Mk), (∀ m, m ∈ ms → VOk nl m) → VOk nl (allM ms)
  | [], _ => fun _ => ⟨List.prefix_refl _, AllOk.nil _ _ _⟩
  | a :: r, h => thenM_ok (h a (by simp)) (allM_ok r (fun m hm => h m (by simp [hm])))
theorem forkM_ok {nl : Nat} {op over : Int} {y z : Mk} (ho : op = 24 ∨ op = 25) (hv : over = 23 ∨ over = 26) (hy : VOk nl y) (hz : VOk nl z) : VOk nl (forkM op over y z) := by
  intro K
  obtain ⟨p1, g1⟩ := hy K
  obtain ⟨p2, g2⟩ := hz (y K).2
  refine ⟨p1.trans p2, ?_⟩
  show AllOk nl (cat (cat (cat [(op, (((y K).1.length + 2 : Nat) : Int))] (y K).1) [(over, ((1 + (z (y K).2).1.length : Nat) : Int))]) (z (y K).2).1).length (z (y K).2).2 (cat (cat (cat [(op, (((y K).1.length + 2 : Nat) : Int))] (y K).1) [(over, ((1 + (z (y K).2).1.length : Nat) : Int))]) (z (y K).2).1)
  generalize (y K).1 = A at *
  generalize (z (y K).2).1 = B at *
  generalize (z (y K).2).2 = K2 at *
  have hl : (cat (cat (cat [(op, ((A.length + 2 : Nat) : Int))] A) [(over, ((1 + B.length : Nat) : Int))]) B).length = A.length + B.length + 2 := by simp only [cat_len, List.length_singleton]; omega
  rw [hl]
  refine AllOk.cat (c := B.length) ?_ g2 (by simp only [cat_len, List.length_singleton]; omega)
  refine AllOk.cat (c := 1 + B.length) ?_ (AllOk.one ⟨fun _ => ⟨by show (0 : Int) < ((1 + B.length : Nat) : Int); omega, by show ((1 + B.length : Nat) : Int) ≤ _; omega⟩, fun e => by have e' : over = 27 := e; omega, fun e => by have e' : over = 1 := e; omega, fun e => by have e' : over = 11 := e; omega⟩) (by simp only [cat_len, List.length_singleton]; omega)
  refine AllOk.cat (c := A.length) (AllOk.one ⟨fun _ => ⟨by show (0 : Int) < ((A.length + 2 : Nat) : Int); omega, by show ((A.length + 2 : Nat) : Int) ≤ _; omega⟩, fun e => by have e' : op = 27 := e; omega, fun e => by have e' : op = 1 := e; omega, fun e => by have e' : op = 11 := e; omega⟩) (g1.more (Nat.le_refl _) p2) (by simp only [List.length_singleton]; omega)
theorem over_ok {nl : Nat} {y : Mk} (hy : AOk nl y) : VOk nl (overM 24 0 y []) := by
  intro K
  obtain ⟨p1, g1, x, hx, ho⟩ := hy K
  refine ⟨p1, ?_⟩
  show AllOk nl (cat (cat [((24 : Int), (0 : Int) + (((y K).1.length + 1 + 0 : Nat) : Int))] (y K).1) []).length (y K).2 (cat (cat [((24 : Int), (0 : Int) + (((y K).1.length + 1 + 0 : Nat) : Int))] (y K).1) [])
  generalize (y K).1 = A at *
  rw [cat_nil, cat_len, List.length_singleton]
  exact AllOk.cat (c := A.length - 1) (AllOk.one ⟨fun _ => ⟨by show (0 : Int) < 0 + ((A.length + 1 + 0 : Nat) : Int); omega, by show (0 : Int) + ((A.length + 1 + 0 : Nat) : Int) ≤ _; omega⟩, (fun e => by cases e), (fun e => by cases e), (fun e => by cases e)⟩) g1 (by simp only [List.length_singleton]; omega)
theorem memo_ok {nl : Nat} {n : Int} {y : Mk} (h0 : 0 ≤ n) (h1 : n < nl) (hy : VOk nl y) : VOk nl (overM 27 (n * 16384) y [(28, n)]) := by
  intro K
  obtain ⟨p1, g1⟩ := hy K
  refine ⟨p1, ?_⟩
  show AllOk nl (cat (cat [((27 : Int), n * 16384 + (((y K).1.length + 1 + 1 : Nat) : Int))] (y K).1) [(28, n)]).length (y K).2 (cat (cat [((27 : Int), n * 16384 + (((y K).1.length + 1 + 1 : Nat) : Int))] (y K).1) [(28, n)])
  generalize (y K).1 = A at *
  have hl : (cat (cat [((27 : Int), n * 16384 + ((A.length + 1 + 1 : Nat) : Int))] A) [((28 : Int), n)]).length = A.length + 2 := by simp only [cat_len, List.length_singleton]; omega
  rw [hl]
  refine AllOk.cat (c := 1) ?_ (AllOk.one (InOk.plain rfl (by show (28 : Int) ≠ 1; decide) (by show (28 : Int) ≠ 11; decide))) (by simp only [cat_len, List.length_singleton]; omega)
  exact AllOk.cat (c := A.length) (AllOk.one ⟨(fun e => by rcases e with e | e | e | e <;> cases e), fun _ => ⟨n, ((A.length + 1 + 1 : Nat) : Int), h0, h1, by show (0 : Int) < _; omega, by omega, rfl⟩, (fun e => by cases e), (fun e => by cases e)⟩) (g1.more (by omega) (List.prefix_refl _)) (by simp only [List.length_singleton]; omega)
end Go.Proofs.YtbddbnjhmdbkbaaGreatDoor
