import Derived.Test.YtigldebdljfnbaaDoorMhY
import Derived.Test.YtigldebdljfnbaaDoorMgR
section
namespace Go.Proofs.YtigldebdljfnbaaDoor

abbrev Ins := Int × Int
def jmpB (op : Int) : Bool := op == 23 || op == 24 || op == 25 || op == 26 || op == 27
def shI (d : Nat) (x : Ins) : Ins := if jmpB x.1 = true then (x.1, x.2 + d) else x
def cat (a b : List Ins) : List Ins := a ++ b.map (shI a.length)
theorem shI_fst (d : Nat) (x : Ins) : (shI d x).1 = x.1 := by unfold shI; split <;> rfl
theorem shI_zero (x : Ins) : shI 0 x = x := by
  unfold shI
  split
  · simp
  · rfl
theorem shI_shI (d e : Nat) (x : Ins) : shI d (shI e x) = shI (d + e) x := by
  unfold shI
  by_cases h : jmpB x.1 = true
  · simp only [h, if_true]
    exact Prod.ext rfl (by show x.2 + (e : Int) + (d : Int) = x.2 + ((d + e : Nat) : Int); omega)
  · rw [if_neg h, if_neg h, if_neg h]
theorem shI_map (d e : Nat) (l : List Ins) : (l.map (shI e)).map (shI d) = l.map (shI (d + e)) := by
  rw [List.map_map]
  exact List.map_congr_left (fun x _ => shI_shI d e x)
theorem cat_len (a b : List Ins) : (cat a b).length = a.length + b.length := by simp [cat]
theorem cat_nil (a : List Ins) : cat a [] = a := by simp [cat]
theorem nil_cat (b : List Ins) : cat [] b = b := by
  unfold cat
  rw [List.nil_append, List.length_nil]
  conv => rhs; rw [← List.map_id b]
  exact List.map_congr_left (fun x _ => shI_zero x)
theorem cat_cat (a b c : List Ins) : cat (cat a b) c = cat a (cat b c) := by
  unfold cat
  rw [List.map_append, shI_map, List.append_assoc, List.length_append, List.length_map]
def numK (K : List Int) (n : Int) : List Int := if n ∈ K then K else K ++ [n]
theorem numK_at (K : List Int) (n : Int) : (numK K n)[K.idxOf n]? = some n := by
  unfold numK
  split
  · rename_i h
    have hl := List.idxOf_lt_length_of_mem h
    rw [List.getElem?_eq_getElem hl, List.getElem_idxOf hl]
  · rename_i h
    rw [List.idxOf_eq_length h]
    simp
def findP : List Int → Int → Int → Option Nat
  | x :: y :: r, a, b => if x = a ∧ y = b then some 0 else (findP (y :: r) a b).map (· + 1)
  | _, _, _ => none
def pairK (K : List Int) (a b : Int) : List Int := match findP K a b with
  | some _ => K
  | none => if K.getLast? = some a then K ++ [b] else K ++ [a, b]
def pairAt (K : List Int) (a b : Int) : Nat := match findP K a b with
  | some i => i
  | none => if K.getLast? = some a then K.length - 1 else K.length
abbrev Mk := List Int → List Ins × List Int
def numM (n : Int) : Mk := fun K => ([(1, (K.idxOf n : Nat))], numK K n)
def insM (op a : Int) : Mk := fun K => ([(op, a)], K)
def scaM (n m : Int) : Mk := fun K => ([(11, (pairAt K n m : Nat))], pairK K n m)
def thenM (a b : Mk) : Mk := fun K => let x := a K; let y := b x.2; (cat x.1 y.1, y.2)
def forkM (op over : Int) (y z : Mk) : Mk := fun K => let u := y K; let v := z u.2; (cat (cat (cat [(op, (u.1.length + 2 : Nat))] u.1) [(over, (1 + v.1.length : Nat))]) v.1, v.2)
def overM (op more : Int) (y : Mk) (e : List Ins) : Mk := fun K => let u := y K; (cat (cat [(op, more + (u.1.length + 1 + e.length : Nat))] u.1) e, u.2)
def allM : List Mk → Mk
  | [] => fun K => ([], K)
  | a :: r => thenM a (allM r)
def plnI (op : Int) : Int := if op ≤ 6 then op - 1 else if op ≤ 12 then op - 2 else if op ≤ 24 then op - 2 else op
def rungM : List (Co × Mk) → Mk
  | b :: a :: r => thenM (thenM (insM 32 0) (thenM (numM b.1.n) (insM 16 0))) (thenM (overM 24 0 (thenM (insM 33 0) a.2) []) (rungM r))
  | a :: _ => thenM (insM 33 0) a.2
  | [] => insM 33 0
def codO (c : Co) (ms : List Mk) : Mk :=
  if c.op = 1 ∨ c.op = 2 then numM c.n
  else if c.op = 7 then overM 27 (c.n * 16384) (ms.getD 0 (allM [])) [(28, c.n)]
  else if c.op = 13 then thenM (ms.getD 0 (allM [])) (scaM c.n c.m)
  else if c.op = 25 then thenM (ms.getD 0 (allM [])) (forkM 24 23 (ms.getD 1 (allM [])) (numM 0))
  else if c.op = 26 then thenM (ms.getD 0 (allM [])) (forkM 24 23 (numM 1) (ms.getD 1 (allM [])))
  else if c.op = 28 then thenM (ms.getD 0 (allM [])) (forkM 24 23 (ms.getD 1 (allM [])) (ms.getD 2 (allM [])))
  else if c.op = 27 then forkM 25 26 (ms.getD 0 (allM [])) (ms.getD 1 (allM []))
  else if c.op = 32 then thenM (ms.getD 0 (allM [])) (rungM ((c.parts.zip ms).drop 1))
  else thenM (allM ms) (insM (plnI c.op) c.n)
def codF : Co → Mk
  | ⟨k, n, m, ps⟩ => codO ⟨k, n, m, ps⟩ (ps.map codF)
theorem codF_eq (c : Co) : codF c = codO c (c.parts.map codF) := by
  cases c
  rw [codF]
def planM : List (Co × Co) → Co → Mk
  | [], f => codF f
  | g :: r, f => thenM (thenM (codF g.1) (overM 24 0 (codF g.2) [])) (planM r f)

structure InOk (nl b : Nat) (K : List Int) (i : Nat) (x : Ins) : Prop where
  jump : x.1 = 23 ∨ x.1 = 24 ∨ x.1 = 25 ∨ x.1 = 26 → (i : Int) < x.2 ∧ x.2 ≤ b
  have_ : x.1 = 27 → ∃ n to : Int, 0 ≤ n ∧ n < nl ∧ (i : Int) < to ∧ to ≤ b ∧ x.2 = n * 16384 + to
  num : x.1 = 1 → ∃ k : Nat, x.2 = k ∧ ∃ v, K[k]? = some v ∧ K.idxOf v = k
  scale : x.1 = 11 → ∃ k : Nat, x.2 = k ∧ k + 1 < K.length
def AllOk (nl b : Nat) (K : List Int) (L : List Ins) : Prop := ∀ i x, L[i]? = some x → InOk nl b K i x
theorem InOk.plain {nl b i : Nat} {K : List Int} {x : Ins} (h : jmpB x.1 = false) (h1 : x.1 ≠ 1) (h2 : x.1 ≠ 11) : InOk nl b K i x := by
  unfold jmpB at h
  simp only [Bool.or_eq_false_iff, beq_eq_false_iff_ne, ne_eq] at h
  exact ⟨fun e => by omega, fun e => by omega, fun e => absurd e h1, fun e => absurd e h2⟩
theorem InOk.more {nl b b' i : Nat} {K K' : List Int} {x : Ins} (h : InOk nl b K i x) (hb : b ≤ b') (hK : K <+: K') : InOk nl b' K' i x := by
  obtain ⟨r, rfl⟩ := hK
  refine ⟨fun e => ?_, fun e => ?_, fun e => ?_, fun e => ?_⟩
  · obtain ⟨h1, h2⟩ := h.jump e
    exact ⟨h1, by omega⟩
  · obtain ⟨n, to, h1, h2, h3, h4, h5⟩ := h.have_ e
    exact ⟨n, to, h1, h2, h3, by omega, h5⟩
  · obtain ⟨k, h1, v, h2, h3⟩ := h.num e
    have hk := (List.getElem?_eq_some_iff.1 h2).1
    refine ⟨k, h1, v, by rw [List.getElem?_append_left hk]; exact h2, ?_⟩
    rw [List.idxOf_append, if_pos (List.mem_of_getElem? h2)]
    exact h3
  · obtain ⟨k, h1, h2⟩ := h.scale e
    exact ⟨k, h1, by rw [List.length_append]; omega⟩
theorem jmp_of {op : Int} (h : op = 23 ∨ op = 24 ∨ op = 25 ∨ op = 26 ∨ op = 27) : jmpB op = true := by
  unfold jmpB
  rcases h with rfl | rfl | rfl | rfl | rfl <;> rfl
theorem InOk.sh {nl b i : Nat} {K : List Int} {x : Ins} (h : InOk nl b K i x) (d : Nat) : InOk nl (d + b) K (d + i) (shI d x) := by
  refine ⟨fun e => ?_, fun e => ?_, fun e => ?_, fun e => ?_⟩
  · rw [shI_fst] at e
    obtain ⟨h1, h2⟩ := h.jump e
    have hj : jmpB x.1 = true := jmp_of (by omega)
    unfold shI
    rw [if_pos hj]
    exact ⟨by show ((d + i : Nat) : Int) < x.2 + d; omega, by show x.2 + (d : Int) ≤ ((d + b : Nat) : Int); omega⟩
  · rw [shI_fst] at e
    obtain ⟨n, to, h1, h2, h3, h4, h5⟩ := h.have_ e
    have hj : jmpB x.1 = true := jmp_of (by omega)
    unfold shI
    rw [if_pos hj]
    exact ⟨n, to + d, h1, h2, by omega, by omega, by show x.2 + (d : Int) = _; omega⟩
  · rw [shI_fst] at e
    have hj : ¬ jmpB x.1 = true := by rw [e]; decide
    unfold shI
    rw [if_neg hj]
    exact h.num e
  · rw [shI_fst] at e
    have hj : ¬ jmpB x.1 = true := by rw [e]; decide
    unfold shI
    rw [if_neg hj]
    exact h.scale e
theorem AllOk.more {nl b b' : Nat} {K K' : List Int} {L : List Ins} (h : AllOk nl b K L) (hb : b ≤ b') (hK : K <+: K') : AllOk nl b' K' L := fun i x hx => (h i x hx).more hb hK
theorem AllOk.cat {nl b c : Nat} {K : List Int} {La Lb : List Ins} (ha : AllOk nl b K La) (hb : AllOk nl c K Lb) (h : La.length + c ≤ b) : AllOk nl b K (cat La Lb) := by
  intro i x hx
  unfold Go.Proofs.YtigldebdljfnbaaDoor.cat at hx
  by_cases hi : i < La.length
  · rw [List.getElem?_append_left hi] at hx
    exact ha i x hx
  · rw [List.getElem?_append_right (by omega), List.getElem?_map] at hx
    obtain ⟨y, hy, rfl⟩ := Option.map_eq_some_iff.1 hx
    have := (hb _ y hy).sh La.length
    rw [show La.length + (i - La.length) = i by omega] at this
    exact this.more h (List.prefix_refl _)
theorem AllOk.one {nl b : Nat} {K : List Int} {x : Ins} (h : InOk nl b K 0 x) : AllOk nl b K [x] := by
  intro i y hy
  cases i with
  | zero => cases hy; exact h
  | succ n => cases hy
theorem AllOk.nil (nl b : Nat) (K : List Int) : AllOk nl b K [] := fun i x hx => by cases hx
def VOk (nl : Nat) (m : Mk) : Prop := ∀ K, K <+: (m K).2 ∧ AllOk nl (m K).1.length (m K).2 (m K).1
def AOk (nl : Nat) (m : Mk) : Prop := ∀ K, K <+: (m K).2 ∧ AllOk nl ((m K).1.length - 1) (m K).2 (m K).1 ∧ ∃ x, (m K).1.getLast? = some x ∧ (x.1 = 29 ∨ x.1 = 30 ∨ x.1 = 31)
theorem numK_pre (K : List Int) (n : Int) : K <+: numK K n := by
  unfold numK
  split
  · exact List.prefix_refl _
  · exact List.prefix_append _ _
theorem numM_ok (nl : Nat) (n : Int) : VOk nl (numM n) := by
  intro K
  refine ⟨numK_pre K n, AllOk.one ⟨(fun e => by rcases e with e | e | e | e <;> cases e), (fun e => by cases e), fun _ => ⟨_, rfl, n, numK_at K n, ?_⟩, (fun e => by cases e)⟩⟩
  show (numK K n).idxOf n = K.idxOf n
  unfold numK
  split
  · rfl
  · rename_i h
    rw [List.idxOf_append, if_neg h, List.idxOf_eq_length h]
    simp
theorem insM_ok (nl : Nat) (op a : Int) (h : jmpB op = false) (h1 : op ≠ 1) (h2 : op ≠ 11) : VOk nl (insM op a) := fun _ => ⟨List.prefix_refl _, AllOk.one (InOk.plain h h1 h2)⟩
theorem findP_lt : ∀ (K : List Int) (a b : Int) (i : Nat), findP K a b = some i → i + 1 < K.length
  | [], _, _, _, h => by cases h
  | [_], _, _, _, h => by cases h
  | x :: y :: r, a, b, i, h => by
    rw [findP] at h
    by_cases hc : x = a ∧ y = b
    · rw [if_pos hc] at h; cases h; simp
    · rw [if_neg hc] at h
      obtain ⟨j, hj, rfl⟩ := Option.map_eq_some_iff.1 h
      have := findP_lt (y :: r) a b j hj
      simp at this ⊢
      omega
theorem scaM_ok (nl : Nat) (n m : Int) : VOk nl (scaM n m) := by
  intro K
  have key : K <+: pairK K n m ∧ pairAt K n m + 1 < (pairK K n m).length := by
    unfold pairK pairAt
    cases h : findP K n m with
    | some i => exact ⟨List.prefix_refl _, findP_lt K n m i h⟩
    | none =>
      by_cases hl : K.getLast? = some n
      · have hk : K ≠ [] := fun e => by rw [e] at hl; cases hl
        have := List.length_pos_iff.2 hk
        simp only [hl, if_true]
        exact ⟨List.prefix_append _ _, by simp; omega⟩
      · simp only [hl, if_false]
        exact ⟨List.prefix_append _ _, by simp⟩
  exact ⟨key.1, AllOk.one ⟨(fun e => by rcases e with e | e | e | e <;> cases e), (fun e => by cases e), (fun e => by cases e), fun _ => ⟨_, rfl, key.2⟩⟩⟩
theorem thenM_ok {nl : Nat} {a b : Mk} (ha : VOk nl a) (hb : VOk nl b) : VOk nl (thenM a b) := by
  intro K
  obtain ⟨p1, g1⟩ := ha K
  obtain ⟨p2, g2⟩ := hb (a K).2
  refine ⟨p1.trans p2, ?_⟩
  show AllOk nl (cat (a K).1 (b (a K).2).1).length (b (a K).2).2 (cat (a K).1 (b (a K).2).1)
  exact AllOk.cat (g1.more (by rw [cat_len]; omega) p2) g2 (by rw [cat_len]; omega)
theorem cat_last {a b : List Ins} {x : Ins} (h : b.getLast? = some x) : (cat a b).getLast? = some (shI a.length x) := by
  unfold cat
  rw [List.getLast?_append, List.getLast?_map, h]
  rfl
theorem thenM_act {nl : Nat} {a b : Mk} (ha : VOk nl a) (hb : AOk nl b) : AOk nl (thenM a b) := by
  intro K
  obtain ⟨p1, g1⟩ := ha K
  obtain ⟨p2, g2, x, hx, ho⟩ := hb (a K).2
  have hn : 0 < (b (a K).2).1.length := List.length_pos_iff.2 (fun e => by rw [e] at hx; cases hx)
  refine ⟨p1.trans p2, ?_, _, cat_last hx, by rw [shI_fst]; exact ho⟩
  show AllOk nl ((cat (a K).1 (b (a K).2).1).length - 1) (b (a K).2).2 (cat (a K).1 (b (a K).2).1)
  exact AllOk.cat (g1.more (by rw [cat_len]; omega) p2) g2 (by rw [cat_len]; omega)
theorem insM_act (nl : Nat) (op a : Int) (h : op = 29 ∨ op = 30 ∨ op = 31) : AOk nl (insM op a) := fun _ => ⟨List.prefix_refl _, AllOk.one (InOk.plain (by rcases h with rfl | rfl | rfl <;> rfl) (by show op ≠ 1; omega) (by show op ≠ 11; omega)), _, rfl, h⟩
theorem allM_ok {nl : Nat} : ∀ (ms : List Mk), (∀ m, m ∈ ms → VOk nl m) → VOk nl (allM ms)
  | [], _ => fun _ => ⟨List.prefix_refl _, AllOk.nil _ _ _⟩
  | a :: r, h => thenM_ok (h a (by simp)) (allM_ok r (fun m hm => h m (by simp [hm])))
theorem forkM_ok {nl : Nat} {op over : Int} {y z : Mk} (ho : op = 24 ∨ op = 25) (hv : over = 23 ∨ over = 26) (hy : VOk nl y) (hz : VOk nl z) : VOk nl (forkM op over y z) := by
  intro K
  obtain ⟨p1, g1⟩ := hy K
  obtain ⟨p2, g2⟩ := hz (y K).2
  refine ⟨p1.trans p2, ?_⟩
  show AllOk nl (cat (cat (cat [(op, (((y K).1.length + 2 : Nat) : Int))] (y K).1) [(over, ((1 + (z (y K).2).1.length : Nat) : Int))]) (z (y K).2).1).length (z (y K).2).2 (cat (cat (cat [(op, (((y K).1.length + 2 : Nat) : Int))] (y K).1) [(over, ((1 + (z (y K).2).1.length : Nat) : Int))]) (z (y K).2).1)
  generalize (y K).1 = A at *
  generalize (z (y K).2).1 = B at *
  generalize (z (y K).2).2 = K2 at *
  have hl : (cat (cat (cat [(op, ((A.length + 2 : Nat) : Int))] A) [(over, ((1 + B.length : Nat) : Int))]) B).length = A.length + B.length + 2 := by simp only [cat_len, List.length_singleton]; omega
  rw [hl]
  refine AllOk.cat (c := B.length) ?_ g2 (by simp only [cat_len, List.length_singleton]; omega)
  refine AllOk.cat (c := 1 + B.length) ?_ (AllOk.one ⟨fun _ => ⟨by show (0 : Int) < ((1 + B.length : Nat) : Int); omega, by show ((1 + B.length : Nat) : Int) ≤ _; omega⟩, fun e => by have e' : over = 27 := e; omega, fun e => by have e' : over = 1 := e; omega, fun e => by have e' : over = 11 := e; omega⟩) (by simp only [cat_len, List.length_singleton]; omega)
  refine AllOk.cat (c := A.length) (AllOk.one ⟨fun _ => ⟨by show (0 : Int) < ((A.length + 2 : Nat) : Int); omega, by show ((A.length + 2 : Nat) : Int) ≤ _; omega⟩, fun e => by have e' : op = 27 := e; omega, fun e => by have e' : op = 1 := e; omega, fun e => by have e' : op = 11 := e; omega⟩) (g1.more (Nat.le_refl _) p2) (by simp only [List.length_singleton]; omega)
theorem over_ok {nl : Nat} {y : Mk} (hy : AOk nl y) : VOk nl (overM 24 0 y []) := by
  intro K
  obtain ⟨p1, g1, x, hx, ho⟩ := hy K
  refine ⟨p1, ?_⟩
  show AllOk nl (cat (cat [((24 : Int), (0 : Int) + (((y K).1.length + 1 + 0 : Nat) : Int))] (y K).1) []).length (y K).2 (cat (cat [((24 : Int), (0 : Int) + (((y K).1.length + 1 + 0 : Nat) : Int))] (y K).1) [])
  generalize (y K).1 = A at *
  rw [cat_nil, cat_len, List.length_singleton]
  exact AllOk.cat (c := A.length - 1) (AllOk.one ⟨fun _ => ⟨by show (0 : Int) < 0 + ((A.length + 1 + 0 : Nat) : Int); omega, by show (0 : Int) + ((A.length + 1 + 0 : Nat) : Int) ≤ _; omega⟩, (fun e => by cases e), (fun e => by cases e), (fun e => by cases e)⟩) g1 (by simp only [List.length_singleton]; omega)
theorem memo_ok {nl : Nat} {n : Int} {y : Mk} (h0 : 0 ≤ n) (h1 : n < nl) (hy : VOk nl y) : VOk nl (overM 27 (n * 16384) y [(28, n)]) := by
  intro K
  obtain ⟨p1, g1⟩ := hy K
  refine ⟨p1, ?_⟩
  show AllOk nl (cat (cat [((27 : Int), n * 16384 + (((y K).1.length + 1 + 1 : Nat) : Int))] (y K).1) [(28, n)]).length (y K).2 (cat (cat [((27 : Int), n * 16384 + (((y K).1.length + 1 + 1 : Nat) : Int))] (y K).1) [(28, n)])
  generalize (y K).1 = A at *
  have hl : (cat (cat [((27 : Int), n * 16384 + ((A.length + 1 + 1 : Nat) : Int))] A) [((28 : Int), n)]).length = A.length + 2 := by simp only [cat_len, List.length_singleton]; omega
  rw [hl]
  refine AllOk.cat (c := 1) ?_ (AllOk.one (InOk.plain rfl (by show (28 : Int) ≠ 1; decide) (by show (28 : Int) ≠ 11; decide))) (by simp only [cat_len, List.length_singleton]; omega)
  exact AllOk.cat (c := A.length) (AllOk.one ⟨(fun e => by rcases e with e | e | e | e <;> cases e), fun _ => ⟨n, ((A.length + 1 + 1 : Nat) : Int), h0, h1, by show (0 : Int) < _; omega, by omega, rfl⟩, (fun e => by cases e), (fun e => by cases e)⟩) (g1.more (by omega) (List.prefix_refl _)) (by simp only [List.length_singleton]; omega)
end Go.Proofs.YtigldebdljfnbaaDoor
end
section
namespace Go.Proofs.YtigldebdljfnbaaDoor
open Go.RowKit

theorem formed_w {wn cn ln : Int} {t : Co} (h : csort ladF wn cn ln t ≠ 0) : ∃ k : Nat, t.op = (k : Int) ∧ 1 ≤ k ∧ k ≤ 32 ∧ fitsB k wn cn ln t = true ∧ (∀ x, x ∈ t.parts → csort ladF wn cn ln x ≠ 0) ∧ csort ladF wn cn ln t = sortF ladF k t (t.parts.map (csort ladF wn cn ln)) := by
  have e := csort_eq ladF wn cn ln t
  by_cases h1 : 1 ≤ t.op ∧ t.op ≤ 32
  · rw [if_pos h1] at e
    by_cases h2 : fitsB t.op.toNat wn cn ln t = true
    · rw [if_pos h2] at e
      by_cases h3 : (t.parts.map (csort ladF wn cn ln)).contains 0 = true
      · rw [if_pos h3] at e; exact absurd e h
      · rw [if_neg h3] at e
        refine ⟨t.op.toNat, by omega, by omega, by omega, h2, fun x hx hz => h3 ?_, e⟩
        rw [List.contains_iff_mem, List.mem_map]
        exact ⟨x, hx, hz⟩
    · rw [if_neg h2] at e; exact absurd e h
  · rw [if_neg h1] at e; exact absurd e h
theorem mapg0 {f : Co → Int} {l : List Co} (h : l.map f = []) : l = [] := by simpa using h
theorem mapg1 {f : Co → Int} {l : List Co} {a : Int} (h : l.map f = [a]) : ∃ x, l = [x] ∧ f x = a := by
  match l, h with
  | [x], h => exact ⟨x, rfl, by simpa using h⟩
theorem mapg2 {f : Co → Int} {l : List Co} {a b : Int} (h : l.map f = [a, b]) : ∃ x y, l = [x, y] ∧ f x = a ∧ f y = b := by
  match l, h with
  | [x, y], h => exact ⟨x, y, rfl, by simpa using h⟩
theorem mapg3 {f : Co → Int} {l : List Co} {a b c : Int} (h : l.map f = [a, b, c]) : ∃ x y z, l = [x, y, z] ∧ f x = a ∧ f y = b ∧ f z = c := by
  match l, h with
  | [x, y, z], h => exact ⟨x, y, z, rfl, by simpa using h⟩
def Shp (f : Co → Int) (k : Nat) (t : Co) (s : Int) : Prop :=
  ((k ≤ 6 ∨ k = 29) ∧ t.parts = []) ∨
  (k = 7 ∧ (s = 1 ∨ s = 2) ∧ ∃ x, t.parts = [x] ∧ f x = s) ∨
  ((8 ≤ k ∧ k ≤ 13) ∧ s = (if k = 9 then 2 else 1) ∧ ∃ x, t.parts = [x] ∧ f x = s) ∨
  ((14 ≤ k ∧ k ≤ 24) ∧ s = (if 18 ≤ k ∧ k ≤ 22 then 2 else 1) ∧ ∃ x y, t.parts = [x, y] ∧ f x = 1 ∧ f y = 1) ∨
  ((k = 25 ∨ k = 26) ∧ s = 2 ∧ ∃ x y, t.parts = [x, y] ∧ f x = 2 ∧ f y = 2) ∨
  (k = 27 ∧ (s = 1 ∨ s = 2) ∧ ∃ x y, t.parts = [x, y] ∧ f x = s ∧ f y = s) ∨
  (k = 28 ∧ (s = 1 ∨ s = 2) ∧ ∃ x y z, t.parts = [x, y, z] ∧ f x = 2 ∧ f y = s ∧ f z = s) ∨
  ((k = 30 ∨ k = 31) ∧ s = 3 ∧ ∃ x, t.parts = [x] ∧ f x = 1) ∨
  (k = 32 ∧ s = 3 ∧ LadOk t (t.parts.map f))
theorem shp_of {wn cn ln : Int} {t : Co} (h : csort ladF wn cn ln t ≠ 0) : ∃ k : Nat, t.op = (k : Int) ∧ 1 ≤ k ∧ k ≤ 32 ∧ fitsB k wn cn ln t = true ∧ (∀ x, x ∈ t.parts → csort ladF wn cn ln x ≠ 0) ∧ Shp (csort ladF wn cn ln) k t (csort ladF wn cn ln t) := by
  obtain ⟨k, hop, h1, h2, hb, hp, hs⟩ := formed_w h
  refine ⟨k, hop, h1, h2, hb, hp, ?_⟩
  have hzs : sortF ladF k t (t.parts.map (csort ladF wn cn ln)) ≠ 0 := by rw [← hs]; exact h
  have hr := csort_range wn cn ln
  have hks : k = 1 ∨ k = 2 ∨ k = 3 ∨ k = 4 ∨ k = 5 ∨ k = 6 ∨ k = 7 ∨ k = 8 ∨ k = 9 ∨ k = 10 ∨ k = 11 ∨ k = 12 ∨ k = 13 ∨ k = 14 ∨ k = 15 ∨ k = 16 ∨ k = 17 ∨ k = 18 ∨ k = 19 ∨ k = 20 ∨ k = 21 ∨ k = 22 ∨ k = 23 ∨ k = 24 ∨ k = 25 ∨ k = 26 ∨ k = 27 ∨ k = 28 ∨ k = 29 ∨ k = 30 ∨ k = 31 ∨ k = 32 := by omega
  clear h1 h2 hop hb
  generalize csort ladF wn cn ln t = s at h hs
  subst hs
  rcases hks with rfl | rfl | rfl | rfl | rfl | rfl | rfl | rfl | rfl | rfl | rfl | rfl | rfl | rfl | rfl | rfl | rfl | rfl | rfl | rfl | rfl | rfl | rfl | rfl | rfl | rfl | rfl | rfl | rfl | rfl | rfl | rfl
  · obtain ⟨e1, e2⟩ := mk_of (k := 1) (r := 1) (ts := []) rfl hzs
    exact .inl ⟨by omega, mapg0 e1⟩
  · obtain ⟨e1, e2⟩ := mk_of (k := 2) (r := 2) (ts := []) rfl hzs
    exact .inl ⟨by omega, mapg0 e1⟩
  · obtain ⟨e1, e2⟩ := mk_of (k := 3) (r := 1) (ts := []) rfl hzs
    exact .inl ⟨by omega, mapg0 e1⟩
  · obtain ⟨e1, e2⟩ := mk_of (k := 4) (r := 1) (ts := []) rfl hzs
    exact .inl ⟨by omega, mapg0 e1⟩
  · obtain ⟨e1, e2⟩ := mk_of (k := 5) (r := 2) (ts := []) rfl hzs
    exact .inl ⟨by omega, mapg0 e1⟩
  · have e1 : t.parts.map (csort ladF wn cn ln) = [] := by
      apply Classical.byContradiction
      intro h
      exact hzs (if_neg h)
    exact .inl ⟨by omega, mapg0 e1⟩
  · obtain ⟨g1, g2, g3, g4⟩ := alike_of (show alikeF 1 (t.parts.map (csort ladF wn cn ln)) ≠ 0 from hzs)
    obtain ⟨x, q⟩ := len1 (l := t.parts) (by simpa using g1)
    rw [q] at g2 g4
    have g5 : sortF ladF 7 t (t.parts.map (csort ladF wn cn ln)) = csort ladF wn cn ln x := by rw [q]; exact g4
    have g6 : csort ladF wn cn ln x ≠ 3 := g2
    have := hr x
    have := hp x (by rw [q]; simp)
    exact .inr (.inl ⟨rfl, by rw [g5]; omega, x, q, g5.symm⟩)
  · obtain ⟨e1, e2⟩ := mk_of (k := 8) (r := 1) (ts := [1]) rfl hzs
    obtain ⟨x, q, q0⟩ := mapg1 e1
    exact .inr (.inr (.inl ⟨by omega, by rw [e2]; rfl, x, q, by rw [e2, q0]⟩))
  · obtain ⟨e1, e2⟩ := mk_of (k := 9) (r := 2) (ts := [2]) rfl hzs
    obtain ⟨x, q, q0⟩ := mapg1 e1
    exact .inr (.inr (.inl ⟨by omega, by rw [e2]; rfl, x, q, by rw [e2, q0]⟩))
  · obtain ⟨e1, e2⟩ := mk_of (k := 10) (r := 1) (ts := [1]) rfl hzs
    obtain ⟨x, q, q0⟩ := mapg1 e1
    exact .inr (.inr (.inl ⟨by omega, by rw [e2]; rfl, x, q, by rw [e2, q0]⟩))
  · obtain ⟨e1, e2⟩ := mk_of (k := 11) (r := 1) (ts := [1]) rfl hzs
    obtain ⟨x, q, q0⟩ := mapg1 e1
    exact .inr (.inr (.inl ⟨by omega, by rw [e2]; rfl, x, q, by rw [e2, q0]⟩))
  · obtain ⟨e1, e2⟩ := mk_of (k := 12) (r := 1) (ts := [1]) rfl hzs
    obtain ⟨x, q, q0⟩ := mapg1 e1
    exact .inr (.inr (.inl ⟨by omega, by rw [e2]; rfl, x, q, by rw [e2, q0]⟩))
  · obtain ⟨e1, e2⟩ := mk_of (k := 13) (r := 1) (ts := [1]) rfl hzs
    obtain ⟨x, q, q0⟩ := mapg1 e1
    exact .inr (.inr (.inl ⟨by omega, by rw [e2]; rfl, x, q, by rw [e2, q0]⟩))
  · obtain ⟨e1, e2⟩ := mk_of (k := 14) (r := 1) (ts := [1, 1]) rfl hzs
    obtain ⟨x, y, q, q0, q1⟩ := mapg2 e1
    exact .inr (.inr (.inr (.inl ⟨by omega, by rw [e2]; rfl, x, y, q, q0, q1⟩)))
  · obtain ⟨e1, e2⟩ := mk_of (k := 15) (r := 1) (ts := [1, 1]) rfl hzs
    obtain ⟨x, y, q, q0, q1⟩ := mapg2 e1
    exact .inr (.inr (.inr (.inl ⟨by omega, by rw [e2]; rfl, x, y, q, q0, q1⟩)))
  · obtain ⟨e1, e2⟩ := mk_of (k := 16) (r := 1) (ts := [1, 1]) rfl hzs
    obtain ⟨x, y, q, q0, q1⟩ := mapg2 e1
    exact .inr (.inr (.inr (.inl ⟨by omega, by rw [e2]; rfl, x, y, q, q0, q1⟩)))
  · obtain ⟨e1, e2⟩ := mk_of (k := 17) (r := 1) (ts := [1, 1]) rfl hzs
    obtain ⟨x, y, q, q0, q1⟩ := mapg2 e1
    exact .inr (.inr (.inr (.inl ⟨by omega, by rw [e2]; rfl, x, y, q, q0, q1⟩)))
  · obtain ⟨e1, e2⟩ := mk_of (k := 18) (r := 2) (ts := [1, 1]) rfl hzs
    obtain ⟨x, y, q, q0, q1⟩ := mapg2 e1
    exact .inr (.inr (.inr (.inl ⟨by omega, by rw [e2]; rfl, x, y, q, q0, q1⟩)))
  · obtain ⟨e1, e2⟩ := mk_of (k := 19) (r := 2) (ts := [1, 1]) rfl hzs
    obtain ⟨x, y, q, q0, q1⟩ := mapg2 e1
    exact .inr (.inr (.inr (.inl ⟨by omega, by rw [e2]; rfl, x, y, q, q0, q1⟩)))
  · obtain ⟨e1, e2⟩ := mk_of (k := 20) (r := 2) (ts := [1, 1]) rfl hzs
    obtain ⟨x, y, q, q0, q1⟩ := mapg2 e1
    exact .inr (.inr (.inr (.inl ⟨by omega, by rw [e2]; rfl, x, y, q, q0, q1⟩)))
  · obtain ⟨e1, e2⟩ := mk_of (k := 21) (r := 2) (ts := [1, 1]) rfl hzs
    obtain ⟨x, y, q, q0, q1⟩ := mapg2 e1
    exact .inr (.inr (.inr (.inl ⟨by omega, by rw [e2]; rfl, x, y, q, q0, q1⟩)))
  · obtain ⟨e1, e2⟩ := mk_of (k := 22) (r := 2) (ts := [1, 1]) rfl hzs
    obtain ⟨x, y, q, q0, q1⟩ := mapg2 e1
    exact .inr (.inr (.inr (.inl ⟨by omega, by rw [e2]; rfl, x, y, q, q0, q1⟩)))
  · obtain ⟨e1, e2⟩ := mk_of (k := 23) (r := 1) (ts := [1, 1]) rfl hzs
    obtain ⟨x, y, q, q0, q1⟩ := mapg2 e1
    exact .inr (.inr (.inr (.inl ⟨by omega, by rw [e2]; rfl, x, y, q, q0, q1⟩)))
  · obtain ⟨e1, e2⟩ := mk_of (k := 24) (r := 1) (ts := [1, 1]) rfl hzs
    obtain ⟨x, y, q, q0, q1⟩ := mapg2 e1
    exact .inr (.inr (.inr (.inl ⟨by omega, by rw [e2]; rfl, x, y, q, q0, q1⟩)))
  · obtain ⟨e1, e2⟩ := mk_of (k := 25) (r := 2) (ts := [2, 2]) rfl hzs
    obtain ⟨x, y, q, q0, q1⟩ := mapg2 e1
    exact .inr (.inr (.inr (.inr (.inl ⟨by omega, e2, x, y, q, q0, q1⟩))))
  · obtain ⟨e1, e2⟩ := mk_of (k := 26) (r := 2) (ts := [2, 2]) rfl hzs
    obtain ⟨x, y, q, q0, q1⟩ := mapg2 e1
    exact .inr (.inr (.inr (.inr (.inl ⟨by omega, e2, x, y, q, q0, q1⟩))))
  · obtain ⟨g1, g2, g3, g4⟩ := alike_of (show alikeF 2 (t.parts.map (csort ladF wn cn ln)) ≠ 0 from hzs)
    obtain ⟨x, y, q⟩ := len2 (l := t.parts) (by simpa using g1)
    rw [q] at g2 g3 g4
    have g5 : sortF ladF 27 t (t.parts.map (csort ladF wn cn ln)) = csort ladF wn cn ln x := by rw [q]; exact g4
    have g6 : csort ladF wn cn ln x ≠ 3 := g2
    have g7 : csort ladF wn cn ln y = csort ladF wn cn ln x := g3 _ (by simp)
    have := hr x
    have := hp x (by rw [q]; simp)
    exact .inr (.inr (.inr (.inr (.inr (.inl ⟨rfl, by rw [g5]; omega, x, y, q, g5.symm, by rw [g5, g7]⟩)))))
  · have hz3 : choiceF (t.parts.map (csort ladF wn cn ln)) ≠ 0 := hzs
    obtain ⟨a, e, ea⟩ := choice_of hz3
    obtain ⟨x, y, z, q, q0, q1, q2⟩ := mapg3 e
    have ea' : sortF ladF 28 t (t.parts.map (csort ladF wn cn ln)) = a := ea
    have hn3 : a ≠ 3 := fun e3 => by
      rw [e, e3] at hz3
      exact hz3 (by decide)
    have := hr y
    have := hp y (by rw [q]; simp)
    exact .inr (.inr (.inr (.inr (.inr (.inr (.inl ⟨rfl, by rw [ea']; omega, x, y, z, q, q0, by rw [ea', q1], by rw [ea', q2]⟩))))))
  · obtain ⟨e1, e2⟩ := mk_of (k := 29) (r := 3) (ts := []) rfl hzs
    exact .inl ⟨by omega, mapg0 e1⟩
  · obtain ⟨e1, e2⟩ := mk_of (k := 30) (r := 3) (ts := [1]) rfl hzs
    obtain ⟨x, q, q0⟩ := mapg1 e1
    exact .inr (.inr (.inr (.inr (.inr (.inr (.inr (.inl ⟨by omega, e2, x, q, q0⟩)))))))
  · obtain ⟨e1, e2⟩ := mk_of (k := 31) (r := 3) (ts := [1]) rfl hzs
    obtain ⟨x, q, q0⟩ := mapg1 e1
    exact .inr (.inr (.inr (.inr (.inr (.inr (.inr (.inl ⟨by omega, e2, x, q, q0⟩)))))))
  · have hz2 : ladF t (t.parts.map (csort ladF wn cn ln)) ≠ 0 := hzs
    have hl : LadOk t (t.parts.map (csort ladF wn cn ln)) := (ladB_iff _ _).1 (by
      unfold ladF at hz2
      split at hz2
      · assumption
      · exact absurd rfl hz2)
    exact .inr (.inr (.inr (.inr (.inr (.inr (.inr (.inr ⟨rfl, ladF_yes hl, hl⟩)))))))
end Go.Proofs.YtigldebdljfnbaaDoor
end
section
namespace Go.Proofs.YtigldebdljfnbaaDoor

theorem rung_ok {nl : Nat} : ∀ (n : Nat) (l : List Co), l.length = 2 * n + 1 → (∀ j x, l[j]? = some x → j % 2 = 1 ∨ j + 1 = l.length → AOk nl (codF x)) → AOk nl (rungM (l.map fun x => (x, codF x)))
  | 0, [a], _, H => thenM_act (insM_ok nl 33 0 rfl (by decide) (by decide)) (H 0 a rfl (.inr rfl))
  | n + 1, b :: a :: r, hl, H => by
    have h1 : AOk nl (codF a) := H 1 a rfl (.inl rfl)
    have h2 := rung_ok n r (by simp at hl; omega) (fun j x hx hj => H (j + 2) x hx (by simp; omega))
    exact thenM_act (thenM_ok (insM_ok nl 32 0 rfl (by decide) (by decide)) (thenM_ok (numM_ok nl b.n) (insM_ok nl 16 0 rfl (by decide) (by decide)))) (thenM_act (over_ok (thenM_act (insM_ok nl 33 0 rfl (by decide) (by decide)) h1)) h2)
theorem codO_num {c : Co} (ms : List Mk) (h : c.op = 1 ∨ c.op = 2) : codO c ms = numM c.n := if_pos h
theorem codO_rest {c : Co} (ms : List Mk) (h : c.op ≠ 1 ∧ c.op ≠ 2 ∧ c.op ≠ 7 ∧ c.op ≠ 13 ∧ c.op ≠ 25 ∧ c.op ≠ 26 ∧ c.op ≠ 28 ∧ c.op ≠ 27 ∧ c.op ≠ 32) : codO c ms = thenM (allM ms) (insM (plnI c.op) c.n) := by
  obtain ⟨h1, h2, h3, h4, h5, h6, h7, h8, h9⟩ := h
  unfold codO
  rw [if_neg (by omega), if_neg h3, if_neg h4, if_neg h5, if_neg h6, if_neg h7, if_neg h8, if_neg h9]
theorem plain_ok {nl : Nat} {op a : Int} (h : 3 ≤ op ∧ op ≤ 24) (h13 : op ≠ 13) : VOk nl (insM (plnI op) a) := by
  have hb : plnI op ≠ 1 ∧ plnI op ≠ 11 ∧ plnI op < 23 := by
    unfold plnI
    split
    · omega
    · split
      · omega
      · split <;> omega
  refine insM_ok nl _ _ ?_ hb.1 hb.2.1
  unfold jmpB
  simp only [Bool.or_eq_false_iff, beq_eq_false_iff_ne, ne_eq]
  omega
theorem leaf_sort {wn cn ln : Int} {t : Co} {k : Nat} (h : csort ladF wn cn ln t ≠ 0) (hop : t.op = (k : Int)) (hk : k ≤ 6 ∨ k = 29) (hps : t.parts = []) : (k = 29 ∧ csort ladF wn cn ln t = 3) ∨ (k ≤ 6 ∧ (csort ladF wn cn ln t = 1 ∨ csort ladF wn cn ln t = 2)) := by
  obtain ⟨k', hop', h1, h2, hb, hp, hs⟩ := formed_w h
  obtain rfl : k' = k := by omega
  rw [hps] at hs
  have hc : k' = 1 ∨ k' = 2 ∨ k' = 3 ∨ k' = 4 ∨ k' = 5 ∨ k' = 6 ∨ k' = 29 := by omega
  rcases hc with rfl | rfl | rfl | rfl | rfl | rfl | rfl
  · exact .inr ⟨by omega, .inl (hs.trans rfl)⟩
  · exact .inr ⟨by omega, .inr (hs.trans rfl)⟩
  · exact .inr ⟨by omega, .inl (hs.trans rfl)⟩
  · exact .inr ⟨by omega, .inl (hs.trans rfl)⟩
  · exact .inr ⟨by omega, .inr (hs.trans rfl)⟩
  · refine .inr ⟨by omega, ?_⟩
    have e : csort ladF wn cn ln t = t.m := hs.trans rfl
    have hb' : (decide (1 ≤ t.n) && (decide (t.n ≤ 3) && (decide (t.m = 1) || decide (t.m = 2)))) = true := hb
    simp only [Bool.and_eq_true, Bool.or_eq_true, decide_eq_true_eq] at hb'
    rw [e]
    exact hb'.2.2
  · exact .inl ⟨rfl, hs.trans rfl⟩
theorem cod_ok {wn cn : Int} {nl : Nat} : ∀ (t : Co), csort ladF wn cn nl t ≠ 0 → ((csort ladF wn cn nl t = 1 ∨ csort ladF wn cn nl t = 2) → VOk nl (codF t)) ∧ (csort ladF wn cn nl t = 3 → AOk nl (codF t)) := by
  refine Co.ind fun t ih hz => ?_
  obtain ⟨k, hop, h1, h2, hb, hp, hs⟩ := shp_of hz
  have iv : ∀ x, x ∈ t.parts → (csort ladF wn cn nl x = 1 ∨ csort ladF wn cn nl x = 2) → VOk nl (codF x) := fun x hx h => (ih x hx (hp x hx)).1 h
  have ia : ∀ x, x ∈ t.parts → csort ladF wn cn nl x = 3 → AOk nl (codF x) := fun x hx h => (ih x hx (hp x hx)).2 h
  have hlf := leaf_sort hz hop
  rw [codF_eq]
  generalize csort ladF wn cn nl t = s at hz hs hlf
  rcases hs with ⟨hk, hps⟩ | ⟨hk, hs, x, hps, hx⟩ | ⟨hk, hs, x, hps, hx⟩ | ⟨hk, hs, x, y, hps, hx, hy⟩ | ⟨hk, hs, x, y, hps, hx, hy⟩ | ⟨hk, hs, x, y, hps, hx, hy⟩ | ⟨hk, hs, x, y, z, hps, hx, hy, hzz⟩ | ⟨hk, hs, x, hps, hx⟩ | ⟨hk, hs, hl⟩
  · rcases hlf hk hps with ⟨rfl, rfl⟩ | ⟨h6, hs⟩
    · rw [codO_rest _ (by omega), hps, hop]
      exact ⟨fun h => by omega, fun _ => thenM_act (allM_ok _ (fun m hm => by cases hm)) (insM_act nl _ _ (.inl rfl))⟩
    · refine ⟨fun _ => ?_, fun h => by omega⟩
      by_cases h12 : t.op = 1 ∨ t.op = 2
      · rw [codO_num _ h12]
        exact numM_ok nl t.n
      · rw [codO_rest _ (by omega), hps]
        exact thenM_ok (allM_ok _ (fun m hm => by cases hm)) (plain_ok (by omega) (by omega))
  · subst hk
    refine ⟨fun _ => ?_, fun h => by omega⟩
    have hb' : (belowB t.n nl && decide (t.m = 0)) = true := hb
    unfold belowB at hb'
    simp only [Bool.and_eq_true, decide_eq_true_eq] at hb'
    rw [show codO t (t.parts.map codF) = overM 27 (t.n * 16384) ((t.parts.map codF).getD 0 (allM [])) [(28, t.n)] by unfold codO; rw [if_neg (by omega), if_pos (by omega)], hps]
    exact memo_ok hb'.1.1 hb'.1.2 (iv x (by rw [hps]; simp) (by omega))
  · refine ⟨fun _ => ?_, fun h => by split at hs <;> omega⟩
    have hv := iv x (by rw [hps]; simp) (by rw [hx, hs]; split <;> simp)
    by_cases h13 : k = 13
    · subst h13
      rw [show codO t (t.parts.map codF) = thenM ((t.parts.map codF).getD 0 (allM [])) (scaM t.n t.m) by unfold codO; rw [if_neg (by omega), if_neg (by omega), if_pos (by omega)], hps]
      exact thenM_ok hv (scaM_ok nl t.n t.m)
    · rw [codO_rest _ (by omega), hps]
      exact thenM_ok (allM_ok _ (fun m hm => by simp at hm; rw [hm]; exact hv)) (plain_ok (by omega) (by omega))
  · refine ⟨fun _ => ?_, fun h => by split at hs <;> omega⟩
    have hv := iv x (by rw [hps]; simp) (by omega)
    have hw := iv y (by rw [hps]; simp) (by omega)
    rw [codO_rest _ (by omega), hps]
    exact thenM_ok (allM_ok _ (fun m hm => by simp at hm; rcases hm with rfl | rfl; exact hv; exact hw)) (plain_ok (by omega) (by omega))
  · refine ⟨fun _ => ?_, fun h => by omega⟩
    have hv := iv x (by rw [hps]; simp) (by omega)
    have hw := iv y (by rw [hps]; simp) (by omega)
    rcases hk with rfl | rfl
    · rw [show codO t (t.parts.map codF) = thenM ((t.parts.map codF).getD 0 (allM [])) (forkM 24 23 ((t.parts.map codF).getD 1 (allM [])) (numM 0)) by unfold codO; rw [if_neg (by omega), if_neg (by omega), if_neg (by omega), if_pos (by omega)], hps]
      exact thenM_ok hv (forkM_ok (.inl rfl) (.inl rfl) hw (numM_ok nl 0))
    · rw [show codO t (t.parts.map codF) = thenM ((t.parts.map codF).getD 0 (allM [])) (forkM 24 23 (numM 1) ((t.parts.map codF).getD 1 (allM []))) by unfold codO; rw [if_neg (by omega), if_neg (by omega), if_neg (by omega), if_neg (by omega), if_pos (by omega)], hps]
      exact thenM_ok hv (forkM_ok (.inl rfl) (.inl rfl) (numM_ok nl 1) hw)
  · subst hk
    refine ⟨fun _ => ?_, fun h => by omega⟩
    have hv := iv x (by rw [hps]; simp) (by omega)
    have hw := iv y (by rw [hps]; simp) (by omega)
    rw [show codO t (t.parts.map codF) = forkM 25 26 ((t.parts.map codF).getD 0 (allM [])) ((t.parts.map codF).getD 1 (allM [])) by unfold codO; rw [if_neg (by omega), if_neg (by omega), if_neg (by omega), if_neg (by omega), if_neg (by omega), if_neg (by omega), if_pos (by omega)], hps]
    exact forkM_ok (.inr rfl) (.inr rfl) hv hw
  · subst hk
    refine ⟨fun _ => ?_, fun h => by omega⟩
    have hv := iv x (by rw [hps]; simp) (by omega)
    have hw := iv y (by rw [hps]; simp) (by omega)
    have hu := iv z (by rw [hps]; simp) (by omega)
    rw [show codO t (t.parts.map codF) = thenM ((t.parts.map codF).getD 0 (allM [])) (forkM 24 23 ((t.parts.map codF).getD 1 (allM [])) ((t.parts.map codF).getD 2 (allM []))) by unfold codO; rw [if_neg (by omega), if_neg (by omega), if_neg (by omega), if_neg (by omega), if_neg (by omega), if_pos (by omega)], hps]
    exact thenM_ok hv (forkM_ok (.inl rfl) (.inl rfl) hw hu)
  · refine ⟨fun h => by omega, fun _ => ?_⟩
    have hv := iv x (by rw [hps]; simp) (by omega)
    rw [codO_rest _ (by omega), hps]
    refine thenM_act (allM_ok _ (fun m hm => by simp at hm; rw [hm]; exact hv)) (insM_act nl _ _ ?_)
    unfold plnI
    rw [if_neg (by omega), if_neg (by omega), if_neg (by omega)]
    omega
  · subst hk
    refine ⟨fun h => by omega, fun _ => ?_⟩
    obtain ⟨l2, lm, l0, l3, lst⟩ := hl
    rw [List.length_map] at l2 lm l3 lst
    cases hpp : t.parts with
    | nil => rw [hpp] at l2; simp at l2
    | cons a r =>
      rw [hpp] at l2 lm l0 l3 lst
      simp only [List.length_cons] at l2 lm l3 lst
      rw [show codO t ((a :: r).map codF) = thenM (((a :: r).map codF).getD 0 (allM [])) (rungM ((t.parts.zip ((a :: r).map codF)).drop 1)) by unfold codO; rw [if_neg (by omega), if_neg (by omega), if_neg (by omega), if_neg (by omega), if_neg (by omega), if_neg (by omega), if_neg (by omega), if_pos (by omega)], hpp]
      have hv := iv a (by rw [hpp]; simp) (by left; simpa using l0)
      have hz : ((a :: r).zip ((a :: r).map codF)).drop 1 = r.map fun x => (x, codF x) := by
        rw [List.map_cons, List.zip_cons_cons, List.drop_succ_cons, List.drop_zero]
        clear l2 lm l0 l3 lst hv hpp
        induction r with
        | nil => rfl
        | cons b r ih => rw [List.map_cons, List.map_cons, List.zip_cons_cons, ih]
      rw [hz]
      refine thenM_act hv (rung_ok (r.length / 2) r (by omega) (fun j x hx hj => ia x (by rw [hpp]; exact List.mem_cons_of_mem _ (List.mem_of_getElem? hx)) ?_))
      obtain ⟨hjl, hjx⟩ := List.getElem?_eq_some_iff.1 hx
      have hxx : (((a :: r).map (csort ladF wn cn nl)).getD (j + 1) 0) = csort ladF wn cn nl x := by simp [List.getD, hx]
      rcases hj with hj | hj
      · have h3 := (lst j hj (by omega)).2.1
        rw [hxx] at h3
        exact h3
      · rw [show r.length + 1 - 1 = j + 1 by omega, hxx] at l3
        exact l3

theorem numK_len (K : List Int) (n : Int) : (numK K n).length ≤ K.length + 1 := by
  unfold numK
  split
  · omega
  · simp
theorem pairK_len (K : List Int) (a b : Int) : (pairK K a b).length ≤ K.length + 2 := by
  unfold pairK
  split
  · omega
  · split <;> simp
def LB (m : Mk) (a b : Nat) : Prop := ∀ K, (m K).1.length ≤ a ∧ (m K).2.length ≤ K.length + b
theorem LB.weak {m : Mk} {a b a' b' : Nat} (h : LB m a b) (ha : a ≤ a') (hb : b ≤ b') : LB m a' b' := fun K => ⟨by have := (h K).1; omega, by have := (h K).2; omega⟩
theorem numM_lb (n : Int) : LB (numM n) 1 1 := fun K => ⟨Nat.le_refl _, numK_len K n⟩
theorem insM_lb (op a : Int) : LB (insM op a) 1 0 := fun _ => ⟨Nat.le_refl _, Nat.le_refl _⟩
theorem scaM_lb (n m : Int) : LB (scaM n m) 1 2 := fun K => ⟨Nat.le_refl _, pairK_len K n m⟩
theorem thenM_lb {x y : Mk} {a b c d : Nat} (h : LB x a b) (k : LB y c d) : LB (thenM x y) (a + c) (b + d) := fun K => by
  have h1 := h K
  have h2 := k (x K).2
  refine ⟨?_, ?_⟩
  · show (cat (x K).1 (y (x K).2).1).length ≤ _
    rw [cat_len]; omega
  · show (y (x K).2).2.length ≤ _
    omega
theorem forkM_lb {op over : Int} {x y : Mk} {a b c d : Nat} (h : LB x a b) (k : LB y c d) : LB (forkM op over x y) (a + c + 2) (b + d) := fun K => by
  have h1 := h K
  have h2 := k (x K).2
  refine ⟨?_, ?_⟩
  · show (cat (cat (cat [(op, (((x K).1.length + 2 : Nat) : Int))] (x K).1) [(over, ((1 + (y (x K).2).1.length : Nat) : Int))]) (y (x K).2).1).length ≤ _
    simp only [cat_len, List.length_singleton]; omega
  · show (y (x K).2).2.length ≤ _
    omega
theorem overM_lb {op more : Int} {x : Mk} {a b : Nat} (e : List Ins) (h : LB x a b) : LB (overM op more x e) (a + 1 + e.length) b := fun K => by
  have h1 := h K
  refine ⟨?_, ?_⟩
  · show (cat (cat [(op, more + (((x K).1.length + 1 + e.length : Nat) : Int))] (x K).1) e).length ≤ _
    simp only [cat_len, List.length_singleton]; omega
  · show (x K).2.length ≤ _
    omega
theorem nil_lb : LB (allM []) 0 0 := fun _ => ⟨Nat.le_refl _, Nat.le_refl _⟩
def CLB (x : Co) : Prop := LB (codF x) (6 * cnodes x) (2 * cnodes x)
theorem allM_lb : ∀ (l : List Co), (∀ x, x ∈ l → CLB x) → LB (allM (l.map codF)) (6 * cnodesL l) (2 * cnodesL l)
  | [], _ => nil_lb
  | x :: r, h => by
    rw [cnodesL_cons, Nat.mul_add, Nat.mul_add]
    exact thenM_lb (h x (by simp)) (allM_lb r (fun y hy => h y (by simp [hy])))
theorem rung_lb : ∀ (l : List Co), (∀ x, x ∈ l → CLB x) → LB (rungM (l.map fun x => (x, codF x))) (6 * cnodesL l + 1) (2 * cnodesL l)
  | [], _ => insM_lb 33 0
  | [a], h => by
    have := thenM_lb (insM_lb 33 0) (h a (by simp))
    rw [cnodesL_cons, cnodesL_nil]
    exact this.weak (by omega) (by omega)
  | b :: a :: r, h => by
    have h1 := thenM_lb (thenM_lb (insM_lb 32 0) (thenM_lb (numM_lb b.n) (insM_lb 16 0))) (thenM_lb (overM_lb (op := 24) (more := 0) [] (thenM_lb (insM_lb 33 0) (h a (by simp)))) (rung_lb r (fun y hy => h y (by simp [hy]))))
    have := cnodes_pos b
    rw [cnodesL_cons, cnodesL_cons]
    exact h1.weak (by simp only [List.length_nil]; omega) (by omega)
theorem zip_cod (r : List Co) : r.zip (r.map codF) = r.map fun x => (x, codF x) := by
  induction r with
  | nil => rfl
  | cons b r ih => rw [List.map_cons, List.map_cons, List.zip_cons_cons, ih]
theorem get_lb {l : List Co} (h : ∀ x, x ∈ l → CLB x) : ∃ a b c : Nat, a + b + c ≤ cnodesL l ∧ LB ((l.map codF).getD 0 (allM [])) (6 * a) (2 * a) ∧ LB ((l.map codF).getD 1 (allM [])) (6 * b) (2 * b) ∧ LB ((l.map codF).getD 2 (allM [])) (6 * c) (2 * c) := by
  match l, h with
  | [], _ => exact ⟨0, 0, 0, by simp [cnodesL_nil], nil_lb, nil_lb, nil_lb⟩
  | [x], h => exact ⟨cnodes x, 0, 0, by rw [cnodesL_cons]; omega, h x (by simp), nil_lb, nil_lb⟩
  | [x, y], h => exact ⟨cnodes x, cnodes y, 0, by rw [cnodesL_cons, cnodesL_cons]; omega, h x (by simp), h y (by simp), nil_lb⟩
  | x :: y :: z :: r, h => exact ⟨cnodes x, cnodes y, cnodes z, by rw [cnodesL_cons, cnodesL_cons, cnodesL_cons]; omega, h x (by simp), h y (by simp), h z (by simp)⟩
theorem cod_lb (t : Co) : CLB t := by
  induction t using Co.ind with
  | h t ih =>
    unfold CLB
    rw [cnodes_eq, codF_eq]
    obtain ⟨a, b, c, hs, h0, h1, h2⟩ := get_lb ih
    unfold codO
    split
    · exact (numM_lb t.n).weak (by omega) (by omega)
    · split
      · exact (overM_lb [(28, t.n)] h0).weak (by simp only [List.length_singleton]; omega) (by omega)
      · split
        · exact (thenM_lb h0 (scaM_lb t.n t.m)).weak (by omega) (by omega)
        · split
          · exact (thenM_lb h0 (forkM_lb h1 (numM_lb 0))).weak (by omega) (by omega)
          · split
            · exact (thenM_lb h0 (forkM_lb (numM_lb 1) h1)).weak (by omega) (by omega)
            · split
              · exact (thenM_lb h0 (forkM_lb h1 h2)).weak (by omega) (by omega)
              · split
                · exact (forkM_lb h0 h1).weak (by omega) (by omega)
                · split
                  · rw [zip_cod]
                    cases hp : t.parts with
                    | nil =>
                      rw [hp] at h0 hs
                      exact (thenM_lb nil_lb (insM_lb 33 0)).weak (by omega) (by omega)
                    | cons x r =>
                      have hr := rung_lb r (fun y hy => ih y (by rw [hp]; simp [hy]))
                      have hx := ih x (by rw [hp]; simp)
                      rw [cnodesL_cons]
                      exact (thenM_lb hx hr).weak (by omega) (by omega)
                  · exact (thenM_lb (allM_lb t.parts ih) (insM_lb _ _)).weak (by omega) (by omega)
def benF (k : Int) (i : Nat) (op : Int) : Nat := if 14 ≤ k ∧ k ≤ 24 then i else if k = 32 ∧ 0 < i ∧ op = 1 then 2 else 0
def hL (k : Int) : Nat → List (Int × Nat) → Nat
  | _, [] => 0
  | i, x :: r => max (benF k i x.1 + x.2) (hL k (i + 1) r)
def hO (k : Int) (l : List (Int × Nat)) : Nat := if k = 29 then 0 else if l.length = 0 then 1 else hL k 0 l
def hgtF : Co → Nat
  | ⟨k, _, _, ps⟩ => hO k ((ps.map Co.op).zip (ps.map hgtF))
def hP (l : List Co) : List (Int × Nat) := l.map fun x => (x.op, hgtF x)
theorem hgtF_eq (t : Co) : hgtF t = hO t.op (hP t.parts) := by
  cases t with
  | mk k n m ps =>
    rw [hgtF]
    show hO k _ = hO k _
    congr 1
    unfold hP
    induction ps with
    | nil => rfl
    | cons x r ih => rw [List.map_cons, List.map_cons, List.map_cons, List.zip_cons_cons, ih]
theorem hP_len (l : List Co) : (hP l).length = l.length := by simp [hP]
theorem hL_sum (k : Int) : ∀ (l : List Co) (i : Nat), (∀ x, x ∈ l → hgtF x ≤ 3 * cnodes x) → hL k i (hP l) ≤ 3 * cnodesL l + i + 2
  | [], i, _ => by simp [hL, hP]
  | x :: r, i, h => by
    have h1 := hL_sum k r (i + 1) (fun y hy => h y (by simp [hy]))
    have h2 := h x (by simp)
    have h3 := cnodes_pos x
    rw [cnodesL_cons]
    show max (benF k i x.op + hgtF x) (hL k (i + 1) (hP r)) ≤ _
    have : benF k i x.op ≤ i + 2 := by unfold benF; split; omega; split <;> omega
    omega
theorem hgt_le (t : Co) : hgtF t ≤ 3 * cnodes t := by
  induction t using Co.ind with
  | h t ih =>
    rw [hgtF_eq, cnodes_eq]
    unfold hO
    split
    · omega
    · split
      · omega
      · have := hL_sum t.op t.parts 0 ih
        omega

theorem ben_low (k : Int) (i : Nat) (op : Int) (h : ¬ (14 ≤ k ∧ k ≤ 24)) (h2 : k ≠ 32) : benF k i op = 0 := by
  unfold benF
  rw [if_neg h, if_neg (by omega)]
theorem ben_first (k : Int) (op : Int) : benF k 0 op = 0 := by
  unfold benF
  split
  · rfl
  · rw [if_neg (by omega)]
theorem hgt_leaf {t : Co} (h : t.parts = []) (h29 : t.op ≠ 29) : hgtF t = 1 := by
  rw [hgtF_eq, h]
  unfold hO
  rw [if_neg h29]
  rfl
theorem hgt_hold {t : Co} (h29 : t.op = 29) : hgtF t = 0 := by
  rw [hgtF_eq]
  unfold hO
  rw [if_pos h29]
theorem hgt_many {t : Co} (h : t.parts ≠ []) (h29 : t.op ≠ 29) : hgtF t = hL t.op 0 (hP t.parts) := by
  rw [hgtF_eq]
  unfold hO
  rw [if_neg h29, if_neg]
  rw [hP_len]
  exact fun e => h (List.eq_nil_of_length_eq_zero e)
theorem hgt_1 {t x : Co} (h : t.parts = [x]) (h29 : t.op ≠ 29) : hgtF t = hgtF x := by
  rw [hgt_many (by rw [h]; simp) h29, h]
  show max (benF t.op 0 x.op + hgtF x) 0 = _
  rw [ben_first]
  omega
theorem hgt_2 {t x y : Co} (h : t.parts = [x, y]) (h29 : t.op ≠ 29) (h32 : t.op ≠ 32) : hgtF t = max (hgtF x) ((if 14 ≤ t.op ∧ t.op ≤ 24 then 1 else 0) + hgtF y) := by
  rw [hgt_many (by rw [h]; simp) h29, h]
  show max (benF t.op 0 x.op + hgtF x) (max (benF t.op 1 y.op + hgtF y) 0) = _
  rw [ben_first]
  have : benF t.op 1 y.op = if 14 ≤ t.op ∧ t.op ≤ 24 then 1 else 0 := by
    unfold benF
    split
    · rfl
    · rw [if_neg (by omega)]
  rw [this]
  omega
theorem hgt_3 {t x y z : Co} (h : t.parts = [x, y, z]) (h28 : t.op = 28) : hgtF t = max (hgtF x) (max (hgtF y) (hgtF z)) := by
  rw [hgt_many (by rw [h]; simp) (by omega), h]
  show max (benF t.op 0 x.op + hgtF x) (max (benF t.op 1 y.op + hgtF y) (max (benF t.op 2 z.op + hgtF z) 0)) = _
  rw [ben_low _ _ _ (by omega) (by omega), ben_low _ _ _ (by omega) (by omega), ben_low _ _ _ (by omega) (by omega)]
  omega
theorem hgt_pos {wn cn ln : Int} : ∀ (t : Co), csort ladF wn cn ln t = 1 ∨ csort ladF wn cn ln t = 2 → 1 ≤ hgtF t := by
  refine Co.ind fun t ih hz => ?_
  obtain ⟨k, hop, h1, h2, -, hp, hs⟩ := shp_of (show csort ladF wn cn ln t ≠ 0 by omega)
  have hlf := leaf_sort (show csort ladF wn cn ln t ≠ 0 by omega) hop
  generalize csort ladF wn cn ln t = s at hz hs hlf
  rcases hs with ⟨hk, hps⟩ | ⟨hk, hs, x, hps, hx⟩ | ⟨hk, hs, x, hps, hx⟩ | ⟨hk, hs, x, y, hps, hx, hy⟩ | ⟨hk, hs, x, y, hps, hx, hy⟩ | ⟨hk, hs, x, y, hps, hx, hy⟩ | ⟨hk, hs, x, y, z, hps, hx, hy, hzz⟩ | ⟨hk, hs, x, hps, hx⟩ | ⟨hk, hs, hl⟩
  · rcases hlf hk hps with ⟨-, rfl⟩ | ⟨h6, -⟩
    · omega
    · rw [hgt_leaf hps (by omega)]
      omega
  · rw [hgt_1 hps (by omega)]
    exact ih x (by rw [hps]; simp) (by omega)
  · rw [hgt_1 hps (by omega)]
    exact ih x (by rw [hps]; simp) (by rw [hx, hs]; split <;> simp)
  · rw [hgt_2 hps (by omega) (by omega)]
    have := ih x (by rw [hps]; simp) (by omega)
    omega
  · rw [hgt_2 hps (by omega) (by omega)]
    have := ih x (by rw [hps]; simp) (by omega)
    omega
  · rw [hgt_2 hps (by omega) (by omega)]
    have := ih x (by rw [hps]; simp) (by omega)
    omega
  · rw [hgt_3 hps (by omega)]
    have := ih x (by rw [hps]; simp) (by omega)
    omega
  · omega
  · omega
def hR : List Co → Nat
  | _ :: a :: r => max 3 (max (hgtF a) (hR r))
  | [a] => max 1 (hgtF a)
  | [] => 1
theorem hR_eq : ∀ (n : Nat) (l : List Co) (i : Nat), 0 < i → l.length = 2 * n + 1 → (∀ j x, l[j]? = some x → (j % 2 = 0 → j + 1 < l.length → x.op = 1 ∧ hgtF x = 1) ∧ (j % 2 = 1 ∨ j + 1 = l.length → x.op ≠ 1)) → max 1 (hL 32 i (hP l)) = hR l
  | 0, [a], i, hi, _, H => by
    show max 1 (max (benF 32 i a.op + hgtF a) 0) = max 1 (hgtF a)
    have h := (H 0 a rfl).2 (.inr rfl)
    have : benF 32 i a.op = 0 := by
      unfold benF
      rw [if_neg (by omega), if_neg (fun e => h e.2.2)]
    rw [this]
    omega
  | n + 1, b :: a :: r, i, hi, hl, H => by
    have h1 := (H 0 b rfl).1 rfl (by simp)
    have h2 := (H 1 a rfl).2 (.inl rfl)
    have h3 := hR_eq n r (i + 1 + 1) (by omega) (by simp at hl; omega) (fun j x hx => ⟨fun hj hj2 => (H (j + 2) x hx).1 (by omega) (by simp; omega), fun hj => (H (j + 2) x hx).2 (by simp; omega)⟩)
    show max 1 (max (benF 32 i b.op + hgtF b) (max (benF 32 (i + 1) a.op + hgtF a) (hL 32 (i + 1 + 1) (hP r)))) = max 3 (max (hgtF a) (hR r))
    have e1 : benF 32 i b.op = 2 := by
      unfold benF
      rw [if_neg (by omega), if_pos ⟨rfl, hi, h1.1⟩]
    have e2 : benF 32 (i + 1) a.op = 0 := by
      unfold benF
      rw [if_neg (by omega), if_neg (fun e => h2 e.2.2)]
    rw [e1, e2, h1.2, ← h3]
    omega
end Go.Proofs.YtigldebdljfnbaaDoor
end
