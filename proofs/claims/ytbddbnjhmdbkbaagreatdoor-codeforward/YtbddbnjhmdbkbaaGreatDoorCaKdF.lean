/- Programs, plain: how long they are, and how high. -/
import Derived.Test.YtbddbnjhmdbkbaaGreatDoorCaKdR
namespace Go.Proofs.YtbddbnjhmdbkbaaGreatDoor

theorem numK_len (K : List Int) (n : Int) : (numK K n).length ≤ K.length + 1 := by
  unfold numK
  split
  · omega
  · simp
theorem pairK_len (K : List Int) (a b : Int) : (pairK K a b).length ≤ K.length + 2 := by
  unfold pairK
  split
  · omega
  · split <;> simp
/-- A piece of at most a instructions, with at most b constants more. -/
def LB (m : Mk) (a b : Nat) : Prop := ∀ K, (m K).1.length ≤ a ∧ (m K).2.length ≤ K.length + b
theorem LB.weak {m : Mk} {a b a' b' : Nat} (h : LB m a b) (ha : a ≤ a') (hb : b ≤ b') : LB m a' b' := fun K => ⟨by have := (h K).1; omega, by have := (h K).2; omega⟩
theorem numM_lb (n : Int) : LB (numM n) 1 1 := fun K => ⟨Nat.le_refl _, numK_len K n⟩
theorem insM_lb (op a : Int) : LB (insM op a) 1 0 := fun _ => ⟨Nat.le_refl _, Nat.le_refl _⟩
theorem scaM_lb (n m : Int) : LB (scaM n m) 1 2 := fun K => ⟨Nat.le_refl _, pairK_len K n m⟩
theorem thenM_lb {x y : Mk} {a b c d : Nat} (h : LB x a b) (k : LB y c d) : LB (thenM x y) (a + c) (b + d) := fun K => by
  have h1 := h K
  have h2 := k (x K).2
  refine ⟨?_, ?_⟩
  · show (cat (x K).1 (y (x K).2).1).length ≤ _
    rw [cat_len]; omega
  · show (y (x K).2).2.length ≤ _
    omega
theorem forkM_lb {op over : Int} {x y : Mk} {a b c d : Nat} (h : LB x a b) (k : LB y c d) : LB (forkM op over x y) (a + c + 2) (b + d) := fun K => by
  have h1 := h K
  have h2 := k (x K).2
  refine ⟨?_, ?_⟩
  · show (cat (cat (cat [(op, (((x K).1.length + 2 : Nat) : Int))] (x K).1) [(over, ((1 + (y (x K).2).1.length : Nat) : Int))]) (y (x K).2).1).length ≤ _
    simp only [cat_len, List.length_singleton]; omega
  · show (y (x K).2).2.length ≤ _
    omega
theorem overM_lb {op more : Int} {x : Mk} {a b : Nat} (e : List Ins) (h : LB x a b) : LB (overM op more x e) (a + 1 + e.length) b := fun K => by
  have h1 := h K
  refine ⟨?_, ?_⟩
  · show (cat (cat [(op, more + (((x K).1.length + 1 + e.length : Nat) : Int))] (x K).1) e).length ≤ _
    simp only [cat_len, List.length_singleton]; omega
  · show (x K).2.length ≤ _
    omega
theorem nil_lb : LB (allM []) 0 0 := fun _ => ⟨Nat.le_refl _, Nat.le_refl _⟩
/-- How much a part may be. -/
def CLB (x : Co) : Prop := LB (codF x) (6 * cnodes x) (2 * cnodes x)
theorem allM_lb : ∀ (l : List Co), (∀ x, x ∈ l → CLB x) → LB (allM (l.map codF)) (6 * cnodesL l) (2 * cnodesL l)
  | [], _ => nil_lb
  | x :: r, h => by
    rw [cnodesL_cons, Nat.mul_add, Nat.mul_add]
    exact thenM_lb (h x (by simp)) (allM_lb r (fun y hy => h y (by simp [hy])))
theorem rung_lb : ∀ (l : List Co), (∀ x, x ∈ l → CLB x) → LB (rungM (l.map fun x => (x, codF x))) (6 * cnodesL l + 1) (2 * cnodesL l)
  | [], _ => insM_lb 33 0
  | [a], h => by
    have := thenM_lb (insM_lb 33 0) (h a (by simp))
    rw [cnodesL_cons, cnodesL_nil]
    exact this.weak (by omega) (by omega)
  | b :: a :: r, h => by
    have h1 := thenM_lb (thenM_lb (insM_lb 32 0) (thenM_lb (numM_lb b.n) (insM_lb 16 0))) (thenM_lb (overM_lb (op := 24) (more := 0) [] (thenM_lb (insM_lb 33 0) (h a (by simp)))) (rung_lb r (fun y hy => h y (by simp [hy]))))
    have := cnodes_pos b
    rw [cnodesL_cons, cnodesL_cons]
    exact h1.weak (by simp only [List.length_nil]; omega) (by omega)
theorem zip_cod (r : List Co) : r.zip (r.map codF) = r.map fun x => (x, codF x) := by
  induction r with
  | nil => rfl
  | cons b r ih => rw [List.map_cons, List.map_cons, List.zip_cons_cons, ih]
theorem get_lb {l : List Co} (h : ∀ x, x ∈ l → CLB x) : ∃ a b c : Nat, a + b + c ≤ cnodesL l ∧ LB ((l.map codF).getD 0 (allM [])) (6 * a) (2 * a) ∧ LB ((l.map codF).getD 1 (allM [])) (6 * b) (2 * b) ∧ LB ((l.map codF).getD 2 (allM [])) (6 * c) (2 * c) := by
  match l, h with
  | [], _ => exact ⟨0, 0, 0, by simp [cnodesL_nil], nil_lb, nil_lb, nil_lb⟩
  | [x], h => exact ⟨cnodes x, 0, 0, by rw [cnodesL_cons]; omega, h x (by simp), nil_lb, nil_lb⟩
  | [x, y], h => exact ⟨cnodes x, cnodes y, 0, by rw [cnodesL_cons, cnodesL_cons]; omega, h x (by simp), h y (by simp), nil_lb⟩
  | x :: y :: z :: r, h => exact ⟨cnodes x, cnodes y, cnodes z, by rw [cnodesL_cons, cnodesL_cons, cnodesL_cons]; omega, h x (by simp), h y (by simp), h z (by simp)⟩
theorem cod_lb (t : Co) : CLB t := by
  induction t using Co.ind with
  | h t ih =>
    unfold CLB
    rw [cnodes_eq, codF_eq]
    obtain ⟨a, b, c, hs, h0, h1, h2⟩ := get_lb ih
    unfold codO
    split
    · exact (numM_lb t.n).weak (by omega) (by omega)
    · split
      · exact (overM_lb [(28, t.n)] h0).weak (by simp only [List.length_singleton]; omega) (by omega)
      · split
        · exact (thenM_lb h0 (scaM_lb t.n t.m)).weak (by omega) (by omega)
        · split
          · exact (thenM_lb h0 (forkM_lb h1 (numM_lb 0))).weak (by omega) (by omega)
          · split
            · exact (thenM_lb h0 (forkM_lb (numM_lb 1) h1)).weak (by omega) (by omega)
            · split
              · exact (thenM_lb h0 (forkM_lb h1 h2)).weak (by omega) (by omega)
              · split
                · exact (forkM_lb h0 h1).weak (by omega) (by omega)
                · split
                  · rw [zip_cod]
                    cases hp : t.parts with
                    | nil =>
                      rw [hp] at h0 hs
                      exact (thenM_lb nil_lb (insM_lb 33 0)).weak (by omega) (by omega)
                    | cons x r =>
                      have hr := rung_lb r (fun y hy => ih y (by rw [hp]; simp [hy]))
                      have hx := ih x (by rw [hp]; simp)
                      rw [cnodesL_cons]
                      exact (thenM_lb hx hr).weak (by omega) (by omega)
                  · exact (thenM_lb (allM_lb t.parts ih) (insM_lb _ _)).weak (by omega) (by omega)
/-- How many numbers stand beneath part i. -/
def benF (k : Int) (i : Nat) (op : Int) : Nat := if 14 ≤ k ∧ k ≤ 24 then i else if k = 32 ∧ 0 < i ∧ op = 1 then 2 else 0
def hL (k : Int) : Nat → List (Int × Nat) → Nat
  | _, [] => 0
  | i, x :: r => max (benF k i x.1 + x.2) (hL k (i + 1) r)
theorem hL_snoc (k : Int) : ∀ (l : List (Int × Nat)) (i : Nat) (x : Int × Nat), hL k i (l ++ [x]) = max (hL k i l) (benF k (i + l.length) x.1 + x.2)
  | [], i, x => by simp [hL]
  | y :: r, i, x => by
    rw [List.cons_append, hL, hL, hL_snoc k r (i + 1) x, List.length_cons, Nat.max_assoc, show i + 1 + r.length = i + (r.length + 1) by omega]
def hO (k : Int) (l : List (Int × Nat)) : Nat := if k = 29 then 0 else if l.length = 0 then 1 else hL k 0 l
/-- The height of a core. -/
def hgtF : Co → Nat
  | ⟨k, _, _, ps⟩ => hO k ((ps.map Co.op).zip (ps.map hgtF))
def hP (l : List Co) : List (Int × Nat) := l.map fun x => (x.op, hgtF x)
theorem hgtF_eq (t : Co) : hgtF t = hO t.op (hP t.parts) := by
  cases t with
  | mk k n m ps =>
    rw [hgtF]
    show hO k _ = hO k _
    congr 1
    unfold hP
    induction ps with
    | nil => rfl
    | cons x r ih => rw [List.map_cons, List.map_cons, List.map_cons, List.zip_cons_cons, ih]
theorem hP_len (l : List Co) : (hP l).length = l.length := by simp [hP]
theorem hP_take {l : List Co} {i : Nat} (h : i < l.length) (k : Int) : hL k 0 (hP (l.take (i + 1))) = max (hL k 0 (hP (l.take i))) (benF k i l[i].op + hgtF l[i]) := by
  rw [List.take_succ_eq_append_getElem h]
  unfold hP
  rw [List.map_append, List.map_cons, List.map_nil, hL_snoc]
  simp [Nat.min_eq_left (Nat.le_of_lt h)]
theorem hL_le (k : Int) (b : Nat) : ∀ (l : List (Int × Nat)) (i : Nat), (∀ x, x ∈ l → x.2 ≤ b) → hL k i l ≤ b + i + l.length + 2
  | [], i, _ => by simp [hL]
  | x :: r, i, h => by
    have h1 := hL_le k b r (i + 1) (fun y hy => h y (by simp [hy]))
    have h2 := h x (by simp)
    rw [hL, List.length_cons]
    have : benF k i x.1 ≤ i + 2 := by unfold benF; split; omega; split <;> omega
    omega
theorem hL_sum (k : Int) : ∀ (l : List Co) (i : Nat), (∀ x, x ∈ l → hgtF x ≤ 3 * cnodes x) → hL k i (hP l) ≤ 3 * cnodesL l + i + 2
  | [], i, _ => by simp [hL, hP]
  | x :: r, i, h => by
    have h1 := hL_sum k r (i + 1) (fun y hy => h y (by simp [hy]))
    have h2 := h x (by simp)
    have h3 := cnodes_pos x
    rw [cnodesL_cons]
    show max (benF k i x.op + hgtF x) (hL k (i + 1) (hP r)) ≤ _
    have : benF k i x.op ≤ i + 2 := by unfold benF; split; omega; split <;> omega
    omega
theorem hgt_le (t : Co) : hgtF t ≤ 3 * cnodes t := by
  induction t using Co.ind with
  | h t ih =>
    rw [hgtF_eq, cnodes_eq]
    unfold hO
    split
    · omega
    · split
      · omega
      · have := hL_sum t.op t.parts 0 ih
        omega
end Go.Proofs.YtbddbnjhmdbkbaaGreatDoor
