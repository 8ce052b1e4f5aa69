import Derived.Test.YtigldebdljfnbaaDoorNaF
import Derived.Test.YtigldebdljfnbaaDoorNbN
namespace Go.Proofs.YtigldebdljfnbaaDoor

abbrev Sq := Int × Int
structure Ev where
  K : List Int
  wn : Int
  cn : Int
  ln : Int
structure One (E : Ev) (x : Ins) (i : Nat) (s : Sq) (ws : List (Nat × Sq)) : Prop where
  out :
    (∃ h : Int, ∃ t : Int, ∃ a : Nat, (a < E.K.length) ∧ x = ((1, ((a : Nat) : Int)) : Ins) ∧ s = ((h, t) : Sq) ∧ ws = ([(i + 1, (h + 1, t))] : List (Nat × Sq))) ∨
    (∃ h : Int, ∃ t : Int, x = ((2, 0) : Ins) ∧ s = ((h, t) : Sq) ∧ ws = ([(i + 1, (h + 1, t))] : List (Nat × Sq))) ∨
    (∃ h : Int, ∃ t : Int, ∃ a : Int, (0 ≤ a) ∧ (a < E.wn) ∧ x = ((3, a) : Ins) ∧ s = ((h, t) : Sq) ∧ ws = ([(i + 1, (h + 1, t))] : List (Nat × Sq))) ∨
    (∃ h : Int, ∃ t : Int, ∃ a : Int, (0 ≤ a) ∧ (a < E.cn) ∧ x = ((4, a) : Ins) ∧ s = ((h, t) : Sq) ∧ ws = ([(i + 1, (h + 1, t))] : List (Nat × Sq))) ∨
    (∃ h : Int, ∃ t : Int, ∃ a : Int, (1 ≤ a) ∧ (a ≤ 3) ∧ x = ((5, a) : Ins) ∧ s = ((h, t) : Sq) ∧ ws = ([(i + 1, (h + 1, t))] : List (Nat × Sq))) ∨
    (∃ h : Int, ∃ t : Int, (1 ≤ h) ∧ x = ((32, 0) : Ins) ∧ s = ((h, t) : Sq) ∧ ws = ([(i + 1, (h + 1, t))] : List (Nat × Sq))) ∨
    (∃ h : Int, ∃ t : Int, ∃ n : Int, ∃ m : Int, ∃ a : Nat, (E.K[a]? = some n) ∧ (E.K[a + 1]? = some m) ∧ (0 ≤ n) ∧ (1 ≤ m) ∧ (1 ≤ h) ∧ x = ((11, ((a : Nat) : Int)) : Ins) ∧ s = ((h, t) : Sq) ∧ ws = ([(i + 1, (h, t))] : List (Nat × Sq))) ∨
    (∃ h : Int, ∃ t : Int, ∃ n : Int, (0 ≤ n) ∧ (n < E.ln) ∧ (1 ≤ h) ∧ x = ((28, n) : Ins) ∧ s = ((h, t) : Sq) ∧ ws = ([(i + 1, (h, t))] : List (Nat × Sq))) ∨
    (∃ h : Int, ∃ t : Int, ∃ op : Int, (6 ≤ op) ∧ (op ≤ 10) ∧ (1 ≤ h) ∧ x = ((op, 0) : Ins) ∧ s = ((h, t) : Sq) ∧ ws = ([(i + 1, (h, t))] : List (Nat × Sq))) ∨
    (∃ h : Int, ∃ t : Int, ∃ op : Int, (12 ≤ op) ∧ (op ≤ 22) ∧ (2 ≤ h) ∧ x = ((op, 0) : Ins) ∧ s = ((h, t) : Sq) ∧ ws = ([(i + 1, (h - 1, t))] : List (Nat × Sq))) ∨
    (∃ h : Int, ∃ t : Int, ∃ to : Nat, x = ((23, ((to : Nat) : Int)) : Ins) ∧ s = ((h, t) : Sq) ∧ ws = ([(to, (h, t))] : List (Nat × Sq))) ∨
    (∃ h : Int, ∃ t : Int, ∃ to : Nat, (1 ≤ h) ∧ x = ((24, ((to : Nat) : Int)) : Ins) ∧ s = ((h, t) : Sq) ∧ ws = ([(to, (h - 1, t)), (i + 1, (h - 1, t))] : List (Nat × Sq))) ∨
    (∃ h : Int, ∃ t : Int, ∃ to : Nat, (t < 4096) ∧ x = ((25, ((to : Nat) : Int)) : Ins) ∧ s = ((h, t) : Sq) ∧ ws = ([(to, (h, t)), (i + 1, (h, t + 1))] : List (Nat × Sq))) ∨
    (∃ h : Int, ∃ t : Int, ∃ to : Nat, (0 < t) ∧ x = ((26, ((to : Nat) : Int)) : Ins) ∧ s = ((h, t) : Sq) ∧ ws = ([(to, (h, t - 1))] : List (Nat × Sq))) ∨
    (∃ h : Int, ∃ t : Int, ∃ n : Int, ∃ to : Nat, (0 ≤ n) ∧ (n < E.ln) ∧ x = ((27, n * 16384 + ((to : Nat) : Int)) : Ins) ∧ s = ((h, t) : Sq) ∧ ws = ([(to, (h + 1, t)), (i + 1, (h, t))] : List (Nat × Sq))) ∨
    (x = ((29, 0) : Ins) ∧ s = ((0, 0) : Sq) ∧ ws = ([] : List (Nat × Sq))) ∨
    (∃ op : Int, (op = 30 ∨ op = 31) ∧ x = ((op, 0) : Ins) ∧ s = ((1, 0) : Sq) ∧ ws = ([] : List (Nat × Sq))) ∨
    (∃ h : Int, ∃ t : Int, (1 ≤ h) ∧ x = ((33, 0) : Ins) ∧ s = ((h, t) : Sq) ∧ ws = ([(i + 1, (h - 1, t))] : List (Nat × Sq)))
theorem One.num {E : Ev} {i : Nat} {h t : Int} {a : Nat} (h1 : a < E.K.length) : One E (1, (a : Nat)) i (h, t) [(i + 1, (h + 1, t))] := ⟨.inl ⟨h, t, a, h1, rfl, rfl, rfl⟩⟩
theorem One.rep {E : Ev} {i : Nat} {h t : Int} : One E (2, 0) i (h, t) [(i + 1, (h + 1, t))] := ⟨.inr (.inl ⟨h, t, rfl, rfl, rfl⟩)⟩
theorem One.win {E : Ev} {i : Nat} {h t a : Int} (h1 : 0 ≤ a) (h2 : a < E.wn) : One E (3, a) i (h, t) [(i + 1, (h + 1, t))] := ⟨.inr (.inr (.inl ⟨h, t, a, h1, h2, rfl, rfl, rfl⟩))⟩
theorem One.cro {E : Ev} {i : Nat} {h t a : Int} (h1 : 0 ≤ a) (h2 : a < E.cn) : One E (4, a) i (h, t) [(i + 1, (h + 1, t))] := ⟨.inr (.inr (.inr (.inl ⟨h, t, a, h1, h2, rfl, rfl, rfl⟩)))⟩
theorem One.why {E : Ev} {i : Nat} {h t a : Int} (h1 : 1 ≤ a) (h2 : a ≤ 3) : One E (5, a) i (h, t) [(i + 1, (h + 1, t))] := ⟨.inr (.inr (.inr (.inr (.inl ⟨h, t, a, h1, h2, rfl, rfl, rfl⟩))))⟩
theorem One.dup {E : Ev} {i : Nat} {h t : Int} (h1 : 1 ≤ h) : One E (32, 0) i (h, t) [(i + 1, (h + 1, t))] := ⟨.inr (.inr (.inr (.inr (.inr (.inl ⟨h, t, h1, rfl, rfl, rfl⟩)))))⟩
theorem One.sca {E : Ev} {i : Nat} {h t n m : Int} {a : Nat} (h1 : E.K[a]? = some n) (h2 : E.K[a + 1]? = some m) (h3 : 0 ≤ n) (h4 : 1 ≤ m) (h5 : 1 ≤ h) : One E (11, (a : Nat)) i (h, t) [(i + 1, (h, t))] := ⟨.inr (.inr (.inr (.inr (.inr (.inr (.inl ⟨h, t, n, m, a, h1, h2, h3, h4, h5, rfl, rfl, rfl⟩))))))⟩
theorem One.keep {E : Ev} {i : Nat} {h t n : Int} (h1 : 0 ≤ n) (h2 : n < E.ln) (h3 : 1 ≤ h) : One E (28, n) i (h, t) [(i + 1, (h, t))] := ⟨.inr (.inr (.inr (.inr (.inr (.inr (.inr (.inl ⟨h, t, n, h1, h2, h3, rfl, rfl, rfl⟩)))))))⟩
theorem One.one {E : Ev} {i : Nat} {h t op : Int} (h1 : 6 ≤ op) (h2 : op ≤ 10) (h3 : 1 ≤ h) : One E (op, 0) i (h, t) [(i + 1, (h, t))] := ⟨.inr (.inr (.inr (.inr (.inr (.inr (.inr (.inr (.inl ⟨h, t, op, h1, h2, h3, rfl, rfl, rfl⟩))))))))⟩
theorem One.two {E : Ev} {i : Nat} {h t op : Int} (h1 : 12 ≤ op) (h2 : op ≤ 22) (h3 : 2 ≤ h) : One E (op, 0) i (h, t) [(i + 1, (h - 1, t))] := ⟨.inr (.inr (.inr (.inr (.inr (.inr (.inr (.inr (.inr (.inl ⟨h, t, op, h1, h2, h3, rfl, rfl, rfl⟩)))))))))⟩
theorem One.past {E : Ev} {i : Nat} {h t : Int} {to : Nat} : One E (23, (to : Nat)) i (h, t) [(to, (h, t))] := ⟨.inr (.inr (.inr (.inr (.inr (.inr (.inr (.inr (.inr (.inr (.inl ⟨h, t, to, rfl, rfl, rfl⟩))))))))))⟩
theorem One.fork {E : Ev} {i : Nat} {h t : Int} {to : Nat} (h1 : 1 ≤ h) : One E (24, (to : Nat)) i (h, t) [(to, (h - 1, t)), (i + 1, (h - 1, t))] := ⟨.inr (.inr (.inr (.inr (.inr (.inr (.inr (.inr (.inr (.inr (.inr (.inl ⟨h, t, to, h1, rfl, rfl, rfl⟩)))))))))))⟩
theorem One.tri {E : Ev} {i : Nat} {h t : Int} {to : Nat} (h1 : t < 4096) : One E (25, (to : Nat)) i (h, t) [(to, (h, t)), (i + 1, (h, t + 1))] := ⟨.inr (.inr (.inr (.inr (.inr (.inr (.inr (.inr (.inr (.inr (.inr (.inr (.inl ⟨h, t, to, h1, rfl, rfl, rfl⟩))))))))))))⟩
theorem One.done {E : Ev} {i : Nat} {h t : Int} {to : Nat} (h1 : 0 < t) : One E (26, (to : Nat)) i (h, t) [(to, (h, t - 1))] := ⟨.inr (.inr (.inr (.inr (.inr (.inr (.inr (.inr (.inr (.inr (.inr (.inr (.inr (.inl ⟨h, t, to, h1, rfl, rfl, rfl⟩)))))))))))))⟩
theorem One.memo {E : Ev} {i : Nat} {h t n : Int} {to : Nat} (h1 : 0 ≤ n) (h2 : n < E.ln) : One E (27, n * 16384 + (to : Nat)) i (h, t) [(to, (h + 1, t)), (i + 1, (h, t))] := ⟨.inr (.inr (.inr (.inr (.inr (.inr (.inr (.inr (.inr (.inr (.inr (.inr (.inr (.inr (.inl ⟨h, t, n, to, h1, h2, rfl, rfl, rfl⟩))))))))))))))⟩
theorem One.hold {E : Ev} {i : Nat} : One E (29, 0) i (0, 0) [] := ⟨.inr (.inr (.inr (.inr (.inr (.inr (.inr (.inr (.inr (.inr (.inr (.inr (.inr (.inr (.inr (.inl ⟨rfl, rfl, rfl⟩)))))))))))))))⟩
theorem One.act {E : Ev} {i : Nat} {op : Int} (h1 : op = 30 ∨ op = 31) : One E (op, 0) i (1, 0) [] := ⟨.inr (.inr (.inr (.inr (.inr (.inr (.inr (.inr (.inr (.inr (.inr (.inr (.inr (.inr (.inr (.inr (.inl ⟨op, h1, rfl, rfl, rfl⟩))))))))))))))))⟩
theorem One.drop {E : Ev} {i : Nat} {h t : Int} (h1 : 1 ≤ h) : One E (33, 0) i (h, t) [(i + 1, (h - 1, t))] := ⟨.inr (.inr (.inr (.inr (.inr (.inr (.inr (.inr (.inr (.inr (.inr (.inr (.inr (.inr (.inr (.inr (.inr (⟨h, t, h1, rfl, rfl, rfl⟩)))))))))))))))))⟩
theorem shI_jmp (d : Nat) (op a : Int) (h : op = 23 ∨ op = 24 ∨ op = 25 ∨ op = 26 ∨ op = 27) : shI d (op, a) = (op, a + d) := by
  unfold shI
  rw [if_pos (jmp_of h)]
theorem shI_no (d : Nat) (op a : Int) (h : op < 23 ∨ 27 < op) : shI d (op, a) = (op, a) := by
  unfold shI
  rw [if_neg]
  intro e
  unfold jmpB at e
  simp only [Bool.or_eq_true, beq_iff_eq] at e
  omega
theorem One.sh {E : Ev} {x : Ins} {i : Nat} {s : Sq} {ws : List (Nat × Sq)} (h : One E x i s ws) (d : Nat) : One E (shI d x) (d + i) s (ws.map fun w => (d + w.1, w.2)) := by
  rcases h with ⟨⟨hh, tt, a, h1, rfl, rfl, rfl⟩ | ⟨hh, tt, rfl, rfl, rfl⟩ | ⟨hh, tt, a, h1, h2, rfl, rfl, rfl⟩ | ⟨hh, tt, a, h1, h2, rfl, rfl, rfl⟩ | ⟨hh, tt, a, h1, h2, rfl, rfl, rfl⟩ | ⟨hh, tt, h1, rfl, rfl, rfl⟩ | ⟨hh, tt, n, m, a, h1, h2, h3, h4, h5, rfl, rfl, rfl⟩ | ⟨hh, tt, n, h1, h2, h3, rfl, rfl, rfl⟩ | ⟨hh, tt, op, h1, h2, h3, rfl, rfl, rfl⟩ | ⟨hh, tt, op, h1, h2, h3, rfl, rfl, rfl⟩ | ⟨hh, tt, to, rfl, rfl, rfl⟩ | ⟨hh, tt, to, h1, rfl, rfl, rfl⟩ | ⟨hh, tt, to, h1, rfl, rfl, rfl⟩ | ⟨hh, tt, to, h1, rfl, rfl, rfl⟩ | ⟨hh, tt, n, to, h1, h2, rfl, rfl, rfl⟩ | ⟨rfl, rfl, rfl⟩ | ⟨op, h1, rfl, rfl, rfl⟩ | ⟨hh, tt, h1, rfl, rfl, rfl⟩⟩
  · rw [shI_no _ _ _ (by omega)]; exact .num h1
  · rw [shI_no _ _ _ (by omega)]; exact .rep
  · rw [shI_no _ _ _ (by omega)]; exact .win h1 h2
  · rw [shI_no _ _ _ (by omega)]; exact .cro h1 h2
  · rw [shI_no _ _ _ (by omega)]; exact .why h1 h2
  · rw [shI_no _ _ _ (by omega)]; exact .dup h1
  · rw [shI_no _ _ _ (by omega)]; exact .sca h1 h2 h3 h4 h5
  · rw [shI_no _ _ _ (by omega)]; exact .keep h1 h2 h3
  · rw [shI_no _ _ _ (by omega)]; exact .one h1 h2 h3
  · rw [shI_no _ _ _ (by omega)]; exact .two h1 h2 h3
  · rw [shI_jmp _ _ _ (by omega), show ∀ to : Nat, ((to : Nat) : Int) + (d : Int) = ((d + to : Nat) : Int) from fun to => by omega]; exact .past
  · rw [shI_jmp _ _ _ (by omega), show ∀ to : Nat, ((to : Nat) : Int) + (d : Int) = ((d + to : Nat) : Int) from fun to => by omega]; exact .fork h1
  · rw [shI_jmp _ _ _ (by omega), show ∀ to : Nat, ((to : Nat) : Int) + (d : Int) = ((d + to : Nat) : Int) from fun to => by omega]; exact .tri h1
  · rw [shI_jmp _ _ _ (by omega), show ∀ to : Nat, ((to : Nat) : Int) + (d : Int) = ((d + to : Nat) : Int) from fun to => by omega]; exact .done h1
  · rw [shI_jmp _ _ _ (by omega), show ∀ (n : Int) (to : Nat), n * 16384 + ((to : Nat) : Int) + (d : Int) = n * 16384 + ((d + to : Nat) : Int) from fun n to => by omega]; exact .memo h1 h2
  · rw [shI_no _ _ _ (by omega)]; exact .hold
  · rw [shI_no _ _ _ (by omega)]; exact .act h1
  · rw [shI_no _ _ _ (by omega)]; exact .drop h1
def GoAt (E : Ev) (L : List Ins) (b : Nat) (T : Nat → Sq) (i : Nat) : Prop := ∀ x, L[i]? = some x → ∃ ws, One E x i (T i) ws ∧ ∀ w, w ∈ ws → i < w.1 ∧ w.1 ≤ b ∧ T w.1 = w.2
def ComeAt (E : Ev) (L : List Ins) (b : Nat) (T : Nat → Sq) (j : Nat) : Prop := ∃ i x ws, i < j ∧ L[i]? = some x ∧ One E x i (T i) ws ∧ (j, T j) ∈ ws ∧ ∀ w, w ∈ ws → w.1 ≤ b
structure Sg (E : Ev) (L : List Ins) (b : Nat) (T : Nat → Sq) (hi : Int) : Prop where
  len : L.length ≤ b + 1
  go : ∀ i, GoAt E L b T i
  come : ∀ j, 0 < j → j ≤ b → ComeAt E L b T j
  top : ∀ j, j ≤ b → (T j).1 ≤ hi
  at_ : ∃ j, j ≤ b ∧ (T j).1 = hi
theorem goAt_out {E : Ev} {L : List Ins} {b : Nat} {T : Nat → Sq} {i : Nat} (h : L.length ≤ i) : GoAt E L b T i := fun x hx => by rw [List.getElem?_eq_none h] at hx; cases hx
theorem Sg.goes {E : Ev} {M L : List Ins} {c b d : Nat} {S T : Nat → Sq} {n : Int} (h : Sg E M c S n) (hL : ∀ i, i < M.length → L[d + i]? = (M[i]?).map (shI d)) (hT : ∀ i, i ≤ c → T (d + i) = S i) (hb : d + c ≤ b) : ∀ i, i < M.length → GoAt E L b T (d + i) := by
  intro i hi x hx
  rw [hL i hi] at hx
  obtain ⟨y, hy, rfl⟩ := Option.map_eq_some_iff.1 hx
  obtain ⟨ws, h1, h2⟩ := h.go i y hy
  have hl := h.len
  refine ⟨_, by rw [hT i (by omega)]; exact h1.sh d, ?_⟩
  intro w hw
  obtain ⟨v, hv, rfl⟩ := List.mem_map.1 hw
  obtain ⟨h3, h4, h5⟩ := h2 v hv
  exact ⟨by show d + i < d + v.1; omega, by show d + v.1 ≤ b; omega, by rw [← h5]; exact hT _ h4⟩
theorem Sg.comes {E : Ev} {M L : List Ins} {c b d : Nat} {S T : Nat → Sq} {n : Int} (h : Sg E M c S n) (hL : ∀ i, i < M.length → L[d + i]? = (M[i]?).map (shI d)) (hT : ∀ i, i ≤ c → T (d + i) = S i) (hb : d + c ≤ b) : ∀ j, 0 < j → j ≤ c → ComeAt E L b T (d + j) := by
  intro j h0 hj
  obtain ⟨i, x, ws, h1, h2, h3, h4, h5⟩ := h.come j h0 hj
  have hi := (List.getElem?_eq_some_iff.1 h2).1
  refine ⟨d + i, shI d x, _, by omega, by rw [hL i hi, h2]; rfl, by rw [hT i (by omega)]; exact h3.sh d, ?_, fun w hw => ?_⟩
  · rw [hT j hj]
    exact List.mem_map.2 ⟨_, h4, rfl⟩
  · obtain ⟨v, hv, rfl⟩ := List.mem_map.1 hw
    have := h5 v hv
    show d + v.1 ≤ b
    omega
theorem cat_l {a b : List Ins} {i : Nat} (h : i < a.length) : (cat a b)[i]? = a[i]? := by
  unfold cat
  rw [List.getElem?_append_left h]
theorem cat_r (a b : List Ins) (i : Nat) : (cat a b)[a.length + i]? = (b[i]?).map (shI a.length) := by
  unfold cat
  rw [List.getElem?_append_right (by omega), List.getElem?_map, Nat.add_sub_cancel_left]
theorem sh_zero (o : Option Ins) : o.map (shI 0) = o := by
  cases o with
  | none => rfl
  | some x => rw [Option.map_some, shI_zero]
theorem Sg.cat {E : Ev} {A B : List Ins} {c : Nat} {S T : Nat → Sq} {n m : Int} (h : Sg E A A.length S n) (k : Sg E B c T m) (e : S A.length = T 0) : Sg E (cat A B) (A.length + c) (fun i => if i < A.length then S i else T (i - A.length)) (max n m) := by
  have q1 : ∀ i, i ≤ A.length → (fun i => if i < A.length then S i else T (i - A.length)) (0 + i) = S i := by
    intro i hi
    show (if 0 + i < A.length then S (0 + i) else T (0 + i - A.length)) = S i
    rw [Nat.zero_add]
    by_cases hc : i < A.length
    · rw [if_pos hc]
    · obtain rfl : i = A.length := by omega
      rw [if_neg hc, Nat.sub_self, e]
  have q2 : ∀ i, i ≤ c → (fun i => if i < A.length then S i else T (i - A.length)) (A.length + i) = T i := by
    intro i hi
    show (if A.length + i < A.length then S (A.length + i) else T (A.length + i - A.length)) = T i
    rw [if_neg (by omega), Nat.add_sub_cancel_left]
  generalize (fun i => if i < A.length then S i else T (i - A.length)) = R at q1 q2
  have l1 : ∀ i, i < A.length → (Go.Proofs.YtigldebdljfnbaaDoor.cat A B)[0 + i]? = (A[i]?).map (shI 0) := fun i hi => by rw [Nat.zero_add, cat_l hi, sh_zero]
  have l2 : ∀ i, i < B.length → (Go.Proofs.YtigldebdljfnbaaDoor.cat A B)[A.length + i]? = (B[i]?).map (shI A.length) := fun i _ => cat_r A B i
  have hl := k.len
  refine ⟨by rw [cat_len]; omega, fun i => ?_, fun j h0 hj => ?_, fun j hj => ?_, ?_⟩
  · by_cases h1 : i < A.length
    · have := h.goes (b := A.length + c) l1 q1 (by omega) i h1
      rwa [Nat.zero_add] at this
    · by_cases h2 : i < A.length + B.length
      · have := k.goes (b := A.length + c) l2 q2 (by omega) (i - A.length) (by omega)
        rwa [show A.length + (i - A.length) = i by omega] at this
      · exact goAt_out (by rw [cat_len]; omega)
  · by_cases h1 : j ≤ A.length
    · have := h.comes (b := A.length + c) l1 q1 (by omega) j h0 h1
      rwa [Nat.zero_add] at this
    · have := k.comes (b := A.length + c) l2 q2 (by omega) (j - A.length) (by omega) (by omega)
      rwa [show A.length + (j - A.length) = j by omega] at this
  · by_cases h1 : j ≤ A.length
    · have := q1 j h1
      rw [Nat.zero_add] at this
      rw [this]
      have := h.top j h1
      omega
    · have := q2 (j - A.length) (by omega)
      rw [show A.length + (j - A.length) = j by omega] at this
      rw [this]
      have := k.top (j - A.length) (by omega)
      omega
  · by_cases hm : m ≤ n
    · obtain ⟨j, hj, hn⟩ := h.at_
      have := q1 j hj
      rw [Nat.zero_add] at this
      exact ⟨j, by omega, by rw [this]; omega⟩
    · obtain ⟨j, hj, hn⟩ := k.at_
      exact ⟨A.length + j, by omega, by rw [q2 j hj]; omega⟩
def Pz (E : Ev) (m : Mk) (s t : Sq) (hi : Int) : Prop := ∀ K, K <+: (m K).2 ∧ ((m K).2 <+: E.K → ∃ T, T 0 = s ∧ T (m K).1.length = t ∧ Sg E (m K).1 (m K).1.length T hi)
def Az (E : Ev) (m : Mk) (s : Sq) (hi : Int) : Prop := ∀ K, K <+: (m K).2 ∧ ((m K).2 <+: E.K → ∃ T, T 0 = s ∧ 0 < (m K).1.length ∧ Sg E (m K).1 ((m K).1.length - 1) T hi)
theorem pz_then {E : Ev} {a b : Mk} {s t u : Sq} {n m : Int} (ha : Pz E a s t n) (hb : Pz E b t u m) : Pz E (thenM a b) s u (max n m) := by
  intro K
  obtain ⟨p1, g1⟩ := ha K
  obtain ⟨p2, g2⟩ := hb (a K).2
  refine ⟨p1.trans p2, fun hK => ?_⟩
  obtain ⟨S, a1, a2, a3⟩ := g1 (p2.trans hK)
  obtain ⟨T, b1, b2, b3⟩ := g2 hK
  show ∃ R, R 0 = s ∧ R (cat (a K).1 (b (a K).2).1).length = u ∧ Sg E (cat (a K).1 (b (a K).2).1) (cat (a K).1 (b (a K).2).1).length R (max n m)
  generalize (a K).1 = A at *
  generalize (b (a K).2).1 = B at *
  rw [cat_len]
  refine ⟨_, ?_, ?_, a3.cat b3 (by rw [a2, b1])⟩
  · by_cases h0 : 0 < A.length
    · show (if 0 < A.length then S 0 else _) = s
      rw [if_pos h0, a1]
    · show (if 0 < A.length then S 0 else T (0 - A.length)) = s
      rw [if_neg h0, Nat.zero_sub, b1, ← a2, ← a1]
      congr 1
      omega
  · show (if A.length + B.length < A.length then _ else T (A.length + B.length - A.length)) = u
    rw [if_neg (by omega), Nat.add_sub_cancel_left, b2]
theorem az_then {E : Ev} {a b : Mk} {s t : Sq} {n m : Int} (ha : Pz E a s t n) (hb : Az E b t m) : Az E (thenM a b) s (max n m) := by
  intro K
  obtain ⟨p1, g1⟩ := ha K
  obtain ⟨p2, g2⟩ := hb (a K).2
  refine ⟨p1.trans p2, fun hK => ?_⟩
  obtain ⟨S, a1, a2, a3⟩ := g1 (p2.trans hK)
  obtain ⟨T, b1, b2, b3⟩ := g2 hK
  show ∃ R, R 0 = s ∧ 0 < (cat (a K).1 (b (a K).2).1).length ∧ Sg E (cat (a K).1 (b (a K).2).1) ((cat (a K).1 (b (a K).2).1).length - 1) R (max n m)
  generalize (a K).1 = A at *
  generalize (b (a K).2).1 = B at *
  rw [cat_len, show A.length + B.length - 1 = A.length + (B.length - 1) by omega]
  refine ⟨_, ?_, by omega, a3.cat b3 (by rw [a2, b1])⟩
  by_cases h0 : 0 < A.length
  · show (if 0 < A.length then S 0 else _) = s
    rw [if_pos h0, a1]
  · show (if 0 < A.length then S 0 else T (0 - A.length)) = s
    rw [if_neg h0, Nat.zero_sub, b1, ← a2, ← a1]
    congr 1
    omega
theorem Pz.hi {E : Ev} {m : Mk} {s t : Sq} {n n' : Int} (h : Pz E m s t n) (e : n = n') : Pz E m s t n' := e ▸ h
theorem Az.hi {E : Ev} {m : Mk} {s : Sq} {n n' : Int} (h : Az E m s n) (e : n = n') : Az E m s n' := e ▸ h
theorem sg_one {E : Ev} {x : Ins} {s t : Sq} (h : One E x 0 s [(1, t)]) : Sg E [x] 1 (fun i => if i = 0 then s else t) (max s.1 t.1) := by
  refine ⟨by simp, fun i y hy => ?_, fun j h0 hj => ?_, fun j hj => ?_, ?_⟩
  · cases i with
    | succ n => cases hy
    | zero =>
      cases hy
      refine ⟨_, h, fun w hw => ?_⟩
      simp only [List.mem_cons, List.not_mem_nil, or_false] at hw
      subst hw
      exact ⟨by show (0 : Nat) < 1; omega, by show (1 : Nat) ≤ 1; omega, rfl⟩
  · obtain rfl : j = 1 := by omega
    exact ⟨0, x, _, h0, rfl, h, by simp, fun w hw => by simp only [List.mem_cons, List.not_mem_nil, or_false] at hw; subst hw; exact Nat.le_refl _⟩
  · show (if j = 0 then s else t).1 ≤ _
    split <;> omega
  · by_cases hc : t.1 ≤ s.1
    · exact ⟨0, by omega, by show s.1 = _; omega⟩
    · exact ⟨1, by omega, by show t.1 = _; omega⟩
theorem pz_ins {E : Ev} {op a : Int} {s t : Sq} (h : One E (op, a) 0 s [(1, t)]) : Pz E (insM op a) s t (max s.1 t.1) := fun _ => ⟨List.prefix_refl _, fun _ => ⟨_, rfl, rfl, sg_one h⟩⟩
theorem az_ins {E : Ev} {op a : Int} {s : Sq} (h : One E (op, a) 0 s []) : Az E (insM op a) s s.1 := fun _ => ⟨List.prefix_refl _, fun _ => ⟨fun _ => s, rfl, by show 0 < 1; omega, by show 1 ≤ 0 + 1; omega, fun i y hy => (by
    cases i with
    | succ n => cases hy
    | zero => cases hy; exact ⟨_, h, fun w hw => by cases hw⟩), fun j h0 hj => absurd hj (by show ¬ j ≤ 1 - 1; omega), fun _ _ => Int.le_refl _, 0, by omega, rfl⟩⟩
theorem pre_get {K L : List Int} {i : Nat} {x : Int} (h : K <+: L) (hx : K[i]? = some x) : L[i]? = some x := by
  obtain ⟨r, rfl⟩ := h
  rw [List.getElem?_append_left (List.getElem?_eq_some_iff.1 hx).1]
  exact hx
theorem pz_num (E : Ev) (n h t : Int) : Pz E (numM n) (h, t) (h + 1, t) (h + 1) := fun K => ⟨numK_pre K n, fun hK => ⟨_, rfl, rfl, by
  have := sg_one (One.num (E := E) (i := 0) (h := h) (t := t) (List.getElem?_eq_some_iff.1 (pre_get hK (numK_at K n))).1)
  rwa [show max (h, t).1 (h + 1, t).1 = h + 1 from by show max h (h + 1) = _; omega] at this⟩⟩
theorem findP_at : ∀ (K : List Int) (a b : Int) (i : Nat), findP K a b = some i → K[i]? = some a ∧ K[i + 1]? = some b
  | [], _, _, _, h => by cases h
  | [_], _, _, _, h => by cases h
  | x :: y :: r, a, b, i, h => by
    rw [findP] at h
    by_cases hc : x = a ∧ y = b
    · rw [if_pos hc] at h; cases h; exact ⟨by rw [← hc.1]; rfl, by rw [← hc.2]; rfl⟩
    · rw [if_neg hc] at h
      obtain ⟨j, hj, rfl⟩ := Option.map_eq_some_iff.1 h
      exact findP_at (y :: r) a b j hj
theorem pair_at (K : List Int) (n m : Int) : K <+: pairK K n m ∧ (pairK K n m)[pairAt K n m]? = some n ∧ (pairK K n m)[pairAt K n m + 1]? = some m := by
  unfold pairK pairAt
  cases h : findP K n m with
  | some i => exact ⟨List.prefix_refl _, findP_at K n m i h⟩
  | none =>
    by_cases hl : K.getLast? = some n
    · have hk : K ≠ [] := fun e => by rw [e] at hl; cases hl
      have h0 := List.length_pos_iff.2 hk
      simp only [hl, if_true]
      rw [List.getLast?_eq_getElem?] at hl
      refine ⟨List.prefix_append _ _, by rw [List.getElem?_append_left (by omega)]; exact hl, ?_⟩
      rw [List.getElem?_append_right (by omega), show K.length - 1 + 1 - K.length = 0 by omega]
      rfl
    · simp only [hl, if_false]
      refine ⟨List.prefix_append _ _, ?_, ?_⟩
      · rw [List.getElem?_append_right (by omega), Nat.sub_self]; rfl
      · rw [List.getElem?_append_right (by omega), Nat.add_sub_cancel_left]; rfl
theorem pz_sca (E : Ev) {n m h : Int} (t : Int) (hn : 0 ≤ n) (hm : 1 ≤ m) (hh : 1 ≤ h) : Pz E (scaM n m) (h, t) (h, t) h := fun K => ⟨(pair_at K n m).1, fun hK => ⟨_, rfl, rfl, by
  obtain ⟨-, h1, h2⟩ := pair_at K n m
  have := sg_one (One.sca (E := E) (i := 0) (h := h) (t := t) (pre_get hK h1) (pre_get hK h2) hn hm hh)
  rwa [show max (h, t).1 (h, t).1 = h from by show max h h = _; omega] at this⟩⟩

theorem pz_fork {E : Ev} {op over : Int} {y z : Mk} {s sy sy' sz out : Sq} {n m : Int} (ho : ∀ to : Nat, One E (op, (to : Nat)) 0 s [(to, sz), (1, sy)]) (hv : ∀ i to : Nat, One E (over, (to : Nat)) i sy' [(to, out)]) (hj : over = 23 ∨ over = 26) (hy : Pz E y sy sy' n) (hz : Pz E z sz out m) (hs : s.1 ≤ max n m) : Pz E (forkM op over y z) s out (max n m) := by
  intro K
  obtain ⟨p1, g1⟩ := hy K
  obtain ⟨p2, g2⟩ := hz (y K).2
  refine ⟨p1.trans p2, fun hK => ?_⟩
  obtain ⟨S, a1, a2, a3⟩ := g1 (p2.trans hK)
  obtain ⟨R, b1, b2, b3⟩ := g2 hK
  show ∃ T, T 0 = s ∧ T (cat (cat (cat [(op, (((y K).1.length + 2 : Nat) : Int))] (y K).1) [(over, ((1 + (z (y K).2).1.length : Nat) : Int))]) (z (y K).2).1).length = out ∧ Sg E (cat (cat (cat [(op, (((y K).1.length + 2 : Nat) : Int))] (y K).1) [(over, ((1 + (z (y K).2).1.length : Nat) : Int))]) (z (y K).2).1) (cat (cat (cat [(op, (((y K).1.length + 2 : Nat) : Int))] (y K).1) [(over, ((1 + (z (y K).2).1.length : Nat) : Int))]) (z (y K).2).1).length T (max n m)
  generalize (y K).1 = A at *
  generalize (z (y K).2).1 = B at *
  have n1 : (cat [(op, ((A.length + 2 : Nat) : Int))] A).length = 1 + A.length := by rw [cat_len]; rfl
  have n2 : (cat (cat [(op, ((A.length + 2 : Nat) : Int))] A) [(over, ((1 + B.length : Nat) : Int))]).length = 2 + A.length := by rw [cat_len, n1]; show 1 + A.length + 1 = _; omega
  have n3 : (cat (cat (cat [(op, ((A.length + 2 : Nat) : Int))] A) [(over, ((1 + B.length : Nat) : Int))]) B).length = 2 + A.length + B.length := by rw [cat_len, n2]
  rw [n3]
  have e0 : (cat (cat (cat [(op, ((A.length + 2 : Nat) : Int))] A) [(over, ((1 + B.length : Nat) : Int))]) B)[0]? = some (op, ((A.length + 2 : Nat) : Int)) := by
    rw [cat_l (by omega), cat_l (by omega), cat_l (by show 0 < 1; omega)]
    rfl
  have e1 : ∀ i, i < A.length → (cat (cat (cat [(op, ((A.length + 2 : Nat) : Int))] A) [(over, ((1 + B.length : Nat) : Int))]) B)[1 + i]? = (A[i]?).map (shI 1) := by
    intro i hi
    rw [cat_l (by omega), cat_l (by omega)]
    exact cat_r [(op, ((A.length + 2 : Nat) : Int))] A i
  have e2 : (cat (cat (cat [(op, ((A.length + 2 : Nat) : Int))] A) [(over, ((1 + B.length : Nat) : Int))]) B)[1 + A.length]? = some (over, ((2 + A.length + B.length : Nat) : Int)) := by
    have := cat_r (cat [(op, ((A.length + 2 : Nat) : Int))] A) [(over, ((1 + B.length : Nat) : Int))] 0
    rw [n1] at this
    rw [cat_l (by omega)]
    refine Eq.trans this ?_
    show some (shI (1 + A.length) (over, ((1 + B.length : Nat) : Int))) = _
    rw [shI_jmp _ _ _ (by omega)]
    congr 2
    omega
  have e3 : ∀ i, i < B.length → (cat (cat (cat [(op, ((A.length + 2 : Nat) : Int))] A) [(over, ((1 + B.length : Nat) : Int))]) B)[2 + A.length + i]? = (B[i]?).map (shI (2 + A.length)) := by
    intro i hi
    have := cat_r (cat (cat [(op, ((A.length + 2 : Nat) : Int))] A) [(over, ((1 + B.length : Nat) : Int))]) B i
    rwa [n2] at this
  generalize cat (cat (cat [(op, ((A.length + 2 : Nat) : Int))] A) [(over, ((1 + B.length : Nat) : Int))]) B = L at *
  obtain ⟨T, hT⟩ : ∃ T : Nat → Sq, T = fun i => if i = 0 then s else if i ≤ 1 + A.length then S (i - 1) else R (i - (2 + A.length)) := ⟨_, rfl⟩
  have t0 : T 0 = s := by rw [hT]; rfl
  have t1 : ∀ i, i ≤ A.length → T (1 + i) = S i := by
    intro i hi
    rw [hT]
    show (if 1 + i = 0 then s else if 1 + i ≤ 1 + A.length then S (1 + i - 1) else _) = S i
    rw [if_neg (by omega), if_pos (by omega), Nat.add_sub_cancel_left]
  have t2 : ∀ i, i ≤ B.length → T (2 + A.length + i) = R i := by
    intro i hi
    rw [hT]
    show (if 2 + A.length + i = 0 then s else if 2 + A.length + i ≤ 1 + A.length then _ else R (2 + A.length + i - (2 + A.length))) = R i
    rw [if_neg (by omega), if_neg (by omega), Nat.add_sub_cancel_left]
  have o0 := ho (A.length + 2)
  have o1 := hv (1 + A.length) (2 + A.length + B.length)
  have tz : T (2 + A.length) = sz := by have := t2 0 (by omega); rw [Nat.add_zero] at this; rw [this, b1]
  have ty : T 1 = sy := by have := t1 0 (by omega); rw [Nat.add_zero] at this; rw [this, a1]
  have tv : T (1 + A.length) = sy' := by rw [t1 _ (Nat.le_refl _), a2]
  have tt : T (2 + A.length + B.length) = out := by rw [t2 _ (Nat.le_refl _), b2]
  refine ⟨T, t0, tt, by omega, fun i => ?_, fun j h0 hj => ?_, fun j hj => ?_, ?_⟩
  · by_cases h0 : i = 0
    · subst h0
      intro x hx
      rw [e0] at hx
      cases hx
      refine ⟨_, by rw [t0]; exact o0, fun w hw => ?_⟩
      simp only [List.mem_cons, List.not_mem_nil, or_false] at hw
      rcases hw with rfl | rfl
      · exact ⟨by show 0 < A.length + 2; omega, by show A.length + 2 ≤ _; omega, by show T (A.length + 2) = sz; rw [Nat.add_comm]; exact tz⟩
      · exact ⟨by show 0 < 1; omega, by show 1 ≤ _; omega, ty⟩
    · by_cases h1 : i < 1 + A.length
      · have := a3.goes (b := 2 + A.length + B.length) e1 t1 (by omega) (i - 1) (by omega)
        rwa [show 1 + (i - 1) = i by omega] at this
      · by_cases h2 : i = 1 + A.length
        · subst h2
          intro x hx
          rw [e2] at hx
          cases hx
          refine ⟨_, by rw [tv]; exact o1, fun w hw => ?_⟩
          simp only [List.mem_cons, List.not_mem_nil, or_false] at hw
          subst hw
          exact ⟨by show 1 + A.length < 2 + A.length + B.length; omega, by show 2 + A.length + B.length ≤ _; omega, tt⟩
        · by_cases h3 : i < 2 + A.length + B.length
          · have := b3.goes (b := 2 + A.length + B.length) e3 t2 (by omega) (i - (2 + A.length)) (by omega)
            rwa [show 2 + A.length + (i - (2 + A.length)) = i by omega] at this
          · exact goAt_out (by omega)
  · by_cases h1 : j = 1
    · subst h1
      exact ⟨0, _, _, by omega, e0, by rw [t0]; exact o0, by rw [ty]; simp, fun w hw => by simp only [List.mem_cons, List.not_mem_nil, or_false] at hw; rcases hw with rfl | rfl <;> simp only <;> omega⟩
    · by_cases h2 : j ≤ 1 + A.length
      · have := a3.comes (b := 2 + A.length + B.length) e1 t1 (by omega) (j - 1) (by omega) (by omega)
        rwa [show 1 + (j - 1) = j by omega] at this
      · by_cases h3 : j = 2 + A.length
        · subst h3
          exact ⟨0, _, _, by omega, e0, by rw [t0]; exact o0, by rw [tz, Nat.add_comm]; simp, fun w hw => by simp only [List.mem_cons, List.not_mem_nil, or_false] at hw; rcases hw with rfl | rfl <;> simp only <;> omega⟩
        · have := b3.comes (b := 2 + A.length + B.length) e3 t2 (by omega) (j - (2 + A.length)) (by omega) (by omega)
          rwa [show 2 + A.length + (j - (2 + A.length)) = j by omega] at this
  · by_cases h1 : j = 0
    · subst h1; rw [t0]; exact hs
    · by_cases h2 : j ≤ 1 + A.length
      · have e := t1 (j - 1) (by omega)
        rw [show 1 + (j - 1) = j by omega] at e
        rw [e]
        have := a3.top (j - 1) (by omega)
        omega
      · have e := t2 (j - (2 + A.length)) (by omega)
        rw [show 2 + A.length + (j - (2 + A.length)) = j by omega] at e
        rw [e]
        have := b3.top (j - (2 + A.length)) (by omega)
        omega
  · by_cases hm : m ≤ n
    · obtain ⟨j, hj, hn⟩ := a3.at_
      exact ⟨1 + j, by omega, by rw [t1 j hj]; omega⟩
    · obtain ⟨j, hj, hn⟩ := b3.at_
      exact ⟨2 + A.length + j, by omega, by rw [t2 j hj]; omega⟩
theorem pz_over {E : Ev} {y : Mk} {h t n : Int} (hh : 0 ≤ h) (hy : Az E y (h, t) n) : Pz E (overM 24 0 y []) (h + 1, t) (h, t) (max (h + 1) n) := by
  intro K
  obtain ⟨p1, g1⟩ := hy K
  refine ⟨p1, fun hK => ?_⟩
  obtain ⟨S, a1, a2, a3⟩ := g1 hK
  show ∃ T, T 0 = (h + 1, t) ∧ T (cat (cat [((24 : Int), (0 : Int) + (((y K).1.length + 1 + 0 : Nat) : Int))] (y K).1) []).length = (h, t) ∧ Sg E (cat (cat [((24 : Int), (0 : Int) + (((y K).1.length + 1 + 0 : Nat) : Int))] (y K).1) []) (cat (cat [((24 : Int), (0 : Int) + (((y K).1.length + 1 + 0 : Nat) : Int))] (y K).1) []).length T _
  generalize (y K).1 = A at *
  rw [cat_nil, show (0 : Int) + ((A.length + 1 + 0 : Nat) : Int) = ((1 + A.length : Nat) : Int) by omega]
  have n1 : (cat [((24 : Int), ((1 + A.length : Nat) : Int))] A).length = 1 + A.length := by rw [cat_len]; rfl
  rw [n1]
  have e0 : (cat [((24 : Int), ((1 + A.length : Nat) : Int))] A)[0]? = some ((24 : Int), ((1 + A.length : Nat) : Int)) := by
    rw [cat_l (by show 0 < 1; omega)]
    rfl
  have e1 : ∀ i, i < A.length → (cat [((24 : Int), ((1 + A.length : Nat) : Int))] A)[1 + i]? = (A[i]?).map (shI 1) := fun i _ => cat_r [((24 : Int), ((1 + A.length : Nat) : Int))] A i
  generalize cat [((24 : Int), ((1 + A.length : Nat) : Int))] A = L at *
  obtain ⟨T, hT⟩ : ∃ T : Nat → Sq, T = fun i => if i = 0 then (h + 1, t) else if i ≤ A.length then S (i - 1) else (h, t) := ⟨_, rfl⟩
  have t0 : T 0 = (h + 1, t) := by rw [hT]; rfl
  have t1 : ∀ i, i ≤ A.length - 1 → T (1 + i) = S i := by
    intro i hi
    rw [hT]
    show (if 1 + i = 0 then _ else if 1 + i ≤ A.length then S (1 + i - 1) else _) = S i
    rw [if_neg (by omega), if_pos (by omega), Nat.add_sub_cancel_left]
  have t2 : T (1 + A.length) = (h, t) := by
    rw [hT]
    show (if 1 + A.length = 0 then _ else if 1 + A.length ≤ A.length then _ else (h, t)) = (h, t)
    rw [if_neg (by omega), if_neg (by omega)]
  have ty : T 1 = (h, t) := by have := t1 0 (by omega); rw [Nat.add_zero] at this; rw [this, a1]
  have o0 : One E (24, ((1 + A.length : Nat) : Int)) 0 (h + 1, t) [(1 + A.length, (h, t)), (1, (h, t))] := by
    have := One.fork (E := E) (i := 0) (h := h + 1) (t := t) (to := 1 + A.length) (by omega)
    rwa [show h + 1 - 1 = h by omega] at this
  refine ⟨T, t0, t2, by omega, fun i => ?_, fun j h0 hj => ?_, fun j hj => ?_, ?_⟩
  · by_cases h0 : i = 0
    · subst h0
      intro x hx
      rw [e0] at hx
      cases hx
      refine ⟨_, by rw [t0]; exact o0, fun w hw => ?_⟩
      simp only [List.mem_cons, List.not_mem_nil, or_false] at hw
      rcases hw with rfl | rfl
      · exact ⟨by show 0 < 1 + A.length; omega, by show 1 + A.length ≤ _; omega, t2⟩
      · exact ⟨by show 0 < 1; omega, by show 1 ≤ _; omega, ty⟩
    · by_cases h1 : i < 1 + A.length
      · have := a3.goes (b := 1 + A.length) e1 t1 (by omega) (i - 1) (by omega)
        rwa [show 1 + (i - 1) = i by omega] at this
      · exact goAt_out (by omega)
  · by_cases h1 : j = 1
    · subst h1
      exact ⟨0, _, _, by omega, e0, by rw [t0]; exact o0, by rw [ty]; simp, fun w hw => by simp only [List.mem_cons, List.not_mem_nil, or_false] at hw; rcases hw with rfl | rfl <;> simp only <;> omega⟩
    · by_cases h2 : j ≤ A.length
      · have := a3.comes (b := 1 + A.length) e1 t1 (by omega) (j - 1) (by omega) (by omega)
        rwa [show 1 + (j - 1) = j by omega] at this
      · obtain rfl : j = 1 + A.length := by omega
        exact ⟨0, _, _, by omega, e0, by rw [t0]; exact o0, by rw [t2]; simp, fun w hw => by simp only [List.mem_cons, List.not_mem_nil, or_false] at hw; rcases hw with rfl | rfl <;> simp only <;> omega⟩
  · by_cases h1 : j = 0
    · subst h1; rw [t0]; show h + 1 ≤ _; omega
    · by_cases h2 : j ≤ A.length
      · have e := t1 (j - 1) (by omega)
        rw [show 1 + (j - 1) = j by omega] at e
        rw [e]
        have := a3.top (j - 1) (by omega)
        omega
      · obtain rfl : j = 1 + A.length := by omega
        rw [t2]; show h ≤ _; omega
  · by_cases hm : n ≤ h + 1
    · exact ⟨0, by omega, by rw [t0]; show h + 1 = _; omega⟩
    · obtain ⟨j, hj, hn⟩ := a3.at_
      exact ⟨1 + j, by omega, by rw [t1 j hj]; omega⟩
theorem pz_memo {E : Ev} {y : Mk} {h t n hi : Int} (h0 : 0 ≤ n) (h1 : n < E.ln) (hh : 0 ≤ h) (hy : Pz E y (h, t) (h + 1, t) hi) : Pz E (overM 27 (n * 16384) y [(28, n)]) (h, t) (h + 1, t) hi := by
  intro K
  obtain ⟨p1, g1⟩ := hy K
  refine ⟨p1, fun hK => ?_⟩
  obtain ⟨S, a1, a2, a3⟩ := g1 hK
  show ∃ T, T 0 = (h, t) ∧ T (cat (cat [((27 : Int), n * 16384 + (((y K).1.length + 1 + 1 : Nat) : Int))] (y K).1) [(28, n)]).length = (h + 1, t) ∧ Sg E (cat (cat [((27 : Int), n * 16384 + (((y K).1.length + 1 + 1 : Nat) : Int))] (y K).1) [(28, n)]) (cat (cat [((27 : Int), n * 16384 + (((y K).1.length + 1 + 1 : Nat) : Int))] (y K).1) [(28, n)]).length T _
  generalize (y K).1 = A at *
  rw [show A.length + 1 + 1 = 2 + A.length by omega]
  have n1 : (cat [((27 : Int), n * 16384 + ((2 + A.length : Nat) : Int))] A).length = 1 + A.length := by rw [cat_len]; rfl
  have n2 : (cat (cat [((27 : Int), n * 16384 + ((2 + A.length : Nat) : Int))] A) [(28, n)]).length = 2 + A.length := by rw [cat_len, n1]; show 1 + A.length + 1 = _; omega
  rw [n2]
  have e0 : (cat (cat [((27 : Int), n * 16384 + ((2 + A.length : Nat) : Int))] A) [(28, n)])[0]? = some ((27 : Int), n * 16384 + ((2 + A.length : Nat) : Int)) := by
    rw [cat_l (by omega), cat_l (by show 0 < 1; omega)]
    rfl
  have e1 : ∀ i, i < A.length → (cat (cat [((27 : Int), n * 16384 + ((2 + A.length : Nat) : Int))] A) [(28, n)])[1 + i]? = (A[i]?).map (shI 1) := by
    intro i hi
    rw [cat_l (by omega)]
    exact cat_r [((27 : Int), n * 16384 + ((2 + A.length : Nat) : Int))] A i
  have e2 : (cat (cat [((27 : Int), n * 16384 + ((2 + A.length : Nat) : Int))] A) [(28, n)])[1 + A.length]? = some ((28 : Int), n) := by
    have := cat_r (cat [((27 : Int), n * 16384 + ((2 + A.length : Nat) : Int))] A) [((28 : Int), n)] 0
    rw [n1] at this
    refine Eq.trans this ?_
    show some (shI (1 + A.length) ((28 : Int), n)) = _
    rw [shI_no _ _ _ (by omega)]
  generalize cat (cat [((27 : Int), n * 16384 + ((2 + A.length : Nat) : Int))] A) [((28 : Int), n)] = L at *
  obtain ⟨T, hT⟩ : ∃ T : Nat → Sq, T = fun i => if i = 0 then (h, t) else if i ≤ 1 + A.length then S (i - 1) else (h + 1, t) := ⟨_, rfl⟩
  have t0 : T 0 = (h, t) := by rw [hT]; rfl
  have t1 : ∀ i, i ≤ A.length → T (1 + i) = S i := by
    intro i hi
    rw [hT]
    show (if 1 + i = 0 then _ else if 1 + i ≤ 1 + A.length then S (1 + i - 1) else _) = S i
    rw [if_neg (by omega), if_pos (by omega), Nat.add_sub_cancel_left]
  have t2 : T (2 + A.length) = (h + 1, t) := by
    rw [hT]
    show (if 2 + A.length = 0 then _ else if 2 + A.length ≤ 1 + A.length then _ else (h + 1, t)) = (h + 1, t)
    rw [if_neg (by omega), if_neg (by omega)]
  have ty : T 1 = (h, t) := by have := t1 0 (by omega); rw [Nat.add_zero] at this; rw [this, a1]
  have tv : T (1 + A.length) = (h + 1, t) := by rw [t1 _ (Nat.le_refl _), a2]
  have o0 := One.memo (E := E) (i := 0) (h := h) (t := t) (to := 2 + A.length) h0 h1
  have o1 : One E (28, n) (1 + A.length) (h + 1, t) [(2 + A.length, (h + 1, t))] := by
    have := One.keep (E := E) (i := 1 + A.length) (h := h + 1) (t := t) h0 h1 (by omega)
    rwa [show 1 + A.length + 1 = 2 + A.length by omega] at this
  have p0 := a3.top 0 (by omega)
  rw [a1] at p0
  have p1' := a3.top A.length (by omega)
  rw [a2] at p1'
  simp only at p0 p1'
  refine ⟨T, t0, t2, by omega, fun i => ?_, fun j h0 hj => ?_, fun j hj => ?_, ?_⟩
  · by_cases h0 : i = 0
    · subst h0
      intro x hx
      rw [e0] at hx
      cases hx
      refine ⟨_, by rw [t0]; exact o0, fun w hw => ?_⟩
      simp only [List.mem_cons, List.not_mem_nil, or_false] at hw
      rcases hw with rfl | rfl
      · exact ⟨by show 0 < 2 + A.length; omega, by show 2 + A.length ≤ _; omega, t2⟩
      · exact ⟨by show 0 < 1; omega, by show 1 ≤ _; omega, ty⟩
    · by_cases h1 : i < 1 + A.length
      · have := a3.goes (b := 2 + A.length) e1 t1 (by omega) (i - 1) (by omega)
        rwa [show 1 + (i - 1) = i by omega] at this
      · by_cases h2 : i = 1 + A.length
        · subst h2
          intro x hx
          rw [e2] at hx
          cases hx
          refine ⟨_, by rw [tv]; exact o1, fun w hw => ?_⟩
          simp only [List.mem_cons, List.not_mem_nil, or_false] at hw
          subst hw
          exact ⟨by show 1 + A.length < 2 + A.length; omega, by show 2 + A.length ≤ _; omega, t2⟩
        · exact goAt_out (by omega)
  · by_cases h1 : j = 1
    · subst h1
      exact ⟨0, _, _, by omega, e0, by rw [t0]; exact o0, by rw [ty]; simp, fun w hw => by simp only [List.mem_cons, List.not_mem_nil, or_false] at hw; rcases hw with rfl | rfl <;> simp only <;> omega⟩
    · by_cases h2 : j ≤ 1 + A.length
      · have := a3.comes (b := 2 + A.length) e1 t1 (by omega) (j - 1) (by omega) (by omega)
        rwa [show 1 + (j - 1) = j by omega] at this
      · obtain rfl : j = 2 + A.length := by omega
        exact ⟨0, _, _, by omega, e0, by rw [t0]; exact o0, by rw [t2]; simp, fun w hw => by simp only [List.mem_cons, List.not_mem_nil, or_false] at hw; rcases hw with rfl | rfl <;> simp only <;> omega⟩
  · by_cases h1 : j = 0
    · subst h1; rw [t0]; exact p0
    · by_cases h2 : j ≤ 1 + A.length
      · have e := t1 (j - 1) (by omega)
        rw [show 1 + (j - 1) = j by omega] at e
        rw [e]
        exact a3.top (j - 1) (by omega)
      · obtain rfl : j = 2 + A.length := by omega
        rw [t2]; exact p1'
  · obtain ⟨j, hj, hn⟩ := a3.at_
    exact ⟨1 + j, by omega, by rw [t1 j hj]; exact hn⟩

theorem sg_nil (E : Ev) (s : Sq) : Sg E [] 0 (fun _ => s) s.1 := ⟨by simp, fun i => goAt_out (by simp), fun j h0 hj => by omega, fun _ _ => Int.le_refl _, 0, Nat.le_refl _, rfl⟩
theorem pz_nil (E : Ev) (s : Sq) : Pz E (allM []) s s s.1 := fun _ => ⟨List.prefix_refl _, fun _ => ⟨_, rfl, rfl, sg_nil E s⟩⟩
theorem pz_up {E : Ev} {op a h t : Int} (o : One E (op, a) 0 (h, t) [(1, (h + 1, t))]) : Pz E (insM op a) (h, t) (h + 1, t) (h + 1) := (pz_ins o).hi (by show max h (h + 1) = _; omega)
theorem pz_same {E : Ev} {op a h t : Int} (o : One E (op, a) 0 (h, t) [(1, (h, t))]) : Pz E (insM op a) (h, t) (h, t) h := (pz_ins o).hi (by show max h h = _; omega)
theorem pz_two (E : Ev) {op h : Int} (t : Int) (h1 : 12 ≤ op) (h2 : op ≤ 22) (hh : 0 ≤ h) : Pz E (insM op 0) (h + 1 + 1, t) (h + 1, t) (h + 1 + 1) := by
  have o := One.two (E := E) (i := 0) (h := h + 1 + 1) (t := t) h1 h2 (by omega)
  rw [show h + 1 + 1 - 1 = h + 1 by omega] at o
  exact (pz_ins o).hi (by show max (h + 1 + 1) (h + 1) = _; omega)
theorem pz_drop (E : Ev) {h : Int} (t : Int) (hh : 0 ≤ h) : Pz E (insM 33 0) (h + 1, t) (h, t) (h + 1) := by
  have o := One.drop (E := E) (i := 0) (h := h + 1) (t := t) (by omega)
  rw [show h + 1 - 1 = h by omega] at o
  exact (pz_ins o).hi (by show max (h + 1) h = _; omega)
theorem pz_either {E : Ev} {y z : Mk} {h t n m : Int} (hh : 0 ≤ h) (hn : h + 1 ≤ n) (hy : Pz E y (h, t) (h + 1, t) n) (hz : Pz E z (h, t) (h + 1, t) m) : Pz E (forkM 24 23 y z) (h + 1, t) (h + 1, t) (max n m) := by
  refine pz_fork (sy := (h, t)) (sy' := (h + 1, t)) (sz := (h, t)) (fun to => ?_) (fun i to => .past) (.inl rfl) hy hz (by show h + 1 ≤ _; omega)
  have o := One.fork (E := E) (i := 0) (h := h + 1) (t := t) (to := to) (by omega)
  rwa [show h + 1 - 1 = h by omega] at o
theorem pz_try {E : Ev} {y z : Mk} {h t n m : Int} (hn : h ≤ n) (h0 : 0 ≤ t) (h4 : t < 4096) (hy : Pz E y (h, t + 1) (h + 1, t + 1) n) (hz : Pz E z (h, t) (h + 1, t) m) : Pz E (forkM 25 26 y z) (h, t) (h + 1, t) (max n m) := by
  refine pz_fork (sy := (h, t + 1)) (sy' := (h + 1, t + 1)) (sz := (h, t)) (fun to => .tri h4) (fun i to => ?_) (.inr rfl) hy hz (by show h ≤ _; omega)
  have o := One.done (E := E) (i := i) (h := h + 1) (t := t + 1) (to := to) (by omega)
  rwa [show t + 1 - 1 = t by omega] at o
theorem one_leaf2 {wn cn ln : Int} {x : Co} (h : csort ladF wn cn ln x ≠ 0) (h1 : x.op = 1) : x.parts = [] ∧ csort ladF wn cn ln x ≠ 3 := by
  obtain ⟨k, hop, -, -, -, -, hs⟩ := shp_of h
  have hk : k = 1 := by omega
  subst hk
  have hlf := leaf_sort h hop (.inl (by omega))
  rcases hs with ⟨hk, hps⟩ | ⟨hk, -⟩ | ⟨hk, -⟩ | ⟨hk, -⟩ | ⟨hk, -⟩ | ⟨hk, -⟩ | ⟨hk, -⟩ | ⟨hk, -⟩ | ⟨hk, -⟩
  · refine ⟨hps, ?_⟩
    rcases hlf hps with ⟨h, -⟩ | ⟨-, h⟩ <;> omega
  all_goals omega
theorem fit_nul {k : Nat} {wn cn ln : Int} {t : Co} (h : fitsB k wn cn ln t = true) (h1 : k ≠ 1 ∧ k ≠ 2 ∧ k ≠ 4 ∧ k ≠ 5 ∧ k ≠ 6 ∧ k ≠ 7 ∧ k ≠ 13) : t.n = 0 := by
  obtain ⟨a1, a2, a3, a4, a5, a6, a7⟩ := h1
  unfold fitsB at h
  rw [if_neg a1, if_neg a2, if_neg a3, if_neg a4, if_neg a5, if_neg a6, if_neg a7] at h
  simp only [Bool.and_eq_true, decide_eq_true_eq] at h
  exact h.1
theorem nod_part {t x : Co} (h : x ∈ t.parts) : cnodes x + 1 ≤ cnodes t := by
  rw [cnodes_eq t]
  have := cnodesL_mem h
  omega
theorem plnI_lo {op : Int} (h : op ≤ 6) : plnI op = op - 1 := if_pos h
theorem plnI_mid {op : Int} (h : 7 ≤ op ∧ op ≤ 24) : plnI op = op - 2 := by
  unfold plnI
  rw [if_neg (by omega)]
  split
  · rfl
  · rw [if_pos (by omega)]
theorem plnI_hi {op : Int} (h : 25 ≤ op) : plnI op = op := by
  unfold plnI
  rw [if_neg (by omega), if_neg (by omega), if_neg (by omega)]
theorem pz_leaf {E : Ev} {t : Co} {k : Nat} (hop : t.op = (k : Int)) (hb : fitsB k E.wn E.cn E.ln t = true) (h1 : 3 ≤ k) (h6 : k ≤ 6) (h tr : Int) : Pz E (insM (plnI t.op) t.n) (h, tr) (h + 1, tr) (h + 1) := by
  have hc : k = 3 ∨ k = 4 ∨ k = 5 ∨ k = 6 := by omega
  rw [plnI_lo (by omega), hop]
  rcases hc with rfl | rfl | rfl | rfl
  · rw [fit_nul hb (by omega)]
    exact pz_up .rep
  · have hb' : (belowB t.n E.wn && decide (t.m = 0)) = true := hb
    unfold belowB at hb'
    simp only [Bool.and_eq_true, decide_eq_true_eq] at hb'
    exact pz_up (.win hb'.1.1 hb'.1.2)
  · have hb' : (belowB t.n E.cn && decide (t.m = 0)) = true := hb
    unfold belowB at hb'
    simp only [Bool.and_eq_true, decide_eq_true_eq] at hb'
    exact pz_up (.cro hb'.1.1 hb'.1.2)
  · have hb' : (decide (1 ≤ t.n) && (decide (t.n ≤ 3) && (decide (t.m = 1) || decide (t.m = 2)))) = true := hb
    simp only [Bool.and_eq_true, decide_eq_true_eq] at hb'
    exact pz_up (.why hb'.1 hb'.2.1)
theorem az_rung {E : Ev} : ∀ (n : Nat) (l : List Co), l.length = 2 * n + 1 → (∀ j x, l[j]? = some x → j % 2 = 1 ∨ j + 1 = l.length → Az E (codF x) (0, 0) (hgtF x : Nat)) → Az E (rungM (l.map fun x => (x, codF x))) (1, 0) (hR l : Nat)
  | 0, [a], _, H => by
    have h1 := az_then (pz_drop E (h := 0) 0 (by omega)) (H 0 a rfl (.inr rfl))
    exact h1.hi (by show max (0 + 1 : Int) (hgtF a : Nat) = ((max 1 (hgtF a) : Nat) : Int); omega)
  | n + 1, b :: a :: r, hl, H => by
    have h1 : Az E (codF a) (0, 0) (hgtF a : Nat) := H 1 a rfl (.inl rfl)
    have h2 := az_rung (E := E) n r (by simp at hl; omega) (fun j x hx hj => H (j + 2) x hx (by simp; omega))
    have q1 : Pz E (insM 32 0) (1, 0) (2, 0) 2 := pz_up (h := 1) (.dup (by omega))
    have q2 : Pz E (numM b.n) (2, 0) (3, 0) 3 := pz_num E b.n 2 0
    have q3 : Pz E (insM 16 0) (3, 0) (2, 0) 3 := pz_two E (h := 1) 0 (by omega) (by omega) (by omega)
    have q4 : Az E (thenM (insM 33 0) (codF a)) (1, 0) (max 1 (hgtF a : Nat)) := az_then (pz_drop E (h := 0) 0 (by omega)) h1
    have q5 : Pz E (overM 24 0 (thenM (insM 33 0) (codF a)) []) (2, 0) (1, 0) _ := pz_over (h := 1) (by omega) q4
    have q6 := az_then (pz_then q1 (pz_then q2 q3)) (az_then q5 h2)
    exact q6.hi (by show max (max (2 : Int) (max 3 3)) (max (max (1 + 1) (max 1 (hgtF a : Nat))) (hR r : Nat)) = ((max 3 (max (hgtF a) (hR r)) : Nat) : Int); omega)
theorem cod_sg {E : Ev} : ∀ (t : Co), csort ladF E.wn E.cn E.ln t ≠ 0 → ((csort ladF E.wn E.cn E.ln t = 1 ∨ csort ladF E.wn E.cn E.ln t = 2) → ∀ h tr : Int, 0 ≤ h → 0 ≤ tr → tr + (cnodes t : Nat) ≤ 4096 → Pz E (codF t) (h, tr) (h + 1, tr) (h + (hgtF t : Nat))) ∧ (csort ladF E.wn E.cn E.ln t = 3 → cnodes t ≤ 4096 → Az E (codF t) (0, 0) (hgtF t : Nat)) := by
  refine Co.ind fun t ih hz => ?_
  obtain ⟨k, hop, h1, h2, hb, hp, hs⟩ := shp_of hz
  have iv : ∀ x, x ∈ t.parts → (csort ladF E.wn E.cn E.ln x = 1 ∨ csort ladF E.wn E.cn E.ln x = 2) → ∀ h tr : Int, 0 ≤ h → 0 ≤ tr → tr + 1 + (cnodes x : Nat) ≤ 4097 → Pz E (codF x) (h, tr) (h + 1, tr) (h + (hgtF x : Nat)) := fun x hx h a b c d e => (ih x hx (hp x hx)).1 h a b c d (by omega)
  have ip : ∀ x, x ∈ t.parts → (csort ladF E.wn E.cn E.ln x = 1 ∨ csort ladF E.wn E.cn E.ln x = 2) → 1 ≤ hgtF x := fun x hx h => hgt_pos x h
  have ia : ∀ x, x ∈ t.parts → csort ladF E.wn E.cn E.ln x = 3 → cnodes x ≤ 4096 → Az E (codF x) (0, 0) (hgtF x : Nat) := fun x hx h => (ih x hx (hp x hx)).2 h
  have hnp : ∀ x, x ∈ t.parts → cnodes x + 1 ≤ cnodes t := fun x hx => nod_part hx
  have hlf := leaf_sort hz hop
  have hgp : csort ladF E.wn E.cn E.ln t = 1 ∨ csort ladF E.wn E.cn E.ln t = 2 → 1 ≤ hgtF t := hgt_pos t
  rw [codF_eq]
  generalize csort ladF E.wn E.cn E.ln t = s at hz hs hlf hgp
  rcases hs with ⟨hk, hps⟩ | ⟨hk, hs, x, hps, hx⟩ | ⟨hk, hs, x, hps, hx⟩ | ⟨hk, hs, x, y, hps, hx, hy⟩ | ⟨hk, hs, x, y, hps, hx, hy⟩ | ⟨hk, hs, x, y, hps, hx, hy⟩ | ⟨hk, hs, x, y, z, hps, hx, hy, hzz⟩ | ⟨hk, hs, x, hps, hx⟩ | ⟨hk, hs, hl⟩
  · rcases hlf hk hps with ⟨rfl, rfl⟩ | ⟨h6, hs⟩
    · rw [codO_rest _ (by omega), hps, plnI_hi (by omega), hop, fit_nul hb (by omega), hgt_hold hop]
      exact ⟨fun h => by omega, fun _ _ => (az_then (pz_nil E _) (az_ins .hold)).hi (by show max (0 : Int) 0 = ((0 : Nat) : Int); omega)⟩
    · refine ⟨fun _ h tr hh ht hn => ?_, fun h => by omega⟩
      rw [hgt_leaf hps (by omega)]
      by_cases h12 : t.op = 1 ∨ t.op = 2
      · rw [codO_num _ h12]
        exact pz_num E t.n h tr
      · rw [codO_rest _ (by omega), hps]
        exact (pz_then (pz_nil E _) (pz_leaf hop hb (by omega) (by omega) h tr)).hi (by show max h (h + 1) = h + ((1 : Nat) : Int); omega)
  · subst hk
    refine ⟨fun _ h tr hh ht hn => ?_, fun h => by omega⟩
    have hb' : (belowB t.n E.ln && decide (t.m = 0)) = true := hb
    unfold belowB at hb'
    simp only [Bool.and_eq_true, decide_eq_true_eq] at hb'
    have n1 := hnp x (by rw [hps]; simp)
    rw [show codO t (t.parts.map codF) = overM 27 (t.n * 16384) ((t.parts.map codF).getD 0 (allM [])) [(28, t.n)] by unfold codO; rw [if_neg (by omega), if_pos (by omega)], hgt_1 hps (by omega), hps]
    exact pz_memo hb'.1.1 hb'.1.2 hh (iv x (by rw [hps]; simp) (by omega) h tr hh ht (by omega))
  · refine ⟨fun _ h tr hh ht hn => ?_, fun h => by split at hs <;> omega⟩
    have n1 := hnp x (by rw [hps]; simp)
    have hv := iv x (by rw [hps]; simp) (by rw [hx, hs]; split <;> simp) h tr hh ht (by omega)
    have hq := ip x (by rw [hps]; simp) (by rw [hx, hs]; split <;> simp)
    rw [hgt_1 hps (by omega)]
    by_cases h13 : k = 13
    · subst h13
      have hb' : (decide (0 ≤ t.n) && (decide (1 ≤ t.m))) = true := hb
      simp only [Bool.and_eq_true, decide_eq_true_eq] at hb'
      rw [show codO t (t.parts.map codF) = thenM ((t.parts.map codF).getD 0 (allM [])) (scaM t.n t.m) by unfold codO; rw [if_neg (by omega), if_neg (by omega), if_pos (by omega)], hps]
      exact (pz_then hv (pz_sca E tr hb'.1 hb'.2 (by omega))).hi (by omega)
    · rw [codO_rest _ (by omega), hps, plnI_mid (by omega), fit_nul hb (by omega)]
      have q := pz_same (E := E) (h := h + 1) (t := tr) (.one (op := t.op - 2) (by omega) (by omega) (by omega))
      exact (pz_then (pz_then hv (pz_nil E _)) q).hi (by show max (max (h + (hgtF x : Nat)) (h + 1)) (h + 1) = _; omega)
  · refine ⟨fun _ h tr hh ht hn => ?_, fun h => by split at hs <;> omega⟩
    have n1 := hnp x (by rw [hps]; simp)
    have n2 := hnp y (by rw [hps]; simp)
    have hv := iv x (by rw [hps]; simp) (by omega) h tr hh ht (by omega)
    have hw := iv y (by rw [hps]; simp) (by omega) (h + 1) tr (by omega) ht (by omega)
    have hq := ip x (by rw [hps]; simp) (by omega)
    have hr := ip y (by rw [hps]; simp) (by omega)
    rw [codO_rest _ (by omega), hgt_2 hps (by omega) (by omega), if_pos (by omega), hps, plnI_mid (by omega), fit_nul hb (by omega)]
    exact (pz_then (pz_then hv (pz_then hw (pz_nil E _))) (pz_two E tr (by omega) (by omega) hh)).hi (by show max (max (h + (hgtF x : Nat)) (max (h + 1 + (hgtF y : Nat)) (h + 1 + 1))) (h + 1 + 1) = _; omega)
  · refine ⟨fun _ h tr hh ht hn => ?_, fun h => by omega⟩
    have n1 := hnp x (by rw [hps]; simp)
    have n2 := hnp y (by rw [hps]; simp)
    have hv := iv x (by rw [hps]; simp) (by omega) h tr hh ht (by omega)
    have hw := iv y (by rw [hps]; simp) (by omega) h tr hh ht (by omega)
    have hq := ip x (by rw [hps]; simp) (by omega)
    have hr := ip y (by rw [hps]; simp) (by omega)
    rw [hgt_2 hps (by omega) (by omega), if_neg (by omega)]
    rcases hk with rfl | rfl
    · rw [show codO t (t.parts.map codF) = thenM ((t.parts.map codF).getD 0 (allM [])) (forkM 24 23 ((t.parts.map codF).getD 1 (allM [])) (numM 0)) by unfold codO; rw [if_neg (by omega), if_neg (by omega), if_neg (by omega), if_pos (by omega)], hps]
      exact (pz_then hv (pz_either hh (by omega) hw (pz_num E 0 h tr))).hi (by omega)
    · rw [show codO t (t.parts.map codF) = thenM ((t.parts.map codF).getD 0 (allM [])) (forkM 24 23 (numM 1) ((t.parts.map codF).getD 1 (allM []))) by unfold codO; rw [if_neg (by omega), if_neg (by omega), if_neg (by omega), if_neg (by omega), if_pos (by omega)], hps]
      exact (pz_then hv (pz_either hh (by omega) (pz_num E 1 h tr) hw)).hi (by omega)
  · subst hk
    refine ⟨fun _ h tr hh ht hn => ?_, fun h => by omega⟩
    have n1 := hnp x (by rw [hps]; simp)
    have n2 := hnp y (by rw [hps]; simp)
    have p1 := cnodes_pos x
    have hv := iv x (by rw [hps]; simp) (by omega) h (tr + 1) hh (by omega) (by omega)
    have hw := iv y (by rw [hps]; simp) (by omega) h tr hh ht (by omega)
    rw [show codO t (t.parts.map codF) = forkM 25 26 ((t.parts.map codF).getD 0 (allM [])) ((t.parts.map codF).getD 1 (allM [])) by unfold codO; rw [if_neg (by omega), if_neg (by omega), if_neg (by omega), if_neg (by omega), if_neg (by omega), if_neg (by omega), if_pos (by omega)], hgt_2 hps (by omega) (by omega), if_neg (by omega), hps]
    exact (pz_try (by omega) ht (by omega) hv hw).hi (by omega)
  · subst hk
    refine ⟨fun _ h tr hh ht hn => ?_, fun h => by omega⟩
    have n1 := hnp x (by rw [hps]; simp)
    have n2 := hnp y (by rw [hps]; simp)
    have n3 := hnp z (by rw [hps]; simp)
    have hv := iv x (by rw [hps]; simp) (by omega) h tr hh ht (by omega)
    have hw := iv y (by rw [hps]; simp) (by omega) h tr hh ht (by omega)
    have hu := iv z (by rw [hps]; simp) (by omega) h tr hh ht (by omega)
    have hq := ip y (by rw [hps]; simp) (by omega)
    rw [show codO t (t.parts.map codF) = thenM ((t.parts.map codF).getD 0 (allM [])) (forkM 24 23 ((t.parts.map codF).getD 1 (allM [])) ((t.parts.map codF).getD 2 (allM []))) by unfold codO; rw [if_neg (by omega), if_neg (by omega), if_neg (by omega), if_neg (by omega), if_neg (by omega), if_pos (by omega)], hgt_3 hps (by omega), hps]
    exact (pz_then hv (pz_either hh (by omega) hw hu)).hi (by omega)
  · refine ⟨fun h => by omega, fun _ hn => ?_⟩
    have n1 := hnp x (by rw [hps]; simp)
    have hv := iv x (by rw [hps]; simp) (by omega) 0 0 (by omega) (by omega) (by omega)
    have hq := ip x (by rw [hps]; simp) (by omega)
    rw [codO_rest _ (by omega), hgt_1 hps (by omega), hps, plnI_hi (by omega), fit_nul hb (by omega)]
    exact (az_then (pz_then hv (pz_nil E _)) (az_ins (s := (1, 0)) (.act (by omega)))).hi (by show max (max (0 + (hgtF x : Nat) : Int) (0 + 1)) 1 = _; omega)
  · subst hk
    refine ⟨fun h => by omega, fun _ hn => ?_⟩
    obtain ⟨l2, lm, l0, l3, lst⟩ := hl
    rw [List.length_map] at l2 lm l3 lst
    cases hpp : t.parts with
    | nil => rw [hpp] at l2; simp at l2
    | cons a r =>
      rw [hpp] at l2 lm l0 l3 lst
      simp only [List.length_cons] at l2 lm l3 lst
      rw [hgt_many (by rw [hpp]; simp) (by omega), show codO t ((a :: r).map codF) = thenM (((a :: r).map codF).getD 0 (allM [])) (rungM ((t.parts.zip ((a :: r).map codF)).drop 1)) by unfold codO; rw [if_neg (by omega), if_neg (by omega), if_neg (by omega), if_neg (by omega), if_neg (by omega), if_neg (by omega), if_neg (by omega), if_pos (by omega)], hpp]
      have hsa : csort ladF E.wn E.cn E.ln a = 1 := by simpa using l0
      have n1 := hnp a (by rw [hpp]; simp)
      have hv := iv a (by rw [hpp]; simp) (.inl hsa) 0 0 (by omega) (by omega) (by omega)
      have hq := ip a (by rw [hpp]; simp) (.inl hsa)
      have hz : ((a :: r).zip ((a :: r).map codF)).drop 1 = r.map fun x => (x, codF x) := by
        rw [List.map_cons, List.zip_cons_cons, List.drop_succ_cons, List.drop_zero]
        exact zip_cod r
      rw [hz]
      have hxx : ∀ (j : Nat) (x : Co), r[j]? = some x → (((a :: r).map (csort ladF E.wn E.cn E.ln)).getD (j + 1) 0) = csort ladF E.wn E.cn E.ln x := fun j x hx => by simp [List.getD, hx]
      have h3 : ∀ (j : Nat) (x : Co), r[j]? = some x → j % 2 = 1 ∨ j + 1 = r.length → csort ladF E.wn E.cn E.ln x = 3 := by
        intro j x hx hj
        have hjl := (List.getElem?_eq_some_iff.1 hx).1
        rcases hj with hj | hj
        · have h3 := (lst j hj (by omega)).2.1
          rwa [hxx j x hx] at h3
        · rwa [show r.length + 1 - 1 = j + 1 by omega, hxx j x hx] at l3
      have hr := az_rung (E := E) (r.length / 2) r (by omega) (fun j x hx hj => by
        have hm : x ∈ t.parts := by rw [hpp]; exact List.mem_cons_of_mem _ (List.mem_of_getElem? hx)
        have n2 := hnp x hm
        exact ia x hm (h3 j x hx hj) (by omega))
      have hh : max 1 (hL 32 1 (hP r)) = hR r := hR_eq (r.length / 2) r 1 (by omega) (by omega) (fun j x hx => ⟨fun g1 g2 => by
        have hm : x ∈ t.parts := by rw [hpp]; exact List.mem_cons_of_mem _ (List.mem_of_getElem? hx)
        have ho := (lst (j + 1) (by omega) (by omega)).1
        rw [hpp] at ho
        have ho' : x.op = 1 := by simpa [List.getD, hx] using ho
        exact ⟨ho', hgt_leaf (one_leaf2 (hp x hm) ho').1 (by omega)⟩, fun g1 ho => by
        have hm : x ∈ t.parts := by rw [hpp]; exact List.mem_cons_of_mem _ (List.mem_of_getElem? hx)
        exact (one_leaf2 (hp x hm) ho).2 (h3 j x hx g1)⟩)
      have he : hL t.op 0 (hP (a :: r)) = max (hgtF a) (hL 32 1 (hP r)) := by
        rw [hop]
        show max (benF 32 0 a.op + hgtF a) (hL 32 1 (hP r)) = _
        rw [ben_first]
        omega
      rw [he]
      exact (az_then hv hr).hi (by omega)
theorem plan_sg {E : Ev} : ∀ (gs : List (Co × Co)) (f : Co), (∀ g, g ∈ gs → (csort ladF E.wn E.cn E.ln g.1 = 2 ∧ csort ladF E.wn E.cn E.ln g.2 = 3) ∧ cnodes g.1 ≤ 4096 ∧ cnodes g.2 ≤ 4096) → csort ladF E.wn E.cn E.ln f = 3 → cnodes f ≤ 4096 → Az E (planM gs f) (0, 0) ((max (hgtF f) (hG gs) : Nat) : Int)
  | [], f, _, hf, hn => ((cod_sg f (by omega)).2 hf hn).hi (by show ((hgtF f : Nat) : Int) = ((max (hgtF f) 0 : Nat) : Int); omega)
  | g :: r, f, hg, hf, hn => by
    obtain ⟨⟨h1, h2⟩, h3, h4⟩ := hg g (by simp)
    have q1 := (cod_sg (E := E) g.1 (by omega)).1 (.inr h1) 0 0 (by omega) (by omega) (by omega)
    have q2 := (cod_sg (E := E) g.2 (by omega)).2 h2 h4
    have q3 := plan_sg (E := E) r f (fun x hx => hg x (by simp [hx])) hf hn
    have p1 := hgt_pos (wn := E.wn) (cn := E.cn) (ln := E.ln) g.1 (.inr h1)
    exact (az_then (pz_then q1 (pz_over (h := 0) (by omega) q2)) q3).hi (by show max (max (0 + (hgtF g.1 : Nat) : Int) (max (0 + 1) (hgtF g.2 : Nat))) ((max (hgtF f) (hG r) : Nat) : Int) = ((max (hgtF f) (max (max (hgtF g.1) (hgtF g.2)) (hG r)) : Nat) : Int); omega)
end Go.Proofs.YtigldebdljfnbaaDoor
