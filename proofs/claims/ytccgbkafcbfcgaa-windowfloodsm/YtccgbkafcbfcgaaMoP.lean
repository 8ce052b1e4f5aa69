/- A queue of numbers, and those of it that are kept: plain lists. -/
import Derived.Test.YtccgbkafcbfcgaaBoxes
namespace Go.Proofs.Ytccgbkafcbfcgaa

/-- Is a lower than b (of the greatest: higher)? -/
def win (h : Bool) (a b : Int) : Bool := if h then decide (b < a) else decide (a < b)
theorem win_trans {h : Bool} {a b c : Int} (x : win h a b = true) (y : win h b c = true) : win h a c = true := by
  cases h <;> simp [win] at * <;> omega
theorem win_self (h : Bool) (a : Int) : win h a a = false := by cases h <;> simp [win]
theorem win_asym {h : Bool} {a b : Int} (x : win h a b = true) : win h b a = false := by cases h <;> simp [win] at * <;> omega
theorem win_eq {h : Bool} {a b : Int} (x : win h a b = false) (y : win h b a = false) : a = b := by cases h <;> simp [win] at * <;> omega
theorem win_lose {h : Bool} {a b c : Int} (x : win h a b = true) (y : win h c b = false) : win h a c = true := by cases h <;> simp [win] at * <;> omega
theorem lose_win {h : Bool} {a b c : Int} (x : win h a c = false) (y : win h a b = true) : win h b c = false := by cases h <;> simp [win] at * <;> omega
theorem win_neg (a b : Int) : win true (-a) (-b) = win false a b := by simp [win]
/-- One more that is forgotten ahead of the first. -/
def bump : List (Int × Nat) → List (Int × Nat)
  | [] => []
  | k :: K => (k.1, k.2 + 1) :: K
/-- What is kept of a queue: each number, and how many that are forgotten stand ahead of it. -/
def rep (h : Bool) : List Int → List (Int × Nat)
  | [] => []
  | x :: T => if T.all (win h x) then (x, 0) :: rep h T else bump (rep h T)
/-- How many numbers these stand for. -/
def tot : List (Int × Nat) → Nat
  | [] => 0
  | k :: K => k.2 + 1 + tot K
theorem tot_append (A B : List (Int × Nat)) : tot (A ++ B) = tot A + tot B := by
  induction A with
  | nil => simp [tot]
  | cons k A ih => simp only [List.cons_append, tot, ih]; omega
theorem bump_ne {K : List (Int × Nat)} (h : K ≠ []) : bump K ≠ [] := by
  cases K with
  | nil => exact absurd rfl h
  | cons k K => simp [bump]
theorem bump_fst (K : List (Int × Nat)) : (bump K).map Prod.fst = K.map Prod.fst := by
  cases K with
  | nil => rfl
  | cons k K => simp [bump]
theorem rep_ne (h : Bool) {L : List Int} (hl : L ≠ []) : rep h L ≠ [] := by
  induction L with
  | nil => exact absurd rfl hl
  | cons x T ih =>
    unfold rep
    split
    · simp
    · refine bump_ne (ih ?_)
      intro e
      subst e
      simp_all
/-- The numbers that are kept. -/
def kept (h : Bool) (L : List Int) : List Int := (rep h L).map Prod.fst
theorem kept_cons (h : Bool) (x : Int) (T : List Int) : kept h (x :: T) = if T.all (win h x) then x :: kept h T else kept h T := by
  unfold kept
  rw [rep]
  split
  · simp
  · exact bump_fst _
theorem kept_mem {h : Bool} {L : List Int} {y : Int} (hy : y ∈ kept h L) : y ∈ L := by
  induction L with
  | nil => simp [kept, rep] at hy
  | cons x T ih =>
    rw [kept_cons] at hy
    split at hy
    · rcases List.mem_cons.1 hy with rfl | e
      · simp
      · exact List.mem_cons_of_mem _ (ih e)
    · exact List.mem_cons_of_mem _ (ih hy)
theorem kept_sorted (h : Bool) (L : List Int) : (kept h L).Pairwise (fun a b => win h a b = true) := by
  induction L with
  | nil => simp [kept, rep]
  | cons x T ih =>
    rw [kept_cons]
    split
    · rename_i ha
      exact List.pairwise_cons.2 ⟨fun y hy => List.all_eq_true.1 ha y (kept_mem hy), ih⟩
    · exact ih
theorem kept_length (h : Bool) (L : List Int) : (kept h L).length ≤ L.length := by
  induction L with
  | nil => simp [kept, rep]
  | cons x T ih =>
    rw [kept_cons]
    split <;> simp <;> omega
theorem kept_ne (h : Bool) {L : List Int} (hl : L ≠ []) : kept h L ≠ [] := by
  intro e
  exact rep_ne h hl (by simpa [kept] using e)
theorem tot_rep (h : Bool) (L : List Int) : tot (rep h L) = L.length := by
  induction L with
  | nil => simp [rep, tot]
  | cons x T ih =>
    rw [rep]
    split
    · simp [tot, ih]; omega
    · rename_i ha
      have hne : rep h T ≠ [] := rep_ne h (by rintro rfl; simp at ha)
      cases hr : rep h T with
      | nil => exact absurd hr hne
      | cons k K => rw [hr] at ih; simp [bump, tot] at ih ⊢; omega
/-- The first that is kept is the best. -/
theorem kept_best {h : Bool} {L : List Int} {y : Int} {K : List Int} (e : kept h L = y :: K) : y ∈ L ∧ ∀ z, z ∈ L → win h z y = false := by
  induction L generalizing y K with
  | nil => simp [kept, rep] at e
  | cons x T ih =>
    rw [kept_cons] at e
    split at e
    · rename_i ha
      obtain ⟨rfl, rfl⟩ := List.cons.inj e
      refine ⟨by simp, fun z hz => ?_⟩
      rcases List.mem_cons.1 hz with rfl | hz
      · exact win_self _ _
      · exact win_asym (List.all_eq_true.1 ha z hz)
    · rename_i ha
      obtain ⟨h1, h2⟩ := ih e
      refine ⟨List.mem_cons_of_mem _ h1, fun z hz => ?_⟩
      rcases List.mem_cons.1 hz with rfl | hz
      · cases hw : win h z y with
        | false => rfl
        | true => exact absurd (List.all_eq_true.2 fun u hu => win_lose hw (h2 u hu)) ha
      · exact h2 z hz
theorem best_one {h : Bool} {L : List Int} {x y : Int} (hx : x ∈ L) (h1 : ∀ z, z ∈ L → win h z x = false) (hy : y ∈ L) (h2 : ∀ z, z ∈ L → win h z y = false) : x = y := win_eq (h2 x hx) (h1 y hy)
/-- A number beats all just if it beats the best. -/
theorem all_win {h : Bool} {x y : Int} {T K : List Int} (e : kept h T = y :: K) : T.all (win h x) = win h x y := by
  obtain ⟨h1, h2⟩ := kept_best e
  cases hw : win h x y with
  | true => exact List.all_eq_true.2 fun u hu => win_lose hw (h2 u hu)
  | false =>
    cases ha : T.all (win h x) with
    | false => rfl
    | true => rw [List.all_eq_true.1 ha y h1] at hw; cases hw
/-- What of these stays ahead of v, and what goes. -/
def stay (h : Bool) (v : Int) (K : List (Int × Nat)) : List (Int × Nat) := K.filter (fun k => win h k.1 v)
def gone (h : Bool) (v : Int) (K : List (Int × Nat)) : List (Int × Nat) := K.filter (fun k => !win h k.1 v)
theorem rep_sorted (h : Bool) (L : List Int) : (rep h L).Pairwise (fun a b => win h a.1 b.1 = true) := by
  have := kept_sorted h L
  unfold kept at this
  exact (List.pairwise_map).1 this
theorem none_stays {h : Bool} {v : Int} {K : List (Int × Nat)} (ha : ∀ k, k ∈ K → win h k.1 v = false) : stay h v K = [] ∧ gone h v K = K := by
  refine ⟨List.filter_eq_nil_iff.2 fun k hk => by simp [ha k hk], List.filter_eq_self.2 fun k hk => by simp [ha k hk]⟩
theorem all_stay {h : Bool} {v : Int} {K : List (Int × Nat)} (ha : ∀ k, k ∈ K → win h k.1 v = true) : stay h v K = K ∧ gone h v K = [] := by
  refine ⟨List.filter_eq_self.2 fun k hk => by simp [ha k hk], List.filter_eq_nil_iff.2 fun k hk => by simp [ha k hk]⟩
theorem rep_put (h : Bool) (L : List Int) (v : Int) : rep h (L ++ [v]) = stay h v (rep h L) ++ [(v, tot (gone h v (rep h L)))] := by
  induction L with
  | nil => simp [rep, stay, gone, tot]
  | cons x T ih =>
    have hs := rep_sorted h T
    have hm : ∀ k, k ∈ rep h T → k.1 ∈ T := fun k hk => kept_mem (h := h) (List.mem_map_of_mem hk)
    rw [List.cons_append, rep, ih, rep]
    have e1 : (T ++ [v]).all (win h x) = (T.all (win h x) && win h x v) := by simp
    rw [e1]
    cases ha : T.all (win h x) with
    | true =>
      cases hv : win h x v with
      | true => simp [stay, gone, hv]
      | false =>
        obtain ⟨f1, f2⟩ := none_stays (h := h) (v := v) (K := rep h T) fun k hk => lose_win hv (List.all_eq_true.1 ha _ (hm k hk))
        obtain ⟨f3, f4⟩ := none_stays (h := h) (v := v) (K := (x, 0) :: rep h T) fun k hk => by
          rcases List.mem_cons.1 hk with rfl | hk
          · exact hv
          · exact lose_win hv (List.all_eq_true.1 ha _ (hm k hk))
        simp only [Bool.and_false, Bool.false_eq_true, if_false, if_true, f1, f2, f3, f4, List.nil_append, bump, tot]
        simp; omega
    | false =>
      have hne : rep h T ≠ [] := rep_ne h (by rintro rfl; simp at ha)
      cases hr : rep h T with
      | nil => exact absurd hr hne
      | cons k K =>
        rw [hr] at hs
        obtain ⟨hk1, _⟩ := List.pairwise_cons.1 hs
        simp only [Bool.false_and, Bool.false_eq_true, if_false, bump]
        cases hv : win h k.1 v with
        | true => simp [stay, gone, hv]
        | false =>
          have hK : ∀ j, j ∈ K → win h j.1 v = false := fun j hj => lose_win hv (hk1 j hj)
          obtain ⟨f1, f2⟩ := none_stays (h := h) (v := v) (K := k :: K) fun j hj => by
            rcases List.mem_cons.1 hj with rfl | hj
            · exact hv
            · exact hK j hj
          obtain ⟨f3, f4⟩ := none_stays (h := h) (v := v) (K := (k.1, k.2 + 1) :: K) fun j hj => by
            rcases List.mem_cons.1 hj with rfl | hj
            · exact hv
            · exact hK j hj
          simp only [f1, f2, f3, f4, List.nil_append, tot]
          simp; omega
/-- Where the end is cut: what is left are those that stay. -/
theorem cut_is {h : Bool} {v : Int} {K A B : List (Int × Nat)} (hs : K.Pairwise (fun a b => win h a.1 b.1 = true)) (e : K = A ++ B) (hB : ∀ k, k ∈ B → win h k.1 v = false) (hA : A = [] ∨ ∃ A' k, A = A' ++ [k] ∧ win h k.1 v = true) : stay h v K = A ∧ gone h v K = B := by
  subst e
  have h1 : ∀ k, k ∈ A → win h k.1 v = true := by
    rcases hA with rfl | ⟨A', k, rfl, hk⟩
    · simp
    · intro j hj
      rcases List.mem_append.1 hj with hj | hj
      · have h2 := (List.pairwise_append.1 (List.pairwise_append.1 hs).1).2.2 j hj k (by simp)
        exact win_trans h2 hk
      · obtain rfl : j = k := by simpa using hj
        exact hk
  obtain ⟨f1, f2⟩ := all_stay h1
  obtain ⟨f3, f4⟩ := none_stays hB
  unfold stay gone at *
  rw [List.filter_append, List.filter_append, f1, f2, f3, f4]
  simp
/-- What is left when the first has gone. -/
theorem rep_take {h : Bool} {x : Int} {T : List Int} {k : Int × Nat} {K : List (Int × Nat)} (e : rep h (x :: T) = k :: K) : (k.2 = 0 → rep h T = K) ∧ (∀ a, k.2 = a + 1 → rep h T = (k.1, a) :: K) := by
  rw [rep] at e
  split at e
  · obtain ⟨rfl, rfl⟩ := List.cons.inj e
    exact ⟨fun _ => rfl, fun a ha => by simp at ha⟩
  · cases hr : rep h T with
    | nil => rw [hr] at e; simp [bump] at e
    | cons j J =>
      rw [hr] at e
      obtain ⟨rfl, rfl⟩ := List.cons.inj e
      refine ⟨fun h0 => by simp at h0, fun a ha => ?_⟩
      simp at ha
      rw [← ha]
/-- The queue for the greatest is that for the least, turned about. -/
theorem kept_neg (L : List Int) : kept true (L.map (fun x => -x)) = (kept false L).map (fun x => -x) := by
  induction L with
  | nil => rfl
  | cons x T ih =>
    rw [List.map_cons, kept_cons, kept_cons]
    have e : (T.map (fun x => -x)).all (win true (-x)) = T.all (win false x) := by
      rw [List.all_map]
      congr 1
      funext y
      exact win_neg x y
    rw [e]
    split
    · simp [ih]
    · exact ih
theorem kept_last (h : Bool) (L : List Int) (v : Int) : ∃ A, kept h (L ++ [v]) = A ++ [v] := by
  unfold kept
  rw [rep_put]
  exact ⟨_, by simp; rfl⟩
theorem kept_nil (h : Bool) : kept h [] = [] := rfl
end Go.Proofs.Ytccgbkafcbfcgaa
