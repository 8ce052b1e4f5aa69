/- Programs, plain: the code of a formed core, and of a formed plan. -/
import Derived.Test.YtbddbnjhmdbkbaaGreatDoorCaKdQ
import Derived.Test.YtbddbnjhmdbkbaaGreatDoorCaFoP
namespace Go.Proofs.YtbddbnjhmdbkbaaGreatDoor

theorem rung_ok {nl : Nat} : ∀ (n : Nat) (l : List Co), l.length = 2 * n + 1 → (∀ j x, l[j]? = some x → j % 2 = 1 ∨ j + 1 = l.length → AOk nl (codF x)) → AOk nl (rungM (l.map fun x => (x, codF x)))
  | 0, [a], _, H => thenM_act (insM_ok nl 33 0 rfl (by decide) (by decide)) (H 0 a rfl (.inr rfl))
  | n + 1, b :: a :: r, hl, H => by
    have h1 : AOk nl (codF a) := H 1 a rfl (.inl rfl)
    have h2 := rung_ok n r (by simp at hl; omega) (fun j x hx hj => H (j + 2) x hx (by simp; omega))
    exact thenM_act (thenM_ok (insM_ok nl 32 0 rfl (by decide) (by decide)) (thenM_ok (numM_ok nl b.n) (insM_ok nl 16 0 rfl (by decide) (by decide)))) (thenM_act (over_ok (thenM_act (insM_ok nl 33 0 rfl (by decide) (by decide)) h1)) h2)
theorem codO_num {c : Co} (ms : List Mk) (h : c.op = 1 ∨ c.op = 2) : codO c ms = numM c.n := if_pos h
theorem codO_rest {c : Co} (ms : List Mk) (h : c.op ≠ 1 ∧ c.op ≠ 2 ∧ c.op ≠ 7 ∧ c.op ≠ 13 ∧ c.op ≠ 25 ∧ c.op ≠ 26 ∧ c.op ≠ 28 ∧ c.op ≠ 27 ∧ c.op ≠ 32) : codO c ms = thenM (allM ms) (insM (plnI c.op) c.n) := by
  obtain ⟨h1, h2, h3, h4, h5, h6, h7, h8, h9⟩ := h
  unfold codO
  rw [if_neg (by omega), if_neg h3, if_neg h4, if_neg h5, if_neg h6, if_neg h7, if_neg h8, if_neg h9]
theorem plain_ok {nl : Nat} {op a : Int} (h : 3 ≤ op ∧ op ≤ 24) (h13 : op ≠ 13) : VOk nl (insM (plnI op) a) := by
  have hb : plnI op ≠ 1 ∧ plnI op ≠ 11 ∧ plnI op < 23 := by
    unfold plnI
    split
    · omega
    · split
      · omega
      · split <;> omega
  refine insM_ok nl _ _ ?_ hb.1 hb.2.1
  unfold jmpB
  simp only [Bool.or_eq_false_iff, beq_eq_false_iff_ne, ne_eq]
  omega
theorem leaf_sort {wn cn ln : Int} {t : Co} {k : Nat} (h : csort ladF wn cn ln t ≠ 0) (hop : t.op = (k : Int)) (hk : k ≤ 6 ∨ k = 29) (hps : t.parts = []) : (k = 29 ∧ csort ladF wn cn ln t = 3) ∨ (k ≤ 6 ∧ (csort ladF wn cn ln t = 1 ∨ csort ladF wn cn ln t = 2)) := by
  obtain ⟨k', hop', h1, h2, hb, hp, hs⟩ := formed_w h
  obtain rfl : k' = k := by omega
  rw [hps] at hs
  have hc : k' = 1 ∨ k' = 2 ∨ k' = 3 ∨ k' = 4 ∨ k' = 5 ∨ k' = 6 ∨ k' = 29 := by omega
  rcases hc with rfl | rfl | rfl | rfl | rfl | rfl | rfl
  · exact .inr ⟨by omega, .inl (hs.trans rfl)⟩
  · exact .inr ⟨by omega, .inr (hs.trans rfl)⟩
  · exact .inr ⟨by omega, .inl (hs.trans rfl)⟩
  · exact .inr ⟨by omega, .inl (hs.trans rfl)⟩
  · exact .inr ⟨by omega, .inr (hs.trans rfl)⟩
  · refine .inr ⟨by omega, ?_⟩
    have e : csort ladF wn cn ln t = t.m := hs.trans rfl
    have hb' : (decide (1 ≤ t.n) && (decide (t.n ≤ 3) && (decide (t.m = 1) || decide (t.m = 2)))) = true := hb
    simp only [Bool.and_eq_true, Bool.or_eq_true, decide_eq_true_eq] at hb'
    rw [e]
    exact hb'.2.2
  · exact .inl ⟨rfl, hs.trans rfl⟩
/-- The code of a formed number or truth leaves it; that of an action ends the program. -/
theorem cod_ok {wn cn : Int} {nl : Nat} : ∀ (t : Co), csort ladF wn cn nl t ≠ 0 → ((csort ladF wn cn nl t = 1 ∨ csort ladF wn cn nl t = 2) → VOk nl (codF t)) ∧ (csort ladF wn cn nl t = 3 → AOk nl (codF t)) := by
  refine Co.ind fun t ih hz => ?_
  obtain ⟨k, hop, h1, h2, hb, hp, hs⟩ := shp_of hz
  have iv : ∀ x, x ∈ t.parts → (csort ladF wn cn nl x = 1 ∨ csort ladF wn cn nl x = 2) → VOk nl (codF x) := fun x hx h => (ih x hx (hp x hx)).1 h
  have ia : ∀ x, x ∈ t.parts → csort ladF wn cn nl x = 3 → AOk nl (codF x) := fun x hx h => (ih x hx (hp x hx)).2 h
  have hlf := leaf_sort hz hop
  rw [codF_eq]
  generalize csort ladF wn cn nl t = s at hz hs hlf
  rcases hs with ⟨hk, hps⟩ | ⟨hk, hs, x, hps, hx⟩ | ⟨hk, hs, x, hps, hx⟩ | ⟨hk, hs, x, y, hps, hx, hy⟩ | ⟨hk, hs, x, y, hps, hx, hy⟩ | ⟨hk, hs, x, y, hps, hx, hy⟩ | ⟨hk, hs, x, y, z, hps, hx, hy, hzz⟩ | ⟨hk, hs, x, hps, hx⟩ | ⟨hk, hs, hl⟩
  · rcases hlf hk hps with ⟨rfl, rfl⟩ | ⟨h6, hs⟩
    · rw [codO_rest _ (by omega), hps, hop]
      exact ⟨fun h => by omega, fun _ => thenM_act (allM_ok _ (fun m hm => by cases hm)) (insM_act nl _ _ (.inl rfl))⟩
    · refine ⟨fun _ => ?_, fun h => by omega⟩
      by_cases h12 : t.op = 1 ∨ t.op = 2
      · rw [codO_num _ h12]
        exact numM_ok nl t.n
      · rw [codO_rest _ (by omega), hps]
        exact thenM_ok (allM_ok _ (fun m hm => by cases hm)) (plain_ok (by omega) (by omega))
  · subst hk
    refine ⟨fun _ => ?_, fun h => by omega⟩
    have hb' : (belowB t.n nl && decide (t.m = 0)) = true := hb
    unfold belowB at hb'
    simp only [Bool.and_eq_true, decide_eq_true_eq] at hb'
    rw [show codO t (t.parts.map codF) = overM 27 (t.n * 16384) ((t.parts.map codF).getD 0 (allM [])) [(28, t.n)] by unfold codO; rw [if_neg (by omega), if_pos (by omega)], hps]
    exact memo_ok hb'.1.1 hb'.1.2 (iv x (by rw [hps]; simp) (by omega))
  · refine ⟨fun _ => ?_, fun h => by split at hs <;> omega⟩
    have hv := iv x (by rw [hps]; simp) (by rw [hx, hs]; split <;> simp)
    by_cases h13 : k = 13
    · subst h13
      rw [show codO t (t.parts.map codF) = thenM ((t.parts.map codF).getD 0 (allM [])) (scaM t.n t.m) by unfold codO; rw [if_neg (by omega), if_neg (by omega), if_pos (by omega)], hps]
      exact thenM_ok hv (scaM_ok nl t.n t.m)
    · rw [codO_rest _ (by omega), hps]
      exact thenM_ok (allM_ok _ (fun m hm => by simp at hm; rw [hm]; exact hv)) (plain_ok (by omega) (by omega))
  · refine ⟨fun _ => ?_, fun h => by split at hs <;> omega⟩
    have hv := iv x (by rw [hps]; simp) (by omega)
    have hw := iv y (by rw [hps]; simp) (by omega)
    rw [codO_rest _ (by omega), hps]
    exact thenM_ok (allM_ok _ (fun m hm => by simp at hm; rcases hm with rfl | rfl; exact hv; exact hw)) (plain_ok (by omega) (by omega))
  · refine ⟨fun _ => ?_, fun h => by omega⟩
    have hv := iv x (by rw [hps]; simp) (by omega)
    have hw := iv y (by rw [hps]; simp) (by omega)
    rcases hk with rfl | rfl
    · rw [show codO t (t.parts.map codF) = thenM ((t.parts.map codF).getD 0 (allM [])) (forkM 24 23 ((t.parts.map codF).getD 1 (allM [])) (numM 0)) by unfold codO; rw [if_neg (by omega), if_neg (by omega), if_neg (by omega), if_pos (by omega)], hps]
      exact thenM_ok hv (forkM_ok (.inl rfl) (.inl rfl) hw (numM_ok nl 0))
    · rw [show codO t (t.parts.map codF) = thenM ((t.parts.map codF).getD 0 (allM [])) (forkM 24 23 (numM 1) ((t.parts.map codF).getD 1 (allM []))) by unfold codO; rw [if_neg (by omega), if_neg (by omega), if_neg (by omega), if_neg (by omega), if_pos (by omega)], hps]
      exact thenM_ok hv (forkM_ok (.inl rfl) (.inl rfl) (numM_ok nl 1) hw)
  · subst hk
    refine ⟨fun _ => ?_, fun h => by omega⟩
    have hv := iv x (by rw [hps]; simp) (by omega)
    have hw := iv y (by rw [hps]; simp) (by omega)
    rw [show codO t (t.parts.map codF) = forkM 25 26 ((t.parts.map codF).getD 0 (allM [])) ((t.parts.map codF).getD 1 (allM [])) by unfold codO; rw [if_neg (by omega), if_neg (by omega), if_neg (by omega), if_neg (by omega), if_neg (by omega), if_neg (by omega), if_pos (by omega)], hps]
    exact forkM_ok (.inr rfl) (.inr rfl) hv hw
  · subst hk
    refine ⟨fun _ => ?_, fun h => by omega⟩
    have hv := iv x (by rw [hps]; simp) (by omega)
    have hw := iv y (by rw [hps]; simp) (by omega)
    have hu := iv z (by rw [hps]; simp) (by omega)
    rw [show codO t (t.parts.map codF) = thenM ((t.parts.map codF).getD 0 (allM [])) (forkM 24 23 ((t.parts.map codF).getD 1 (allM [])) ((t.parts.map codF).getD 2 (allM []))) by unfold codO; rw [if_neg (by omega), if_neg (by omega), if_neg (by omega), if_neg (by omega), if_neg (by omega), if_pos (by omega)], hps]
    exact thenM_ok hv (forkM_ok (.inl rfl) (.inl rfl) hw hu)
  · refine ⟨fun h => by omega, fun _ => ?_⟩
    have hv := iv x (by rw [hps]; simp) (by omega)
    rw [codO_rest _ (by omega), hps]
    refine thenM_act (allM_ok _ (fun m hm => by simp at hm; rw [hm]; exact hv)) (insM_act nl _ _ ?_)
    unfold plnI
    rw [if_neg (by omega), if_neg (by omega), if_neg (by omega)]
    omega
  · subst hk
    refine ⟨fun h => by omega, fun _ => ?_⟩
    obtain ⟨l2, lm, l0, l3, lst⟩ := hl
    rw [List.length_map] at l2 lm l3 lst
    cases hpp : t.parts with
    | nil => rw [hpp] at l2; simp at l2
    | cons a r =>
      rw [hpp] at l2 lm l0 l3 lst
      simp only [List.length_cons] at l2 lm l3 lst
      rw [show codO t ((a :: r).map codF) = thenM (((a :: r).map codF).getD 0 (allM [])) (rungM ((t.parts.zip ((a :: r).map codF)).drop 1)) by unfold codO; rw [if_neg (by omega), if_neg (by omega), if_neg (by omega), if_neg (by omega), if_neg (by omega), if_neg (by omega), if_neg (by omega), if_pos (by omega)], hpp]
      have hv := iv a (by rw [hpp]; simp) (by left; simpa using l0)
      have hz : ((a :: r).zip ((a :: r).map codF)).drop 1 = r.map fun x => (x, codF x) := by
        rw [List.map_cons, List.zip_cons_cons, List.drop_succ_cons, List.drop_zero]
        clear l2 lm l0 l3 lst hv hpp
        induction r with
        | nil => rfl
        | cons b r ih => rw [List.map_cons, List.map_cons, List.zip_cons_cons, ih]
      rw [hz]
      refine thenM_act hv (rung_ok (r.length / 2) r (by omega) (fun j x hx hj => ia x (by rw [hpp]; exact List.mem_cons_of_mem _ (List.mem_of_getElem? hx)) ?_))
      obtain ⟨hjl, hjx⟩ := List.getElem?_eq_some_iff.1 hx
      have hxx : (((a :: r).map (csort ladF wn cn nl)).getD (j + 1) 0) = csort ladF wn cn nl x := by simp [List.getD, hx]
      rcases hj with hj | hj
      · have h3 := (lst j hj (by omega)).2.1
        rw [hxx] at h3
        exact h3
      · rw [show r.length + 1 - 1 = j + 1 by omega, hxx] at l3
        exact l3
/-- The code of a formed plan. -/
theorem planM_ok {wn cn : Int} {nl : Nat} : ∀ (gs : List (Co × Co)) (f : Co), (∀ g, g ∈ gs → csort ladF wn cn nl g.1 = 2 ∧ csort ladF wn cn nl g.2 = 3) → csort ladF wn cn nl f = 3 → AOk nl (planM gs f)
  | [], f, _, hf => (cod_ok f (by omega)).2 hf
  | g :: r, f, hg, hf => by
    obtain ⟨h1, h2⟩ := hg g (by simp)
    exact thenM_act (thenM_ok ((cod_ok g.1 (by omega)).1 (.inr h1)) (over_ok ((cod_ok g.2 (by omega)).2 h2))) (planM_ok r f (fun x hx => hg x (by simp [hx])) hf)
end Go.Proofs.YtbddbnjhmdbkbaaGreatDoor
