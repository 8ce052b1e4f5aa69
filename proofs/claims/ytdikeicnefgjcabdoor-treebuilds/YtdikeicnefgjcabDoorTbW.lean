/- Formed parts put together are formed: what TreeBuilds makes. -/
import Derived.Test.YtdikeicnefgjcabDoorTrW
import Derived.Test.YtdikeicnefgjcabDoorTrE
namespace Go.Proofs.YtdikeicnefgjcabDoor
open Go.RowKit

theorem flat6_get : ∀ (ps : List (Tm × Value)) (i : Nat) (p : Tm × Value), ps[i]? = some p → ∀ j, j < 6 → (ps.flatMap fun q => tmL q.1 q.2)[i * 6 + j]? = (tmL p.1 p.2)[j]?
  | [], i, p, h, _, _ => by simp at h
  | q :: r, 0, p, h, j, hj => by
    simp only [List.getElem?_cons_zero, Option.some.injEq] at h
    subst h
    rw [List.flatMap_cons, Nat.zero_mul, Nat.zero_add, List.getElem?_append_left (by simpa using hj)]
  | q :: r, i + 1, p, h, j, hj => by
    rw [List.getElem?_cons_succ] at h
    rw [List.flatMap_cons, List.getElem?_append_right (by simp; omega), show (i + 1) * 6 + j - (tmL q.1 q.2).length = i * 6 + j by simp; omega]
    exact flat6_get r i p h j hj
/-- A slice of terms, in a block of its own. -/
theorem pat_list {z : Nat} {w : World} {g : Nat} (ps : List (Tm × Value)) (hb : Box w g (ps.flatMap fun q => tmL q.1 q.2)) (hx : ∀ p, p ∈ ps → Sits z w p.1 p.2) (c : Nat) (hc : ps.length ≤ c) (hm : c ≤ 9223372036854775807) : PAt z w (.slice (some ⟨g, 0, none⟩) ps.length c) (ps.map (·.1)) :=
  ⟨_, c, by simp, by simpa using hc, hm, .inr ⟨g, 0, rfl, hb.lt, fun i hi => by
    have hi' : i < ps.length := by simpa using hi
    have hp : ps[i]? = some ps[i] := List.getElem?_eq_getElem hi'
    have f := flat6_get ps i _ hp
    refine ⟨ps[i].2, ?_, by simpa using hx _ (List.getElem_mem hi')⟩
    simp only [List.getElem_map, Nat.zero_add]
    exact ⟨hb.cell _ _ (by simpa using f 0 (by decide)), hb.cell _ _ (f 1 (by decide)), hb.cell _ _ (f 2 (by decide)), hb.cell _ _ (f 3 (by decide)), hb.cell _ _ (f 4 (by decide)), hb.cell _ _ (f 5 (by decide))⟩⟩⟩
def nodeT (k : Int) (ps : List Tm) : Tm := ⟨k, ⟨#[]⟩, 0, 0, 0, ps⟩
theorem sits_node {z : Nat} {w : World} {k : Int} {ps : List Tm} {v : Value} (hk : In64 k) (hp : PAt z w v ps) : Sits z w (nodeT k ps) v :=
  sits_iff.2 ⟨⟨hk, (⟨by decide, by decide⟩ : In64 0), (⟨by decide, by decide⟩ : In64 0), (⟨by decide, by decide⟩ : In64 0), Nat.zero_le _⟩, hp⟩
theorem plain_node {k lo hi : Int} : plainB k ⟨#[]⟩ 0 0 lo hi = (decide (lo ≤ k) && decide (k ≤ hi)) := by
  unfold plainB bareB; simp
theorem formed_two {k : Int} {a b : Tm} (h1 : 18 ≤ k) (h2 : k ≤ 31) (ha : formedB a = true) (hb : formedB b = true) : formedB (nodeT k [a, b]) = true := by
  rw [formedB_eq]
  show (headB k ⟨#[]⟩ 0 0 2 && [a, b].all formedB) = true
  unfold headB
  simp [plain_node, ha, hb, h1, h2]
theorem formed_less {k : Int} {a : Tm} (h1 : 18 ≤ k) : formedB (nodeT k [a]) = false := by
  rw [formedB_eq]
  show (headB k ⟨#[]⟩ 0 0 1 && [a].all formedB) = false
  unfold headB
  simp [plain_node]
  omega
theorem formed_more {k : Int} {a b c : Tm} (h2 : k ≤ 31) : formedB (nodeT k [a, b, c]) = false := by
  rw [formedB_eq]
  show (headB k ⟨#[]⟩ 0 0 3 && [a, b, c].all formedB) = false
  unfold headB
  simp [plain_node]
  omega
theorem action_two {k : Int} {a b : Tm} (h2 : k ≤ 31) : actionB (nodeT k [a, b]) = false := by
  rw [action_2 (show (nodeT k [a, b]).parts = [a, b] from rfl)]
  show (plainB k ⟨#[]⟩ 0 0 36 36 && _) = false
  rw [plain_node, decide_eq_false (show ¬ (36 : Int) ≤ k by omega)]; rfl
theorem action_to {a : Tm} (ha : formedB a = true) : actionB (nodeT 34 [a]) = true := by
  rw [action_1 (show (nodeT 34 [a]).parts = [a] from rfl), ha]
  show (plainB 34 ⟨#[]⟩ 0 0 34 35 && true) = true
  rw [plain_node]; rfl
theorem formed_to {a : Tm} : formedB (nodeT 34 [a]) = false := by
  rw [formedB_eq]
  show (headB 34 ⟨#[]⟩ 0 0 1 && [a].all formedB) = false
  unfold headB
  simp [plain_node]
theorem num_five : numB (litT 5 ⟨#[]⟩) = true := by
  have h : txt brk ⟨#[]⟩ = true := by kernel_rfl
  unfold numB litT leafB
  simp [h]
theorem action_rung {t act : Tm} (ht : formedB t = true) (ha : actionB act = true) : actionB (nodeT 36 [t, litT 5 ⟨#[]⟩, act, act]) = true := by
  rw [action_4 (x := t) (l := [litT 5 ⟨#[]⟩, act]) (y := act) rfl (by simp), ht, ha]
  have h1 : pairsB [litT 5 ⟨#[]⟩, act] = true := by
    unfold pairsB altB litB
    simp [List.range_succ, num_five, ha]
  rw [h1]
  show (plainB 36 ⟨#[]⟩ 0 0 36 36 && _) = true
  rw [plain_node]; rfl
theorem formed_if {a b c : Tm} (ha : formedB a = true) (hb : formedB b = true) (hc : formedB c = true) : formedB (nodeT 32 [a, b, c]) = true := by
  rw [formedB_eq]
  show (headB 32 ⟨#[]⟩ 0 0 3 && [a, b, c].all formedB) = true
  unfold headB
  simp [plain_node, ha, hb, hc]
theorem formed_minus {a : Tm} (ha : formedB a = true) : formedB (nodeT 13 [a]) = true := by
  rw [formedB_eq]
  show (headB 13 ⟨#[]⟩ 0 0 1 && [a].all formedB) = true
  unfold headB
  simp [plain_node, ha]
end Go.Proofs.YtdikeicnefgjcabDoor
