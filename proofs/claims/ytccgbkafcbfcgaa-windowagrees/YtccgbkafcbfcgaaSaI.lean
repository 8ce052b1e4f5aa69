/- Rings of samples: New; the newest of a list. -/
import Derived.Test.YtccgbkafcbfcgaaSaG
import Derived.Test.YtccgbkafcbfcgaaSaH
namespace Go.Proofs.Ytccgbkafcbfcgaa
open Go.RowKit

/-- A new ring of pairs, empty. -/
def NewRq (w : World) (room : Nat) (e : Ending) (w' : World) : Prop := e = .returned (.tuple #[.pointer (some ⟨w.heap.size, 0, none⟩), .int .i64 0]) ∧ Rq w' w.heap.size w.heap.size room [] ∧ Below w.heap.size w w'
theorem rq_new (w : World) (room : Nat) (t : TypeId) : Rq (w.alloc (.cells #[.int .i64 (room : Nat), .int .i64 0, .int .i64 0, .slice none 0 0] t)) w.heap.size w.heap.size room [] :=
  ⟨0, .slice none 0 0, [], Box.new w [.int .i64 (room : Nat), .int .i64 0, .int .i64 0, .slice none 0 0] t, .inl ⟨rfl, rfl, rfl⟩, by simp, by simp, .inr ⟨rfl, rfl⟩, by simp⟩
theorem qNew_yes (room : Nat) (w : World) (h1 : 1 ≤ room) (h2 : room ≤ 4096) :
    Calls Try.prog 20 #[.int .i64 (room : Nat)] w (NewRq w room) := by
  have a1 : ¬ (room : Int) < 1 := by omega
  have a2 : ¬ (4096 : Int) < (room : Int) := by omega
  go_enter Try.func20, Try.ntmps20
  go_wp2_with fail
  go_ret2
  exact ⟨rfl, rq_new w room _, (Below.refl _ _).alloc (Nat.le_refl _) _⟩
theorem qPush_room (b q room : Nat) (L : List Pr) (v : Pr) (w : World) (h : Rq w b q room L) (hr : room ≤ 4096) (hroom : L.length < room) :
    Calls Try.prog 26 #[.pointer (some ⟨b, 0, none⟩), .agg #[.int .i64 v.1, .int .i64 v.2]] w (QLeaves w b q room (L ++ [v]) pz false) := by
  obtain ⟨first, sv, cs, h⟩ := h
  by_cases hl : L.length < cs.length
  · rcases h.slots with ⟨_, e, _⟩ | ⟨rfl, _⟩
    · rw [e] at hl; simp at hl
    · exact qPush_slot b q room first cs L v w h hr hroom hl
  · exact qPush_grow b q room L v w first sv cs h hr hroom (by have := h.fits; omega)
theorem qDrop_yes (b q room : Nat) (L : List Pr) (x : Pr) (w : World) (h : Rq w b q room (x :: L)) (hr : room ≤ 4096) :
    Calls Try.prog 36 #[.pointer (some ⟨b, 0, none⟩)] w (QLeaves w b q room L x true) :=
  (qDrop_is b q room L x w h hr).mono fun _ _ ⟨he, ⟨first, cs, hi, _⟩, ht⟩ => ⟨q, he, ⟨first, _, cs, hi⟩, ht, .inl rfl⟩
/-- The newest n. -/
def newq (n : Nat) (A : List Pr) : List Pr := A.drop (A.length - n)
theorem newq_length (n : Nat) (A : List Pr) : (newq n A).length = min A.length n := by simp [newq]; omega
theorem newq_last (n : Nat) (A : List Pr) (v : Pr) (h : 1 ≤ n) : (newq n (A ++ [v]))[(newq n (A ++ [v])).length - 1]? = some v := by
  rw [newq_length, newq, List.getElem?_drop]
  have e : (A ++ [v]).length - n + (min (A ++ [v]).length n - 1) = A.length := by simp; omega
  rw [e]
  simp
theorem qPush_few (b q n : Nat) (A : List Pr) (v : Pr) (w : World) (h : Rq w b q n (newq n A)) (hn : n ≤ 4096) (hl : A.length < n) :
    Calls Try.prog 26 #[.pointer (some ⟨b, 0, none⟩), .agg #[.int .i64 v.1, .int .i64 v.2]] w (QLeaves w b q n (newq n (A ++ [v])) pz false) := by
  have e : newq n (A ++ [v]) = newq n A ++ [v] := by simp [newq, show A.length - n = 0 by omega, show A.length + 1 - n = 0 by omega]
  rw [e]
  exact qPush_room b q n _ v w h hn (by rw [newq_length]; omega)
theorem qPush_many (b q n : Nat) (A : List Pr) (x v : Pr) (w : World) (h : Rq w b q n (newq n A)) (hn : n ≤ 4096) (h1 : 1 ≤ n) (hl : n ≤ A.length) (hx : A[A.length - n]? = some x) :
    Calls Try.prog 26 #[.pointer (some ⟨b, 0, none⟩), .agg #[.int .i64 v.1, .int .i64 v.2]] w (QLeaves w b q n (newq n (A ++ [v])) x true) := by
  have e : newq n (A ++ [v]) = A.drop (A.length - n + 1) ++ [v] := by
    unfold newq
    rw [List.drop_append_of_le_length (by simp <;> omega)]
    congr 2
    simp; omega
  have e2 : newq n A = x :: A.drop (A.length - n + 1) := by
    rw [newq, List.drop_eq_getElem_cons (by omega)]
    congr 1
    rw [List.getElem?_eq_getElem (by omega)] at hx
    exact Option.some.inj hx
  have e3 : (newq n A).length = n := by rw [newq_length]; omega
  rw [e]
  rw [e2] at h e3
  exact qPush_full b q n x _ v w h hn e3
end Go.Proofs.Ytccgbkafcbfcgaa
