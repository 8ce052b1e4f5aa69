/- The document's answer: a set as a list of truths; an item of a text put into it. -/
import Derived.Test.YtddinknnaakmmaaDoorRCroR
import Derived.Test.YtddinknnaakmmaaDoorCroD
namespace Go.Proofs.YtddinknnaakmmaaDoor
open Go.RowKit Go.Deep

/-- A set as 64 truths. -/
def boolCells (S : Nat) : List Value := (List.range 64).map fun i => .bool (S.testBit i)
theorem boolCells_len (S : Nat) : (boolCells S).length = 64 := by unfold boolCells; simp
theorem boolCells_at (S i : Nat) (h : i < 64) : (boolCells S)[i]? = some (.bool (S.testBit i)) := by
  unfold boolCells
  rw [List.getElem?_map, List.getElem?_range h]; rfl
theorem boolCells_set (S k : Nat) (h : k < 64) : (boolCells S).set k (.bool true) = boolCells (S ||| 2 ^ k) := by
  apply List.ext_getElem?
  intro i
  by_cases hi : i < 64
  · rw [boolCells_at _ _ hi]
    by_cases e : k = i
    · subst e
      rw [List.getElem?_set_self (by rw [boolCells_len]; exact h), Nat.testBit_or, Nat.testBit_two_pow]
      simp
    · rw [List.getElem?_set_ne e, boolCells_at _ _ hi, Nat.testBit_or, Nat.testBit_two_pow, decide_eq_false e, Bool.or_false]
  · rw [List.getElem?_eq_none (by rw [List.length_set, boolCells_len]; omega), List.getElem?_eq_none (by rw [boolCells_len]; omega)]
/-- The set at g is now S; no other block has changed. -/
structure Marked (w : World) (g : Nat) (S : Nat) (w' : World) : Prop where
  box : Box w' g (boolCells S)
  keep : ∀ B a, B ≤ g → Below B a w → Below B a w'
  rest : ∀ q vs, q ≠ g → Box w q vs → Box w' q vs
theorem Marked.refl {w : World} {g S : Nat} (h : Box w g (boolCells S)) : Marked w g S w := ⟨h, fun _ _ _ k => k, fun _ _ _ k => k⟩
theorem Marked.put {w w' : World} {g S : Nat} (h : Marked w g S w') (k : Nat) (hk : k < 64) : Marked w g (S ||| 2 ^ k) (w'.setCell ⟨g, k, none⟩ (.bool true)) := by
  refine ⟨?_, fun B a hB hb => (h.keep B a hB hb).setCell hB _, fun q vs hq hb => (h.rest q vs hq hb).other hq⟩
  have := h.box.set k (by rw [boolCells_len]; exact hk) (.bool true)
  rw [boolCells_set S k hk] at this
  exact this
theorem Marked.at {w w' : World} {g S : Nat} (h : Marked w g S w') (k : Nat) (hk : k < 64) : w'.cell? ⟨g, k, none⟩ = some (.bool (S.testBit k)) ∧ w'.frozen? ⟨g, k, none⟩ = false :=
  ⟨h.box.cell k _ (boolCells_at S k hk), h.box.free k (by rw [boolCells_len]; exact hk)⟩
theorem Marked.trans {w w1 w2 : World} {g S T : Nat} (h : Marked w g S w1) (k : Marked w1 g T w2) : Marked w g T w2 :=
  ⟨k.box, fun B a hB hb => k.keep B a hB (h.keep B a hB hb), fun q vs hq hb => k.rest q vs hq (h.rest q vs hq hb)⟩
abbrev boolsV (g : Nat) : Value := .slice (some ⟨g, 0, none⟩) 64 64
/-- What an item's reading answers. -/
def RItemPost (x : Except Nat (Nat × Nat)) (S g : Nat) (w : World) (e : Ending) (w' : World) : Prop := match x with
  | .error p => e = .returned (.tuple #[.int .i64 (p : Nat), .bool false]) ∧ Marked w g S w'
  | .ok (z, q) => e = .returned (.tuple #[.int .i64 (q : Nat), .bool true]) ∧ Marked w g (S ||| z) w'
theorem setOf_self {S : Nat} (h : S < 18446744073709551616) : setOf (fun i => S.testBit i) 64 = S := by
  apply Nat.eq_of_testBit_eq
  intro i
  rw [setOf_bit]
  by_cases hi : i < 64
  · simp [hi]
  · cases hb : S.testBit i with
    | false => simp
    | true => exact absurd (bit_lt h hb) hi
set_option maxRecDepth 20000 in
set_option maxHeartbeats 2000000 in
theorem bitsOf_any (S g : Nat) (hS : S < 18446744073709551616) (w : World) (hb : Box w g (boolCells S)) :
    Calls Tryd.prog 24 #[boolsV g] w fun e w' => e = .returned (.int .u64 (S : Nat)) ∧ w = w' := by
  have hat := fun k hk => ((Marked.refl hb).at k hk).1
  have hself := setOf_self hS
  have HAT : Hid _ := hat
  have HSE : Hid _ := hself
  clear hat hself hb
  go_enter Tryd.func24, Tryd.ntmps24
  go_wp2_with fail
  go_loopw [3, 4] (fun p q wr => ∃ i : Nat, p = .int .u64 (setOf (fun i => S.testBit i) i : Nat) ∧ q = .int .i64 i ∧ i ≤ 64 ∧ w = wr) (fun _ q _ => (64 - intOf q).toNat)
  case atStart => exact ⟨0, rfl, rfl, by omega, rfl⟩
  case round =>
    obtain ⟨i, rfl, rfl, hi, rfl⟩ := hrel
    by_cases hlt : i < 64
    · have k1 : (i : Int) < 64 := by omega
      have hc := HAT.out i hlt
      have hsl := setOf_lt (fun i => S.testBit i) i
      have hs2 := setOf_lt (fun i => S.testBit i) (i + 1)
      have hsu : setOf (fun i => S.testBit i) (i + 1) = setOf (fun i => S.testBit i) i + if S.testBit i then 2 ^ i else 0 := rfl
      have p64 : 2 ^ (i + 1) ≤ 18446744073709551616 := Nat.pow_le_pow_right (n := 2) (by decide) (show i + 1 ≤ 64 by omega)
      have e1 := shl_one i hlt
      have ecast := cast_pow i
      cases hbit : S.testBit i with
      | false =>
        rw [hbit] at hc hsu
        have HSU : Hid _ := hsu
        clear hsu hbit hsl hs2 p64 e1 ecast
        generalize setOf (fun i => S.testBit i) i = X at *
        go_wp2_with fail
        exact ⟨⟨i + 1, by rw [HSU.out]; rfl, by go_num, by omega, trivial⟩, by simp [intOf]; omega⟩
      | true =>
        rw [hbit] at hc hsu
        simp only [if_true] at hsu
        rw [hsu] at hs2
        have HSU : Hid _ := hsu
        have hw : IntKind.u64.wrap (((setOf (fun i => S.testBit i) i : Nat) : Int) + 2 ^ i) = ((setOf (fun i => S.testBit i) i + 2 ^ i : Nat) : Int) := by
          rw [← ecast, IntKind.wrap_u64]; omega
        clear hsu hbit hsl hs2 p64 ecast
        generalize setOf (fun i => S.testBit i) i = X at *
        go_wp2_with fail
        exact ⟨⟨i + 1, by rw [HSU.out, Int.natCast_add, cast_pow], by go_num, by omega, trivial⟩, by simp [intOf]; omega⟩
    · obtain rfl : i = 64 := by omega
      rw [HSE.out]
      go_wp2_with fail
      go_ret
      exact ⟨rfl, rfl⟩
end Go.Proofs.YtddinknnaakmmaaDoor
