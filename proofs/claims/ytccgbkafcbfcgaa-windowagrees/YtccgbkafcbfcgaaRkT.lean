/- A rank's list in new memory; its number at a place, and of a percent. -/
import Derived.Test.YtccgbkafcbfcgaaRkS
namespace Go.Proofs.Ytccgbkafcbfcgaa
open Go.RowKit

/-- A list that was made for the call's answer: none, or in a new block. -/
def Made (w : World) (lv : Value) (S : List Int) (w' : World) : Prop := ((lv = .slice none 0 0 ∧ S = []) ∨ ∃ g J, BAt w' g lv S J ∧ w.heap.size ≤ g) ∧ Below w.heap.size w w'
theorem made_of_apd {w w' : World} {g : Nat} {lv : Value} {S : List Int} (h : Apd w g (.slice none 0 0) lv S w') : Made w lv S w' := by
  rcases h with ⟨rfl, rfl, rfl⟩ | ⟨J, _, _, h⟩ | ⟨g', J, h1, h2, h3⟩
  · exact ⟨.inl ⟨rfl, rfl⟩, Below.refl _ _⟩
  · exact absurd rfl h
  · exact ⟨.inr ⟨g', J, h1, h3⟩, h2⟩
theorem Made.rd {w w' : World} {lv : Value} {S : List Int} (h : Made w lv S w') : Rd w' lv S := by
  rcases h with ⟨⟨rfl, rfl⟩ | ⟨g, J, h, _⟩, _⟩
  · exact ⟨none, 0, rfl, .inl rfl⟩
  · exact h.rd
theorem rMoved (lv : Value) (S : List Int) (w : World) (h : Rd w lv S) (hl : S.length < 17592186044416) :
    Calls Try.prog 83 #[lv] w fun e w' => ∃ lv', e = .returned lv' ∧ Made w lv' S w' := by
  have HX := hid h
  obtain ⟨a, c, hv, _⟩ := h
  subst hv
  go_enter Try.func83, Try.ntmps83
  go_wp2_with (at_builtin; refine wpList_append_b _ rfl _ _ rfl w.heap.size (.slice none 0 0) [] rfl (.inl ⟨rfl, rfl⟩) (.slice a S.length c) S rfl HX.out (by simpa using hl) ?_; intro lv1 w1 h1; rw [List.nil_append] at h1; have HA := hid (made_of_apd h1); obtain ⟨a1, c1, hv1⟩ := h1.shape; subst hv1; clear h1)
  go_ret
  exact ⟨_, rfl, HA.out⟩
theorem rAt_nil (i : Int) (w : World) : Calls Try.prog 74 #[.pointer none, .int .i64 i] w fun e w' => e = .returned (.tuple #[.int .i64 0, .bool false]) ∧ w = w' := by
  by_cases hi : i < 0
  · go_enter Try.func74, Try.ntmps74
    go_wp2_with fail
    go_ret2
    exact ⟨rfl, rfl⟩
  · go_enter Try.func74, Try.ntmps74
    go_wp2_with fail
    refine Calls.mono (rLen_nil w) ?_
    rintro e w1 ⟨rfl, rfl⟩
    go_wp2_with fail
    go_ret2
    exact ⟨rfl, rfl⟩
theorem rAt_no (b g : Nat) (S : List Int) (i : Int) (w : World) (x : Rk w b g S) (hi : i < 0 ∨ (S.length : Int) ≤ i) :
    Calls Try.prog 74 #[.pointer (some ⟨b, 0, none⟩), .int .i64 i] w fun e w' => e = .returned (.tuple #[.int .i64 0, .bool false]) ∧ w = w' := by
  have HL := hid (rLen b g S w x)
  clear x
  by_cases hi0 : i < 0
  · clear hi
    go_enter Try.func74, Try.ntmps74
    go_wp2_with fail
    go_ret2
    exact ⟨rfl, rfl⟩
  · have hi1 : (S.length : Int) ≤ i := by omega
    clear hi
    go_enter Try.func74, Try.ntmps74
    go_wp2_with fail
    refine Calls.mono HL.out ?_
    rintro e w1 ⟨rfl, rfl⟩
    go_wp2_with fail
    go_ret2
    exact ⟨rfl, rfl⟩
set_option maxRecDepth 20000 in
theorem rAt_yes (b g : Nat) (S : List Int) (k : Nat) (y : Int) (w : World) (x : Rk w b g S) (hy : S[k]? = some y) :
    Calls Try.prog 74 #[.pointer (some ⟨b, 0, none⟩), .int .i64 (k : Nat)] w fun e w' => e = .returned (.tuple #[.int .i64 y, .bool true]) ∧ w = w' := by
  have HL := hid (rLen b g S w x)
  have hk : k < S.length := (List.getElem?_eq_some_iff.1 hy).1
  obtain ⟨lv, x⟩ := x
  obtain ⟨c0, f0⟩ := x.box.single
  have hlt := x.box.lt
  rcases x.sl with ⟨_, e, _⟩ | ⟨_, J, hs⟩
  · rw [e] at hk; simp at hk
  rw [hs.val] at c0
  have d0 := hs.cell hy
  obtain ⟨n, hn⟩ : ∃ n, n = S.length := ⟨_, rfl⟩
  rw [← hn] at HL c0 hk
  have hk' : (k : Int) < (n : Int) := by omega
  have hk0 : ¬ (k : Int) < 0 := by omega
  clear x hs hn hy
  go_enter Try.func74, Try.ntmps74
  go_wp2_with fail
  refine Calls.mono HL.out ?_
  rintro e w1 ⟨rfl, rfl⟩
  go_wp2_with fail
  go_ret2
  exact ⟨rfl, rfl⟩
theorem rBy_nil (p : Int) (w : World) : Calls Try.prog 50 #[.pointer none, .int .i64 p] w fun e w' => e = .returned (.tuple #[.int .i64 0, .bool false]) ∧ w = w' := by
  go_enter Try.func50, Try.ntmps50
  go_wp2_with fail
  refine Calls.mono (rLen_nil w) ?_
  rintro e w1 ⟨rfl, rfl⟩
  go_wp2_with fail
  go_ret2
  exact ⟨rfl, rfl⟩
theorem rBy_no (b g : Nat) (S : List Int) (p : Int) (w : World) (x : Rk w b g S) (hp : S = [] ∨ p < 1 ∨ 100000000 < p) :
    Calls Try.prog 50 #[.pointer (some ⟨b, 0, none⟩), .int .i64 p] w fun e w' => e = .returned (.tuple #[.int .i64 0, .bool false]) ∧ w = w' := by
  have HL := hid (rLen b g S w x)
  clear x
  obtain ⟨n, hn⟩ : ∃ n, n = S.length := ⟨_, rfl⟩
  have hp' : n = 0 ∨ p < 1 ∨ 100000000 < p := hp.imp_left (fun e => by rw [hn, e]; rfl)
  rw [← hn] at HL
  clear hn hp
  by_cases h0 : n = 0
  · subst h0
    go_enter Try.func50, Try.ntmps50
    go_wp2_with fail
    refine Calls.mono HL.out ?_
    rintro e w1 ⟨rfl, rfl⟩
    go_wp2_with fail
    go_ret2
    exact ⟨rfl, rfl⟩
  · have hb : ((n : Int) == 0) = false := by simp; omega
    by_cases h1 : p < 1
    · go_enter Try.func50, Try.ntmps50
      go_wp2_with fail
      refine Calls.mono HL.out ?_
      rintro e w1 ⟨rfl, rfl⟩
      go_wp2_with fail
      go_ret2
      exact ⟨rfl, rfl⟩
    · have h2 : 100000000 < p := by omega
      clear hp'
      go_enter Try.func50, Try.ntmps50
      go_wp2_with fail
      refine Calls.mono HL.out ?_
      rintro e w1 ⟨rfl, rfl⟩
      go_wp2_with fail
      go_ret2
      exact ⟨rfl, rfl⟩
/-- The nearest rank. -/
def nearest (p : Int) (n : Nat) : Nat := ((p * (n : Int) + 99999999) / 100000000).toNat
theorem nearest_bounds {p : Int} {n : Nat} (h1 : 1 ≤ p) (h2 : p ≤ 100000000) (hn : 0 < n) : 1 ≤ nearest p n ∧ nearest p n ≤ n ∧ ((nearest p n : Nat) : Int) = (p * (n : Int) + 99999999) / 100000000 := by
  have h3 : (n : Int) ≤ p * (n : Int) := by
    have := Int.mul_le_mul_of_nonneg_right h1 (show (0 : Int) ≤ (n : Int) by omega)
    omega
  have h4 : p * (n : Int) ≤ 100000000 * (n : Int) := Int.mul_le_mul_of_nonneg_right h2 (by omega)
  unfold nearest
  generalize p * (n : Int) = m at h3 h4
  omega
set_option maxRecDepth 20000 in
theorem rBy_yes (b g : Nat) (S : List Int) (p : Int) (y : Int) (w : World) (x : Rk w b g S) (h1 : 1 ≤ p) (h2 : p ≤ 100000000) (hl : S.length < 2147483648) (hy : S[nearest p S.length - 1]? = some y) :
    Calls Try.prog 50 #[.pointer (some ⟨b, 0, none⟩), .int .i64 p] w fun e w' => e = .returned (.tuple #[.int .i64 y, .bool true]) ∧ w = w' := by
  have HL := hid (rLen b g S w x)
  have HA := hid (rAt_yes b g S _ y w x hy)
  have hk : nearest p S.length - 1 < S.length := (List.getElem?_eq_some_iff.1 hy).1
  obtain ⟨n1, n2, n3⟩ := nearest_bounds h1 h2 (show 0 < S.length by omega)
  have h4 : p * (S.length : Int) ≤ 100000000 * (S.length : Int) := Int.mul_le_mul_of_nonneg_right h2 (by omega)
  have h3 : (S.length : Int) ≤ p * (S.length : Int) := by
    have := Int.mul_le_mul_of_nonneg_right h1 (show (0 : Int) ≤ (S.length : Int) by omega)
    omega
  obtain ⟨n, hn⟩ : ∃ n, n = S.length := ⟨_, rfl⟩
  rw [← hn] at HL HA hk n1 n2 n3 h3 h4 hl
  obtain ⟨k, hkk⟩ : ∃ k, k = nearest p n := ⟨_, rfl⟩
  rw [← hkk] at HA hk n1 n2 n3
  have hb : ((n : Int) == 0) = false := by simp; omega
  have h5 : ¬ p < 1 := by omega
  have h6 : ¬ 100000000 < p := by omega
  have hpn : 0 ≤ p * (n : Int) := by omega
  have hpm : p * (n : Int) < 214748364800000000 := by omega
  rw [show ((k - 1 : Nat) : Int) = (p * (n : Int) + 100000000 - 1) / 100000000 - 1 by rw [show p * (n : Int) + 100000000 - 1 = p * (n : Int) + 99999999 by omega, ← n3]; omega] at HA
  clear x hn hkk hy n3
  go_enter Try.func50, Try.ntmps50
  go_wp2_with fail
  refine Calls.mono HL.out ?_
  rintro e w1 ⟨rfl, rfl⟩
  go_wp2_with fail
  refine Calls.mono HL.out ?_
  rintro e w1 ⟨rfl, rfl⟩
  go_wp2_with fail
  refine Calls.mono HA.out ?_
  rintro e w1 ⟨rfl, rfl⟩
  go_wp2_with fail
  go_ret2
  exact ⟨rfl, rfl⟩
end Go.Proofs.Ytccgbkafcbfcgaa
