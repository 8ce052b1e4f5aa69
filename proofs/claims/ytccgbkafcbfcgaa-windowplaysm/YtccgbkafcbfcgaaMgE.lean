/- A rank as the heap holds it; where a number is found in it by halving. A rank's list in new memory; its number at a place, and of a percent. -/
import Derived.Test.YtccgbkafcbfcgaaRkM
section
namespace Go.Proofs.Ytccgbkafcbfcgaa
open Go.RowKit

/-- The block b is a rank whose numbers are S; they lie in the block g (b itself: there are none yet). -/
structure RkIs (w : World) (b g : Nat) (lv : Value) (S : List Int) : Prop where
  box : Box w b [lv]
  sl : (lv = .slice none 0 0 ∧ S = [] ∧ g = b) ∨ (g ≠ b ∧ ∃ J, BAt w g lv S J)
def Rk (w : World) (b g : Nat) (S : List Int) : Prop := ∃ lv, RkIs w b g lv S
theorem Box.single {w : World} {g : Nat} {v0 : Value} (h : Box w g [v0]) : w.cell? ⟨g, 0, none⟩ = some v0 ∧ w.frozen? ⟨g, 0, none⟩ = false := ⟨h.cell 0 _ rfl, h.free 0 (by simp)⟩
theorem RkIs.shape {w : World} {b g : Nat} {lv : Value} {S : List Int} (h : RkIs w b g lv S) : ∃ a c, lv = .slice a S.length c := by
  rcases h.sl with ⟨rfl, rfl, _⟩ | ⟨_, J, h⟩
  · exact ⟨none, 0, rfl⟩
  · exact ⟨_, _, h.val⟩
theorem RkIs.rd {w : World} {b g : Nat} {lv : Value} {S : List Int} (h : RkIs w b g lv S) : Rd w lv S := by
  rcases h.sl with ⟨rfl, rfl, _⟩ | ⟨_, J, h⟩
  · exact ⟨none, 0, rfl, .inl rfl⟩
  · exact h.rd
theorem Rk.turn {T : List Nat} {w w' : World} {b g : Nat} {S : List Int} (h : Rk w b g S) (t : Turn T w w') (hb : b ∉ T) (hg : g ∉ T) : Rk w' b g S := by
  obtain ⟨lv, h⟩ := h
  refine ⟨lv, h.box.turn t hb, ?_⟩
  rcases h.sl with h | ⟨hn, J, h⟩
  · exact .inl h
  · exact .inr ⟨hn, J, h.turn t hg⟩
theorem Rk.next {w w' : World} {b g : Nat} {S : List Int} (h : Rk w b g S) (t : Below w.heap.size w w') : Rk w' b g S := h.turn (T := []) (Turn.of_below t) (by simp) (by simp)
theorem Rk.lt {w : World} {b g : Nat} {S : List Int} (h : Rk w b g S) : b < w.heap.size := by obtain ⟨lv, h⟩ := h; exact h.box.lt
theorem Rk.glt {w : World} {b g : Nat} {S : List Int} (h : Rk w b g S) : g < w.heap.size := by
  obtain ⟨lv, h⟩ := h
  rcases h.sl with ⟨_, _, e⟩ | ⟨_, J, e⟩
  · rw [e]; exact h.box.lt
  · exact e.blk.lt
theorem rLen (b g : Nat) (S : List Int) (w : World) (x : Rk w b g S) :
    Calls Try.prog 73 #[.pointer (some ⟨b, 0, none⟩)] w fun e w' => e = .returned (.int .i64 (S.length : Nat)) ∧ w = w' := by
  obtain ⟨lv, x⟩ := x
  obtain ⟨c0, f0⟩ := x.box.single
  have hlt := x.box.lt
  obtain ⟨a, c, hv⟩ := x.shape
  subst hv
  clear x
  go_enter Try.func73, Try.ntmps73
  go_wp2_with fail
  go_ret
  exact ⟨rfl, rfl⟩
theorem rLen_nil (w : World) : Calls Try.prog 73 #[.pointer none] w fun e w' => e = .returned (.int .i64 0) ∧ w = w' := by
  go_enter Try.func73, Try.ntmps73
  go_wp2_with fail
  go_ret
  exact ⟨rfl, rfl⟩
theorem rNew (w : World) : Calls Try.prog 22 #[] w fun e w' => e = .returned (.pointer (some ⟨w.heap.size, 0, none⟩)) ∧ Rk w' w.heap.size w.heap.size [] ∧ Below w.heap.size w w' := by
  go_enter Try.func22, Try.ntmps22
  go_wp2_with fail
  go_ret
  exact ⟨rfl, ⟨.slice none 0 0, Box.new w [.slice none 0 0] _, .inl ⟨rfl, rfl, rfl⟩⟩, (Below.refl _ _).alloc (Nat.le_refl _) _⟩
/-- What is asked of each place that is looked at. -/
theorem upTo_asks (br bv b g n cap : Nat) (v x : Int) (i : Nat) (w : World) (hi : i < n) (hr : w.cell? ⟨br, 0, none⟩ = some (.pointer (some ⟨b, 0, none⟩))) (hv : w.cell? ⟨bv, 0, none⟩ = some (.int .i64 v))
    (hb : w.cell? ⟨b, 0, none⟩ = some (.slice (some ⟨g, 0, none⟩) n cap)) (hc : w.cell? ⟨g, i, none⟩ = some (.int .i64 x)) :
    Calls Try.prog 82 #[.int .i64 (i : Nat), .pointer (some ⟨br, 0, none⟩), .pointer (some ⟨bv, 0, none⟩)] w fun e w' => e = .returned (.bool (decide (v < x))) ∧ ∃ q, w' = w.drewN q := by
  have hi' : (i : Int) < (n : Int) := by omega
  go_enter Try.func82, Try.ntmps82
  go_wp2_with fail
  go_quiet (fail)
  go_wp2_with fail
  go_ret
  exact ⟨rfl, _, rfl⟩
/-- The places below c are all false, the others are all true. -/
def Cut (p : Nat → Bool) (n c : Nat) : Prop := c ≤ n ∧ (∀ t, t < c → p t = false) ∧ ∀ t, c ≤ t → t < n → p t = true
def Nears (p : Nat → Bool) (n lo hi : Nat) : Prop := lo ≤ hi ∧ hi ≤ n ∧ (∀ t, t < lo → p t = false) ∧ ∀ t, hi ≤ t → t < n → p t = true
theorem nears_low {p : Nat → Bool} {n c lo hi m : Nat} (hc : Cut p n c) (h : Nears p n lo hi) (hm : lo ≤ m ∧ m < hi) (hp : p m = false) : Nears p n (m + 1) hi := by
  obtain ⟨h1, h2, h3, h4⟩ := h
  obtain ⟨c1, c2, c3⟩ := hc
  have hmc : m < c := by
    rcases Nat.lt_or_ge m c with h | h
    · exact h
    · have := c3 m h (by omega); rw [hp] at this; cases this
  exact ⟨by omega, h2, fun t ht => c2 t (by omega), h4⟩
theorem nears_high {p : Nat → Bool} {n c lo hi m : Nat} (hc : Cut p n c) (h : Nears p n lo hi) (hm : lo ≤ m ∧ m < hi) (hp : p m = true) : Nears p n lo m := by
  obtain ⟨h1, h2, h3, h4⟩ := h
  obtain ⟨c1, c2, c3⟩ := hc
  have hmc : c ≤ m := by
    rcases Nat.lt_or_ge m c with h | h
    · have := c2 m h; rw [hp] at this; cases this
    · exact h
  exact ⟨hm.1, by omega, h3, fun t h5 h6 => c3 t (by omega) h6⟩
theorem nears_end {p : Nat → Bool} {n c k : Nat} (hc : Cut p n c) (h : Nears p n k k) : k = c := by
  obtain ⟨h1, h2, h3, h4⟩ := h
  obtain ⟨c1, c2, c3⟩ := hc
  rcases Nat.lt_trichotomy k c with h | h | h
  · have a := h4 k (Nat.le_refl _) (by omega); rw [c2 k h] at a; cases a
  · exact h
  · have a := h3 c h; rw [c3 c (Nat.le_refl _) (by omega)] at a; cases a
set_option maxRecDepth 20000 in
set_option maxHeartbeats 1000000 in
theorem search (cb : Array Value) (n c : Nat) (p : Nat → Bool) (w : World) (hn : n < 4611686018427387904) (hc : Cut p n c)
    (hf : ∀ m i, i < n → Calls Try.prog 82 (#[.int .i64 (i : Nat)] ++ cb) (w.drewN m) fun e w' => e = .returned (.bool (p i)) ∧ ∃ q, w' = (w.drewN m).drewN q) :
    Calls Try.prog 81 #[.int .i64 (n : Nat), .func (.func 82) #[] cb] w fun e w' => e = .returned (.int .i64 (c : Nat)) ∧ ∃ q, w' = w.drewN q := by
  have HF := hid hf
  have HC := hid hc
  clear hf hc
  go_enter Try.func81, Try.ntmps81
  go_wp2_with fail
  go_loopw [5, 6] (fun x y wr => ∃ lo hi m : Nat, x = .int .i64 (lo : Nat) ∧ y = .int .i64 (hi : Nat) ∧ Nears p n lo hi ∧ wr = w.drewN m) (fun x y _ => (intOf y).toNat - (intOf x).toNat)
  case atStart => exact ⟨0, n, 0, rfl, rfl, ⟨Nat.zero_le _, Nat.le_refl _, fun t ht => absurd ht (Nat.not_lt_zero _), fun t h1 h2 => absurd h2 (by omega)⟩, rfl⟩
  case round =>
    obtain ⟨lo, hi, m, rfl, rfl, hN, rfl⟩ := hrel
    have h1 : lo ≤ hi := hN.1
    have h2 : hi ≤ n := hN.2.1
    have HN := hid hN
    clear hN
    by_cases hlt : lo < hi
    · have hq := HF.out m ((lo + hi) / 2) (by omega)
      have hlt' : (lo : Int) < (hi : Int) := by omega
      rw [show (((lo + hi) / 2 : Nat) : Int) = ((lo : Int) + (hi : Int)) / 2 by omega] at hq
      have HQ := hid hq
      clear hq
      go_wp2_with fail
      refine Calls.mono HQ.out ?_
      rintro e w1 ⟨rfl, q, rfl⟩
      cases hp : p ((lo + hi) / 2) with
      | false =>
        have HP := hid hp
        clear hp
        go_wp2_with fail
        go_roundw
        case rel => exact ⟨(lo + hi) / 2 + 1, hi, m + q, by rw [show ((lo : Int) + (hi : Int)) / 2 + 1 = (((lo + hi) / 2 + 1 : Nat) : Int) by omega], rfl, nears_low HC.out HN.out (by omega) HP.out, rfl⟩
        case measure => simp [intOf]; omega
      | true =>
        have HP := hid hp
        clear hp
        go_wp2_with fail
        go_roundw
        case rel => exact ⟨lo, (lo + hi) / 2, m + q, rfl, by rw [show ((lo : Int) + (hi : Int)) / 2 = (((lo + hi) / 2 : Nat) : Int) by omega], nears_high HC.out HN.out (by omega) HP.out, rfl⟩
        case measure => simp [intOf]; omega
    · obtain rfl : hi = lo := by omega
      go_wp2_with fail
      go_ret
      obtain rfl := nears_end HC.out HN.out
      exact ⟨rfl, _, rfl⟩
theorem cut_of_asc {S : List Int} (h : Asc S) (v : Int) : Cut (fun i => decide (v < S.getD i 0)) S.length (cnt v S) := by
  have hg : ∀ t, t < S.length → S[t]? = some (S.getD t 0) := fun t ht => by rw [List.getElem?_eq_getElem ht]; simp [ht]
  have hl := cnt_le v S
  refine ⟨hl, fun t ht => ?_, fun t h1 h2 => ?_⟩
  · have := (asc_cnt h v t _ (hg t (by omega))).2 ht
    simp only [decide_eq_false_iff_not]
    omega
  · have := asc_cnt h v t _ (hg t h2)
    simp only [decide_eq_true_eq]
    omega
theorem Box.drewN {w : World} {g : Nat} {vs : List Value} (h : Box w g vs) (m : Nat) : Box (w.drewN m) g vs := h.alike rfl
set_option maxRecDepth 20000 in
set_option maxHeartbeats 1000000 in
theorem rUpTo (b g : Nat) (S : List Int) (v : Int) (w : World) (x : Rk w b g S) (ha : Asc S) (hl : S.length < 4611686018427387904) :
    Calls Try.prog 64 #[.pointer (some ⟨b, 0, none⟩), .int .i64 v] w fun e w' => e = .returned (.int .i64 (cnt v S : Nat)) ∧ Below w.heap.size w w' := by
  obtain ⟨B1, B2, hB⟩ := two_boxes w 63 2 [.pointer (some ⟨b, 0, none⟩)] [.int .i64 v]
  obtain ⟨W, hW⟩ : ∃ W, W = (w.alloc (.cells #[.pointer (some ⟨b, 0, none⟩)] 63)).alloc (.cells #[.int .i64 v] 2) := ⟨_, rfl⟩
  have hX := x.next (w' := W) (by rw [hW]; exact hB)
  have hasks : ∀ m i, i < S.length → Calls Try.prog 82 (#[.int .i64 (i : Nat)] ++ #[.pointer (some ⟨w.heap.size, 0, none⟩), .pointer (some ⟨w.heap.size + 1, 0, none⟩)]) (W.drewN m) fun e w' => e = .returned (.bool (decide (v < S.getD i 0))) ∧ ∃ q, w' = (W.drewN m).drewN q := by
    intro m i hi
    obtain ⟨lv, hx⟩ := hX.next (drewN_below W m)
    rcases hx.sl with ⟨_, e, _⟩ | ⟨_, J, hs⟩
    · rw [e] at hi; simp at hi
    · have c0 := hx.box.single.1
      rw [hs.val] at c0
      exact upTo_asks w.heap.size (w.heap.size + 1) b g S.length _ v _ i (W.drewN m) hi ((B1.drewN m).cell 0 _ rfl |> fun e => by rw [hW]; exact e) ((B2.drewN m).cell 0 _ rfl |> fun e => by rw [hW]; exact e) c0 (hs.cell (by rw [List.getElem?_eq_getElem hi]; simp [hi]))
  have HS := hid (search #[.pointer (some ⟨w.heap.size, 0, none⟩), .pointer (some ⟨w.heap.size + 1, 0, none⟩)] S.length (cnt v S) (fun i => decide (v < S.getD i 0)) W hl (cut_of_asc ha v) hasks)
  have HX := hid hX
  have HB := hid (show Below w.heap.size w W by rw [hW]; exact hB)
  have hlt := x.lt
  have d1 := B1.cell 0 _ rfl
  have HW := hid hW
  clear B1 B2 hB hX hasks x hW
  go_enter Try.func64, Try.ntmps64
  go_wp2_with fail
  rw [← HW.out]
  refine Calls.mono (rLen b g S W HX.out) ?_
  rintro e w1 ⟨rfl, rfl⟩
  go_wp2_with fail
  refine Calls.mono HS.out ?_
  rintro e w1 ⟨rfl, q, rfl⟩
  go_wp2_with fail
  go_ret
  exact ⟨rfl, HB.out.trans ((drewN_turn [] W q).below (by simp) HB.out.size)⟩
set_option maxRecDepth 20000 in
theorem rUpTo_nil (v : Int) (w : World) : Calls Try.prog 64 #[.pointer none, .int .i64 v] w fun e w' => e = .returned (.int .i64 0) ∧ Below w.heap.size w w' := by
  obtain ⟨B1, B2, hB⟩ := two_boxes w 63 2 [.pointer none] [.int .i64 v]
  obtain ⟨W, hW⟩ : ∃ W, W = (w.alloc (.cells #[.pointer none] 63)).alloc (.cells #[.int .i64 v] 2) := ⟨_, rfl⟩
  have HS := hid (search #[.pointer (some ⟨w.heap.size, 0, none⟩), .pointer (some ⟨w.heap.size + 1, 0, none⟩)] 0 0 (fun _ => false) W (by omega) ⟨Nat.le_refl _, fun _ _ => rfl, fun _ _ h => absurd h (Nat.not_lt_zero _)⟩ (fun _ _ h => absurd h (Nat.not_lt_zero _)))
  have HB := hid (show Below w.heap.size w W by rw [hW]; exact hB)
  have d1 := B1.cell 0 _ rfl
  have HW := hid hW
  clear B1 B2 hB hW
  go_enter Try.func64, Try.ntmps64
  go_wp2_with fail
  rw [← HW.out]
  refine Calls.mono (rLen_nil W) ?_
  rintro e w1 ⟨rfl, rfl⟩
  go_wp2_with fail
  refine Calls.mono HS.out ?_
  rintro e w1 ⟨rfl, q, rfl⟩
  go_wp2_with fail
  go_ret
  exact ⟨rfl, HB.out.trans ((drewN_turn [] W q).below (by simp) HB.out.size)⟩
end Go.Proofs.Ytccgbkafcbfcgaa
end
section
namespace Go.Proofs.Ytccgbkafcbfcgaa
open Go.RowKit

/-- A list that was made for the call's answer: none, or in a new block. -/
def Made (w : World) (lv : Value) (S : List Int) (w' : World) : Prop := ((lv = .slice none 0 0 ∧ S = []) ∨ ∃ g J, BAt w' g lv S J ∧ w.heap.size ≤ g) ∧ Below w.heap.size w w'
theorem made_of_apd {w w' : World} {g : Nat} {lv : Value} {S : List Int} (h : Apd w g (.slice none 0 0) lv S w') : Made w lv S w' := by
  rcases h with ⟨rfl, rfl, rfl⟩ | ⟨J, _, _, h⟩ | ⟨g', J, h1, h2, h3⟩
  · exact ⟨.inl ⟨rfl, rfl⟩, Below.refl _ _⟩
  · exact absurd rfl h
  · exact ⟨.inr ⟨g', J, h1, h3⟩, h2⟩
theorem Made.rd {w w' : World} {lv : Value} {S : List Int} (h : Made w lv S w') : Rd w' lv S := by
  rcases h with ⟨⟨rfl, rfl⟩ | ⟨g, J, h, _⟩, _⟩
  · exact ⟨none, 0, rfl, .inl rfl⟩
  · exact h.rd
theorem rMoved (lv : Value) (S : List Int) (w : World) (h : Rd w lv S) (hl : S.length < 17592186044416) :
    Calls Try.prog 83 #[lv] w fun e w' => ∃ lv', e = .returned lv' ∧ Made w lv' S w' := by
  have HX := hid h
  obtain ⟨a, c, hv, _⟩ := h
  subst hv
  go_enter Try.func83, Try.ntmps83
  go_wp2_with (at_builtin; refine wpList_append_b _ rfl _ _ rfl w.heap.size (.slice none 0 0) [] rfl (.inl ⟨rfl, rfl⟩) (.slice a S.length c) S rfl HX.out (by simpa using hl) ?_; intro lv1 w1 h1; rw [List.nil_append] at h1; have HA := hid (made_of_apd h1); obtain ⟨a1, c1, hv1⟩ := h1.shape; subst hv1; clear h1)
  go_ret
  exact ⟨_, rfl, HA.out⟩
theorem rAt_nil (i : Int) (w : World) : Calls Try.prog 74 #[.pointer none, .int .i64 i] w fun e w' => e = .returned (.tuple #[.int .i64 0, .bool false]) ∧ w = w' := by
  by_cases hi : i < 0
  · go_enter Try.func74, Try.ntmps74
    go_wp2_with fail
    go_ret2
    exact ⟨rfl, rfl⟩
  · go_enter Try.func74, Try.ntmps74
    go_wp2_with fail
    refine Calls.mono (rLen_nil w) ?_
    rintro e w1 ⟨rfl, rfl⟩
    go_wp2_with fail
    go_ret2
    exact ⟨rfl, rfl⟩
theorem rAt_no (b g : Nat) (S : List Int) (i : Int) (w : World) (x : Rk w b g S) (hi : i < 0 ∨ (S.length : Int) ≤ i) :
    Calls Try.prog 74 #[.pointer (some ⟨b, 0, none⟩), .int .i64 i] w fun e w' => e = .returned (.tuple #[.int .i64 0, .bool false]) ∧ w = w' := by
  have HL := hid (rLen b g S w x)
  clear x
  by_cases hi0 : i < 0
  · clear hi
    go_enter Try.func74, Try.ntmps74
    go_wp2_with fail
    go_ret2
    exact ⟨rfl, rfl⟩
  · have hi1 : (S.length : Int) ≤ i := by omega
    clear hi
    go_enter Try.func74, Try.ntmps74
    go_wp2_with fail
    refine Calls.mono HL.out ?_
    rintro e w1 ⟨rfl, rfl⟩
    go_wp2_with fail
    go_ret2
    exact ⟨rfl, rfl⟩
set_option maxRecDepth 20000 in
theorem rAt_yes (b g : Nat) (S : List Int) (k : Nat) (y : Int) (w : World) (x : Rk w b g S) (hy : S[k]? = some y) :
    Calls Try.prog 74 #[.pointer (some ⟨b, 0, none⟩), .int .i64 (k : Nat)] w fun e w' => e = .returned (.tuple #[.int .i64 y, .bool true]) ∧ w = w' := by
  have HL := hid (rLen b g S w x)
  have hk : k < S.length := (List.getElem?_eq_some_iff.1 hy).1
  obtain ⟨lv, x⟩ := x
  obtain ⟨c0, f0⟩ := x.box.single
  have hlt := x.box.lt
  rcases x.sl with ⟨_, e, _⟩ | ⟨_, J, hs⟩
  · rw [e] at hk; simp at hk
  rw [hs.val] at c0
  have d0 := hs.cell hy
  obtain ⟨n, hn⟩ : ∃ n, n = S.length := ⟨_, rfl⟩
  rw [← hn] at HL c0 hk
  have hk' : (k : Int) < (n : Int) := by omega
  have hk0 : ¬ (k : Int) < 0 := by omega
  clear x hs hn hy
  go_enter Try.func74, Try.ntmps74
  go_wp2_with fail
  refine Calls.mono HL.out ?_
  rintro e w1 ⟨rfl, rfl⟩
  go_wp2_with fail
  go_ret2
  exact ⟨rfl, rfl⟩
theorem rBy_nil (p : Int) (w : World) : Calls Try.prog 50 #[.pointer none, .int .i64 p] w fun e w' => e = .returned (.tuple #[.int .i64 0, .bool false]) ∧ w = w' := by
  go_enter Try.func50, Try.ntmps50
  go_wp2_with fail
  refine Calls.mono (rLen_nil w) ?_
  rintro e w1 ⟨rfl, rfl⟩
  go_wp2_with fail
  go_ret2
  exact ⟨rfl, rfl⟩
theorem rBy_no (b g : Nat) (S : List Int) (p : Int) (w : World) (x : Rk w b g S) (hp : S = [] ∨ p < 1 ∨ 100000000 < p) :
    Calls Try.prog 50 #[.pointer (some ⟨b, 0, none⟩), .int .i64 p] w fun e w' => e = .returned (.tuple #[.int .i64 0, .bool false]) ∧ w = w' := by
  have HL := hid (rLen b g S w x)
  clear x
  obtain ⟨n, hn⟩ : ∃ n, n = S.length := ⟨_, rfl⟩
  have hp' : n = 0 ∨ p < 1 ∨ 100000000 < p := hp.imp_left (fun e => by rw [hn, e]; rfl)
  rw [← hn] at HL
  clear hn hp
  by_cases h0 : n = 0
  · subst h0
    go_enter Try.func50, Try.ntmps50
    go_wp2_with fail
    refine Calls.mono HL.out ?_
    rintro e w1 ⟨rfl, rfl⟩
    go_wp2_with fail
    go_ret2
    exact ⟨rfl, rfl⟩
  · have hb : ((n : Int) == 0) = false := by simp; omega
    by_cases h1 : p < 1
    · go_enter Try.func50, Try.ntmps50
      go_wp2_with fail
      refine Calls.mono HL.out ?_
      rintro e w1 ⟨rfl, rfl⟩
      go_wp2_with fail
      go_ret2
      exact ⟨rfl, rfl⟩
    · have h2 : 100000000 < p := by omega
      clear hp'
      go_enter Try.func50, Try.ntmps50
      go_wp2_with fail
      refine Calls.mono HL.out ?_
      rintro e w1 ⟨rfl, rfl⟩
      go_wp2_with fail
      go_ret2
      exact ⟨rfl, rfl⟩
/-- The nearest rank. -/
def nearest (p : Int) (n : Nat) : Nat := ((p * (n : Int) + 99999999) / 100000000).toNat
theorem nearest_bounds {p : Int} {n : Nat} (h1 : 1 ≤ p) (h2 : p ≤ 100000000) (hn : 0 < n) : 1 ≤ nearest p n ∧ nearest p n ≤ n ∧ ((nearest p n : Nat) : Int) = (p * (n : Int) + 99999999) / 100000000 := by
  have h3 : (n : Int) ≤ p * (n : Int) := by
    have := Int.mul_le_mul_of_nonneg_right h1 (show (0 : Int) ≤ (n : Int) by omega)
    omega
  have h4 : p * (n : Int) ≤ 100000000 * (n : Int) := Int.mul_le_mul_of_nonneg_right h2 (by omega)
  unfold nearest
  generalize p * (n : Int) = m at h3 h4
  omega
set_option maxRecDepth 20000 in
theorem rBy_yes (b g : Nat) (S : List Int) (p : Int) (y : Int) (w : World) (x : Rk w b g S) (h1 : 1 ≤ p) (h2 : p ≤ 100000000) (hl : S.length < 2147483648) (hy : S[nearest p S.length - 1]? = some y) :
    Calls Try.prog 50 #[.pointer (some ⟨b, 0, none⟩), .int .i64 p] w fun e w' => e = .returned (.tuple #[.int .i64 y, .bool true]) ∧ w = w' := by
  have HL := hid (rLen b g S w x)
  have HA := hid (rAt_yes b g S _ y w x hy)
  have hk : nearest p S.length - 1 < S.length := (List.getElem?_eq_some_iff.1 hy).1
  obtain ⟨n1, n2, n3⟩ := nearest_bounds h1 h2 (show 0 < S.length by omega)
  have h4 : p * (S.length : Int) ≤ 100000000 * (S.length : Int) := Int.mul_le_mul_of_nonneg_right h2 (by omega)
  have h3 : (S.length : Int) ≤ p * (S.length : Int) := by
    have := Int.mul_le_mul_of_nonneg_right h1 (show (0 : Int) ≤ (S.length : Int) by omega)
    omega
  obtain ⟨n, hn⟩ : ∃ n, n = S.length := ⟨_, rfl⟩
  rw [← hn] at HL HA hk n1 n2 n3 h3 h4 hl
  obtain ⟨k, hkk⟩ : ∃ k, k = nearest p n := ⟨_, rfl⟩
  rw [← hkk] at HA hk n1 n2 n3
  have hb : ((n : Int) == 0) = false := by simp; omega
  have h5 : ¬ p < 1 := by omega
  have h6 : ¬ 100000000 < p := by omega
  have hpn : 0 ≤ p * (n : Int) := by omega
  have hpm : p * (n : Int) < 214748364800000000 := by omega
  rw [show ((k - 1 : Nat) : Int) = (p * (n : Int) + 100000000 - 1) / 100000000 - 1 by rw [show p * (n : Int) + 100000000 - 1 = p * (n : Int) + 99999999 by omega, ← n3]; omega] at HA
  clear x hn hkk hy n3
  go_enter Try.func50, Try.ntmps50
  go_wp2_with fail
  refine Calls.mono HL.out ?_
  rintro e w1 ⟨rfl, rfl⟩
  go_wp2_with fail
  refine Calls.mono HL.out ?_
  rintro e w1 ⟨rfl, rfl⟩
  go_wp2_with fail
  refine Calls.mono HA.out ?_
  rintro e w1 ⟨rfl, rfl⟩
  go_wp2_with fail
  go_ret2
  exact ⟨rfl, rfl⟩
end Go.Proofs.Ytccgbkafcbfcgaa
end
