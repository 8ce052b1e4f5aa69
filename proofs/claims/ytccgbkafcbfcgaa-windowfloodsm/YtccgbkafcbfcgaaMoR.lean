/- The document's best number, and the document's list of what is kept. -/
import Derived.Test.YtccgbkafcbfcgaaMoL
namespace Go.Proofs.Ytccgbkafcbfcgaa
open Go.RowKit

/-- A list of the call's own: none yet, or in a block that is all right. -/
def Ls (w : World) (ok : Nat → Prop) (lv : Value) (L : List Int) : Prop := (lv = .slice none 0 0 ∧ L = []) ∨ ∃ gl, ok gl ∧ Sl w gl lv L
theorem Ls.shape {w : World} {ok : Nat → Prop} {lv : Value} {L : List Int} (h : Ls w ok lv L) : ∃ a c, lv = .slice a L.length c := by
  rcases h with ⟨rfl, rfl⟩ | ⟨gl, _, h⟩
  · exact ⟨none, 0, rfl⟩
  · exact h.shape
theorem Ls.rd {w : World} {ok : Nat → Prop} {lv : Value} {L : List Int} (h : Ls w ok lv L) : Rd w lv L := by
  rcases h with ⟨rfl, rfl⟩ | ⟨gl, _, h⟩
  · exact ⟨none, 0, rfl, .inl rfl⟩
  · exact h.rd
theorem Ls.next {w w' : World} {ok : Nat → Prop} {lv : Value} {L : List Int} (h : Ls w ok lv L) (t : Below w.heap.size w w') : Ls w' ok lv L := by
  rcases h with h | ⟨gl, e, h⟩
  · exact .inl h
  · exact .inr ⟨gl, e, h.next t⟩
/-- What an append onto such a list leaves. -/
def LsGrew (w : World) (ok : Nat → Prop) (lv : Value) (L : List Int) (w' : World) : Prop := (∃ g', (ok g' ∨ w.heap.size ≤ g') ∧ Sl w' g' lv L) ∧ ∃ S, Turn S w w' ∧ ∀ i, i ∈ S → ok i
theorem run_append_ls (ty : TypeId) (w : World) (ok : Nat → Prop) (lv : Value) (L : List Int) (h : Ls w ok lv L) (hl : L.length < 17592186044416) (y : Int) :
    ∃ a c w', (Builtin.append_ #[90, 90] ty #[lv, .slice (some ⟨w.heap.size, 0, none⟩) 1 1]).run Try.prog (w.alloc (.cells #[.int .i64 y] 2)) = .ok (.slice a (L.length + 1) c) w' ∧ LsGrew w ok (.slice a (L.length + 1) c) (L ++ [y]) w' := by
  have hb : Below w.heap.size w (w.alloc (.cells #[.int .i64 y] 2)) := (Below.refl _ _).alloc (Nat.le_refl _) _
  have hy := cell_one_new w (.int .i64 y) 2
  rcases h with ⟨rfl, rfl⟩ | ⟨gl, hok, h⟩
  · obtain ⟨g', off', cap', w', h1, h2, h3, _, h5⟩ := run_append_sl ty (w.alloc (.cells #[.int .i64 y] 2)) w.heap.size (.slice none 0 0) [] (.inl ⟨rfl, rfl, by simp⟩) (by simp) ⟨w.heap.size, 0, none⟩ y hy
    refine ⟨_, _, w', h1, ⟨g', .inr ?_, h2⟩, [], (Turn.of_below hb).trans h3 (by simp), by simp⟩
    simp at h5; omega
  · obtain ⟨g', off', cap', w', h1, h2, h3, _, h5⟩ := run_append_sl ty (w.alloc (.cells #[.int .i64 y] 2)) gl lv L (h.next hb) hl ⟨w.heap.size, 0, none⟩ y hy
    refine ⟨_, _, w', h1, ⟨g', ?_, h2⟩, [gl], (Turn.of_below hb).trans h3 (by simp), by simpa using hok⟩
    rcases h5 with e | e
    · exact .inl (e ▸ hok)
    · exact .inr (by simp at e; omega)
theorem wpList_append_ls (w0 w : World) {ops : Array Oper} {rest : List Oper} {o : Oper} {a : Act} {Q : Exit → Act → World → Prop} (hgd : o.guard = none) (s x : Operand)
    (hop : o.op = Op.call { callee := Callee.builtin Builtin.append, args := #[s, x], argTypes := #[90, 90] }) (ok : Nat → Prop) (lv : Value) (L : List Int) (y : Int) (hw : w = w0.alloc (.cells #[.int .i64 y] 2)) (hs : a.eval s = lv) (h : Ls w0 ok lv L) (hl : L.length < 17592186044416)
    (hx : a.eval x = .slice (some ⟨w0.heap.size, 0, none⟩) 1 1)
    (hK : ∀ b c w', LsGrew w0 ok (.slice b (L.length + 1) c) (L ++ [y]) w' → wpList Try.prog ops Q rest (a.put o.dst (.slice b (L.length + 1) c)) w') :
    wpList Try.prog ops Q (o :: rest) a w := by
  refine wpList_plain hgd fun K hK' => ?_
  subst hw
  obtain ⟨b, c, w', hrun, r⟩ := run_append_ls o.type w0 ok lv L h hl y
  unfold Oper.wp
  simp [execOp, hop, resolve, invoke, builtin, hs, hx, hrun, Result.andThen]
  exact hK' _ _ (hK b c w' r)
theorem beats_any (h : Bool) (a b : Int) (w : World) : Calls Try.prog 79 #[.bool h, .int .i64 a, .int .i64 b] w fun e w' => e = .returned (.bool (win h a b)) ∧ w = w' := by
  cases h
  · go_enter Try.func79, Try.ntmps79
    go_wp2_with fail
    go_ret
    exact ⟨rfl, rfl⟩
  · go_enter Try.func79, Try.ntmps79
    go_wp2_with fail
    go_ret
    exact ⟨rfl, rfl⟩
/-- The best of the first n. -/
def Bests (h : Bool) (L : List Int) (n : Nat) (y : Int) : Prop := y ∈ L.take n ∧ ∀ z, z ∈ L.take n → win h z y = false
theorem bests_start {h : Bool} {L : List Int} {y : Int} (e : L[0]? = some y) : Bests h L 1 y := by
  cases L with
  | nil => simp at e
  | cons x T => simp at e; subst e; exact ⟨by simp, fun z hz => by simp at hz; subst hz; exact win_self _ _⟩
theorem bests_new {h : Bool} {L : List Int} {n : Nat} {x y : Int} (b : Bests h L n y) (hx : L[n]? = some x) (hw : win h x y = true) : Bests h L (n + 1) x := by
  unfold Bests
  rw [List.take_add_one, hx]
  refine ⟨by simp, fun z hz => ?_⟩
  rcases List.mem_append.1 hz with hz | hz
  · cases hzx : win h z x with
    | false => rfl
    | true => have := b.2 z hz; rw [win_trans hzx hw] at this; cases this
  · simp at hz; subst hz; exact win_self _ _
theorem bests_old {h : Bool} {L : List Int} {n : Nat} {x y : Int} (b : Bests h L n y) (hx : L[n]? = some x) (hw : win h x y = false) : Bests h L (n + 1) y := by
  unfold Bests
  rw [List.take_add_one, hx]
  refine ⟨List.mem_append_left _ b.1, fun z hz => ?_⟩
  rcases List.mem_append.1 hz with hz | hz
  · exact b.2 z hz
  · simp at hz; subst hz; exact hw
theorem fBest_no (h : Bool) (v : Value) (w : World) (hv : Rd w v []) : Calls Try.prog 56 #[.bool h, v] w fun e w' => e = .returned (.tuple #[.int .i64 0, .bool false]) ∧ w = w' := by
  obtain ⟨a, c, rfl, _⟩ := hv
  simp only [List.length_nil]
  go_enter Try.func56, Try.ntmps56
  go_wp2_with fail
  go_ret2
  exact ⟨rfl, rfl⟩
set_option maxRecDepth 20000 in
set_option maxHeartbeats 1000000 in
theorem fBest_yes (h : Bool) (v : Value) (L : List Int) (y : Int) (K : List Int) (w : World) (hv : Rd w v L) (hy : kept h L = y :: K) (hl : L.length < 4611686018427387904) :
    Calls Try.prog 56 #[.bool h, v] w fun e w' => e = .returned (.tuple #[.int .i64 y, .bool true]) ∧ w = w' := by
  have hne : L ≠ [] := by rintro rfl; cases hy
  obtain ⟨a, c, rfl, e | ⟨g, off, rfl, hg, hcell⟩⟩ := hv
  · exact absurd e hne
  obtain ⟨x0, hx0⟩ : ∃ x, L[0]? = some x := ⟨_, List.getElem?_eq_getElem (List.length_pos_iff.2 hne)⟩
  have d0 := hcell 0 x0 hx0
  rw [Nat.add_zero] at d0
  have hpos : 0 < L.length := List.length_pos_iff.2 hne
  obtain ⟨n, hn⟩ : ∃ n, n = L.length := ⟨_, rfl⟩
  rw [← hn] at hl hpos ⊢
  have hn0 : ¬ (n : Int) = 0 := by omega
  have hn2 : ((n : Int) == 0) = false := by simpa using hn0
  have hn1 : (0 : Int) < (n : Int) := by omega
  have HY := hid hy
  have HN := hid hn
  have HC := hid hcell
  have H0 := hid hx0
  clear hy hn hcell hx0 hne
  go_enter Try.func56, Try.ntmps56
  go_wp2_with fail
  go_loopw [6, 7] (fun p q wr => ∃ (k : Nat) (b : Int), p = .int .i64 b ∧ q = .int .i64 (k : Nat) ∧ k ≤ n ∧ 1 ≤ k ∧ Bests h L k b ∧ w = wr) (fun _ q _ => n - (intOf q).toNat)
  case atStart => exact ⟨1, x0, rfl, rfl, hpos, Nat.le_refl _, bests_start H0.out, rfl⟩
  case round =>
    obtain ⟨k, b, rfl, rfl, hk, hk1, hb, rfl⟩ := hrel
    by_cases hlt : k < n
    · obtain ⟨x, hx⟩ : ∃ x, L[k]? = some x := ⟨_, List.getElem?_eq_getElem (by have := HN.out; omega)⟩
      have dk := HC.out k x hx
      have hlt' : (k : Int) < (n : Int) := by omega
      have HX := hid hx
      have HB := hid hb
      clear hx hb
      go_wp2_with fail
      refine (beats_any h x b w).mono ?_
      rintro e w1 ⟨rfl, rfl⟩
      cases hw : win h x b with
      | true =>
        go_wp2_with fail
        go_roundw
        case rel => exact ⟨k + 1, x, rfl, by simp, by omega, by omega, bests_new HB.out HX.out hw, by trivial⟩
        case measure => simp [intOf]; omega
      | false =>
        go_wp2_with fail
        go_roundw
        case rel => exact ⟨k + 1, b, rfl, by simp, by omega, by omega, bests_old HB.out HX.out hw, by trivial⟩
        case measure => simp [intOf]; omega
    · obtain rfl : k = n := by omega
      have HB := hid hb
      clear hb
      go_wp2_with fail
      go_ret2
      obtain ⟨b1, b2⟩ := HB.out
      rw [List.take_of_length_le (by have := HN.out; omega)] at b1 b2
      obtain ⟨y1, y2⟩ := kept_best HY.out
      obtain rfl := best_one b1 b2 y1 y2
      exact ⟨rfl, rfl⟩
end Go.Proofs.Ytccgbkafcbfcgaa
