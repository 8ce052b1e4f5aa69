/- The document's window: within, Held, values; two lists of samples held against each other. -/
import Derived.Test.YtccgbkafcbfcgaaPaA
import Derived.Test.YtccgbkafcbfcgaaMoR
import Derived.Test.YtccgbkafcbfcgaaWnC
namespace Go.Proofs.Ytccgbkafcbfcgaa
open Go.RowKit

/-- A list of samples in a block that is right, or none yet. -/
def PLs (w : World) (ok : Nat → Prop) (lv : Value) (L : List Pr) : Prop := (lv = .slice none 0 0 ∧ L = []) ∨ ∃ g off cap, ok g ∧ lv = .slice (some ⟨g, off, none⟩) L.length cap ∧ PAt w g off cap L
theorem PLs.shape {w : World} {ok : Nat → Prop} {lv : Value} {L : List Pr} (h : PLs w ok lv L) : ∃ a c, lv = .slice a L.length c := by
  rcases h with ⟨rfl, rfl⟩ | ⟨g, off, cap, _, e, _⟩
  · exact ⟨none, 0, rfl⟩
  · exact ⟨_, _, e⟩
theorem PLs.turn {w w' : World} {ok : Nat → Prop} {lv : Value} {L : List Pr} {S : List Nat} (h : PLs w ok lv L) (t : Turn S w w') (hS : ∀ i, i ∈ S → ¬ ok i) : PLs w' ok lv L := by
  rcases h with h | ⟨g, off, cap, o, e, h⟩
  · exact .inl h
  · exact .inr ⟨g, off, cap, o, e, h.turn t (fun hm => hS g hm o)⟩
theorem PLs.next {w w' : World} {ok : Nat → Prop} {lv : Value} {L : List Pr} (h : PLs w ok lv L) (t : Below w.heap.size w w') : PLs w' ok lv L := h.turn (S := []) (Turn.of_below t) (by simp)
theorem PLs.rd {w : World} {ok : Nat → Prop} {lv : Value} {L : List Pr} (h : PLs w ok lv L) : RdP w lv L := by
  rcases h with ⟨rfl, rfl⟩ | ⟨g, off, cap, _, rfl, h⟩
  · exact ⟨none, 0, rfl, .inl rfl⟩
  · exact ⟨_, cap, rfl, .inr ⟨g, off, rfl, h.lt, fun i x hx => ⟨h.num i x hx, h.ahd i x hx⟩⟩⟩
/-- What an append onto such a list leaves. -/
def PLsGrew (w : World) (ok : Nat → Prop) (lv : Value) (L : List Pr) (w' : World) : Prop := (∃ g' off cap, (ok g' ∨ w.heap.size ≤ g') ∧ lv = .slice (some ⟨g', off, none⟩) L.length cap ∧ PAt w' g' off cap L) ∧ ∃ S, Turn S w w' ∧ ∀ i, i ∈ S → ok i
theorem run_append_pls (ty : TypeId) (w : World) (ok : Nat → Prop) (lv : Value) (L : List Pr) (h : PLs w ok lv L) (hl : L.length < 8796093022208) (y : Pr) :
    ∃ a c w', (Builtin.append_ #[32, 32] ty #[lv, .slice (some ⟨w.heap.size, 0, none⟩) 1 1]).run Try.prog (w.alloc (.cells #[.int .i64 y.1, .int .i64 y.2] 45)) = .ok (.slice a (L.length + 1) c) w' ∧ PLsGrew w ok (.slice a (L.length + 1) c) (L ++ [y]) w' := by
  have hb : Below w.heap.size w (w.alloc (.cells #[.int .i64 y.1, .int .i64 y.2] 45)) := (Below.refl _ _).alloc (Nat.le_refl _) _
  have hy := cell_two_new w (.int .i64 y.1) (.int .i64 y.2) 45
  have hs : (w.alloc (.cells #[.int .i64 y.1, .int .i64 y.2] 45)).heap.size = w.heap.size + 1 := by simp
  rcases h with ⟨rfl, rfl⟩ | ⟨gl, off, cap, hok, rfl, h⟩
  · obtain ⟨g', off', cap', w', h1, h2, ⟨S, t, s1, s2⟩, h5⟩ := run_append_p ty (w.alloc (.cells #[.int .i64 y.1, .int .i64 y.2] 45)) w.heap.size w.heap.size (.slice none 0 0) [] (by omega) (.inl ⟨rfl, rfl, rfl⟩) (by simp) ⟨w.heap.size, 0, none⟩ y.1 y.2 hy
    rcases h2 with ⟨e, _, _⟩ | ⟨hne, o2, c2, e2, h2⟩
    · cases e
    refine ⟨_, _, w', h1, ⟨g', o2, c2, .inr (by omega), by simpa using e2, h2⟩, [], ?_, by simp⟩
    exact (Turn.of_below hb).trans t (fun i hi => .inr (by have := s2 i hi; omega))
  · have hgl := h.lt
    obtain ⟨g', off', cap', w', h1, h2, ⟨S, t, s1, s2⟩, h5⟩ := run_append_p ty (w.alloc (.cells #[.int .i64 y.1, .int .i64 y.2] 45)) w.heap.size gl (.slice (some ⟨gl, off, none⟩) L.length cap) L (by omega) (.inr ⟨by omega, off, cap, rfl, h.turn (S := []) (Turn.of_below hb) (by simp)⟩) hl ⟨w.heap.size, 0, none⟩ y.1 y.2 hy
    rcases h2 with ⟨e, _, _⟩ | ⟨hne, o2, c2, e2, h2⟩
    · cases e
    refine ⟨_, _, w', h1, ⟨g', o2, c2, ?_, by simpa using e2, h2⟩, [gl], (Turn.of_below hb).trans t (fun i hi => .inl (by have := s2 i hi; simp [this])), by simpa using hok⟩
    rcases h5 with e | e
    · exact .inl (e ▸ hok)
    · exact .inr (by omega)
theorem wpList_append_pls (w0 w : World) {ops : Array Oper} {rest : List Oper} {o : Oper} {a : Act} {Q : Exit → Act → World → Prop} (hgd : o.guard = none) (s x : Operand)
    (hop : o.op = Op.call { callee := Callee.builtin Builtin.append, args := #[s, x], argTypes := #[32, 32] }) (ok : Nat → Prop) (lv : Value) (L : List Pr) (y : Pr) (hw : w = w0.alloc (.cells #[.int .i64 y.1, .int .i64 y.2] 45)) (hs : a.eval s = lv) (h : PLs w0 ok lv L) (hl : L.length < 8796093022208)
    (hx : a.eval x = .slice (some ⟨w0.heap.size, 0, none⟩) 1 1)
    (hK : ∀ b c w', PLsGrew w0 ok (.slice b (L.length + 1) c) (L ++ [y]) w' → wpList Try.prog ops Q rest (a.put o.dst (.slice b (L.length + 1) c)) w') :
    wpList Try.prog ops Q (o :: rest) a w := by
  refine wpList_plain hgd fun K hK' => ?_
  subst hw
  obtain ⟨b, c, w', hrun, r⟩ := run_append_pls o.type w0 ok lv L h hl y
  unfold Oper.wp
  simp [execOp, hop, resolve, invoke, builtin, hs, hx, hrun, Result.andThen]
  exact hK' _ _ (hK b c w' r)
theorem PLsGrew.base {w w' : World} {B : Nat} {lv : Value} {L : List Pr} (h : PLsGrew w (fun g => B ≤ g) lv L w') (hB : B ≤ w.heap.size) : PLs w' (fun g => B ≤ g) lv L ∧ Below B w w' := by
  obtain ⟨⟨g, off, cap, ho, e, h⟩, S, t, hS⟩ := h
  exact ⟨.inr ⟨g, off, cap, by omega, e, h⟩, t.below hS hB⟩
theorem LsGrew.base8 {w w' : World} {B : Nat} {lv : Value} {L : List Int} (h : LsGrew w (fun g => B ≤ g) lv L w') (hB : B ≤ w.heap.size) : Ls w' (fun g => B ≤ g) lv L ∧ Below B w w' := by
  obtain ⟨⟨g, ho, h⟩, S, t, hS⟩ := h
  exact ⟨.inr ⟨g, by omega, h⟩, t.below hS hB⟩
set_option maxRecDepth 20000 in
theorem within_any (t at' span : Int) (w : World) (h : at' ≤ t) (ht : In64 t) (ha : In64 at') (s1 : 1 ≤ span) (s2 : span ≤ 604800) :
    Calls Try.prog 33 #[.int .i64 t, .int .i64 at', .int .i64 span] w fun e w' => e = .returned (.bool (decide (t - at' < span))) ∧ w = w' := by
  obtain ⟨t1, t2⟩ := ht
  obtain ⟨a1, a2⟩ := ha
  by_cases h0 : 0 ≤ at'
  · have hw : IntKind.i64.wrap (t - at') = t - at' := by rw [IntKind.wrap_i64]; omega
    go_enter Try.func33, Try.ntmps33
    go_wp2_with fail
    go_ret
    exact ⟨rfl, rfl⟩
  · by_cases h1 : t < 0
    · have hw : IntKind.i64.wrap (t - at') = t - at' := by rw [IntKind.wrap_i64]; omega
      go_enter Try.func33, Try.ntmps33
      go_wp2_with fail
      go_ret
      exact ⟨rfl, rfl⟩
    · have hn : IntKind.i64.wrap (-span) = -span := by rw [IntKind.wrap_i64]; omega
      by_cases h2 : -span ≤ at'
      · by_cases h3 : t < span
        · have hw : IntKind.i64.wrap (t - at') = t - at' := by rw [IntKind.wrap_i64]; omega
          go_enter Try.func33, Try.ntmps33
          go_wp2_with fail
          go_ret
          exact ⟨rfl, rfl⟩
        · have hd : decide (t - at' < span) = false := decide_eq_false (by omega)
          rw [hd]
          clear hd
          go_enter Try.func33, Try.ntmps33
          go_wp2_with fail
          go_ret
          exact ⟨rfl, rfl⟩
      · have hd : decide (t - at' < span) = false := decide_eq_false (by omega)
        rw [hd]
        clear hd
        go_enter Try.func33, Try.ntmps33
        go_wp2_with fail
        go_ret
        exact ⟨rfl, rfl⟩
/-- What the document's window holds at t. -/
def heldOf (span t : Int) (A : List Pr) : List Pr := (A.drop (A.length - 4096)).filter (fun s => decide (t - s.1 < span))
theorem held_step {A : List Pr} {st k : Nat} {x : Pr} (hx : A[k]? = some x) (h : st ≤ k) : (A.drop st).take (k + 1 - st) = (A.drop st).take (k - st) ++ [x] := by
  rw [show k + 1 - st = (k - st) + 1 by omega, List.take_add_one, List.getElem?_drop, show st + (k - st) = k by omega, hx]
  rfl
/-- Ahead of the round k of Held. -/
structure HeldAt (A : List Pr) (t span : Int) (n st : Nat) (w : World) (k : Nat) (lv : Value) (wr : World) : Prop where
  le : k ≤ n
  ge : st ≤ k
  ls : PLs wr (fun g => w.heap.size ≤ g) lv (((A.drop st).take (k - st)).filter (fun s => decide (t - s.1 < span)))
  bel : Below w.heap.size w wr
set_option maxRecDepth 20000 in
set_option maxHeartbeats 1000000 in
theorem fHeld (v : Value) (A : List Pr) (t span : Int) (w : World) (hv : RdP w v A) (hl : A.length < 8796093022208) (hA : ∀ x, x ∈ A → x.1 ≤ t ∧ In64 x.1) (ht : In64 t) (s1 : 1 ≤ span) (s2 : span ≤ 604800) :
    Calls Try.prog 24 #[v, .int .i64 t, .int .i64 span] w fun e w' => ∃ lv, e = .returned lv ∧ PLs w' (fun g => w.heap.size ≤ g) lv (heldOf span t A) ∧ Below w.heap.size w w' := by
  obtain ⟨a, c, rfl, hv⟩ := hv
  obtain ⟨n, hn⟩ : ∃ n, n = A.length := ⟨_, rfl⟩
  obtain ⟨st, hst⟩ : ∃ st : Nat, st = n - 4096 := ⟨_, rfl⟩
  have hw : IntKind.i64.wrap ((n : Int) - 4096) = (n : Int) - 4096 := by rw [IntKind.wrap_i64]; omega
  have hsn : st ≤ n := by omega
  have hn4 : n - st ≤ 4096 := by omega
  have hnl : n < 8796093022208 := by omega
  rw [← hn]
  have HV := hid hv
  have HN := hid hn
  have HA := hid hA
  have HST := hid hst
  clear hv hn hA hst hl
  go_enter Try.func24, Try.ntmps24
  go_wp2_with fail
  all_goals (
    go_loopw [7, 8] (fun lv i wr => ∃ k : Nat, i = .int .i64 k ∧ HeldAt A t span n st w k lv wr) (fun _ i _ => n - (intOf i).toNat)
    case atStart =>
      refine ⟨st, ?_, hsn, Nat.le_refl _, .inl ⟨rfl, by simp⟩, Below.refl _ _⟩
      have := HST.out
      simp
      omega
    case round =>
      obtain ⟨k, rfl, hk⟩ := hrel
      obtain ⟨k1, k2, k3, k4⟩ := hk
      obtain ⟨R, hR⟩ : ∃ R, R = ((A.drop st).take (k - st)).filter (fun s => decide (t - s.1 < span)) := ⟨_, rfl⟩
      rw [← hR] at k3
      have HK := hid k3
      have HB := hid k4
      have HR := hid hR
      have hRl : R.length ≤ 4096 := by
        rw [hR]
        exact Nat.le_trans (List.length_filter_le _ _) (by simp; omega)
      obtain ⟨ao, co, hlv⟩ := k3.shape
      subst hlv
      clear k3 k4 hR
      by_cases hkn : k = n
      · subst hkn
        go_wp2_with fail
        go_ret
        refine ⟨_, rfl, ?_, HB.out⟩
        have e : heldOf span t A = R := by
          rw [HR.out, heldOf, ← HN.out, ← HST.out, List.take_of_length_le (by simp; have := HN.out; omega)]
        rw [e]
        exact HK.out
      · have hkl : k < n := by omega
        have hkl' : (k : Int) < (n : Int) := by omega
        obtain ⟨x, hx⟩ : ∃ x, A[k]? = some x := ⟨_, List.getElem?_eq_getElem (by have := HN.out; omega)⟩
        rcases HV.out with h0 | ⟨gl, off, rfl, hgl, hcell⟩
        · rw [h0] at hx; simp at hx
        obtain ⟨o0, o1⟩ := hcell k x hx
        have q0 := (HB.out.cell (p := ⟨gl, off + k * 2, none⟩) hgl).trans o0
        have q1 := (HB.out.cell (p := ⟨gl, off + k * 2 + 1, none⟩) hgl).trans o1
        have hglr := Nat.lt_of_lt_of_le hgl HB.out.size
        obtain ⟨xt, xin⟩ := HA.out x (List.mem_of_getElem? hx)
        have HX := hid hx
        clear hcell o0 o1 hkn hx
        go_wp2_with fail
        refine Calls.mono (within_any t x.1 span wr xt ht xin s1 s2) ?_
        rintro e w1 ⟨rfl, rfl⟩
        cases hd : decide (t - x.1 < span) with
        | true =>
          have HD := hid hd
          clear hd
          go_wp2_with (at_builtin; refine wpList_append_pls wr _ rfl _ _ rfl (fun g => w.heap.size ≤ g) (.slice ao R.length co) R x rfl rfl HK.out (by omega) rfl ?_; intro b2 c2 w2 hgr; obtain ⟨hls2, hbw2⟩ := hgr.base HB.out.size; have HL2 := hid hls2; have HB2 := hid hbw2; clear hgr hls2 hbw2)
          go_roundw
          case rel => exact ⟨k + 1, by simp, by omega, by omega, by rw [held_step HX.out k2, List.filter_append, ← HR.out]; simpa [HD.out] using HL2.out, HB.out.trans HB2.out⟩
          case measure => simp [intOf]; omega
        | false =>
          have HD := hid hd
          clear hd
          go_wp2_with fail
          go_roundw
          case rel => exact ⟨k + 1, by simp, by omega, by omega, by rw [held_step HX.out k2, List.filter_append, ← HR.out]; simpa [HD.out] using HK.out, HB.out⟩
          case measure => simp [intOf]; omega)
end Go.Proofs.Ytccgbkafcbfcgaa
