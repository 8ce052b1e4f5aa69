/- The document's Same; LexCuts. -/
import Derived.Test.YtbpceoalodhmjaaGreatDoorLyK
import Derived.Test.YtbpceoalodhmjaaGreatDoorLbC
import Derived.Test.YtbpceoalodhmjaaGreatDoorLxX
namespace Go.Proofs.YtbpceoalodhmjaaGreatDoor
open Go.RowKit Go.Lib

set_option maxHeartbeats 4000000 in
theorem same_c (w : World) (B1 B2 : Nat) (v1 v2 : Value) (L : List Tk) (h1 : Toks w B1 v1 L) (h2 : Toks w B2 v2 L) : Calls Tryz.prog 9 #[v1, v2] w fun e w' => e = .returned (.bool true) ∧ Below w.heap.size w w' := by
  have hmax := toks_lt h1
  have nil : ∀ (v1 v2 : Value), (∃ a1 c1, v1 = .slice a1 0 c1) → (∃ a2 c2, v2 = .slice a2 0 c2) → Calls Tryz.prog 9 #[v1, v2] w fun e w' => e = .returned (.bool true) ∧ Below w.heap.size w w' := by
    rintro _ _ ⟨a1, c1, rfl⟩ ⟨a2, c2, rfl⟩
    go_enter Tryz.func9, Tryz.ntmps9
    go_wp2_with fail
    go_loopw [5] (fun s5 wr => s5 = .int .i64 0 ∧ Hid (Below w.heap.size w wr)) (fun _ _ => 0)
    case atStart => exact ⟨rfl, Below.refl _ _⟩
    case round =>
      obtain ⟨rfl, HB⟩ := hrel
      go_wp2_with fail
      go_ret
      exact ⟨rfl, HB.out⟩
  rcases toks_box h1 with ⟨rfl, rfl⟩ | ⟨g1, cap1, rfl, _, hb1⟩
  · obtain ⟨a, c, rfl⟩ := own_val h2
    exact nil _ _ ⟨_, _, rfl⟩ ⟨_, _, rfl⟩
  · rcases toks_box h2 with ⟨rfl, rfl⟩ | ⟨g2, cap2, rfl, _, hb2⟩
    · exact nil _ _ ⟨_, _, rfl⟩ ⟨_, _, rfl⟩
    · have Hb1 := hid2 hb1
      have Hb2 := hid2 hb2
      have HL := hid2 (fun j (hj : j < L.length) => (⟨_, List.getElem?_eq_getElem hj⟩ : ∃ t, L[j]? = some t))
      clear h1 h2 hb1 hb2 nil
      generalize hn : L.length = n at *
      go_enter Tryz.func9, Tryz.ntmps9
      go_wp2_with fail
      go_loopw [5] (fun s5 wr => ∃ j : Nat, s5 = .int .i64 (j : Nat) ∧ j ≤ n ∧ Hid (Below w.heap.size w wr)) (fun s5 _ => n - (RowKit.intOf s5).toNat)
      case atStart => exact ⟨0, rfl, by omega, Below.refl _ _⟩
      case round =>
        obtain ⟨j, rfl, hj, HB⟩ := hrel
        by_cases hjn : j < n
        · obtain ⟨t, ht⟩ := HL.out j hjn
          have B1 := Hb1.out.next HB.out
          have B2 := Hb2.out.next HB.out
          obtain ⟨p0, p1, p2, p3⟩ := toks_at B1 ht
          obtain ⟨q0, q1, q2, q3⟩ := toks_at B2 ht
          have l1 := B1.lt
          have l2 := B2.lt
          have hjn2 : (j : Int) < (n : Int) := by omega
          have hw : IntKind.i64.wrap ((j : Int) + 1) = ((j + 1 : Nat) : Int) := by rw [IntKind.wrap_i64]; omega
          clear B1 B2 ht
          generalize t.kind = tk at *
          generalize t.text = tx at *
          generalize t.n = tn at *
          generalize t.at_ = ta at *
          go_wp2_with fail
          go_quiet (fail)
          have HB2 := hid2 (below_on HB.out (drewN_b2 wr nq) HB.out.size)
          generalize World.drewN _ nq = W2 at *
          go_wp2_with fail
          go_roundw
          case rel => exact ⟨j + 1, rfl, by omega, HB2⟩
          case measure => simp [RowKit.intOf]; omega
        · have hjn2 : ¬ ((j : Int) < (n : Int)) := by omega
          go_wp2_with fail
          go_ret
          exact ⟨rfl, HB.out⟩
/-- Two answers of Cut are the same. -/
theorem cut_same {s : ByteArray} {w1 w2 w : World} {v1 v2 : Value} (h1 : if (cutS s).2.2 = 0 then Toks w w1.heap.size v1 (cutS s).1 else v1 = .slice none 0 0) (h2 : if (cutS s).2.2 = 0 then Toks w w2.heap.size v2 (cutS s).1 else v2 = .slice none 0 0) : Calls Tryz.prog 9 #[v1, v2] w fun e w' => e = .returned (.bool true) ∧ Below w.heap.size w w' := by
  by_cases h : (cutS s).2.2 = 0
  · rw [if_pos h] at h1 h2
    exact same_c w _ _ _ _ _ h1 h2
  · rw [if_neg h] at h1 h2
    subst h1
    subst h2
    exact same_c w 0 0 _ _ [] ⟨rfl, .inl ⟨rfl, rfl⟩⟩ ⟨rfl, .inl ⟨rfl, rfl⟩⟩
theorem cut_on {s : ByteArray} {B : Nat} {w w' : World} {v : Value} (h : if (cutS s).2.2 = 0 then Toks w B v (cutS s).1 else v = .slice none 0 0) (k : Below w.heap.size w w') : if (cutS s).2.2 = 0 then Toks w' B v (cutS s).1 else v = .slice none 0 0 := by
  by_cases h0 : (cutS s).2.2 = 0
  · rw [if_pos h0] at h ⊢
    exact own_on h k
  · rw [if_neg h0] at h ⊢
    exact h
set_option maxHeartbeats 4000000 in
theorem lexCuts_walk (s : ByteArray) (w : World) (hT : TabsAt w) : Calls Tryz.prog 3 #[.string s] w fun e w' => e = .returned (.bool true) ∧ Below w.heap.size w w' := by
  have HA := hid2 (awake_c w hT)
  have HC := hid2 (fun w' (hb : Below w.heap.size w w') => cut_all s w' (hT.next hb))
  have HR := hid2 (fun w' => rCut_c s w')
  have HS := hid2 (fun (w1 w2 w : World) v1 v2 h1 h2 => cut_same (s := s) (w1 := w1) (w2 := w2) (w := w) (v1 := v1) (v2 := v2) h1 h2)
  have HO := hid2 (fun B w w' v h k => cut_on (s := s) (B := B) (w := w) (w' := w') (v := v) h k)
  unfold CutP at HC HR
  generalize cutS s = res at *
  clear hT
  go_enter Tryz.func3, Tryz.ntmps3
  go_wp2_with fail
  refine Calls.mono HA.out ?_
  rintro r w1 ⟨rfl, b1⟩
  go_wp2_with fail
  refine Calls.mono (HC.out _ b1) ?_
  rintro r w2 ⟨v2, rfl, h2, b2⟩
  replace b2 := below_on b1 b2 b1.size
  have H2 := hid2 h2
  clear b1 h2
  go_wp2_with fail
  refine Calls.mono (HR.out _) ?_
  rintro r w3 ⟨v3, rfl, h3, b3⟩
  have H2' := hid2 (HO.out _ _ _ _ H2.out b3)
  have H3 := hid2 h3
  replace b3 := below_on b2 b3 b2.size
  have B3 := hid2 b3
  clear b2 h3 b3 H2
  go_wp2_with fail
  refine Calls.mono (HS.out _ _ _ _ _ H2'.out H3.out) ?_
  rintro r w4 ⟨rfl, b4⟩
  go_wp2_with fail
  go_ret
  exact ⟨rfl, below_on B3.out b4 B3.out.size⟩
end Go.Proofs.YtbpceoalodhmjaaGreatDoor
