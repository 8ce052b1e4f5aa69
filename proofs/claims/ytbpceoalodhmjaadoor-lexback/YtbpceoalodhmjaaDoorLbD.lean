/- LexBack: a token as it is written; two lists of tokens, but for their places. -/
import Derived.Test.YtbpceoalodhmjaaDoorLbC
import Derived.Test.YtbpceoalodhmjaaDoorLbB
namespace Go.Proofs.YtbpceoalodhmjaaDoor
open Go.RowKit Go.Lib

set_option maxHeartbeats 2000000 in
theorem spelt_c (t : Tk) (hz : t.text.size ≤ 1048576) (w : World) : Calls Tryd.prog 11 #[.agg #[.int .i64 t.kind, .string t.text, .int .i64 t.n, .int .i64 (t.at_ : Nat)]] w fun e w' => e = .returned (.string (splt t)) ∧ Below w.heap.size w w' := by
  obtain ⟨k, x, n, a⟩ := t
  simp only [] at hz ⊢
  have bl := fun o => (Below.refl w.heap.size w).alloc (Nat.le_refl _) o
  have HB := hid2 bl
  clear bl
  by_cases h4 : k = 4
  · subst h4
    have hs : splt ⟨4, x, n, a⟩ = ofL [34] ++ x ++ ofL [34] := rfl
    rw [hs]
    clear hs
    go_enter Tryd.func11, Tryd.ntmps11
    go_wp2_with fail
    go_ret
    exact ⟨rfl, HB.out _⟩
  · have k4 : (k == 4) = false := beq_eq_false_iff_ne.2 h4
    by_cases h8 : k = 8
    · subst h8
      have hs : splt ⟨8, x, n, a⟩ = ofL [91] ++ x ++ ofL [93] := rfl
      rw [hs]
      clear hs
      go_enter Tryd.func11, Tryd.ntmps11
      go_wp2_with fail
      go_ret
      exact ⟨rfl, HB.out _⟩
    · have k8 : (k == 8) = false := beq_eq_false_iff_ne.2 h8
      have hs : splt ⟨k, x, n, a⟩ = x := by unfold splt; rw [if_neg h4, if_neg h8]
      rw [hs]
      clear hs
      go_enter Tryd.func11, Tryd.ntmps11
      go_wp2_with fail
      go_ret
      exact ⟨rfl, HB.out _⟩
theorem key_at {L M : List Tk} (h : L.map key = M.map key) {j : Nat} {t : Tk} (hj : L[j]? = some t) : ∃ u, M[j]? = some u ∧ u.kind = t.kind ∧ u.text = t.text ∧ u.n = t.n := by
  have h2 : (M.map key)[j]? = some (key t) := by rw [← h, List.getElem?_map, hj]; rfl
  rw [List.getElem?_map] at h2
  cases hm : M[j]? with
  | none => rw [hm] at h2; cases h2
  | some u =>
    rw [hm] at h2
    simp [key] at h2
    exact ⟨u, rfl, h2.1, h2.2.1, h2.2.2⟩
set_option maxHeartbeats 4000000 in
theorem alike_c (w : World) (B1 B2 : Nat) (v1 v2 : Value) (L M : List Tk) (h1 : Toks w B1 v1 L) (h2 : Toks w B2 v2 M) (hk : L.map key = M.map key) : Calls Tryd.prog 12 #[v1, v2] w fun e w' => e = .returned (.bool true) ∧ Below w.heap.size w w' := by
  have hlen : L.length = M.length := by have := congrArg List.length hk; simpa using this
  have hmax := toks_lt h1
  have HK := hid2 hk
  rcases toks_box h1 with ⟨rfl, rfl⟩ | ⟨g1, cap1, rfl, _, hb1⟩
  · have : M = [] := List.eq_nil_of_length_eq_zero (by rw [← hlen]; rfl)
    subst this
    rcases toks_box h2 with ⟨rfl, _⟩ | ⟨g2, cap2, rfl, _, hb2⟩
    · go_enter Tryd.func12, Tryd.ntmps12
      go_wp2_with fail
      go_loopw [5] (fun s5 wr => s5 = .int .i64 0 ∧ Hid (Below w.heap.size w wr)) (fun _ _ => 0)
      case atStart => exact ⟨rfl, Below.refl _ _⟩
      case round =>
        obtain ⟨rfl, HB⟩ := hrel
        go_wp2_with fail
        go_ret
        exact ⟨rfl, HB.out⟩
    · go_enter Tryd.func12, Tryd.ntmps12
      go_wp2_with fail
      go_loopw [5] (fun s5 wr => s5 = .int .i64 0 ∧ Hid (Below w.heap.size w wr)) (fun _ _ => 0)
      case atStart => exact ⟨rfl, Below.refl _ _⟩
      case round =>
        obtain ⟨rfl, HB⟩ := hrel
        go_wp2_with fail
        go_ret
        exact ⟨rfl, HB.out⟩
  · rcases toks_box h2 with ⟨rfl, rfl⟩ | ⟨g2, cap2, rfl, _, hb2⟩
    · have : L = [] := List.eq_nil_of_length_eq_zero hlen
      subst this
      go_enter Tryd.func12, Tryd.ntmps12
      go_wp2_with fail
      go_loopw [5] (fun s5 wr => s5 = .int .i64 0 ∧ Hid (Below w.heap.size w wr)) (fun _ _ => 0)
      case atStart => exact ⟨rfl, Below.refl _ _⟩
      case round =>
        obtain ⟨rfl, HB⟩ := hrel
        go_wp2_with fail
        go_ret
        exact ⟨rfl, HB.out⟩
    · have Hb1 := hid2 hb1
      have Hb2 := hid2 hb2
      have HL := hid2 (fun j (hj : j < L.length) => (⟨_, List.getElem?_eq_getElem hj⟩ : ∃ t, L[j]? = some t))
      have hne : ((L.length : Int) != (M.length : Int)) = false := by simp [hlen]
      clear h1 h2 hk hb1 hb2
      obtain ⟨n, hn1⟩ : ∃ n, L.length = n := ⟨_, rfl⟩
      have hn2 : M.length = n := by omega
      rw [hn1] at hmax HL ⊢
      rw [hn2]
      clear hlen hn1 hn2 hne
      go_enter Tryd.func12, Tryd.ntmps12
      go_wp2_with fail
      go_loopw [5] (fun s5 wr => ∃ j : Nat, s5 = .int .i64 (j : Nat) ∧ j ≤ n ∧ Hid (Below w.heap.size w wr)) (fun s5 _ => n - (RowKit.intOf s5).toNat)
      case atStart => exact ⟨0, rfl, by omega, Below.refl _ _⟩
      case round =>
        obtain ⟨j, rfl, hj, HB⟩ := hrel
        by_cases hjn : j < n
        · obtain ⟨t, ht⟩ := HL.out j hjn
          obtain ⟨u, hu, e1, e2, e3⟩ := key_at HK.out ht
          have B1 := Hb1.out.next HB.out
          have B2 := Hb2.out.next HB.out
          obtain ⟨p0, p1, p2, p3⟩ := toks_at B1 ht
          obtain ⟨q0, q1, q2, q3⟩ := toks_at B2 hu
          rw [e1] at q0
          rw [e2] at q1
          rw [e3] at q2
          have l1 := B1.lt
          have l2 := B2.lt
          have hjn2 : (j : Int) < (n : Int) := by omega
          have hw : IntKind.i64.wrap ((j : Int) + 1) = ((j + 1 : Nat) : Int) := by rw [IntKind.wrap_i64]; omega
          clear B1 B2 e1 e2 e3 ht hu p3 q3
          generalize t.kind = tk at *
          generalize t.text = tx at *
          generalize t.n = tn at *
          go_wp2_with fail
          go_quiet (fail)
          have HB2 := hid2 (below_on HB.out (drewN_b2 wr nq) HB.out.size)
          generalize World.drewN _ nq = W2 at *
          go_wp2_with fail
          go_roundw
          case rel => exact ⟨j + 1, rfl, by omega, HB2⟩
          case measure => simp [RowKit.intOf]; omega
        · have hjn2 : ¬ ((j : Int) < (n : Int)) := by omega
          go_wp2_with fail
          go_ret
          exact ⟨rfl, HB.out⟩
end Go.Proofs.YtbpceoalodhmjaaDoor
