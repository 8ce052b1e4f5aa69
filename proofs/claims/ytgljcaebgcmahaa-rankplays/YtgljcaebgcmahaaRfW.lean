/- The document's list without one number. -/
import Derived.Test.YtgljcaebgcmahaaRfL
import Derived.Test.YtgljcaebgcmahaaRfA
namespace Go.Proofs.Ytgljcaebgcmahaa
open Go.RowKit

theorem erase_at {L : List Int} {v : Int} {k : Nat} (hb : Before L v k) (hk : L[k]? = some v) : L.erase v = L.take k ++ L.drop (k + 1) := by
  induction k generalizing L with
  | zero =>
    cases L with
    | nil => simp at hk
    | cons x T => simp at hk; subst hk; simp
  | succ k ih =>
    cases L with
    | nil => simp at hk
    | cons x T =>
      have hx : x ≠ v := hb 0 x (by omega) rfl
      have hT : Before T v k := fun t z ht hz => hb (t + 1) z (by omega) (by simpa using hz)
      rw [List.erase_cons_tail (by simpa using hx), ih hT (by simpa using hk)]
      simp
theorem rd_take {w : World} {g off n c k : Nat} {L : List Int} (h : Rd w (.slice (some ⟨g, off, none⟩) n c) L) (hk : k ≤ L.length) (c' : Nat) : Rd w (.slice (some ⟨g, off, none⟩) k c') (L.take k) := by
  obtain ⟨a, c1, e, h⟩ := h
  simp only [Value.slice.injEq] at e
  obtain ⟨e1, _, _⟩ := e
  have hl : (L.take k).length = k := by simp; omega
  refine ⟨_, c', by rw [hl], ?_⟩
  rcases h with h | ⟨g1, o1, e2, h3, h4⟩
  · exact .inl (by rw [h]; simp)
  · rw [← e1] at e2
    obtain ⟨rfl, rfl⟩ : g1 = g ∧ o1 = off := by cases e2; exact ⟨rfl, rfl⟩
    refine .inr ⟨g1, o1, rfl, h3, fun i x hx => h4 i x ?_⟩
    have hi : i < (L.take k).length := (List.getElem?_eq_some_iff.1 hx).1
    rw [List.getElem?_take_of_lt (by omega)] at hx
    exact hx
theorem rd_drop {w : World} {g off n c k : Nat} {L : List Int} (h : Rd w (.slice (some ⟨g, off, none⟩) n c) L) (hn : n = L.length) (hk : k ≤ n) (p : Option Addr) (hp : k < n → p = some ⟨g, off + k, none⟩) (c' : Nat) : Rd w (.slice p (n - k) c') (L.drop k) := by
  obtain ⟨a, c1, e, h⟩ := h
  simp only [Value.slice.injEq] at e
  obtain ⟨e1, _, _⟩ := e
  have hl : (L.drop k).length = n - k := by simp; omega
  refine ⟨p, c', by rw [hl], ?_⟩
  by_cases hkn : k < n
  · rcases h with h | ⟨g1, o1, e2, h3, h4⟩
    · rw [h] at hn; simp at hn; omega
    · rw [← e1] at e2
      obtain ⟨rfl, rfl⟩ : g1 = g ∧ o1 = off := by cases e2; exact ⟨rfl, rfl⟩
      refine .inr ⟨g1, o1 + k, hp hkn, h3, fun i x hx => ?_⟩
      rw [List.getElem?_drop] at hx
      have := h4 (k + i) x hx
      rwa [← Nat.add_assoc] at this
  · exact .inl (List.drop_eq_nil_of_le (by omega))
/-- Behind both appends. -/
theorem without_end {w w1 w2 : World} {L A T : List Int} {lv1 lv2 : Value} {g : Nat} (h1 : Made w lv1 A w1) (hg : w.heap.size ≤ g) (h2 : Apd w1 g lv1 lv2 (A ++ T) w2) (hL : L = A ++ T) : Sorts w.heap.size w2 lv2 L ∧ Below w.heap.size w w2 := by
  have sz := h1.2.size
  rw [hL]
  rcases h2 with ⟨e1, e2, rfl⟩ | ⟨J, h4, h5, _⟩ | ⟨g', J, h4, h5, h6⟩
  · exact ⟨.inl ⟨e1, e2⟩, h1.2⟩
  · exact ⟨.inr ⟨g, J, hg, h4⟩, h1.2.trans (h5.below (by simpa using hg) sz)⟩
  · exact ⟨.inr ⟨g', J, by omega, h4⟩, h1.2.trans (h5.mono sz)⟩
theorem Made.pick {w w1 : World} {lv : Value} {A : List Int} (h : Made w lv A w1) : ∃ g, w.heap.size ≤ g ∧ ((lv = .slice none 0 0 ∧ A = []) ∨ ∃ J, BAt w1 g lv A J) := by
  rcases h.1 with h | ⟨g, J, h1, h2⟩
  · exact ⟨w.heap.size, Nat.le_refl _, .inl h⟩
  · exact ⟨g, h2, .inr ⟨J, h1⟩⟩
set_option maxRecDepth 20000 in
set_option maxHeartbeats 2000000 in
theorem fWithout_no (a : Option Addr) (n c : Nat) (L : List Int) (v : Int) (w : World) (hv : Rd w (.slice a n c) L) (hn : n = L.length) (hl : n < 17592186044416) (hm : v ∉ L) :
    Calls Try.prog 11 #[.slice a n c, .int .i64 v] w fun e w' => e = .returned (.tuple #[.slice a n c, .bool false]) ∧ w = w' := by
  have HV := hid hv
  have HN := hid hn
  have HM := hid hm
  clear hv hn hm
  go_enter Try.func11, Try.ntmps11
  go_wp2_with fail
  go_loopw [6] (fun p wr => ∃ k : Nat, p = .int .i64 (k : Nat) ∧ k ≤ n ∧ wr = w) (fun p _ => n - (intOf p).toNat)
  case atStart => exact ⟨0, rfl, by omega, rfl⟩
  case round =>
    obtain ⟨k, rfl, hk, rfl⟩ := hrel
    by_cases hlt : k < n
    · obtain ⟨x, hx⟩ : ∃ x, L[k]? = some x := ⟨_, List.getElem?_eq_getElem (by have := HN.out; omega)⟩
      obtain ⟨a0, c0, he, hr⟩ := HV.out
      rcases hr with e | ⟨ga, off, e2, hga, hcell⟩
      · rw [e] at hx; simp at hx
      simp only [Value.slice.injEq] at he
      obtain ⟨e1, -, -⟩ := he
      subst e2
      subst e1
      have d0 := hcell k x hx
      have hlt' : (k : Int) < (n : Int) := by omega
      have hxv : (x == v) = false := by
        simp
        intro e
        exact HM.out (e ▸ List.mem_of_getElem? hx)
      clear hx hcell
      go_wp2_with fail
      go_roundw
      case rel => exact ⟨k + 1, by simp, by omega, by trivial⟩
      case measure => simp [intOf]; omega
    · obtain rfl : k = n := by omega
      go_wp2_with fail
      go_ret2
      exact ⟨rfl, rfl⟩
set_option maxRecDepth 20000 in
set_option maxHeartbeats 2000000 in
theorem fWithout_yes (a : Option Addr) (n c : Nat) (L : List Int) (v : Int) (w : World) (hv : Rd w (.slice a n c) L) (hn : n = L.length) (hc : n ≤ c) (hl : n < 17592186044416) (hm : v ∈ L) :
    Calls Try.prog 11 #[.slice a n c, .int .i64 v] w fun e w' => ∃ lv, e = .returned (.tuple #[lv, .bool true]) ∧ Sorts w.heap.size w' lv (L.erase v) ∧ Below w.heap.size w w' := by
  have HV := hid hv
  have HN := hid hn
  have HM := hid hm
  clear hv hn hm
  go_enter Try.func11, Try.ntmps11
  go_wp2_with fail
  go_loopw [6] (fun p wr => ∃ k : Nat, p = .int .i64 (k : Nat) ∧ k ≤ n ∧ Before L v k ∧ wr = w) (fun p _ => n - (intOf p).toNat)
  case atStart => exact ⟨0, rfl, by omega, fun t x ht => absurd ht (Nat.not_lt_zero _), rfl⟩
  case round =>
    obtain ⟨k, rfl, hk, hbf, rfl⟩ := hrel
    have HBF := hid hbf
    clear hbf
    by_cases hlt : k < n
    · obtain ⟨x, hx⟩ : ∃ x, L[k]? = some x := ⟨_, List.getElem?_eq_getElem (by have := HN.out; omega)⟩
      obtain ⟨a0, c0, he, hr⟩ := HV.out
      rcases hr with e | ⟨ga, off, e2, hga, hcell⟩
      · rw [e] at hx; simp at hx
      simp only [Value.slice.injEq] at he
      obtain ⟨e1, -, -⟩ := he
      subst e2
      subst e1
      have d0 := hcell k x hx
      have hlt' : (k : Int) < (n : Int) := by omega
      have HX := hid hx
      clear hx hcell
      by_cases hxv : x = v
      · subst hxv
        have hT1 := rd_take HV.out (show k ≤ L.length by have := HN.out; omega) c
        have HT1 := hid hT1
        clear hT1
        have hkc : (k : Int) ≤ (c : Int) := by omega
        have hwr : IntKind.i64.wrap ((k : Int) + 1) = (k : Int) + 1 := wrap_small _ (by omega) (by omega)
        have hlk : (L.take k).length = k := by have := HN.out; simp; omega
        have HLK := hid hlk
        have hnat : ((k : Int) + 1).toNat = k + 1 := by omega
        have hge : 0 ≤ (k : Int) + 1 := by omega
        have hle : (k : Int) + 1 ≤ (n : Int) := by omega
        clear hlk
        by_cases hck : c = k + 1
        · subst hck
          go_wp2_with (at_builtin; first | (refine wpList_append_b _ rfl _ _ rfl wr.heap.size (.slice none 0 0) [] rfl (.inl ⟨rfl, rfl⟩) (.slice (some ⟨ga, off, none⟩) k (k + 1)) (L.take k) rfl HT1.out (by simp; omega) ?_; intro lv1 w1 h1; rw [List.nil_append] at h1; have HA := hid (made_of_apd h1); obtain ⟨a1, c1, hv1⟩ := h1.shape; rw [HLK.out] at hv1; subst hv1; obtain ⟨gg, hgg, hso⟩ := HA.out.pick; have HSO := hid hso; clear h1 hso) | (refine wpList_append_b _ rfl _ _ rfl gg (.slice a1 k c1) (L.take k) rfl HSO.out (.slice (some ⟨ga, off, none⟩) 0 0) (L.drop (k + 1)) rfl (by have h := rd_drop (k := k + 1) (HV.out.next HA.out.2) HN.out (by omega) (some ⟨ga, off, none⟩) (fun h => absurd h (by omega)) 0; rwa [show n - (k + 1) = 0 by omega] at h) (by have := HN.out; simp; omega) ?_; intro lv2 w2 h2; have HE := hid (without_end HA.out hgg h2 (erase_at HBF.out HX.out)); obtain ⟨a2, c2, hv2⟩ := h2.shape; obtain ⟨M, hM⟩ : ∃ M, M = (L.take k ++ L.drop (k + 1)).length := ⟨_, rfl⟩; rw [← hM] at hv2; subst hv2; clear h2 HSO hM))
          go_ret2
          exact ⟨_, rfl, HE.out⟩
        · have hck' : ¬ k + 1 = c := fun e => hck e.symm
          go_wp2_with (at_builtin; first | (refine wpList_append_b _ rfl _ _ rfl wr.heap.size (.slice none 0 0) [] rfl (.inl ⟨rfl, rfl⟩) (.slice (some ⟨ga, off, none⟩) k c) (L.take k) rfl HT1.out (by simp; omega) ?_; intro lv1 w1 h1; rw [List.nil_append] at h1; have HA := hid (made_of_apd h1); obtain ⟨a1, c1, hv1⟩ := h1.shape; rw [HLK.out] at hv1; subst hv1; obtain ⟨gg, hgg, hso⟩ := HA.out.pick; have HSO := hid hso; clear h1 hso) | (refine wpList_append_b _ rfl _ _ rfl gg (.slice a1 k c1) (L.take k) rfl HSO.out (.slice (some ⟨ga, off + (k + 1), none⟩) (n - (k + 1)) (c - (k + 1))) (L.drop (k + 1)) rfl (rd_drop (HV.out.next HA.out.2) HN.out (by omega) _ (fun _ => rfl) _) (by have := HN.out; simp; omega) ?_; intro lv2 w2 h2; have HE := hid (without_end HA.out hgg h2 (erase_at HBF.out HX.out)); obtain ⟨a2, c2, hv2⟩ := h2.shape; obtain ⟨M, hM⟩ : ∃ M, M = (L.take k ++ L.drop (k + 1)).length := ⟨_, rfl⟩; rw [← hM] at hv2; subst hv2; clear h2 HSO hM))
          go_ret2
          exact ⟨_, rfl, HE.out⟩
      · have hxv' : (x == v) = false := by simpa using hxv
        have HXV := hid hxv
        clear hxv
        go_wp2_with fail
        go_roundw
        case rel => exact ⟨k + 1, by simp, by omega, before_next HBF.out HX.out HXV.out, by trivial⟩
        case measure => simp [intOf]; omega
    · obtain rfl : k = n := by omega
      exact absurd HM.out (before_all (HN.out ▸ HBF.out))
end Go.Proofs.Ytgljcaebgcmahaa
