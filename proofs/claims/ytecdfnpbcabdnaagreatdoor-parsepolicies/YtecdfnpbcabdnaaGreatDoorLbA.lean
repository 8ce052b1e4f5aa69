/- LexBack, plain: a token that is written elsewhere is cut alike. -/
import Derived.Test.YtecdfnpbcabdnaaGreatDoorLxB
namespace Go.Proofs.YtecdfnpbcabdnaaGreatDoor
open Go.Lib

/-- A byte inside a rune begins none. -/
theorem dec_inside {s : ByteArray} {i x : Nat} (hv : noSeq (Utf8.decode s i) = false) (h0 : 0 < x) (hx : x < (Utf8.decode s i).2) : noSeq (Utf8.decode s (i + x)) = true := by
  have hb : (s.get! (i + x)).toNat / 64 = 2 := by
    rw [decode_at] at hv hx
    unfold decodeN at hv hx
    revert hv hx
    repeat' split
    all_goals intro hv hx
    all_goals first
      | (exfalso; simp at hx; omega)
      | (simp only [] at hx
         have : x = 1 ∨ x = 2 ∨ x = 3 := by omega
         rcases this with rfl | rfl | rfl <;> omega)
  rw [decode_at]
  unfold decodeN
  rw [if_neg (by omega), if_neg (by omega), if_neg (by omega), if_neg (by omega)]
  rfl
theorem vd_bound {s : ByteArray} {i e : Nat} (hv : Vd s i) (he : Vd s e) (hie : i < e) (hes : e ≤ s.size) : i + (Utf8.decode s i).2 ≤ e := by
  rcases Nat.lt_or_ge e (i + (Utf8.decode s i).2) with h | h
  · exfalso
    have hi : i < s.size := by omega
    have hw := width_in s i hi
    have he2 : e < s.size := by omega
    have := dec_inside (x := e - i) (hv.step hi).1 (by omega) (by omega)
    rw [show i + (e - i) = e by omega, (he.step he2).1] at this
    cases this
  · exact h
theorem ext_get {x y : ByteArray} (h1 : x.size = y.size) (h2 : ∀ k, k < x.size → x.get! k = y.get! k) : x = y := by
  apply ByteArray.ext
  apply Array.ext'
  apply List.ext_getElem?
  intro k
  by_cases hk : k < x.size
  · rw [toL_get x k hk, toL_get y k (by omega), h2 k hk]
  · rw [List.getElem?_eq_none (by rw [← Lib.size_eq]; omega), List.getElem?_eq_none (by rw [← Lib.size_eq]; omega)]
/-- What lies in s from i to e lies in t from j on, and a blank behind it. -/
structure Lain (s : ByteArray) (i e : Nat) (t : ByteArray) (j : Nat) : Prop where
  ie : i ≤ e
  es : e ≤ s.size
  vi : Vd s i
  ve : Vd s e
  byte : ∀ x, i + x < e → t.get! (j + x) = s.get! (i + x)
  blank : t.get! (j + (e - i)) = 32
theorem Lain.jt {s t : ByteArray} {i e j : Nat} (h : Lain s i e t j) : j + (e - i) < t.size := get_in (by rw [h.blank]; decide)
theorem Lain.dec {s t : ByteArray} {i e j : Nat} (h : Lain s i e t j) (hie : i < e) : Utf8.decode t j = Utf8.decode s i ∧ i + (Utf8.decode s i).2 ≤ e := by
  have hb := vd_bound h.vi h.ve hie h.es
  have hes := h.es
  have hj := h.jt
  refine ⟨decode_same (h.vi.step (by omega)).1 (fun x hx => (h.byte x (by omega)).symm) (by omega), hb⟩
theorem Lain.go {s t : ByteArray} {i e j : Nat} (h : Lain s i e t j) (k : Nat) (hk : i ≤ k) (hk2 : k ≤ e) (hv : Vd s k) : Lain s k e t (j + (k - i)) := by
  refine ⟨hk2, h.es, hv, h.ve, fun x hx => ?_, ?_⟩
  · have := h.byte (k - i + x) (by omega)
    rw [show j + (k - i) + x = j + (k - i + x) by omega, this, show i + (k - i + x) = k + x by omega]
  · rw [show j + (k - i) + (e - k) = j + (e - i) by omega]
    exact h.blank
theorem Lain.stop {s t : ByteArray} {i e j : Nat} (h : Lain s i e t j) (he : ¬ i < e) {p : Nat → Bool} (hb : p 32 = false) : rn t p j = j ∧ seg t p j = [] := by
  have hie := h.ie
  have hbl := h.blank
  rw [show j + (e - i) = j by omega] at hbl
  have hj := get_in (s := t) (i := j) (by rw [hbl]; decide)
  have hd := dec_low (s := t) (i := j) (by rw [hbl]; decide)
  have hp : p (Utf8.decode t j).1 = false := by rw [hd, hbl]; exact hb
  exact ⟨rn_no hj hp, seg_no hj hp⟩
theorem Lain.rn {s t : ByteArray} {e : Nat} (p : Nat → Bool) : ∀ i j, Lain s i e t j → Go.Proofs.YtecdfnpbcabdnaaGreatDoor.rn s p i ≤ e → (p 32 = false ∨ Go.Proofs.YtecdfnpbcabdnaaGreatDoor.rn s p i < e) → Go.Proofs.YtecdfnpbcabdnaaGreatDoor.rn t p j = j + (Go.Proofs.YtecdfnpbcabdnaaGreatDoor.rn s p i - i) ∧ (seg t p j).length = (seg s p i).length := by
  refine rn_ind (s := s) (p := p) (fun i hi j h hr hb => ?_) (fun i hi hy ih j h hr hb => ?_) (fun i hi hn j h hr hb => ?_)
  · have h1 := h.ie
    have h2 := h.es
    rw [rn_end hi] at hr hb ⊢
    have hb2 : p 32 = false := by
      rcases hb with hb | hb
      · exact hb
      · omega
    obtain ⟨k1, k2⟩ := h.stop (by omega) hb2
    rw [k1, k2, seg_end hi]
    exact ⟨by omega, rfl⟩
  · have hin := (rn_in s p _ (width_in s i hi)).1
    have hwp := width_pos s i
    have ht := h.jt
    rw [rn_yes hi hy] at hr hb ⊢
    obtain ⟨hd, hw⟩ := h.dec (by omega)
    have hg := h.go (i + (Utf8.decode s i).2) (by omega) hw (h.vi.step hi).2.2
    rw [show i + (Utf8.decode s i).2 - i = (Utf8.decode s i).2 by omega] at hg
    obtain ⟨k1, k2⟩ := ih _ hg hr hb
    have hy2 : p (Utf8.decode t j).1 = true := by rw [hd]; exact hy
    rw [rn_yes (s := t) (by omega) hy2, seg_yes (s := t) (by omega) hy2, seg_yes hi hy, hd, k1, List.length_cons, List.length_cons, k2]
    exact ⟨by omega, rfl⟩
  · have ht := h.jt
    rw [rn_no hi hn] at hr hb ⊢
    by_cases hie : i < e
    · obtain ⟨hd, hw⟩ := h.dec hie
      have hn2 : p (Utf8.decode t j).1 = false := by rw [hd]; exact hn
      rw [rn_no (s := t) (by omega) hn2, seg_no (s := t) (by omega) hn2, seg_no hi hn]
      exact ⟨by omega, rfl⟩
    · have hb2 : p 32 = false := by
        rcases hb with hb | hb
        · exact hb
        · omega
      obtain ⟨k1, k2⟩ := h.stop hie hb2
      rw [k1, k2, seg_no hi hn]
      exact ⟨by omega, rfl⟩
theorem Lain.vd {s t : ByteArray} {e : Nat} : ∀ i j, Lain s i e t j → Vd t (j + (e - i)) → Vd t j := by
  refine rs_ind (s := s) (fun i hi j h hv => ?_) (fun i hi ih j h hv => ?_)
  · have h1 := h.ie
    have h2 := h.es
    rw [show j + (e - i) = j by omega] at hv
    exact hv
  · by_cases hie : i < e
    · obtain ⟨hd, hw⟩ := h.dec hie
      obtain ⟨v1, v2, v3⟩ := h.vi.step hi
      have hj := h.jt
      have hg := h.go (i + (Utf8.decode s i).2) (by omega) hw v3
      rw [show i + (Utf8.decode s i).2 - i = (Utf8.decode s i).2 by omega] at hg
      refine Vd.ofStep (by omega) (by rw [hd]; exact v1) (by rw [hd]; exact v2) ?_
      rw [hd]
      exact ih _ hg (by rw [show j + (Utf8.decode s i).2 + (e - (i + (Utf8.decode s i).2)) = j + (e - i) by omega]; exact hv)
    · have h1 := h.ie
      rw [show j + (e - i) = j by omega] at hv
      exact hv
theorem Lain.cut {s t : ByteArray} {i e j : Nat} (h : Lain s i e t j) (a b : Nat) (ha : i ≤ a) (hab : a ≤ b) (hb : b ≤ e) : t.extract (j + (a - i)) (j + (b - i)) = s.extract a b := by
  have hj := h.jt
  have hes := h.es
  have z1 := size_cut s a b (by omega)
  have z2 := size_cut t (j + (a - i)) (j + (b - i)) (by omega)
  refine ext_get (by omega) (fun k hk => ?_)
  rw [gd_cut t _ _ _ (by omega) (by omega), gd_cut s _ _ _ (by omega) (by omega)]
  have := h.byte (a - i + k) (by omega)
  rw [show j + (a - i) + k = j + (a - i + k) by omega, this, show i + (a - i + k) = a + k by omega]
theorem Lain.numE {s t : ByteArray} {i e j : Nat} (h : Lain s i e t j) (hi : i < s.size) (hn : Go.Proofs.YtecdfnpbcabdnaaGreatDoor.numE s i ≤ e) : Go.Proofs.YtecdfnpbcabdnaaGreatDoor.numE t j = j + (Go.Proofs.YtecdfnpbcabdnaaGreatDoor.numE s i - i) := by
  have c1 := numE_in (s := s) (i := i) (by omega)
  have c0 := cls_in s 2 i (by omega)
  have hr : cls t 2 j = j + (cls s 2 i - i) := (h.rn (fun r => isC (r : Int) 2) i j (show cls s 2 i ≤ e by omega) (.inl (by decide))).1
  have hv := rn_vd (fun r => isC (r : Int) 2) i h.vi
  have hg := h.go (cls s 2 i) c0.1 (by omega) hv
  rw [← hr] at hg
  by_cases hc : cls s 2 i < e
  · have hb : t.get! (cls t 2 j) = s.get! (cls s 2 i) := by
      have := hg.byte 0 (by omega)
      simpa using this
    by_cases h46 : s.get! (cls s 2 i) = 46
    · have hlow : (s.get! (cls s 2 i)).toNat < 128 := by rw [h46]; decide
      have hv1 := vd_low hv (by rw [h46]; decide) hlow
      have hg1 := hg.go (cls s 2 i + 1) (by omega) (by omega) hv1
      rw [show cls s 2 i + 1 - cls s 2 i = 1 by omega] at hg1
      have hlt := get_in (s := s) (i := cls s 2 i) (by rw [h46]; decide)
      have c2 := cls_in s 2 (cls s 2 i + 1) hlt
      have hle : cls s 2 (cls s 2 i + 1) ≤ e := by
        by_cases hq : cls s 2 i + 1 < cls s 2 (cls s 2 i + 1)
        · have : Go.Proofs.YtecdfnpbcabdnaaGreatDoor.numE s i = cls s 2 (cls s 2 i + 1) := if_pos ⟨h46, hq⟩
          omega
        · omega
      have hr2 : cls t 2 (cls t 2 j + 1) = cls t 2 j + 1 + (cls s 2 (cls s 2 i + 1) - (cls s 2 i + 1)) := (hg1.rn (fun r => isC (r : Int) 2) _ _ hle (.inl (by decide))).1
      unfold Go.Proofs.YtecdfnpbcabdnaaGreatDoor.numE
      rw [hb, h46, hr2, hr]
      by_cases hq : cls s 2 i + 1 < cls s 2 (cls s 2 i + 1)
      · rw [if_pos ⟨rfl, by omega⟩, if_pos ⟨rfl, hq⟩]
        omega
      · rw [if_neg (fun hh => hq (by omega)), if_neg (fun hh => hq hh.2)]
    · unfold Go.Proofs.YtecdfnpbcabdnaaGreatDoor.numE
      rw [hb, if_neg (fun hh => h46 hh.1), if_neg (fun hh => h46 hh.1)]
      exact hr
  · have hn2 : Go.Proofs.YtecdfnpbcabdnaaGreatDoor.numE s i = cls s 2 i := by omega
    have hbl := hg.blank
    rw [show cls t 2 j + (e - cls s 2 i) = cls t 2 j by omega] at hbl
    rw [hn2]
    unfold Go.Proofs.YtecdfnpbcabdnaaGreatDoor.numE
    rw [if_neg (fun hh => by rw [hbl] at hh; exact absurd hh.1 (by decide))]
    exact hr
theorem Lain.enc {s t : ByteArray} {i e j : Nat} {tk : Tk} (h : Lain s i e t j) (hi : i < s.size) (k : Int) (nv : List UInt8) (last c : UInt8) (hc : s.get! i = c) (c0 : c ≠ 0) (c1 : c.toNat < 128) (ht : encT k nv last s i = .ok (tk, e)) : encT k nv last t j = .ok (⟨tk.kind, tk.text, tk.n, j⟩, j + (e - i)) := by
  have hv1 := vd_low h.vi (by rw [hc]; exact c0) (by rw [hc]; exact c1)
  have d1 := rn_in s (nin nv) (i + 1) hi
  unfold encT at ht ⊢
  split at ht
  · rename_i h2
    cases ht
    have hg := h.go (i + 1) (by omega) (by omega) hv1
    rw [show i + 1 - i = 1 by omega] at hg
    obtain ⟨k1, k2⟩ := hg.rn (nin nv) _ _ (by omega) (.inr (by omega))
    have hb : t.get! (j + 1 + (Go.Proofs.YtecdfnpbcabdnaaGreatDoor.rn s (nin nv) (i + 1) - (i + 1))) = s.get! (Go.Proofs.YtecdfnpbcabdnaaGreatDoor.rn s (nin nv) (i + 1)) := by
      have := hg.byte (Go.Proofs.YtecdfnpbcabdnaaGreatDoor.rn s (nin nv) (i + 1) - (i + 1)) (by omega)
      rw [this, show i + 1 + (Go.Proofs.YtecdfnpbcabdnaaGreatDoor.rn s (nin nv) (i + 1) - (i + 1)) = Go.Proofs.YtecdfnpbcabdnaaGreatDoor.rn s (nin nv) (i + 1) by omega]
    have hx := hg.cut (i + 1) (Go.Proofs.YtecdfnpbcabdnaaGreatDoor.rn s (nin nv) (i + 1)) (by omega) d1.1 (by omega)
    rw [show j + 1 + (i + 1 - (i + 1)) = j + 1 by omega] at hx
    rw [k1, k2, hb, if_pos h2, hx, show j + 1 + (Go.Proofs.YtecdfnpbcabdnaaGreatDoor.rn s (nin nv) (i + 1) - (i + 1)) + 1 = j + (Go.Proofs.YtecdfnpbcabdnaaGreatDoor.rn s (nin nv) (i + 1) + 1 - i) by omega]
  · cases ht
/-- A token that is written elsewhere is cut alike. -/
theorem Lain.tok {s t : ByteArray} {i e j : Nat} {tk : Tk} (h : Lain s i e t j) (hi : i < s.size) (ht : Go.Proofs.YtecdfnpbcabdnaaGreatDoor.tok s i = .ok (tk, e)) : Go.Proofs.YtecdfnpbcabdnaaGreatDoor.tok t j = .ok (⟨tk.kind, tk.text, tk.n, j⟩, j + (e - i)) := by
  have hp := tok_past hi h.vi ht
  obtain ⟨hd, hw⟩ := h.dec hp.1
  have hj := h.jt
  have hjt : j < t.size := by omega
  have h0 : t.get! j = s.get! i := h.byte 0 (by omega)
  have cn : ∀ c, (cls t c j = j ↔ cls s c i = i) := fun c => by
    rcases cls_step (c := c) hi with ⟨a1, a2⟩ | ⟨a1, a2⟩ <;> rcases cls_step (c := c) hjt with ⟨b1, b2⟩ | ⟨b1, b2⟩ <;> rw [hd, a2] at b2
    · exact ⟨fun _ => a1, fun _ => b1⟩
    · cases b2
    · cases b2
    · exact ⟨fun hh => by omega, fun hh => by omega⟩
  have hself : t.extract j (j + (e - i)) = s.extract i e := by
    have := h.cut i e (by omega) (by omega) (by omega)
    rw [show j + (i - i) = j by omega] at this
    exact this
  unfold Go.Proofs.YtecdfnpbcabdnaaGreatDoor.tok at ht ⊢
  by_cases c1 : cls s 1 i ≠ i
  · rw [if_pos c1] at ht
    rw [if_pos (fun hh => c1 ((cn 1).1 hh))]
    unfold wordT at ht ⊢
    have he : cls s 3 i = e := by
      split at ht
      · cases ht; rfl
      · split at ht
        · cases ht; rfl
        · cases ht
    obtain ⟨k1, k2⟩ := h.rn (fun r => isC (r : Int) 3) i j (Nat.le_of_eq he) (.inl (by decide))
    have k3 : cls t 3 j = j + (e - i) := by rw [← he]; exact k1
    rw [he] at ht
    rw [k3, k2, hself]
    split at ht
    · rename_i r1
      rw [if_pos r1]
      cases ht
      rfl
    · rename_i r1
      rw [if_neg r1]
      split at ht
      · rename_i r2
        rw [if_pos r2]
        cases ht
        rfl
      · cases ht
  · rw [if_neg c1] at ht
    rw [if_neg (fun hh => c1 (fun h2 => hh ((cn 1).2 h2)))]
    by_cases c2 : cls s 2 i ≠ i
    · rw [if_pos c2] at ht
      rw [if_pos (fun hh => c2 ((cn 2).1 hh))]
      have n0 := numE_in (s := s) (i := i) (by omega)
      have n1 := cls_in s 2 i (by omega)
      have n2 := cls_in s 3 (Go.Proofs.YtecdfnpbcabdnaaGreatDoor.numE s i) n0.2
      have n3 := numE_vd h.vi
      have he : cls s 3 (Go.Proofs.YtecdfnpbcabdnaaGreatDoor.numE s i) = e := by
        unfold numT at ht
        split at ht
        · revert ht
          generalize spanN _ = o
          cases o with
          | none => intro ht; cases ht
          | some v => intro ht; cases ht; rfl
        · revert ht
          generalize readN _ = o
          cases o with
          | none => intro ht; cases ht
          | some v => intro ht; cases ht; omega
      have m0 := h.numE hi (by omega)
      have hg := h.go (Go.Proofs.YtecdfnpbcabdnaaGreatDoor.numE s i) (by omega) (by omega) n3
      rw [← m0] at hg
      have m1 : cls t 3 (Go.Proofs.YtecdfnpbcabdnaaGreatDoor.numE t j) = Go.Proofs.YtecdfnpbcabdnaaGreatDoor.numE t j + (cls s 3 (Go.Proofs.YtecdfnpbcabdnaaGreatDoor.numE s i) - Go.Proofs.YtecdfnpbcabdnaaGreatDoor.numE s i) := (hg.rn (fun r => isC (r : Int) 3) _ _ (Nat.le_of_eq he) (.inl (by decide))).1
      rw [he] at m1
      have m2 : cls t 3 (Go.Proofs.YtecdfnpbcabdnaaGreatDoor.numE t j) = j + (e - i) := by omega
      unfold numT at ht ⊢
      rw [m2]
      rw [he] at ht
      by_cases hq : Go.Proofs.YtecdfnpbcabdnaaGreatDoor.numE s i < e
      · rw [if_pos hq] at ht
        rw [if_pos (by omega), hself]
        revert ht
        generalize spanN _ = o
        cases o with
        | none => intro ht; cases ht
        | some v => intro ht; cases ht; simp only [valT, hself]
      · rw [if_neg hq] at ht
        have m3 : Go.Proofs.YtecdfnpbcabdnaaGreatDoor.numE t j = j + (e - i) := by omega
        have m4 : Go.Proofs.YtecdfnpbcabdnaaGreatDoor.numE s i = e := by omega
        rw [if_neg (by omega), m3, hself]
        rw [m4] at ht
        revert ht
        generalize readN _ = o
        cases o with
        | none => intro ht; cases ht
        | some v => intro ht; cases ht; simp only [valT, hself]
    · rw [if_neg c2] at ht
      rw [if_neg (fun hh => c2 (fun h2 => hh ((cn 2).2 h2))), h0]
      by_cases c3 : s.get! i = 34
      · rw [if_pos c3] at ht ⊢
        exact h.enc hi _ _ _ _ c3 (by decide) (by decide) ht
      · rw [if_neg c3] at ht ⊢
        by_cases c4 : s.get! i = 91
        · rw [if_pos c4] at ht ⊢
          exact h.enc hi _ _ _ _ c4 (by decide) (by decide) ht
        · rw [if_neg c4] at ht ⊢
          unfold sigT at ht ⊢
          rw [h0]
          split at ht
          · rename_i h2
            cases ht
            rw [h.byte 1 (by omega), if_pos h2]
            rw [show i + 2 - i = 2 by omega] at hself ⊢
            rw [hself]
          · rename_i h2
            split at ht
            · rename_i h3
              cases ht
              have hbl := h.blank
              rw [show j + (i + 1 - i) = j + 1 by omega] at hbl hself ⊢
              rw [hbl, if_neg (by unfold two; simp), if_pos h3, hself]
            · cases ht
end Go.Proofs.YtecdfnpbcabdnaaGreatDoor
