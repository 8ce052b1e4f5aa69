/- LexBack, plain: a token that is written elsewhere is cut alike. LexBack, plain: all tokens written again, blanks and a remark between them. A text's tokens where the text stands within another, or is cut short, plain. -/
import Derived.Test.YtecdfnpbcabdnaaGreatDoorLxB
section
namespace Go.Proofs.YtecdfnpbcabdnaaGreatDoor
open Go.Lib

/-- A byte inside a rune begins none. -/
theorem dec_inside {s : ByteArray} {i x : Nat} (hv : noSeq (Utf8.decode s i) = false) (h0 : 0 < x) (hx : x < (Utf8.decode s i).2) : noSeq (Utf8.decode s (i + x)) = true := by
  have hb : (s.get! (i + x)).toNat / 64 = 2 := by
    rw [decode_at] at hv hx
    unfold decodeN at hv hx
    revert hv hx
    repeat' split
    all_goals intro hv hx
    all_goals first
      | (exfalso; simp at hx; omega)
      | (simp only [] at hx
         have : x = 1 ∨ x = 2 ∨ x = 3 := by omega
         rcases this with rfl | rfl | rfl <;> omega)
  rw [decode_at]
  unfold decodeN
  rw [if_neg (by omega), if_neg (by omega), if_neg (by omega), if_neg (by omega)]
  rfl
theorem vd_bound {s : ByteArray} {i e : Nat} (hv : Vd s i) (he : Vd s e) (hie : i < e) (hes : e ≤ s.size) : i + (Utf8.decode s i).2 ≤ e := by
  rcases Nat.lt_or_ge e (i + (Utf8.decode s i).2) with h | h
  · exfalso
    have hi : i < s.size := by omega
    have hw := width_in s i hi
    have he2 : e < s.size := by omega
    have := dec_inside (x := e - i) (hv.step hi).1 (by omega) (by omega)
    rw [show i + (e - i) = e by omega, (he.step he2).1] at this
    cases this
  · exact h
theorem ext_get {x y : ByteArray} (h1 : x.size = y.size) (h2 : ∀ k, k < x.size → x.get! k = y.get! k) : x = y := by
  apply ByteArray.ext
  apply Array.ext'
  apply List.ext_getElem?
  intro k
  by_cases hk : k < x.size
  · rw [toL_get x k hk, toL_get y k (by omega), h2 k hk]
  · rw [List.getElem?_eq_none (by rw [← Lib.size_eq]; omega), List.getElem?_eq_none (by rw [← Lib.size_eq]; omega)]
/-- What lies in s from i to e lies in t from j on, and a blank behind it. -/
structure Lain (s : ByteArray) (i e : Nat) (t : ByteArray) (j : Nat) : Prop where
  ie : i ≤ e
  es : e ≤ s.size
  vi : Vd s i
  ve : Vd s e
  byte : ∀ x, i + x < e → t.get! (j + x) = s.get! (i + x)
  blank : t.get! (j + (e - i)) = 32
theorem Lain.jt {s t : ByteArray} {i e j : Nat} (h : Lain s i e t j) : j + (e - i) < t.size := get_in (by rw [h.blank]; decide)
theorem Lain.dec {s t : ByteArray} {i e j : Nat} (h : Lain s i e t j) (hie : i < e) : Utf8.decode t j = Utf8.decode s i ∧ i + (Utf8.decode s i).2 ≤ e := by
  have hb := vd_bound h.vi h.ve hie h.es
  have hes := h.es
  have hj := h.jt
  refine ⟨decode_same (h.vi.step (by omega)).1 (fun x hx => (h.byte x (by omega)).symm) (by omega), hb⟩
theorem Lain.go {s t : ByteArray} {i e j : Nat} (h : Lain s i e t j) (k : Nat) (hk : i ≤ k) (hk2 : k ≤ e) (hv : Vd s k) : Lain s k e t (j + (k - i)) := by
  refine ⟨hk2, h.es, hv, h.ve, fun x hx => ?_, ?_⟩
  · have := h.byte (k - i + x) (by omega)
    rw [show j + (k - i) + x = j + (k - i + x) by omega, this, show i + (k - i + x) = k + x by omega]
  · rw [show j + (k - i) + (e - k) = j + (e - i) by omega]
    exact h.blank
theorem Lain.stop {s t : ByteArray} {i e j : Nat} (h : Lain s i e t j) (he : ¬ i < e) {p : Nat → Bool} (hb : p 32 = false) : rn t p j = j ∧ seg t p j = [] := by
  have hie := h.ie
  have hbl := h.blank
  rw [show j + (e - i) = j by omega] at hbl
  have hj := get_in (s := t) (i := j) (by rw [hbl]; decide)
  have hd := dec_low (s := t) (i := j) (by rw [hbl]; decide)
  have hp : p (Utf8.decode t j).1 = false := by rw [hd, hbl]; exact hb
  exact ⟨rn_no hj hp, seg_no hj hp⟩
theorem Lain.rn {s t : ByteArray} {e : Nat} (p : Nat → Bool) : ∀ i j, Lain s i e t j → Go.Proofs.YtecdfnpbcabdnaaGreatDoor.rn s p i ≤ e → (p 32 = false ∨ Go.Proofs.YtecdfnpbcabdnaaGreatDoor.rn s p i < e) → Go.Proofs.YtecdfnpbcabdnaaGreatDoor.rn t p j = j + (Go.Proofs.YtecdfnpbcabdnaaGreatDoor.rn s p i - i) ∧ (seg t p j).length = (seg s p i).length := by
  refine rn_ind (s := s) (p := p) (fun i hi j h hr hb => ?_) (fun i hi hy ih j h hr hb => ?_) (fun i hi hn j h hr hb => ?_)
  · have h1 := h.ie
    have h2 := h.es
    rw [rn_end hi] at hr hb ⊢
    have hb2 : p 32 = false := by
      rcases hb with hb | hb
      · exact hb
      · omega
    obtain ⟨k1, k2⟩ := h.stop (by omega) hb2
    rw [k1, k2, seg_end hi]
    exact ⟨by omega, rfl⟩
  · have hin := (rn_in s p _ (width_in s i hi)).1
    have hwp := width_pos s i
    have ht := h.jt
    rw [rn_yes hi hy] at hr hb ⊢
    obtain ⟨hd, hw⟩ := h.dec (by omega)
    have hg := h.go (i + (Utf8.decode s i).2) (by omega) hw (h.vi.step hi).2.2
    rw [show i + (Utf8.decode s i).2 - i = (Utf8.decode s i).2 by omega] at hg
    obtain ⟨k1, k2⟩ := ih _ hg hr hb
    have hy2 : p (Utf8.decode t j).1 = true := by rw [hd]; exact hy
    rw [rn_yes (s := t) (by omega) hy2, seg_yes (s := t) (by omega) hy2, seg_yes hi hy, hd, k1, List.length_cons, List.length_cons, k2]
    exact ⟨by omega, rfl⟩
  · have ht := h.jt
    rw [rn_no hi hn] at hr hb ⊢
    by_cases hie : i < e
    · obtain ⟨hd, hw⟩ := h.dec hie
      have hn2 : p (Utf8.decode t j).1 = false := by rw [hd]; exact hn
      rw [rn_no (s := t) (by omega) hn2, seg_no (s := t) (by omega) hn2, seg_no hi hn]
      exact ⟨by omega, rfl⟩
    · have hb2 : p 32 = false := by
        rcases hb with hb | hb
        · exact hb
        · omega
      obtain ⟨k1, k2⟩ := h.stop hie hb2
      rw [k1, k2, seg_no hi hn]
      exact ⟨by omega, rfl⟩
theorem Lain.vd {s t : ByteArray} {e : Nat} : ∀ i j, Lain s i e t j → Vd t (j + (e - i)) → Vd t j := by
  refine rs_ind (s := s) (fun i hi j h hv => ?_) (fun i hi ih j h hv => ?_)
  · have h1 := h.ie
    have h2 := h.es
    rw [show j + (e - i) = j by omega] at hv
    exact hv
  · by_cases hie : i < e
    · obtain ⟨hd, hw⟩ := h.dec hie
      obtain ⟨v1, v2, v3⟩ := h.vi.step hi
      have hj := h.jt
      have hg := h.go (i + (Utf8.decode s i).2) (by omega) hw v3
      rw [show i + (Utf8.decode s i).2 - i = (Utf8.decode s i).2 by omega] at hg
      refine Vd.ofStep (by omega) (by rw [hd]; exact v1) (by rw [hd]; exact v2) ?_
      rw [hd]
      exact ih _ hg (by rw [show j + (Utf8.decode s i).2 + (e - (i + (Utf8.decode s i).2)) = j + (e - i) by omega]; exact hv)
    · have h1 := h.ie
      rw [show j + (e - i) = j by omega] at hv
      exact hv
theorem Lain.cut {s t : ByteArray} {i e j : Nat} (h : Lain s i e t j) (a b : Nat) (ha : i ≤ a) (hab : a ≤ b) (hb : b ≤ e) : t.extract (j + (a - i)) (j + (b - i)) = s.extract a b := by
  have hj := h.jt
  have hes := h.es
  have z1 := size_cut s a b (by omega)
  have z2 := size_cut t (j + (a - i)) (j + (b - i)) (by omega)
  refine ext_get (by omega) (fun k hk => ?_)
  rw [gd_cut t _ _ _ (by omega) (by omega), gd_cut s _ _ _ (by omega) (by omega)]
  have := h.byte (a - i + k) (by omega)
  rw [show j + (a - i) + k = j + (a - i + k) by omega, this, show i + (a - i + k) = a + k by omega]
theorem Lain.numE {s t : ByteArray} {i e j : Nat} (h : Lain s i e t j) (hi : i < s.size) (hn : Go.Proofs.YtecdfnpbcabdnaaGreatDoor.numE s i ≤ e) : Go.Proofs.YtecdfnpbcabdnaaGreatDoor.numE t j = j + (Go.Proofs.YtecdfnpbcabdnaaGreatDoor.numE s i - i) := by
  have c1 := numE_in (s := s) (i := i) (by omega)
  have c0 := cls_in s 2 i (by omega)
  have hr : cls t 2 j = j + (cls s 2 i - i) := (h.rn (fun r => isC (r : Int) 2) i j (show cls s 2 i ≤ e by omega) (.inl (by decide))).1
  have hv := rn_vd (fun r => isC (r : Int) 2) i h.vi
  have hg := h.go (cls s 2 i) c0.1 (by omega) hv
  rw [← hr] at hg
  by_cases hc : cls s 2 i < e
  · have hb : t.get! (cls t 2 j) = s.get! (cls s 2 i) := by
      have := hg.byte 0 (by omega)
      simpa using this
    by_cases h46 : s.get! (cls s 2 i) = 46
    · have hlow : (s.get! (cls s 2 i)).toNat < 128 := by rw [h46]; decide
      have hv1 := vd_low hv (by rw [h46]; decide) hlow
      have hg1 := hg.go (cls s 2 i + 1) (by omega) (by omega) hv1
      rw [show cls s 2 i + 1 - cls s 2 i = 1 by omega] at hg1
      have hlt := get_in (s := s) (i := cls s 2 i) (by rw [h46]; decide)
      have c2 := cls_in s 2 (cls s 2 i + 1) hlt
      have hle : cls s 2 (cls s 2 i + 1) ≤ e := by
        by_cases hq : cls s 2 i + 1 < cls s 2 (cls s 2 i + 1)
        · have : Go.Proofs.YtecdfnpbcabdnaaGreatDoor.numE s i = cls s 2 (cls s 2 i + 1) := if_pos ⟨h46, hq⟩
          omega
        · omega
      have hr2 : cls t 2 (cls t 2 j + 1) = cls t 2 j + 1 + (cls s 2 (cls s 2 i + 1) - (cls s 2 i + 1)) := (hg1.rn (fun r => isC (r : Int) 2) _ _ hle (.inl (by decide))).1
      unfold Go.Proofs.YtecdfnpbcabdnaaGreatDoor.numE
      rw [hb, h46, hr2, hr]
      by_cases hq : cls s 2 i + 1 < cls s 2 (cls s 2 i + 1)
      · rw [if_pos ⟨rfl, by omega⟩, if_pos ⟨rfl, hq⟩]
        omega
      · rw [if_neg (fun hh => hq (by omega)), if_neg (fun hh => hq hh.2)]
    · unfold Go.Proofs.YtecdfnpbcabdnaaGreatDoor.numE
      rw [hb, if_neg (fun hh => h46 hh.1), if_neg (fun hh => h46 hh.1)]
      exact hr
  · have hn2 : Go.Proofs.YtecdfnpbcabdnaaGreatDoor.numE s i = cls s 2 i := by omega
    have hbl := hg.blank
    rw [show cls t 2 j + (e - cls s 2 i) = cls t 2 j by omega] at hbl
    rw [hn2]
    unfold Go.Proofs.YtecdfnpbcabdnaaGreatDoor.numE
    rw [if_neg (fun hh => by rw [hbl] at hh; exact absurd hh.1 (by decide))]
    exact hr
theorem Lain.enc {s t : ByteArray} {i e j : Nat} {tk : Tk} (h : Lain s i e t j) (hi : i < s.size) (k : Int) (nv : List UInt8) (last c : UInt8) (hc : s.get! i = c) (c0 : c ≠ 0) (c1 : c.toNat < 128) (ht : encT k nv last s i = .ok (tk, e)) : encT k nv last t j = .ok (⟨tk.kind, tk.text, tk.n, j⟩, j + (e - i)) := by
  have hv1 := vd_low h.vi (by rw [hc]; exact c0) (by rw [hc]; exact c1)
  have d1 := rn_in s (nin nv) (i + 1) hi
  unfold encT at ht ⊢
  split at ht
  · rename_i h2
    cases ht
    have hg := h.go (i + 1) (by omega) (by omega) hv1
    rw [show i + 1 - i = 1 by omega] at hg
    obtain ⟨k1, k2⟩ := hg.rn (nin nv) _ _ (by omega) (.inr (by omega))
    have hb : t.get! (j + 1 + (Go.Proofs.YtecdfnpbcabdnaaGreatDoor.rn s (nin nv) (i + 1) - (i + 1))) = s.get! (Go.Proofs.YtecdfnpbcabdnaaGreatDoor.rn s (nin nv) (i + 1)) := by
      have := hg.byte (Go.Proofs.YtecdfnpbcabdnaaGreatDoor.rn s (nin nv) (i + 1) - (i + 1)) (by omega)
      rw [this, show i + 1 + (Go.Proofs.YtecdfnpbcabdnaaGreatDoor.rn s (nin nv) (i + 1) - (i + 1)) = Go.Proofs.YtecdfnpbcabdnaaGreatDoor.rn s (nin nv) (i + 1) by omega]
    have hx := hg.cut (i + 1) (Go.Proofs.YtecdfnpbcabdnaaGreatDoor.rn s (nin nv) (i + 1)) (by omega) d1.1 (by omega)
    rw [show j + 1 + (i + 1 - (i + 1)) = j + 1 by omega] at hx
    rw [k1, k2, hb, if_pos h2, hx, show j + 1 + (Go.Proofs.YtecdfnpbcabdnaaGreatDoor.rn s (nin nv) (i + 1) - (i + 1)) + 1 = j + (Go.Proofs.YtecdfnpbcabdnaaGreatDoor.rn s (nin nv) (i + 1) + 1 - i) by omega]
  · cases ht
/-- A token that is written elsewhere is cut alike. -/
theorem Lain.tok {s t : ByteArray} {i e j : Nat} {tk : Tk} (h : Lain s i e t j) (hi : i < s.size) (ht : Go.Proofs.YtecdfnpbcabdnaaGreatDoor.tok s i = .ok (tk, e)) : Go.Proofs.YtecdfnpbcabdnaaGreatDoor.tok t j = .ok (⟨tk.kind, tk.text, tk.n, j⟩, j + (e - i)) := by
  have hp := tok_past hi h.vi ht
  obtain ⟨hd, hw⟩ := h.dec hp.1
  have hj := h.jt
  have hjt : j < t.size := by omega
  have h0 : t.get! j = s.get! i := h.byte 0 (by omega)
  have cn : ∀ c, (cls t c j = j ↔ cls s c i = i) := fun c => by
    rcases cls_step (c := c) hi with ⟨a1, a2⟩ | ⟨a1, a2⟩ <;> rcases cls_step (c := c) hjt with ⟨b1, b2⟩ | ⟨b1, b2⟩ <;> rw [hd, a2] at b2
    · exact ⟨fun _ => a1, fun _ => b1⟩
    · cases b2
    · cases b2
    · exact ⟨fun hh => by omega, fun hh => by omega⟩
  have hself : t.extract j (j + (e - i)) = s.extract i e := by
    have := h.cut i e (by omega) (by omega) (by omega)
    rw [show j + (i - i) = j by omega] at this
    exact this
  unfold Go.Proofs.YtecdfnpbcabdnaaGreatDoor.tok at ht ⊢
  by_cases c1 : cls s 1 i ≠ i
  · rw [if_pos c1] at ht
    rw [if_pos (fun hh => c1 ((cn 1).1 hh))]
    unfold wordT at ht ⊢
    have he : cls s 3 i = e := by
      split at ht
      · cases ht; rfl
      · split at ht
        · cases ht; rfl
        · cases ht
    obtain ⟨k1, k2⟩ := h.rn (fun r => isC (r : Int) 3) i j (Nat.le_of_eq he) (.inl (by decide))
    have k3 : cls t 3 j = j + (e - i) := by rw [← he]; exact k1
    rw [he] at ht
    rw [k3, k2, hself]
    split at ht
    · rename_i r1
      rw [if_pos r1]
      cases ht
      rfl
    · rename_i r1
      rw [if_neg r1]
      split at ht
      · rename_i r2
        rw [if_pos r2]
        cases ht
        rfl
      · cases ht
  · rw [if_neg c1] at ht
    rw [if_neg (fun hh => c1 (fun h2 => hh ((cn 1).2 h2)))]
    by_cases c2 : cls s 2 i ≠ i
    · rw [if_pos c2] at ht
      rw [if_pos (fun hh => c2 ((cn 2).1 hh))]
      have n0 := numE_in (s := s) (i := i) (by omega)
      have n1 := cls_in s 2 i (by omega)
      have n2 := cls_in s 3 (Go.Proofs.YtecdfnpbcabdnaaGreatDoor.numE s i) n0.2
      have n3 := numE_vd h.vi
      have he : cls s 3 (Go.Proofs.YtecdfnpbcabdnaaGreatDoor.numE s i) = e := by
        unfold numT at ht
        split at ht
        · revert ht
          generalize spanN _ = o
          cases o with
          | none => intro ht; cases ht
          | some v => intro ht; cases ht; rfl
        · revert ht
          generalize readN _ = o
          cases o with
          | none => intro ht; cases ht
          | some v => intro ht; cases ht; omega
      have m0 := h.numE hi (by omega)
      have hg := h.go (Go.Proofs.YtecdfnpbcabdnaaGreatDoor.numE s i) (by omega) (by omega) n3
      rw [← m0] at hg
      have m1 : cls t 3 (Go.Proofs.YtecdfnpbcabdnaaGreatDoor.numE t j) = Go.Proofs.YtecdfnpbcabdnaaGreatDoor.numE t j + (cls s 3 (Go.Proofs.YtecdfnpbcabdnaaGreatDoor.numE s i) - Go.Proofs.YtecdfnpbcabdnaaGreatDoor.numE s i) := (hg.rn (fun r => isC (r : Int) 3) _ _ (Nat.le_of_eq he) (.inl (by decide))).1
      rw [he] at m1
      have m2 : cls t 3 (Go.Proofs.YtecdfnpbcabdnaaGreatDoor.numE t j) = j + (e - i) := by omega
      unfold numT at ht ⊢
      rw [m2]
      rw [he] at ht
      by_cases hq : Go.Proofs.YtecdfnpbcabdnaaGreatDoor.numE s i < e
      · rw [if_pos hq] at ht
        rw [if_pos (by omega), hself]
        revert ht
        generalize spanN _ = o
        cases o with
        | none => intro ht; cases ht
        | some v => intro ht; cases ht; simp only [valT, hself]
      · rw [if_neg hq] at ht
        have m3 : Go.Proofs.YtecdfnpbcabdnaaGreatDoor.numE t j = j + (e - i) := by omega
        have m4 : Go.Proofs.YtecdfnpbcabdnaaGreatDoor.numE s i = e := by omega
        rw [if_neg (by omega), m3, hself]
        rw [m4] at ht
        revert ht
        generalize readN _ = o
        cases o with
        | none => intro ht; cases ht
        | some v => intro ht; cases ht; simp only [valT, hself]
    · rw [if_neg c2] at ht
      rw [if_neg (fun hh => c2 (fun h2 => hh ((cn 2).2 h2))), h0]
      by_cases c3 : s.get! i = 34
      · rw [if_pos c3] at ht ⊢
        exact h.enc hi _ _ _ _ c3 (by decide) (by decide) ht
      · rw [if_neg c3] at ht ⊢
        by_cases c4 : s.get! i = 91
        · rw [if_pos c4] at ht ⊢
          exact h.enc hi _ _ _ _ c4 (by decide) (by decide) ht
        · rw [if_neg c4] at ht ⊢
          unfold sigT at ht ⊢
          rw [h0]
          split at ht
          · rename_i h2
            cases ht
            rw [h.byte 1 (by omega), if_pos h2]
            rw [show i + 2 - i = 2 by omega] at hself ⊢
            rw [hself]
          · rename_i h2
            split at ht
            · rename_i h3
              cases ht
              have hbl := h.blank
              rw [show j + (i + 1 - i) = j + 1 by omega] at hbl hself ⊢
              rw [hbl, if_neg (by unfold two; simp), if_pos h3, hself]
            · cases ht
end Go.Proofs.YtecdfnpbcabdnaaGreatDoor
end
section
namespace Go.Proofs.YtecdfnpbcabdnaaGreatDoor
open Go.Lib

/-- A token as it is written. -/
def splt (t : Tk) : ByteArray := if t.kind = 4 then ofL [34] ++ t.text ++ ofL [34] else if t.kind = 8 then ofL [91] ++ t.text ++ ofL [93] else t.text
theorem cut_wrapped (s : ByteArray) (i m : Nat) (a b : UInt8) (h1 : i + 1 ≤ m) (h2 : m + 1 ≤ s.size) (ha : s.get! i = a) (hb : s.get! m = b) : s.extract i (m + 1) = ofL [a] ++ s.extract (i + 1) m ++ ofL [b] := by
  have z1 := size_cut s i (m + 1) h2
  have z2 := size_cut s (i + 1) m (by omega)
  have z3 : (ofL [a] ++ s.extract (i + 1) m).size = 1 + (m - (i + 1)) := by rw [ByteArray.size_append, z2]; rfl
  have z4 : (ofL [a] ++ s.extract (i + 1) m ++ ofL [b]).size = 1 + (m - (i + 1)) + 1 := by rw [ByteArray.size_append, z3]; rfl
  refine ext_get (by omega) (fun k hk => ?_)
  rw [gd_cut s _ _ _ h2 (by omega)]
  by_cases hk1 : k < 1 + (m - (i + 1))
  · rw [gd_left _ _ _ (by omega)]
    by_cases hk0 : k = 0
    · subst hk0
      rw [gd_left _ _ _ (by show 0 < 1; omega), Nat.add_zero, ha]
      rfl
    · have := gd_right (ofL [a]) (s.extract (i + 1) m) (k - 1)
      rw [show (ofL [a]).size + (k - 1) = k by show 1 + (k - 1) = k; omega] at this
      rw [this, gd_cut s _ _ _ (by omega) (by omega), show i + 1 + (k - 1) = i + k by omega]
  · have := gd_right (ofL [a] ++ s.extract (i + 1) m) (ofL [b]) 0
    rw [show (ofL [a] ++ s.extract (i + 1) m).size + 0 = k by omega] at this
    rw [this, show i + k = m by omega, hb]
    rfl
/-- A token is written where it is said to stand. -/
theorem tok_spelt {s : ByteArray} {i e : Nat} {t : Tk} (hi : i < s.size) (hv : Vd s i) (h : tok s i = .ok (t, e)) : t.at_ = i ∧ s.extract i e = splt t := by
  have hp := tok_past hi hv h
  have enc : ∀ (k : Int) (nv : List UInt8) (a b : UInt8), b ≠ 0 → s.get! i = a → (∀ x, splt ⟨k, x, 0, i⟩ = ofL [a] ++ x ++ ofL [b]) → encT k nv b s i = .ok (t, e) → t.at_ = i ∧ s.extract i e = splt t := by
    intro k nv a b b0 ha hsp h
    have c1 := rn_in s (nin nv) (i + 1) hi
    unfold encT at h
    split at h
    · rename_i h2
      cases h
      refine ⟨rfl, ?_⟩
      rw [hsp, cut_wrapped s i _ a b c1.1 (get_in (by rw [h2.1]; exact b0)) ha h2.1]
    · cases h
  unfold tok at h
  split at h
  · unfold wordT at h
    split at h
    · cases h
      exact ⟨rfl, rfl⟩
    · split at h
      · cases h
        exact ⟨rfl, rfl⟩
      · cases h
  · split at h
    · unfold numT at h
      split at h
      · revert h
        generalize spanN _ = o
        cases o with
        | none => intro h; cases h
        | some v => intro h; cases h; exact ⟨rfl, rfl⟩
      · revert h
        generalize readN _ = o
        cases o with
        | none => intro h; cases h
        | some v => intro h; cases h; exact ⟨rfl, rfl⟩
    · split at h
      · rename_i h1
        exact enc 4 _ 34 34 (by decide) h1 (fun x => rfl) h
      · split at h
        · rename_i h1
          exact enc 8 _ 91 93 (by decide) h1 (fun x => rfl) h
        · unfold sigT at h
          split at h
          · cases h
            exact ⟨rfl, rfl⟩
          · split at h
            · cases h
              exact ⟨rfl, rfl⟩
            · cases h
theorem tok_err2 {s : ByteArray} {i : Nat} : ∀ e, tok s i = .error e → e ≠ 0 := by
  intro e h
  have val : ∀ k a c (o : Option Nat), valT k s a c o = .error e → e ≠ 0 := fun k a c o h => by
    cases o with
    | none => cases h; decide
    | some v => cases h
  have enc : ∀ k nv d, encT k nv d s i = .error e → e ≠ 0 := fun k nv d h => by
    unfold encT at h
    split at h
    · cases h
    · cases h; decide
  unfold tok at h
  split at h
  · unfold wordT at h
    split at h
    · cases h
    · split at h
      · cases h
      · cases h; decide
  · split at h
    · unfold numT at h
      split at h
      · exact val _ _ _ _ h
      · exact val _ _ _ _ h
    · split at h
      · exact enc _ _ _ h
      · split at h
        · exact enc _ _ _ h
        · unfold sigT at h
          split at h
          · cases h
          · split at h
            · cases h
            · cases h; decide
/-- The tokens from a place on, up to the end. -/
def Rn (s : ByteArray) : Nat → List Tk → Prop
  | i, [] => i ≤ s.size ∧ ¬ skp s i < s.size
  | i, t :: l => i ≤ s.size ∧ Vd s i ∧ skp s i < s.size ∧ ∃ e, tok s (skp s i) = .ok (t, e) ∧ Rn s e l
theorem lexF_rn (s : ByteArray) : ∀ (f i : Nat) (L : List Tk), i ≤ s.size → Vd s i → s.size < i + f → (lexF s f i L).2.2 = 0 → ∃ l, Rn s i l ∧ (lexF s f i L).1 = L ++ l ++ [⟨7, ofL [], 0, s.size⟩]
  | 0, i, _, hi, _, hf, _ => by omega
  | f + 1, i, L, hi, hv, hf, h => by
    have hk := skp_in i hi
    have hk2 := skp_vd i hi hv
    simp only [lexF] at h ⊢
    by_cases h1 : skp s i < s.size
    · rw [if_pos h1] at h ⊢
      by_cases h2 : L.length = 16384
      · rw [if_pos h2] at h
        cases h
      · rw [if_neg h2] at h ⊢
        cases ht : tok s (skp s i) with
        | error e =>
          rw [ht] at h
          exact absurd h (tok_err2 _ ht)
        | ok te =>
          obtain ⟨t, e⟩ := te
          rw [ht] at h
          have hp := tok_past h1 hk2 ht
          obtain ⟨l, k1, k2⟩ := lexF_rn s f e (L ++ [t]) hp.2.1 hp.2.2 (by omega) h
          exact ⟨t :: l, ⟨hi, hv, h1, e, ht, k1⟩, by simp only [k2]; simp⟩
    · rw [if_neg h1]
      exact ⟨[], ⟨hi, h1⟩, by simp⟩
theorem rn_lexS {s : ByteArray} {i : Nat} {l : List Tk} (h : Rn s i l) : ∀ L, L.length + l.length ≤ 16384 → lexS s i L = (L ++ l ++ [⟨7, ofL [], 0, s.size⟩], 0, 0) := by
  induction l generalizing i with
  | nil =>
    obtain ⟨hi, hk⟩ := h
    intro L _
    rw [lex_end hi hk, List.append_nil]
  | cons t l ih =>
    obtain ⟨hi, hv, hk, e, ht, hr⟩ := h
    intro L hL
    rw [List.length_cons] at hL
    rw [lex_ok hi hv hk (by omega) ht, ih hr _ (by rw [List.length_append]; simp; omega)]
    simp
/-- Each token stands at its place, behind the one before. -/
def Ch (s : ByteArray) : Nat → List Tk → Prop
  | _, [] => True
  | a, t :: l => a ≤ t.at_ ∧ 0 < (splt t).size ∧ t.at_ + (splt t).size ≤ s.size ∧ s.extract t.at_ (t.at_ + (splt t).size) = splt t ∧ Ch s (t.at_ + (splt t).size) l
theorem rn_ch {s : ByteArray} {i : Nat} {l : List Tk} (h : Rn s i l) : Ch s i l := by
  induction l generalizing i with
  | nil => trivial
  | cons t l ih =>
    obtain ⟨hi, hv, hk, e, ht, hr⟩ := h
    have hsk := skp_in i hi
    have hv2 := skp_vd i hi hv
    have hp := tok_past hk hv2 ht
    obtain ⟨k1, k2⟩ := tok_spelt hk hv2 ht
    have hz : (splt t).size = e - skp s i := by rw [← k2, size_cut s _ _ hp.2.1]
    have he : t.at_ + (splt t).size = e := by omega
    refine ⟨by omega, by omega, by omega, ?_, ?_⟩
    · rw [he, k1]
      exact k2
    · rw [he]
      exact ih hr
abbrev sepL : List UInt8 := [32, 35, 32, 120, 32, 34, 32, 91, 10, 9]
/-- Tokens written again. -/
def wrL : List Tk → List UInt8
  | [] => []
  | t :: l => (splt t).data.toList ++ (sepL ++ wrL l)
theorem wr_snoc (t : Tk) : ∀ l, wrL (l ++ [t]) = wrL l ++ ((splt t).data.toList ++ sepL)
  | [] => by simp [wrL]
  | x :: l => by
    rw [List.cons_append]
    simp only [wrL]
    rw [wr_snoc t l]
    simp
theorem wr_app : ∀ a b, wrL (a ++ b) = wrL a ++ wrL b
  | [], b => rfl
  | x :: a, b => by
    rw [List.cons_append]
    simp only [wrL]
    rw [wr_app a b]
    simp
theorem wr_len {s : ByteArray} : ∀ (l : List Tk) (a : Nat), a ≤ s.size → Ch s a l → (wrL l).length + a ≤ s.size + 10 * l.length
  | [], a, ha, _ => by simp [wrL]; omega
  | t :: l, a, ha, h => by
    obtain ⟨h1, h2, h3, h4, h5⟩ := h
    have := wr_len l _ h3 h5
    simp only [wrL, List.length_append, List.length_cons, List.length_nil]
    rw [← Lib.size_eq]
    omega
/-- Bytes behind a place. -/
theorem at_drop {T : ByteArray} {j : Nat} {r : List UInt8} (h : T.data.toList.drop j = r) (x : Nat) : T.get! (j + x) = r[x]?.getD 0 := by
  rw [gd, ← h, List.getElem?_drop]
theorem drop_on {T : ByteArray} {j : Nat} {a r : List UInt8} (h : T.data.toList.drop j = a ++ r) : T.data.toList.drop (j + a.length) = r := by
  rw [← List.drop_drop, h, List.drop_left]
theorem rn_y {T : ByteArray} {p : Nat → Bool} {k : Nat} (b : UInt8) (h : T.get! k = b) (b0 : b ≠ 0) (b1 : b.toNat < 128) (hp : p b.toNat = true) : rn T p k = rn T p (k + 1) := by
  have hd := dec_low (s := T) (i := k) (by rw [h]; exact b1)
  have := rn_yes (s := T) (p := p) (i := k) (get_in (by rw [h]; exact b0)) (by rw [hd, h]; exact hp)
  rw [hd] at this
  exact this
theorem rn_n {T : ByteArray} {p : Nat → Bool} {k : Nat} (b : UInt8) (h : T.get! k = b) (b0 : b ≠ 0) (b1 : b.toNat < 128) (hp : p b.toNat = false) : rn T p k = k := by
  have hd := dec_low (s := T) (i := k) (by rw [h]; exact b1)
  exact rn_no (s := T) (p := p) (i := k) (get_in (by rw [h]; exact b0)) (by rw [hd, h]; exact hp)
theorem dec_ge {s : ByteArray} {i : Nat} (h : 128 ≤ (s.get! i).toNat) : 128 ≤ (Utf8.decode s i).1 := by
  rw [decode_at]
  unfold decodeN
  rw [if_neg (by omega)]
  repeat' split
  all_goals (simp only []; omega)
/-- Nothing, or no blank and no remark. -/
def Fst (r : List UInt8) : Prop := r = [] ∨ ∃ b l, r = b :: l ∧ ¬ BlaP (b.toNat : Int) ∧ b ≠ 35
theorem bla_no {T : ByteArray} {k : Nat} (h : ¬ BlaP ((T.get! k).toNat : Int)) : isC ((Utf8.decode T k).1 : Int) 4 = false := by
  show decide (BlaP _) = false
  rw [decide_eq_false_iff_not]
  by_cases hl : (T.get! k).toNat < 128
  · rw [dec_low hl]
    exact h
  · have := dec_ge (s := T) (i := k) (by omega)
    omega
theorem fst_cls {T : ByteArray} {j : Nat} {r : List UInt8} (h : T.data.toList.drop j = r) (hr : Fst r) (hj : j ≤ T.size) : cls T 4 j = j ∧ T.get! j ≠ 35 := by
  have hb := at_drop h 0
  rw [Nat.add_zero] at hb
  rcases hr with rfl | ⟨b, l, rfl, h1, h2⟩
  · have hz : T.size ≤ j := by
      have := congrArg List.length h
      rw [List.length_drop, ← Lib.size_eq] at this
      simp at this
      omega
    refine ⟨?_, ?_⟩
    · have : cls T 4 j = T.size := rn_end (by omega)
      omega
    · rw [hb]
      decide
  · have hb2 : T.get! j = b := hb
    have hz : j < T.size := by
      have := congrArg List.length h
      rw [List.length_drop, ← Lib.size_eq] at this
      simp at this
      omega
    refine ⟨?_, ?_⟩
    · exact rn_no (p := fun r => isC (r : Int) 4) hz (bla_no (by rw [hb2]; exact h1))
    · rw [hb2]
      exact h2
theorem skp_fst {T : ByteArray} {j : Nat} {r : List UInt8} (h : T.data.toList.drop j = r) (hr : Fst r) (hj : j ≤ T.size) : skp T j = j := by
  obtain ⟨k1, k2⟩ := fst_cls h hr hj
  rw [skp_eq hj, k1, if_neg k2]
theorem sep_in {T : ByteArray} {E : Nat} {r : List UInt8} (h : T.data.toList.drop E = sepL ++ r) : E + 10 ≤ T.size := by
  have := congrArg List.length h
  rw [List.length_drop, ← Lib.size_eq, List.length_append] at this
  simp at this
  omega
theorem skp_sep {T : ByteArray} {E : Nat} {r : List UInt8} (h : T.data.toList.drop E = sepL ++ r) (hr : Fst r) : skp T E = E + 10 := by
  have hz := sep_in h
  have hb := at_drop h
  have h10 : T.data.toList.drop (E + 10) = r := drop_on (a := sepL) h
  obtain ⟨k1, k2⟩ := fst_cls h10 hr hz
  have b0 : T.get! E = 32 := hb 0
  have b1 : T.get! (E + 1) = 35 := hb 1
  have b2 : T.get! (E + 2) = 32 := hb 2
  have b3 : T.get! (E + 3) = 120 := hb 3
  have b4 : T.get! (E + 4) = 32 := hb 4
  have b5 : T.get! (E + 5) = 34 := hb 5
  have b6 : T.get! (E + 6) = 32 := hb 6
  have b7 : T.get! (E + 7) = 91 := hb 7
  have b8 : T.get! (E + 8) = 10 := hb 8
  have b9 : T.get! (E + 9) = 9 := hb 9
  have c1 : cls T 4 E = E + 1 := (rn_y _ b0 (by decide) (by decide) (by decide)).trans (rn_n _ b1 (by decide) (by decide) (by decide))
  have c2 : lineEnd T (E + 1) = E + 8 :=
    (rn_y _ b1 (by decide) (by decide) (by decide)).trans <| (rn_y _ b2 (by decide) (by decide) (by decide)).trans <| (rn_y _ b3 (by decide) (by decide) (by decide)).trans <|
    (rn_y _ b4 (by decide) (by decide) (by decide)).trans <| (rn_y _ b5 (by decide) (by decide) (by decide)).trans <| (rn_y _ b6 (by decide) (by decide) (by decide)).trans <|
    (rn_y _ b7 (by decide) (by decide) (by decide)).trans <| rn_n _ b8 (by decide) (by decide) (by decide)
  have c3 : cls T 4 (E + 8) = E + 10 := (rn_y _ b8 (by decide) (by decide) (by decide)).trans <| (rn_y _ b9 (by decide) (by decide) (by decide)).trans k1
  rw [skp_eq (by omega), c1, if_pos b1, c2, skp_eq (by omega), c3, if_neg k2]
theorem vd_y {T : ByteArray} {k : Nat} (b : UInt8) (h : T.get! k = b) (b0 : b ≠ 0) (b1 : b.toNat < 127) (hl : lets b.toNat = true) (hv : Vd T (k + 1)) : Vd T k := by
  have hd := dec_low (s := T) (i := k) (by rw [h]; omega)
  refine Vd.ofStep (get_in (by rw [h]; exact b0)) (by rw [hd, h]; simp; omega) (by rw [hd, h]; exact hl) ?_
  rw [hd]
  exact hv
theorem vd_sep {T : ByteArray} {E : Nat} {r : List UInt8} (h : T.data.toList.drop E = sepL ++ r) (hv : Vd T (E + 10)) : Vd T E := by
  have hb := at_drop h
  exact vd_y 32 (hb 0) (by decide) (by decide) (by decide) <| vd_y 35 (hb 1) (by decide) (by decide) (by decide) <| vd_y 32 (hb 2) (by decide) (by decide) (by decide) <| vd_y 120 (hb 3) (by decide) (by decide) (by decide) <| vd_y 32 (hb 4) (by decide) (by decide) (by decide) <| vd_y 34 (hb 5) (by decide) (by decide) (by decide) <| vd_y 32 (hb 6) (by decide) (by decide) (by decide) <| vd_y 91 (hb 7) (by decide) (by decide) (by decide) <| vd_y 10 (hb 8) (by decide) (by decide) (by decide) <| vd_y 9 (hb 9) (by decide) (by decide) (by decide) hv
theorem skp_stop {s : ByteArray} : ∀ i, i ≤ s.size → skp s i < s.size → isC ((Utf8.decode s (skp s i)).1 : Int) 4 = false ∧ s.get! (skp s i) ≠ 35 := by
  refine skp_ind (s := s) (fun i hi h ih hk => ?_) (fun i hi h hk => ?_)
  · rw [skp_eq hi, if_pos h] at hk ⊢
    exact ih hk
  · rw [skp_eq hi, if_neg h] at hk ⊢
    exact ⟨rn_stop s (fun r => isC (r : Int) 4) i hk, h⟩
/-- Where a token is written. -/
theorem lain_at {s T : ByteArray} {i e j : Nat} {t : Tk} {r : List UInt8} (hi : i < s.size) (hv : Vd s i) (ht : tok s i = .ok (t, e)) (hd : T.data.toList.drop j = (splt t).data.toList ++ (sepL ++ r)) :
    Lain s i e T j ∧ T.data.toList.drop (j + (e - i)) = sepL ++ r := by
  have hp := tok_past hi hv ht
  obtain ⟨k1, k2⟩ := tok_spelt hi hv ht
  have hz : (splt t).size = e - i := by rw [← k2, size_cut s _ _ hp.2.1]
  have h2 := drop_on hd
  rw [← Lib.size_eq, hz] at h2
  refine ⟨⟨by omega, hp.2.1, hv, hp.2.2, fun x hx => ?_, at_drop h2 0⟩, h2⟩
  rw [at_drop hd x, List.getElem?_append_left (by rw [← Lib.size_eq]; omega), ← gd, ← k2, gd_cut s _ _ _ hp.2.1 (by omega)]
theorem wr_fst {s : ByteArray} {i : Nat} {l : List Tk} (h : Rn s i l) : Fst (wrL l) := by
  cases l with
  | nil => exact .inl rfl
  | cons t l =>
    obtain ⟨hi, hv, hk, e, ht, _⟩ := h
    have hv2 := skp_vd i hi hv
    have hp := tok_past hk hv2 ht
    obtain ⟨k1, k2⟩ := tok_spelt hk hv2 ht
    obtain ⟨s1, s2⟩ := skp_stop i hi hk
    have hz : (splt t).size = e - skp s i := by rw [← k2, size_cut s _ _ hp.2.1]
    have h0 := toL_get (splt t) 0 (by omega)
    rw [← k2, gd_cut s _ _ 0 hp.2.1 (by omega), Nat.add_zero] at h0
    refine .inr ?_
    simp only [wrL]
    rw [← k2]
    match hm : (s.extract (skp s i) e).data.toList, h0 with
    | b :: l', h0 =>
      simp at h0
      refine ⟨b, l' ++ (sepL ++ wrL l), rfl, ?_, ?_⟩
      · intro hb
        rw [h0] at hb
        have hlow : (s.get! (skp s i)).toNat < 128 := by unfold BlaP at hb; omega
        rw [dec_low hlow] at s1
        have : decide (BlaP ((s.get! (skp s i)).toNat : Int)) = false := s1
        rw [decide_eq_false_iff_not] at this
        exact this hb
      · rw [h0]
        exact s2
    | [], h0 => simp at h0
theorem vd_wr {s : ByteArray} {i : Nat} {l : List Tk} (h : Rn s i l) : ∀ (T : ByteArray) (j : Nat), T.data.toList.drop j = wrL l → Vd T j := by
  induction l generalizing i with
  | nil =>
    intro T j hd
    refine Vd.end_ (fun hj => ?_)
    have := congrArg List.length hd
    rw [List.length_drop, ← Lib.size_eq] at this
    simp [wrL] at this
    omega
  | cons t l ih =>
    obtain ⟨hi, hv, hk, e, ht, hr⟩ := h
    intro T j hd
    obtain ⟨k1, k2⟩ := lain_at hk (skp_vd i hi hv) ht hd
    exact Lain.vd _ _ k1 (vd_sep k2 (ih hr T _ (drop_on (a := sepL) k2)))
def key (t : Tk) : Int × ByteArray × Int := (t.kind, t.text, t.n)
theorem again {s : ByteArray} {i : Nat} {l : List Tk} (h : Rn s i l) : ∀ (T : ByteArray) (k : Nat), k ≤ T.size → Vd T k → skp T k ≤ T.size → T.data.toList.drop (skp T k) = wrL l → ∃ l', Rn T k l' ∧ l'.map key = l.map key := by
  induction l generalizing i with
  | nil =>
    intro T k hkT _ hj hd
    refine ⟨[], ⟨hkT, fun hj => ?_⟩, rfl⟩
    have := congrArg List.length hd
    rw [List.length_drop, ← Lib.size_eq] at this
    simp [wrL] at this
    omega
  | cons t l ih =>
    obtain ⟨hi, hv, hk, e, ht, hr⟩ := h
    intro T k hkT hvT hj hd
    obtain ⟨k1, k2⟩ := lain_at hk (skp_vd i hi hv) ht hd
    have hjt := k1.jt
    have htt := k1.tok hk ht
    have hz := sep_in k2
    have h10 : T.data.toList.drop (skp T k + (e - skp s i) + 10) = wrL l := drop_on (a := sepL) k2
    have hsk := skp_sep k2 (wr_fst hr)
    obtain ⟨l', m1, m2⟩ := ih hr T (skp T k + (e - skp s i)) (by omega) (vd_sep k2 (vd_wr hr T _ h10)) (by omega) (by rw [hsk]; exact h10)
    refine ⟨_ :: l', ⟨hkT, hvT, by omega, _, htt, m1⟩, ?_⟩
    rw [List.map_cons, List.map_cons, m2]
    rfl
/-- What LexBack asks of a text that is cut. -/
theorem back {s : ByteArray} (h : (cutS s).2.2 = 0) : ∃ l, (cutS s).1 = l ++ [⟨7, ofL [], 0, s.size⟩] ∧ Ch s 0 l ∧ (l.length ≤ 3000 → s.size ≤ 100000 → ∀ T : ByteArray, T.data.toList = wrL l → ∃ l', cutS T = (l' ++ [⟨7, ofL [], 0, T.size⟩], 0, 0) ∧ l'.map key = l.map key) := by
  have hz : s.size ≤ 1048576 := by
    rcases Nat.lt_or_ge 1048576 s.size with hz | hz
    · exfalso
      unfold cutS at h
      rw [if_pos hz] at h
      cases h
    · exact hz
  have hv : Vd s 0 := by
    by_cases hv : (sd 10 11 s (rs s 0)).2 = 0
    · exact hv
    · exfalso
      unfold cutS at h
      rw [if_neg (by omega), if_neg hv] at h
      exact hv h
  rw [cut_ok hz hv] at h ⊢
  obtain ⟨l, hr, hl⟩ := lexF_rn s (s.size + 1 - 0) 0 [] (by omega) hv (by omega) h
  refine ⟨l, hl, rn_ch hr, fun hl3 hs3 T hT => ?_⟩
  have hwl := wr_len l 0 (by omega) (rn_ch hr)
  have hTz : T.size = (wrL l).length := by rw [Lib.size_eq, hT]
  have hd0 : T.data.toList.drop 0 = wrL l := hT
  have hsk := skp_fst hd0 (wr_fst hr) (by omega)
  have hvT := vd_wr hr T 0 hd0
  obtain ⟨l', m1, m2⟩ := again hr T 0 (by omega) hvT (by omega) (by rw [hsk]; exact hd0)
  have hll : l'.length = l.length := by have := congrArg List.length m2; simpa using this
  refine ⟨l', ?_, m2⟩
  rw [cut_ok (by omega) hvT]
  exact rn_lexS m1 [] (by simp; omega)
theorem lexF_in (s : ByteArray) : ∀ (f i : Nat) (L : List Tk), i ≤ s.size → Vd s i → (lexF s f i L).2.1 ≤ s.size
  | 0, _, _, _, _ => Nat.zero_le _
  | f + 1, i, L, hi, hv => by
    have hk := skp_in i hi
    have hk2 := skp_vd i hi hv
    simp only [lexF]
    split
    · rename_i h1
      split
      · exact hk.2
      · cases ht : tok s (skp s i) with
        | error e => exact hk.2
        | ok te =>
          obtain ⟨t, e⟩ := te
          have hp := tok_past h1 hk2 ht
          exact lexF_in s f e _ hp.2.1 hp.2.2
    · exact Nat.zero_le _
theorem cutS_in (s : ByteArray) : (cutS s).2.1 ≤ s.size := by
  unfold cutS
  split
  · exact Nat.zero_le _
  · split
    · rename_i hv
      exact lexF_in s _ 0 [] (by omega) hv
    · exact sd_in 10 11 s 0 (by omega)
end Go.Proofs.YtecdfnpbcabdnaaGreatDoor
end
section
namespace Go.Proofs.YtecdfnpbcabdnaaGreatDoor
open Go.Lib

/-- The bytes of s up to E lie in t from j on; behind them no token of theirs goes on. -/
structure Emb (s : ByteArray) (E : Nat) (t : ByteArray) (j : Nat) : Prop where
  es : E ≤ s.size
  ve : Vd s E
  jt : j + E ≤ t.size
  byte : ∀ x, x < E → t.get! (j + x) = s.get! x
  stop : ∀ c : Int, (c = 1 ∨ c = 2 ∨ c = 3) → rn t (fun r => isC (r : Int) c) (j + E) = j + E ∧ seg t (fun r => isC (r : Int) c) (j + E) = []
  dot : t.get! (j + E) ≠ 46 ∧ t.get! (j + E) ≠ 61
theorem Emb.dec {s t : ByteArray} {E j i : Nat} (h : Emb s E t j) (hi : i < E) (hv : Vd s i) : Utf8.decode t (j + i) = Utf8.decode s i ∧ i + (Utf8.decode s i).2 ≤ E := by
  have hes := h.es
  have hj := h.jt
  have hb := vd_bound hv h.ve hi hes
  exact ⟨decode_same (hv.step (by omega)).1 (fun x hx => by have := h.byte (i + x) (by omega); rw [← Nat.add_assoc] at this; exact this.symm) (by omega), hb⟩
theorem Emb.rn {s t : ByteArray} {E j : Nat} (h : Emb s E t j) (p : Nat → Bool) : ∀ i, i ≤ E → Vd s i → Go.Proofs.YtecdfnpbcabdnaaGreatDoor.rn s p i ≤ E → (Go.Proofs.YtecdfnpbcabdnaaGreatDoor.rn s p i < E ∨ (Go.Proofs.YtecdfnpbcabdnaaGreatDoor.rn t p (j + E) = j + E ∧ seg t p (j + E) = [])) →
    Go.Proofs.YtecdfnpbcabdnaaGreatDoor.rn t p (j + i) = j + Go.Proofs.YtecdfnpbcabdnaaGreatDoor.rn s p i ∧ (seg t p (j + i)).length = (seg s p i).length := by
  have hes := h.es
  have hjt := h.jt
  refine rn_ind (s := s) (p := p) (fun i hi hE hv hr hb => ?_) (fun i hi hy ih hE hv hr hb => ?_) (fun i hi hn hE hv hr hb => ?_)
  · rw [rn_end hi] at hr hb ⊢
    have he : i = E := by omega
    rcases hb with hb | ⟨k1, k2⟩
    · omega
    · rw [he, k1, k2, seg_end (by omega)]
      exact ⟨by omega, rfl⟩
  · have hin := (rn_in s p _ (width_in s i hi)).1
    have hwp := width_pos s i
    rw [rn_yes hi hy] at hr hb ⊢
    obtain ⟨hd, hw⟩ := h.dec (by omega) hv
    obtain ⟨k1, k2⟩ := ih hw (hv.step hi).2.2 hr hb
    have hy2 : p (Utf8.decode t (j + i)).1 = true := by rw [hd]; exact hy
    rw [rn_yes (s := t) (by omega) hy2, seg_yes (s := t) (by omega) hy2, seg_yes hi hy, hd, Nat.add_assoc, k1, List.length_cons, List.length_cons, k2]
    exact ⟨rfl, rfl⟩
  · rw [rn_no hi hn] at hr hb ⊢
    by_cases hie : i < E
    · obtain ⟨hd, hw⟩ := h.dec hie hv
      have hn2 : p (Utf8.decode t (j + i)).1 = false := by rw [hd]; exact hn
      rw [rn_no (s := t) (by omega) hn2, seg_no (s := t) (by omega) hn2, seg_no hi hn]
      exact ⟨rfl, rfl⟩
    · rcases hb with hb | ⟨k1, k2⟩
      · omega
      · have he : i = E := by omega
        rw [seg_no hi hn, he, k1, k2]
        exact ⟨rfl, rfl⟩
/-- A run that comes to the end goes on there. -/
theorem Emb.rnE {s t : ByteArray} {E j : Nat} (h : Emb s E t j) (p : Nat → Bool) : ∀ i, i ≤ E → Vd s i → Go.Proofs.YtecdfnpbcabdnaaGreatDoor.rn s p i = E → Go.Proofs.YtecdfnpbcabdnaaGreatDoor.rn t p (j + i) = Go.Proofs.YtecdfnpbcabdnaaGreatDoor.rn t p (j + E) := by
  have hes := h.es
  have hjt := h.jt
  refine rn_ind (s := s) (p := p) (fun i hi hE hv hr => ?_) (fun i hi hy ih hE hv hr => ?_) (fun i hi hn hE hv hr => ?_)
  · rw [show i = E by omega]
  · have hin := (rn_in s p _ (width_in s i hi)).1
    have hwp := width_pos s i
    rw [rn_yes hi hy] at hr
    obtain ⟨hd, hw⟩ := h.dec (by omega) hv
    have hy2 : p (Utf8.decode t (j + i)).1 = true := by rw [hd]; exact hy
    rw [rn_yes (s := t) (by omega) hy2, hd, Nat.add_assoc]
    exact ih hw (hv.step hi).2.2 hr
  · rw [rn_no hi hn] at hr
    rw [hr]
theorem Emb.cls {s t : ByteArray} {E j i : Nat} (h : Emb s E t j) (c : Int) (hc : c = 1 ∨ c = 2 ∨ c = 3) (hi : i ≤ E) (hv : Vd s i) (hr : Go.Proofs.YtecdfnpbcabdnaaGreatDoor.cls s c i ≤ E) : Go.Proofs.YtecdfnpbcabdnaaGreatDoor.cls t c (j + i) = j + Go.Proofs.YtecdfnpbcabdnaaGreatDoor.cls s c i ∧ (seg t (fun r => isC (r : Int) c) (j + i)).length = (seg s (fun r => isC (r : Int) c) i).length :=
  h.rn _ i hi hv hr (.inr (h.stop c hc))
theorem Emb.vd {s t : ByteArray} {E j : Nat} (h : Emb s E t j) (ht : Vd t (j + E)) : ∀ i, i ≤ E → Vd s i → Vd t (j + i) := by
  have hes := h.es
  have hjt := h.jt
  refine rs_ind (s := s) (fun i hi hE hv => ?_) (fun i hi ih hE hv => ?_)
  · rw [show i = E by omega]; exact ht
  · by_cases hie : i < E
    · obtain ⟨hd, hw⟩ := h.dec hie hv
      obtain ⟨v1, v2, v3⟩ := hv.step hi
      refine Vd.ofStep (by omega) (by rw [hd]; exact v1) (by rw [hd]; exact v2) ?_
      rw [hd, Nat.add_assoc]
      exact ih hw v3
    · rw [show i = E by omega]; exact ht
theorem Emb.cut {s t : ByteArray} {E j : Nat} (h : Emb s E t j) (a b : Nat) (hab : a ≤ b) (hb : b ≤ E) : t.extract (j + a) (j + b) = s.extract a b := by
  have hj := h.jt
  have hes := h.es
  have z1 := size_cut s a b (by omega)
  have z2 := size_cut t (j + a) (j + b) (by omega)
  refine ext_get (by omega) (fun k hk => ?_)
  rw [gd_cut t _ _ _ (by omega) (by omega), gd_cut s _ _ _ (by omega) (by omega), Nat.add_assoc]
  exact h.byte (a + k) (by omega)
theorem Emb.numE {s t : ByteArray} {E j i : Nat} (h : Emb s E t j) (hi : i < s.size) (hE : i ≤ E) (hvi : Vd s i) (hn : Go.Proofs.YtecdfnpbcabdnaaGreatDoor.numE s i ≤ E) : Go.Proofs.YtecdfnpbcabdnaaGreatDoor.numE t (j + i) = j + Go.Proofs.YtecdfnpbcabdnaaGreatDoor.numE s i := by
  have c1 := numE_in (s := s) (i := i) (by omega)
  have c0 := cls_in s 2 i (by omega)
  have hr := (h.cls 2 (by simp) hE hvi (by omega)).1
  have hv := rn_vd (fun r => isC (r : Int) 2) i hvi
  by_cases hc : Go.Proofs.YtecdfnpbcabdnaaGreatDoor.cls s 2 i < E
  · have hb : t.get! (j + Go.Proofs.YtecdfnpbcabdnaaGreatDoor.cls s 2 i) = s.get! (Go.Proofs.YtecdfnpbcabdnaaGreatDoor.cls s 2 i) := h.byte _ hc
    by_cases h46 : s.get! (Go.Proofs.YtecdfnpbcabdnaaGreatDoor.cls s 2 i) = 46
    · have hlow : (s.get! (Go.Proofs.YtecdfnpbcabdnaaGreatDoor.cls s 2 i)).toNat < 128 := by rw [h46]; decide
      have hv1 := vd_low hv (by show s.get! (Go.Proofs.YtecdfnpbcabdnaaGreatDoor.cls s 2 i) ≠ 0; rw [h46]; decide) hlow
      have hlt := get_in (s := s) (i := Go.Proofs.YtecdfnpbcabdnaaGreatDoor.cls s 2 i) (by rw [h46]; decide)
      have c2 := cls_in s 2 (Go.Proofs.YtecdfnpbcabdnaaGreatDoor.cls s 2 i + 1) hlt
      have hle : Go.Proofs.YtecdfnpbcabdnaaGreatDoor.cls s 2 (Go.Proofs.YtecdfnpbcabdnaaGreatDoor.cls s 2 i + 1) ≤ E := by
        by_cases hq : Go.Proofs.YtecdfnpbcabdnaaGreatDoor.cls s 2 i + 1 < Go.Proofs.YtecdfnpbcabdnaaGreatDoor.cls s 2 (Go.Proofs.YtecdfnpbcabdnaaGreatDoor.cls s 2 i + 1)
        · have : Go.Proofs.YtecdfnpbcabdnaaGreatDoor.numE s i = Go.Proofs.YtecdfnpbcabdnaaGreatDoor.cls s 2 (Go.Proofs.YtecdfnpbcabdnaaGreatDoor.cls s 2 i + 1) := if_pos ⟨h46, hq⟩
          omega
        · omega
      have hr2 := (h.cls 2 (by simp) (i := Go.Proofs.YtecdfnpbcabdnaaGreatDoor.cls s 2 i + 1) (by omega) hv1 hle).1
      rw [← Nat.add_assoc] at hr2
      unfold Go.Proofs.YtecdfnpbcabdnaaGreatDoor.numE
      rw [hr, hb, h46, hr2]
      by_cases hq : Go.Proofs.YtecdfnpbcabdnaaGreatDoor.cls s 2 i + 1 < Go.Proofs.YtecdfnpbcabdnaaGreatDoor.cls s 2 (Go.Proofs.YtecdfnpbcabdnaaGreatDoor.cls s 2 i + 1)
      · rw [if_pos ⟨rfl, by omega⟩, if_pos ⟨rfl, hq⟩]
      · rw [if_neg (fun hh => hq (by omega)), if_neg (fun hh => hq hh.2)]
    · unfold Go.Proofs.YtecdfnpbcabdnaaGreatDoor.numE
      rw [hr, hb, if_neg (fun hh => h46 hh.1), if_neg (fun hh => h46 hh.1)]
  · have hce : Go.Proofs.YtecdfnpbcabdnaaGreatDoor.cls s 2 i = E := by omega
    have hn2 : Go.Proofs.YtecdfnpbcabdnaaGreatDoor.numE s i = Go.Proofs.YtecdfnpbcabdnaaGreatDoor.cls s 2 i := by omega
    rw [hn2]
    unfold Go.Proofs.YtecdfnpbcabdnaaGreatDoor.numE
    rw [hr, hce, if_neg (fun hh => h.dot.1 hh.1)]
theorem Emb.enc {s t : ByteArray} {E j i e : Nat} {tk : Tk} (h : Emb s E t j) (hi : i < E) (hvi : Vd s i) (k : Int) (nv : List UInt8) (last c : UInt8) (hc : s.get! i = c) (c0 : c ≠ 0) (c1 : c.toNat < 128) (ht : encT k nv last s i = .ok (tk, e)) (he : e ≤ E) : encT k nv last t (j + i) = .ok (⟨tk.kind, tk.text, tk.n, j + i⟩, j + e) := by
  have hes := h.es
  have hv1 := vd_low hvi (by rw [hc]; exact c0) (by rw [hc]; exact c1)
  have d1 := rn_in s (nin nv) (i + 1) (by omega)
  unfold encT at ht ⊢
  split at ht
  · rename_i h2
    cases ht
    obtain ⟨k1, k2⟩ := h.rn (nin nv) (i + 1) (by omega) hv1 (by omega) (.inl (by omega))
    have hb : t.get! (j + Go.Proofs.YtecdfnpbcabdnaaGreatDoor.rn s (nin nv) (i + 1)) = s.get! (Go.Proofs.YtecdfnpbcabdnaaGreatDoor.rn s (nin nv) (i + 1)) := h.byte _ (by omega)
    have hx := h.cut (i + 1) (Go.Proofs.YtecdfnpbcabdnaaGreatDoor.rn s (nin nv) (i + 1)) d1.1 (by omega)
    rw [← Nat.add_assoc] at k1 k2 hx
    rw [k1, k2, hb, if_pos h2, hx, ← Nat.add_assoc]
  · cases ht
/-- A token of the text is cut there alike. -/
theorem Emb.tok {s t : ByteArray} {E j i e : Nat} {tk : Tk} (h : Emb s E t j) (hi : i < s.size) (hvi : Vd s i) (ht : Go.Proofs.YtecdfnpbcabdnaaGreatDoor.tok s i = .ok (tk, e)) (hE : e ≤ E) : Go.Proofs.YtecdfnpbcabdnaaGreatDoor.tok t (j + i) = .ok (⟨tk.kind, tk.text, tk.n, j + i⟩, j + e) := by
  have hp := tok_past hi hvi ht
  have hiE : i < E := by omega
  obtain ⟨hd, hw⟩ := h.dec hiE hvi
  have hj := h.jt
  have hjt : j + i < t.size := by omega
  have h0 : t.get! (j + i) = s.get! i := h.byte i hiE
  have cn : ∀ c, (Go.Proofs.YtecdfnpbcabdnaaGreatDoor.cls t c (j + i) = j + i ↔ Go.Proofs.YtecdfnpbcabdnaaGreatDoor.cls s c i = i) := fun c => by
    rcases cls_step (c := c) hi with ⟨a1, a2⟩ | ⟨a1, a2⟩ <;> rcases cls_step (c := c) hjt with ⟨b1, b2⟩ | ⟨b1, b2⟩ <;> rw [hd, a2] at b2
    · exact ⟨fun _ => a1, fun _ => b1⟩
    · cases b2
    · cases b2
    · exact ⟨fun hh => by omega, fun hh => by omega⟩
  have hself : t.extract (j + i) (j + e) = s.extract i e := h.cut i e (by omega) hE
  unfold Go.Proofs.YtecdfnpbcabdnaaGreatDoor.tok at ht ⊢
  by_cases c1 : Go.Proofs.YtecdfnpbcabdnaaGreatDoor.cls s 1 i ≠ i
  · rw [if_pos c1] at ht
    rw [if_pos (fun hh => c1 ((cn 1).1 hh))]
    unfold wordT at ht ⊢
    have he : Go.Proofs.YtecdfnpbcabdnaaGreatDoor.cls s 3 i = e := by
      split at ht
      · cases ht; rfl
      · split at ht
        · cases ht; rfl
        · cases ht
    obtain ⟨k1, k2⟩ := h.cls 3 (by simp) (i := i) (by omega) hvi (by omega)
    rw [he] at ht k1
    rw [k1, k2, hself]
    split at ht
    · rename_i r1
      rw [if_pos r1]
      cases ht
      rfl
    · rename_i r1
      rw [if_neg r1]
      split at ht
      · rename_i r2
        rw [if_pos r2]
        cases ht
        rfl
      · cases ht
  · rw [if_neg c1] at ht
    rw [if_neg (fun hh => c1 (fun h2 => hh ((cn 1).2 h2)))]
    by_cases c2 : Go.Proofs.YtecdfnpbcabdnaaGreatDoor.cls s 2 i ≠ i
    · rw [if_pos c2] at ht
      rw [if_pos (fun hh => c2 ((cn 2).1 hh))]
      have n0 := numE_in (s := s) (i := i) (by omega)
      have n1 := cls_in s 2 i (by omega)
      have n2 := cls_in s 3 (Go.Proofs.YtecdfnpbcabdnaaGreatDoor.numE s i) n0.2
      have n3 := numE_vd hvi
      have he : Go.Proofs.YtecdfnpbcabdnaaGreatDoor.cls s 3 (Go.Proofs.YtecdfnpbcabdnaaGreatDoor.numE s i) = e := by
        unfold numT at ht
        split at ht
        · revert ht
          generalize spanN _ = o
          cases o with
          | none => intro ht; cases ht
          | some v => intro ht; cases ht; rfl
        · revert ht
          generalize readN _ = o
          cases o with
          | none => intro ht; cases ht
          | some v => intro ht; cases ht; omega
      have m0 := h.numE hi (by omega) hvi (by omega)
      have m2 := (h.cls 3 (by simp) (i := Go.Proofs.YtecdfnpbcabdnaaGreatDoor.numE s i) (by omega) n3 (by omega)).1
      rw [he, ← m0] at m2
      unfold numT at ht ⊢
      rw [m2]
      rw [he] at ht
      by_cases hq : Go.Proofs.YtecdfnpbcabdnaaGreatDoor.numE s i < e
      · rw [if_pos hq] at ht
        rw [if_pos (by omega), hself]
        revert ht
        generalize spanN _ = o
        cases o with
        | none => intro ht; cases ht
        | some v => intro ht; cases ht; simp only [valT, hself]
      · rw [if_neg hq] at ht
        have m3 : Go.Proofs.YtecdfnpbcabdnaaGreatDoor.numE t (j + i) = j + e := by omega
        have m4 : Go.Proofs.YtecdfnpbcabdnaaGreatDoor.numE s i = e := by omega
        rw [if_neg (by omega), m3, hself]
        rw [m4] at ht
        revert ht
        generalize readN _ = o
        cases o with
        | none => intro ht; cases ht
        | some v => intro ht; cases ht; simp only [valT, hself]
    · rw [if_neg c2] at ht
      rw [if_neg (fun hh => c2 (fun h2 => hh ((cn 2).2 h2))), h0]
      by_cases c3 : s.get! i = 34
      · rw [if_pos c3] at ht ⊢
        exact h.enc hiE hvi _ _ _ _ c3 (by decide) (by decide) ht hE
      · rw [if_neg c3] at ht ⊢
        by_cases c4 : s.get! i = 91
        · rw [if_pos c4] at ht ⊢
          exact h.enc hiE hvi _ _ _ _ c4 (by decide) (by decide) ht hE
        · rw [if_neg c4] at ht ⊢
          unfold sigT at ht ⊢
          rw [h0]
          split at ht
          · rename_i h2
            cases ht
            have := h.byte (i + 1) (by omega)
            rw [← Nat.add_assoc] at this hself
            rw [this, if_pos h2, hself]
            rfl
          · rename_i h2
            split at ht
            · rename_i h3
              cases ht
              have hne : ¬ two (s.get! i) (t.get! (j + i + 1)) = true := by
                by_cases hx : i + 1 < E
                · have := h.byte (i + 1) hx
                  rw [← Nat.add_assoc] at this
                  rw [this]
                  exact h2
                · have hx2 : i + 1 = E := by omega
                  have hdot := h.dot
                  rw [← hx2, ← Nat.add_assoc] at hdot
                  unfold two
                  simp [hdot.1, hdot.2]
              rw [← Nat.add_assoc] at hself
              rw [if_neg hne, if_pos h3, hself]
              rfl
            · cases ht
theorem Emb.skp {s t : ByteArray} {E j : Nat} (h : Emb s E t j) : ∀ i, i ≤ s.size → i ≤ E → Vd s i → Go.Proofs.YtecdfnpbcabdnaaGreatDoor.skp s i < E → Go.Proofs.YtecdfnpbcabdnaaGreatDoor.skp t (j + i) = j + Go.Proofs.YtecdfnpbcabdnaaGreatDoor.skp s i := by
  have hes := h.es
  have hjt := h.jt
  refine skp_ind (s := s) (fun i hi h35 ih hE hv hlt => ?_) (fun i hi h35 hE hv hlt => ?_)
  · have hl := line_past h35
    have c0 := cls_in s 4 i hi
    rw [skp_eq hi, if_pos h35] at hlt ⊢
    have d0 := skp_in (s := s) (lineEnd s (Go.Proofs.YtecdfnpbcabdnaaGreatDoor.cls s 4 i)) hl.2
    have v1 := rn_vd (fun r => isC (r : Int) 4) i hv
    have k1 := (h.rn (fun r => isC (r : Int) 4) i hE hv (show Go.Proofs.YtecdfnpbcabdnaaGreatDoor.cls s 4 i ≤ E by omega) (.inl (show Go.Proofs.YtecdfnpbcabdnaaGreatDoor.cls s 4 i < E by omega))).1
    have k2 := (h.rn (nin [10]) (Go.Proofs.YtecdfnpbcabdnaaGreatDoor.cls s 4 i) (by omega) v1 (show lineEnd s (Go.Proofs.YtecdfnpbcabdnaaGreatDoor.cls s 4 i) ≤ E by omega) (.inl (show lineEnd s (Go.Proofs.YtecdfnpbcabdnaaGreatDoor.cls s 4 i) < E by omega))).1
    have kb := h.byte (Go.Proofs.YtecdfnpbcabdnaaGreatDoor.cls s 4 i) (by omega)
    rw [skp_eq (s := t) (by omega)]
    rw [show Go.Proofs.YtecdfnpbcabdnaaGreatDoor.cls t 4 (j + i) = j + Go.Proofs.YtecdfnpbcabdnaaGreatDoor.cls s 4 i from k1, kb, if_pos h35, show lineEnd t (j + Go.Proofs.YtecdfnpbcabdnaaGreatDoor.cls s 4 i) = j + lineEnd s (Go.Proofs.YtecdfnpbcabdnaaGreatDoor.cls s 4 i) from k2]
    exact ih (by omega) (rn_vd _ _ v1) hlt
  · have c0 := cls_in s 4 i hi
    rw [skp_eq hi, if_neg h35] at hlt ⊢
    have k1 := (h.rn (fun r => isC (r : Int) 4) i hE hv (show Go.Proofs.YtecdfnpbcabdnaaGreatDoor.cls s 4 i ≤ E by omega) (.inl hlt)).1
    have kb := h.byte (Go.Proofs.YtecdfnpbcabdnaaGreatDoor.cls s 4 i) hlt
    rw [skp_eq (s := t) (by omega)]
    rw [show Go.Proofs.YtecdfnpbcabdnaaGreatDoor.cls t 4 (j + i) = j + Go.Proofs.YtecdfnpbcabdnaaGreatDoor.cls s 4 i from k1, kb, if_neg h35]
/-- Blanks and remarks that come to the end go on there: if a remark does, its line ends there. -/
theorem Emb.skpE {s t : ByteArray} {E j : Nat} (h : Emb s E t j) (hl10 : ∀ c, s.get! c = 35 → Go.Proofs.YtecdfnpbcabdnaaGreatDoor.rn t (nin [10]) (j + E) = j + E) : ∀ i, i ≤ s.size → i ≤ E → Vd s i → Go.Proofs.YtecdfnpbcabdnaaGreatDoor.skp s i = E → Go.Proofs.YtecdfnpbcabdnaaGreatDoor.skp t (j + i) = Go.Proofs.YtecdfnpbcabdnaaGreatDoor.skp t (j + E) := by
  have hes := h.es
  have hjt := h.jt
  refine skp_ind (s := s) (fun i hi h35 ih hE hv heq => ?_) (fun i hi h35 hE hv heq => ?_)
  · have hl := line_past h35
    have c0 := cls_in s 4 i hi
    rw [skp_eq hi, if_pos h35] at heq
    have d0 := skp_in (s := s) (lineEnd s (Go.Proofs.YtecdfnpbcabdnaaGreatDoor.cls s 4 i)) hl.2
    have v1 := rn_vd (fun r => isC (r : Int) 4) i hv
    have k1 := (h.rn (fun r => isC (r : Int) 4) i hE hv (show Go.Proofs.YtecdfnpbcabdnaaGreatDoor.cls s 4 i ≤ E by omega) (.inl (show Go.Proofs.YtecdfnpbcabdnaaGreatDoor.cls s 4 i < E by omega))).1
    have k2 : lineEnd t (j + Go.Proofs.YtecdfnpbcabdnaaGreatDoor.cls s 4 i) = j + lineEnd s (Go.Proofs.YtecdfnpbcabdnaaGreatDoor.cls s 4 i) := by
      by_cases hlt : lineEnd s (Go.Proofs.YtecdfnpbcabdnaaGreatDoor.cls s 4 i) < E
      · exact (h.rn (nin [10]) (Go.Proofs.YtecdfnpbcabdnaaGreatDoor.cls s 4 i) (by omega) v1 (show lineEnd s (Go.Proofs.YtecdfnpbcabdnaaGreatDoor.cls s 4 i) ≤ E by omega) (.inl hlt)).1
      · have he : lineEnd s (Go.Proofs.YtecdfnpbcabdnaaGreatDoor.cls s 4 i) = E := by omega
        rw [he]
        exact (h.rnE (nin [10]) (Go.Proofs.YtecdfnpbcabdnaaGreatDoor.cls s 4 i) (by omega) v1 he).trans (hl10 _ h35)
    have kb := h.byte (Go.Proofs.YtecdfnpbcabdnaaGreatDoor.cls s 4 i) (by omega)
    rw [skp_eq (s := t) (i := j + i) (by omega)]
    rw [show Go.Proofs.YtecdfnpbcabdnaaGreatDoor.cls t 4 (j + i) = j + Go.Proofs.YtecdfnpbcabdnaaGreatDoor.cls s 4 i from k1, kb, if_pos h35, k2]
    exact ih (by omega) (rn_vd _ _ v1) heq
  · have c0 := cls_in s 4 i hi
    rw [skp_eq hi, if_neg h35] at heq
    have k1 : Go.Proofs.YtecdfnpbcabdnaaGreatDoor.cls t 4 (j + i) = Go.Proofs.YtecdfnpbcabdnaaGreatDoor.cls t 4 (j + E) := h.rnE (fun r => isC (r : Int) 4) i hE hv heq
    rw [skp_eq (s := t) (i := j + i) (by omega), skp_eq (s := t) (i := j + E) (by omega), k1]
/-- A token somewhere else. -/
def shT (j : Nat) (t : Tk) : Tk := ⟨t.kind, t.text, t.n, j + t.at_⟩
theorem tok_at {s : ByteArray} {i e : Nat} {t : Tk} (hi : i < s.size) (hv : Vd s i) (h : tok s i = .ok (t, e)) : t.at_ = i := (tok_spelt hi hv h).1
/-- The tokens of a whole text, within another one. -/
theorem Emb.run {s t : ByteArray} {j : Nat} (h : Emb s s.size t j) (hl10 : ∀ c, s.get! c = 35 → Go.Proofs.YtecdfnpbcabdnaaGreatDoor.rn t (nin [10]) (j + s.size) = j + s.size) (ht : Vd t (j + s.size)) {l2 : List Tk} (h2 : Rn t (j + s.size) l2) : ∀ (l : List Tk) (i : Nat), i ≤ s.size → Vd s i → Rn s i l → Rn t (j + i) (l.map (shT j) ++ l2)
  | [], i, hi, hv, hr => by
    have hsk := skp_in i hi
    have he := h.skpE hl10 i hi hi hv (by have := hr.2; omega)
    have hvt := h.vd ht i hi hv
    have hjt := h.jt
    cases l2 with
    | nil => exact ⟨by omega, by rw [he]; exact h2.2⟩
    | cons x l2 =>
      obtain ⟨k1, k2, k3, e, k4, k5⟩ := h2
      exact ⟨by omega, hvt, by rw [he]; exact k3, e, by rw [he]; exact k4, k5⟩
  | x :: l, i, hi, hv, hr => by
    obtain ⟨k1, k2, k3, e, k4, k5⟩ := hr
    have hjt := h.jt
    have hsk := skp_in i hi
    have hvs := skp_vd i hi hv
    have hp := tok_past k3 hvs k4
    have he := h.skp i hi hi hv k3
    have htk := h.tok k3 hvs k4 hp.2.1
    have ha := tok_at k3 hvs k4
    refine ⟨by omega, h.vd ht i hi hv, by rw [he]; omega, j + e, ?_, Emb.run h hl10 ht h2 l e hp.2.1 hp.2.2 k5⟩
    rw [he, htk]
    simp only [shT, ha]
/-- Tokens from a place on, up to one at which no more is asked. -/
def Rf (s : ByteArray) : Nat → List Tk → Nat → Prop
  | i, [], k => k = i ∧ i ≤ s.size ∧ Vd s i
  | i, t :: l, k => i ≤ s.size ∧ Vd s i ∧ skp s i < s.size ∧ ∃ e, tok s (skp s i) = .ok (t, e) ∧ Rf s e l k
theorem rf_in {s : ByteArray} : ∀ (l : List Tk) (i k : Nat), Rf s i l k → i ≤ k ∧ k ≤ s.size ∧ Vd s k
  | [], i, k, h => by obtain ⟨rfl, h2, h3⟩ := h; exact ⟨Nat.le_refl _, h2, h3⟩
  | x :: l, i, k, h => by
    obtain ⟨k1, k2, k3, e, k4, k5⟩ := h
    have hsk := skp_in i k1
    have hp := tok_past k3 (skp_vd i k1 k2) k4
    have := rf_in l e k k5
    exact ⟨by omega, this.2⟩
/-- Where cutting gives up. -/
theorem lexF_rf (s : ByteArray) : ∀ (f i : Nat) (L : List Tk), i ≤ s.size → Vd s i → s.size < i + f → L.length ≤ 16384 → (lexF s f i L).2.2 ≠ 0 →
    ∃ l k, Rf s i l k ∧ (lexF s f i L).2.1 = skp s k ∧ skp s k < s.size ∧ (L ++ l).length ≤ 16384 ∧ (((L ++ l).length = 16384 ∧ (lexF s f i L).2.2 = 14) ∨ ((L ++ l).length ≠ 16384 ∧ tok s (skp s k) = .error (lexF s f i L).2.2))
  | 0, i, _, hi, _, hf, _, _ => by omega
  | f + 1, i, L, hi, hv, hf, hL, h => by
    have hk := skp_in i hi
    have hk2 := skp_vd i hi hv
    simp only [lexF] at h ⊢
    by_cases h1 : skp s i < s.size
    · rw [if_pos h1] at h ⊢
      by_cases h2 : L.length = 16384
      · rw [if_pos h2]
        exact ⟨[], i, ⟨rfl, hi, hv⟩, rfl, h1, by simpa using hL, .inl ⟨by simpa using h2, rfl⟩⟩
      · rw [if_neg h2] at h ⊢
        cases ht : tok s (skp s i) with
        | error e =>
          exact ⟨[], i, ⟨rfl, hi, hv⟩, rfl, h1, by simpa using hL, .inr ⟨by simpa using h2, ht⟩⟩
        | ok te =>
          obtain ⟨t, e⟩ := te
          rw [ht] at h
          have hp := tok_past h1 hk2 ht
          obtain ⟨l, k, k1, k2, k3, k4, k5⟩ := lexF_rf s f e (L ++ [t]) hp.2.1 hp.2.2 (by omega) (by simp; omega) h
          have ea : L ++ [t] ++ l = L ++ (t :: l) := by simp
          rw [ea] at k4 k5
          exact ⟨t :: l, k, ⟨hi, hv, h1, e, ht, k1⟩, k2, k3, k4, k5⟩
    · rw [if_neg h1] at h
      exact absurd rfl h
/-- A text that is cut short where a token begins. -/
theorem emb_front {s : ByteArray} {E : Nat} (hE : E ≤ s.size) (hv : Vd s E) : Emb s E (s.extract 0 E) 0 := by
  have hz := size_cut s 0 E hE
  have hz2 : (s.extract 0 E).size = E := by omega
  refine ⟨hE, hv, by omega, fun x hx => ?_, fun c hc => ?_, ?_⟩
  · rw [gd_cut s 0 E _ hE (by omega)]
    simp
  · refine ⟨?_, seg_end (by omega)⟩
    rw [rn_end (by omega)]
    omega
  · have h0 : (s.extract 0 E).get! (0 + E) = 0 := by
      rw [gd, List.getElem?_eq_none (by rw [← Lib.size_eq]; omega)]
      rfl
    rw [h0]
    decide
theorem rf_front {s : ByteArray} {E k : Nat} (hk : skp s k = E) (hE : E < s.size) : ∀ (l : List Tk) (i : Nat), Rf s i l k → Rn (s.extract 0 E) i l
  | [], i, h => by
    obtain ⟨rfl, h2, h3⟩ := h
    have hv := skp_vd k h2 h3
    have hsk := skp_in k h2
    have hz := size_cut s 0 E (by omega)
    rw [hk] at hv
    have em := emb_front (by omega) hv
    have he := em.skpE (fun c _ => by rw [rn_end (by omega)]; omega) k h2 (by omega) h3 hk
    have hs2 := skp_in (s := s.extract 0 E) E (by omega)
    simp only [Nat.zero_add] at he
    exact ⟨by omega, by rw [he]; omega⟩
  | x :: l, i, h => by
    have hin := rf_in _ _ _ h
    have hin2 := skp_in k hin.2.1
    obtain ⟨k1, k2, k3, e, k4, k5⟩ := h
    have hv := skp_vd k hin.2.1 hin.2.2
    rw [hk] at hv
    have hz := size_cut s 0 E (by omega)
    have em := emb_front (by omega) hv
    have hsk := skp_in i k1
    have hvs := skp_vd i k1 k2
    have hp := tok_past k3 hvs k4
    have hin3 := rf_in _ _ _ k5
    have he := em.skp i k1 (by omega) k2 (by omega)
    have htk := em.tok k3 hvs k4 (by omega)
    have ha := tok_at k3 hvs k4
    have hvi := em.vd (Vd.end_ (by omega)) i (by omega) k2
    simp only [Nat.zero_add] at he htk hvi
    refine ⟨by omega, hvi, by rw [he]; omega, e, ?_, rf_front hk hE l e k5⟩
    rw [he, htk, ← ha]
theorem sd_err {s : ByteArray} : ∀ {l : List (Nat × Nat)}, (sd 10 11 s l).2 ≠ 0 → (sd 10 11 s l).2 = 10 ∨ (sd 10 11 s l).2 = 11
  | [], h => absurd rfl h
  | p :: l, h => by
    simp only [sd] at h ⊢
    split
    · rename_i hf
      rw [if_pos hf] at h
      exact sd_err h
    · rename_i hf
      revert hf
      unfold flt
      split
      · intro _; exact .inl rfl
      · split
        · intro hf; exact absurd rfl hf
        · intro _; exact .inr rfl
theorem cutS_fault {s : ByteArray} (h : (cutS s).2.2 ≠ 0) (h2 : (cutS s).2.2 ≠ 2) (h10 : (cutS s).2.2 ≠ 10) (h11 : (cutS s).2.2 ≠ 11) :
    s.size ≤ 1048576 ∧ Vd s 0 ∧ ∃ l k, Rf s 0 l k ∧ (cutS s).2.1 = skp s k ∧ skp s k < s.size ∧ l.length ≤ 16384 ∧ ((l.length = 16384 ∧ (cutS s).2.2 = 14) ∨ (l.length ≠ 16384 ∧ tok s (skp s k) = .error (cutS s).2.2)) ∧
      cutS (s.extract 0 (cutS s).2.1) = (l ++ [⟨7, ofL [], 0, (cutS s).2.1⟩], 0, 0) := by
  have hz : s.size ≤ 1048576 := by
    rcases Nat.lt_or_ge 1048576 s.size with hh | hh
    · unfold cutS at h2
      rw [if_pos hh] at h2
      exact absurd rfl h2
    · exact hh
  have hv : Vd s 0 := by
    unfold Vd
    by_cases hs : (sd 10 11 s (rs s 0)).2 = 0
    · exact hs
    · exfalso
      unfold cutS at h10 h11
      rw [if_neg (by omega), if_neg hs] at h10 h11
      rcases sd_err (s := s) hs with hh | hh
      · exact h10 hh
      · exact h11 hh
  refine ⟨hz, hv, ?_⟩
  rw [cut_ok hz hv] at h h2 h10 h11 ⊢
  obtain ⟨l, k, k1, k2, k3, k4, k5⟩ := lexF_rf s _ 0 [] (Nat.zero_le _) hv (by omega) (by simp) h
  simp only [List.nil_append] at k4 k5
  refine ⟨l, k, k1, k2, k3, k4, k5, ?_⟩
  have e1 : (lexS s 0 []).2.1 = skp s k := k2
  rw [e1]
  have hr := rf_front rfl k3 l 0 k1
  have hin := rf_in _ _ _ k1
  have hsz := size_cut s 0 (skp s k) (by omega)
  have hv2 := skp_vd k hin.2.1 hin.2.2
  have em := emb_front (by omega) hv2
  have hv3 := em.vd (Vd.end_ (by omega)) 0 (by omega) hv
  rw [cut_ok (by omega) (by simpa using hv3), rn_lexS hr [] (by simpa using k4), List.nil_append]
  congr 4
end Go.Proofs.YtecdfnpbcabdnaaGreatDoor
end
