/- LexBack, plain: all tokens written again, blanks and a remark between them. -/
import Derived.Test.YtecdfnpbcabdnaaGreatDoorLbA
namespace Go.Proofs.YtecdfnpbcabdnaaGreatDoor
open Go.Lib

/-- A token as it is written. -/
def splt (t : Tk) : ByteArray := if t.kind = 4 then ofL [34] ++ t.text ++ ofL [34] else if t.kind = 8 then ofL [91] ++ t.text ++ ofL [93] else t.text
theorem cut_wrapped (s : ByteArray) (i m : Nat) (a b : UInt8) (h1 : i + 1 ≤ m) (h2 : m + 1 ≤ s.size) (ha : s.get! i = a) (hb : s.get! m = b) : s.extract i (m + 1) = ofL [a] ++ s.extract (i + 1) m ++ ofL [b] := by
  have z1 := size_cut s i (m + 1) h2
  have z2 := size_cut s (i + 1) m (by omega)
  have z3 : (ofL [a] ++ s.extract (i + 1) m).size = 1 + (m - (i + 1)) := by rw [ByteArray.size_append, z2]; rfl
  have z4 : (ofL [a] ++ s.extract (i + 1) m ++ ofL [b]).size = 1 + (m - (i + 1)) + 1 := by rw [ByteArray.size_append, z3]; rfl
  refine ext_get (by omega) (fun k hk => ?_)
  rw [gd_cut s _ _ _ h2 (by omega)]
  by_cases hk1 : k < 1 + (m - (i + 1))
  · rw [gd_left _ _ _ (by omega)]
    by_cases hk0 : k = 0
    · subst hk0
      rw [gd_left _ _ _ (by show 0 < 1; omega), Nat.add_zero, ha]
      rfl
    · have := gd_right (ofL [a]) (s.extract (i + 1) m) (k - 1)
      rw [show (ofL [a]).size + (k - 1) = k by show 1 + (k - 1) = k; omega] at this
      rw [this, gd_cut s _ _ _ (by omega) (by omega), show i + 1 + (k - 1) = i + k by omega]
  · have := gd_right (ofL [a] ++ s.extract (i + 1) m) (ofL [b]) 0
    rw [show (ofL [a] ++ s.extract (i + 1) m).size + 0 = k by omega] at this
    rw [this, show i + k = m by omega, hb]
    rfl
/-- A token is written where it is said to stand. -/
theorem tok_spelt {s : ByteArray} {i e : Nat} {t : Tk} (hi : i < s.size) (hv : Vd s i) (h : tok s i = .ok (t, e)) : t.at_ = i ∧ s.extract i e = splt t := by
  have hp := tok_past hi hv h
  have enc : ∀ (k : Int) (nv : List UInt8) (a b : UInt8), b ≠ 0 → s.get! i = a → (∀ x, splt ⟨k, x, 0, i⟩ = ofL [a] ++ x ++ ofL [b]) → encT k nv b s i = .ok (t, e) → t.at_ = i ∧ s.extract i e = splt t := by
    intro k nv a b b0 ha hsp h
    have c1 := rn_in s (nin nv) (i + 1) hi
    unfold encT at h
    split at h
    · rename_i h2
      cases h
      refine ⟨rfl, ?_⟩
      rw [hsp, cut_wrapped s i _ a b c1.1 (get_in (by rw [h2.1]; exact b0)) ha h2.1]
    · cases h
  unfold tok at h
  split at h
  · unfold wordT at h
    split at h
    · cases h
      exact ⟨rfl, rfl⟩
    · split at h
      · cases h
        exact ⟨rfl, rfl⟩
      · cases h
  · split at h
    · unfold numT at h
      split at h
      · revert h
        generalize spanN _ = o
        cases o with
        | none => intro h; cases h
        | some v => intro h; cases h; exact ⟨rfl, rfl⟩
      · revert h
        generalize readN _ = o
        cases o with
        | none => intro h; cases h
        | some v => intro h; cases h; exact ⟨rfl, rfl⟩
    · split at h
      · rename_i h1
        exact enc 4 _ 34 34 (by decide) h1 (fun x => rfl) h
      · split at h
        · rename_i h1
          exact enc 8 _ 91 93 (by decide) h1 (fun x => rfl) h
        · unfold sigT at h
          split at h
          · cases h
            exact ⟨rfl, rfl⟩
          · split at h
            · cases h
              exact ⟨rfl, rfl⟩
            · cases h
theorem tok_err2 {s : ByteArray} {i : Nat} : ∀ e, tok s i = .error e → e ≠ 0 := by
  intro e h
  have val : ∀ k a c (o : Option Nat), valT k s a c o = .error e → e ≠ 0 := fun k a c o h => by
    cases o with
    | none => cases h; decide
    | some v => cases h
  have enc : ∀ k nv d, encT k nv d s i = .error e → e ≠ 0 := fun k nv d h => by
    unfold encT at h
    split at h
    · cases h
    · cases h; decide
  unfold tok at h
  split at h
  · unfold wordT at h
    split at h
    · cases h
    · split at h
      · cases h
      · cases h; decide
  · split at h
    · unfold numT at h
      split at h
      · exact val _ _ _ _ h
      · exact val _ _ _ _ h
    · split at h
      · exact enc _ _ _ h
      · split at h
        · exact enc _ _ _ h
        · unfold sigT at h
          split at h
          · cases h
          · split at h
            · cases h
            · cases h; decide
/-- The tokens from a place on, up to the end. -/
def Rn (s : ByteArray) : Nat → List Tk → Prop
  | i, [] => i ≤ s.size ∧ ¬ skp s i < s.size
  | i, t :: l => i ≤ s.size ∧ Vd s i ∧ skp s i < s.size ∧ ∃ e, tok s (skp s i) = .ok (t, e) ∧ Rn s e l
theorem lexF_rn (s : ByteArray) : ∀ (f i : Nat) (L : List Tk), i ≤ s.size → Vd s i → s.size < i + f → (lexF s f i L).2.2 = 0 → ∃ l, Rn s i l ∧ (lexF s f i L).1 = L ++ l ++ [⟨7, ofL [], 0, s.size⟩]
  | 0, i, _, hi, _, hf, _ => by omega
  | f + 1, i, L, hi, hv, hf, h => by
    have hk := skp_in i hi
    have hk2 := skp_vd i hi hv
    simp only [lexF] at h ⊢
    by_cases h1 : skp s i < s.size
    · rw [if_pos h1] at h ⊢
      by_cases h2 : L.length = 16384
      · rw [if_pos h2] at h
        cases h
      · rw [if_neg h2] at h ⊢
        cases ht : tok s (skp s i) with
        | error e =>
          rw [ht] at h
          exact absurd h (tok_err2 _ ht)
        | ok te =>
          obtain ⟨t, e⟩ := te
          rw [ht] at h
          have hp := tok_past h1 hk2 ht
          obtain ⟨l, k1, k2⟩ := lexF_rn s f e (L ++ [t]) hp.2.1 hp.2.2 (by omega) h
          exact ⟨t :: l, ⟨hi, hv, h1, e, ht, k1⟩, by simp only [k2]; simp⟩
    · rw [if_neg h1]
      exact ⟨[], ⟨hi, h1⟩, by simp⟩
theorem rn_lexS {s : ByteArray} {i : Nat} {l : List Tk} (h : Rn s i l) : ∀ L, L.length + l.length ≤ 16384 → lexS s i L = (L ++ l ++ [⟨7, ofL [], 0, s.size⟩], 0, 0) := by
  induction l generalizing i with
  | nil =>
    obtain ⟨hi, hk⟩ := h
    intro L _
    rw [lex_end hi hk, List.append_nil]
  | cons t l ih =>
    obtain ⟨hi, hv, hk, e, ht, hr⟩ := h
    intro L hL
    rw [List.length_cons] at hL
    rw [lex_ok hi hv hk (by omega) ht, ih hr _ (by rw [List.length_append]; simp; omega)]
    simp
/-- Each token stands at its place, behind the one before. -/
def Ch (s : ByteArray) : Nat → List Tk → Prop
  | _, [] => True
  | a, t :: l => a ≤ t.at_ ∧ 0 < (splt t).size ∧ t.at_ + (splt t).size ≤ s.size ∧ s.extract t.at_ (t.at_ + (splt t).size) = splt t ∧ Ch s (t.at_ + (splt t).size) l
theorem rn_ch {s : ByteArray} {i : Nat} {l : List Tk} (h : Rn s i l) : Ch s i l := by
  induction l generalizing i with
  | nil => trivial
  | cons t l ih =>
    obtain ⟨hi, hv, hk, e, ht, hr⟩ := h
    have hsk := skp_in i hi
    have hv2 := skp_vd i hi hv
    have hp := tok_past hk hv2 ht
    obtain ⟨k1, k2⟩ := tok_spelt hk hv2 ht
    have hz : (splt t).size = e - skp s i := by rw [← k2, size_cut s _ _ hp.2.1]
    have he : t.at_ + (splt t).size = e := by omega
    refine ⟨by omega, by omega, by omega, ?_, ?_⟩
    · rw [he, k1]
      exact k2
    · rw [he]
      exact ih hr
abbrev sepL : List UInt8 := [32, 35, 32, 120, 32, 34, 32, 91, 10, 9]
/-- Tokens written again. -/
def wrL : List Tk → List UInt8
  | [] => []
  | t :: l => (splt t).data.toList ++ (sepL ++ wrL l)
theorem wr_snoc (t : Tk) : ∀ l, wrL (l ++ [t]) = wrL l ++ ((splt t).data.toList ++ sepL)
  | [] => by simp [wrL]
  | x :: l => by
    rw [List.cons_append]
    simp only [wrL]
    rw [wr_snoc t l]
    simp
theorem wr_app : ∀ a b, wrL (a ++ b) = wrL a ++ wrL b
  | [], b => rfl
  | x :: a, b => by
    rw [List.cons_append]
    simp only [wrL]
    rw [wr_app a b]
    simp
theorem wr_len {s : ByteArray} : ∀ (l : List Tk) (a : Nat), a ≤ s.size → Ch s a l → (wrL l).length + a ≤ s.size + 10 * l.length
  | [], a, ha, _ => by simp [wrL]; omega
  | t :: l, a, ha, h => by
    obtain ⟨h1, h2, h3, h4, h5⟩ := h
    have := wr_len l _ h3 h5
    simp only [wrL, List.length_append, List.length_cons, List.length_nil]
    rw [← Lib.size_eq]
    omega
/-- Bytes behind a place. -/
theorem at_drop {T : ByteArray} {j : Nat} {r : List UInt8} (h : T.data.toList.drop j = r) (x : Nat) : T.get! (j + x) = r[x]?.getD 0 := by
  rw [gd, ← h, List.getElem?_drop]
theorem drop_on {T : ByteArray} {j : Nat} {a r : List UInt8} (h : T.data.toList.drop j = a ++ r) : T.data.toList.drop (j + a.length) = r := by
  rw [← List.drop_drop, h, List.drop_left]
theorem rn_y {T : ByteArray} {p : Nat → Bool} {k : Nat} (b : UInt8) (h : T.get! k = b) (b0 : b ≠ 0) (b1 : b.toNat < 128) (hp : p b.toNat = true) : rn T p k = rn T p (k + 1) := by
  have hd := dec_low (s := T) (i := k) (by rw [h]; exact b1)
  have := rn_yes (s := T) (p := p) (i := k) (get_in (by rw [h]; exact b0)) (by rw [hd, h]; exact hp)
  rw [hd] at this
  exact this
theorem rn_n {T : ByteArray} {p : Nat → Bool} {k : Nat} (b : UInt8) (h : T.get! k = b) (b0 : b ≠ 0) (b1 : b.toNat < 128) (hp : p b.toNat = false) : rn T p k = k := by
  have hd := dec_low (s := T) (i := k) (by rw [h]; exact b1)
  exact rn_no (s := T) (p := p) (i := k) (get_in (by rw [h]; exact b0)) (by rw [hd, h]; exact hp)
theorem dec_ge {s : ByteArray} {i : Nat} (h : 128 ≤ (s.get! i).toNat) : 128 ≤ (Utf8.decode s i).1 := by
  rw [decode_at]
  unfold decodeN
  rw [if_neg (by omega)]
  repeat' split
  all_goals (simp only []; omega)
/-- Nothing, or no blank and no remark. -/
def Fst (r : List UInt8) : Prop := r = [] ∨ ∃ b l, r = b :: l ∧ ¬ BlaP (b.toNat : Int) ∧ b ≠ 35
theorem bla_no {T : ByteArray} {k : Nat} (h : ¬ BlaP ((T.get! k).toNat : Int)) : isC ((Utf8.decode T k).1 : Int) 4 = false := by
  show decide (BlaP _) = false
  rw [decide_eq_false_iff_not]
  by_cases hl : (T.get! k).toNat < 128
  · rw [dec_low hl]
    exact h
  · have := dec_ge (s := T) (i := k) (by omega)
    omega
theorem fst_cls {T : ByteArray} {j : Nat} {r : List UInt8} (h : T.data.toList.drop j = r) (hr : Fst r) (hj : j ≤ T.size) : cls T 4 j = j ∧ T.get! j ≠ 35 := by
  have hb := at_drop h 0
  rw [Nat.add_zero] at hb
  rcases hr with rfl | ⟨b, l, rfl, h1, h2⟩
  · have hz : T.size ≤ j := by
      have := congrArg List.length h
      rw [List.length_drop, ← Lib.size_eq] at this
      simp at this
      omega
    refine ⟨?_, ?_⟩
    · have : cls T 4 j = T.size := rn_end (by omega)
      omega
    · rw [hb]
      decide
  · have hb2 : T.get! j = b := hb
    have hz : j < T.size := by
      have := congrArg List.length h
      rw [List.length_drop, ← Lib.size_eq] at this
      simp at this
      omega
    refine ⟨?_, ?_⟩
    · exact rn_no (p := fun r => isC (r : Int) 4) hz (bla_no (by rw [hb2]; exact h1))
    · rw [hb2]
      exact h2
theorem skp_fst {T : ByteArray} {j : Nat} {r : List UInt8} (h : T.data.toList.drop j = r) (hr : Fst r) (hj : j ≤ T.size) : skp T j = j := by
  obtain ⟨k1, k2⟩ := fst_cls h hr hj
  rw [skp_eq hj, k1, if_neg k2]
theorem sep_in {T : ByteArray} {E : Nat} {r : List UInt8} (h : T.data.toList.drop E = sepL ++ r) : E + 10 ≤ T.size := by
  have := congrArg List.length h
  rw [List.length_drop, ← Lib.size_eq, List.length_append] at this
  simp at this
  omega
theorem skp_sep {T : ByteArray} {E : Nat} {r : List UInt8} (h : T.data.toList.drop E = sepL ++ r) (hr : Fst r) : skp T E = E + 10 := by
  have hz := sep_in h
  have hb := at_drop h
  have h10 : T.data.toList.drop (E + 10) = r := drop_on (a := sepL) h
  obtain ⟨k1, k2⟩ := fst_cls h10 hr hz
  have b0 : T.get! E = 32 := hb 0
  have b1 : T.get! (E + 1) = 35 := hb 1
  have b2 : T.get! (E + 2) = 32 := hb 2
  have b3 : T.get! (E + 3) = 120 := hb 3
  have b4 : T.get! (E + 4) = 32 := hb 4
  have b5 : T.get! (E + 5) = 34 := hb 5
  have b6 : T.get! (E + 6) = 32 := hb 6
  have b7 : T.get! (E + 7) = 91 := hb 7
  have b8 : T.get! (E + 8) = 10 := hb 8
  have b9 : T.get! (E + 9) = 9 := hb 9
  have c1 : cls T 4 E = E + 1 := (rn_y _ b0 (by decide) (by decide) (by decide)).trans (rn_n _ b1 (by decide) (by decide) (by decide))
  have c2 : lineEnd T (E + 1) = E + 8 :=
    (rn_y _ b1 (by decide) (by decide) (by decide)).trans <| (rn_y _ b2 (by decide) (by decide) (by decide)).trans <| (rn_y _ b3 (by decide) (by decide) (by decide)).trans <|
    (rn_y _ b4 (by decide) (by decide) (by decide)).trans <| (rn_y _ b5 (by decide) (by decide) (by decide)).trans <| (rn_y _ b6 (by decide) (by decide) (by decide)).trans <|
    (rn_y _ b7 (by decide) (by decide) (by decide)).trans <| rn_n _ b8 (by decide) (by decide) (by decide)
  have c3 : cls T 4 (E + 8) = E + 10 := (rn_y _ b8 (by decide) (by decide) (by decide)).trans <| (rn_y _ b9 (by decide) (by decide) (by decide)).trans k1
  rw [skp_eq (by omega), c1, if_pos b1, c2, skp_eq (by omega), c3, if_neg k2]
theorem vd_y {T : ByteArray} {k : Nat} (b : UInt8) (h : T.get! k = b) (b0 : b ≠ 0) (b1 : b.toNat < 127) (hl : lets b.toNat = true) (hv : Vd T (k + 1)) : Vd T k := by
  have hd := dec_low (s := T) (i := k) (by rw [h]; omega)
  refine Vd.ofStep (get_in (by rw [h]; exact b0)) (by rw [hd, h]; simp; omega) (by rw [hd, h]; exact hl) ?_
  rw [hd]
  exact hv
theorem vd_sep {T : ByteArray} {E : Nat} {r : List UInt8} (h : T.data.toList.drop E = sepL ++ r) (hv : Vd T (E + 10)) : Vd T E := by
  have hb := at_drop h
  exact vd_y 32 (hb 0) (by decide) (by decide) (by decide) <| vd_y 35 (hb 1) (by decide) (by decide) (by decide) <| vd_y 32 (hb 2) (by decide) (by decide) (by decide) <| vd_y 120 (hb 3) (by decide) (by decide) (by decide) <| vd_y 32 (hb 4) (by decide) (by decide) (by decide) <| vd_y 34 (hb 5) (by decide) (by decide) (by decide) <| vd_y 32 (hb 6) (by decide) (by decide) (by decide) <| vd_y 91 (hb 7) (by decide) (by decide) (by decide) <| vd_y 10 (hb 8) (by decide) (by decide) (by decide) <| vd_y 9 (hb 9) (by decide) (by decide) (by decide) hv
theorem skp_stop {s : ByteArray} : ∀ i, i ≤ s.size → skp s i < s.size → isC ((Utf8.decode s (skp s i)).1 : Int) 4 = false ∧ s.get! (skp s i) ≠ 35 := by
  refine skp_ind (s := s) (fun i hi h ih hk => ?_) (fun i hi h hk => ?_)
  · rw [skp_eq hi, if_pos h] at hk ⊢
    exact ih hk
  · rw [skp_eq hi, if_neg h] at hk ⊢
    exact ⟨rn_stop s (fun r => isC (r : Int) 4) i hk, h⟩
/-- Where a token is written. -/
theorem lain_at {s T : ByteArray} {i e j : Nat} {t : Tk} {r : List UInt8} (hi : i < s.size) (hv : Vd s i) (ht : tok s i = .ok (t, e)) (hd : T.data.toList.drop j = (splt t).data.toList ++ (sepL ++ r)) :
    Lain s i e T j ∧ T.data.toList.drop (j + (e - i)) = sepL ++ r := by
  have hp := tok_past hi hv ht
  obtain ⟨k1, k2⟩ := tok_spelt hi hv ht
  have hz : (splt t).size = e - i := by rw [← k2, size_cut s _ _ hp.2.1]
  have h2 := drop_on hd
  rw [← Lib.size_eq, hz] at h2
  refine ⟨⟨by omega, hp.2.1, hv, hp.2.2, fun x hx => ?_, at_drop h2 0⟩, h2⟩
  rw [at_drop hd x, List.getElem?_append_left (by rw [← Lib.size_eq]; omega), ← gd, ← k2, gd_cut s _ _ _ hp.2.1 (by omega)]
theorem wr_fst {s : ByteArray} {i : Nat} {l : List Tk} (h : Rn s i l) : Fst (wrL l) := by
  cases l with
  | nil => exact .inl rfl
  | cons t l =>
    obtain ⟨hi, hv, hk, e, ht, _⟩ := h
    have hv2 := skp_vd i hi hv
    have hp := tok_past hk hv2 ht
    obtain ⟨k1, k2⟩ := tok_spelt hk hv2 ht
    obtain ⟨s1, s2⟩ := skp_stop i hi hk
    have hz : (splt t).size = e - skp s i := by rw [← k2, size_cut s _ _ hp.2.1]
    have h0 := toL_get (splt t) 0 (by omega)
    rw [← k2, gd_cut s _ _ 0 hp.2.1 (by omega), Nat.add_zero] at h0
    refine .inr ?_
    simp only [wrL]
    rw [← k2]
    match hm : (s.extract (skp s i) e).data.toList, h0 with
    | b :: l', h0 =>
      simp at h0
      refine ⟨b, l' ++ (sepL ++ wrL l), rfl, ?_, ?_⟩
      · intro hb
        rw [h0] at hb
        have hlow : (s.get! (skp s i)).toNat < 128 := by unfold BlaP at hb; omega
        rw [dec_low hlow] at s1
        have : decide (BlaP ((s.get! (skp s i)).toNat : Int)) = false := s1
        rw [decide_eq_false_iff_not] at this
        exact this hb
      · rw [h0]
        exact s2
    | [], h0 => simp at h0
theorem vd_wr {s : ByteArray} {i : Nat} {l : List Tk} (h : Rn s i l) : ∀ (T : ByteArray) (j : Nat), T.data.toList.drop j = wrL l → Vd T j := by
  induction l generalizing i with
  | nil =>
    intro T j hd
    refine Vd.end_ (fun hj => ?_)
    have := congrArg List.length hd
    rw [List.length_drop, ← Lib.size_eq] at this
    simp [wrL] at this
    omega
  | cons t l ih =>
    obtain ⟨hi, hv, hk, e, ht, hr⟩ := h
    intro T j hd
    obtain ⟨k1, k2⟩ := lain_at hk (skp_vd i hi hv) ht hd
    exact Lain.vd _ _ k1 (vd_sep k2 (ih hr T _ (drop_on (a := sepL) k2)))
def key (t : Tk) : Int × ByteArray × Int := (t.kind, t.text, t.n)
theorem again {s : ByteArray} {i : Nat} {l : List Tk} (h : Rn s i l) : ∀ (T : ByteArray) (k : Nat), k ≤ T.size → Vd T k → skp T k ≤ T.size → T.data.toList.drop (skp T k) = wrL l → ∃ l', Rn T k l' ∧ l'.map key = l.map key := by
  induction l generalizing i with
  | nil =>
    intro T k hkT _ hj hd
    refine ⟨[], ⟨hkT, fun hj => ?_⟩, rfl⟩
    have := congrArg List.length hd
    rw [List.length_drop, ← Lib.size_eq] at this
    simp [wrL] at this
    omega
  | cons t l ih =>
    obtain ⟨hi, hv, hk, e, ht, hr⟩ := h
    intro T k hkT hvT hj hd
    obtain ⟨k1, k2⟩ := lain_at hk (skp_vd i hi hv) ht hd
    have hjt := k1.jt
    have htt := k1.tok hk ht
    have hz := sep_in k2
    have h10 : T.data.toList.drop (skp T k + (e - skp s i) + 10) = wrL l := drop_on (a := sepL) k2
    have hsk := skp_sep k2 (wr_fst hr)
    obtain ⟨l', m1, m2⟩ := ih hr T (skp T k + (e - skp s i)) (by omega) (vd_sep k2 (vd_wr hr T _ h10)) (by omega) (by rw [hsk]; exact h10)
    refine ⟨_ :: l', ⟨hkT, hvT, by omega, _, htt, m1⟩, ?_⟩
    rw [List.map_cons, List.map_cons, m2]
    rfl
/-- What LexBack asks of a text that is cut. -/
theorem back {s : ByteArray} (h : (cutS s).2.2 = 0) : ∃ l, (cutS s).1 = l ++ [⟨7, ofL [], 0, s.size⟩] ∧ Ch s 0 l ∧ (l.length ≤ 3000 → s.size ≤ 100000 → ∀ T : ByteArray, T.data.toList = wrL l → ∃ l', cutS T = (l' ++ [⟨7, ofL [], 0, T.size⟩], 0, 0) ∧ l'.map key = l.map key) := by
  have hz : s.size ≤ 1048576 := by
    rcases Nat.lt_or_ge 1048576 s.size with hz | hz
    · exfalso
      unfold cutS at h
      rw [if_pos hz] at h
      cases h
    · exact hz
  have hv : Vd s 0 := by
    by_cases hv : (sd 10 11 s (rs s 0)).2 = 0
    · exact hv
    · exfalso
      unfold cutS at h
      rw [if_neg (by omega), if_neg hv] at h
      exact hv h
  rw [cut_ok hz hv] at h ⊢
  obtain ⟨l, hr, hl⟩ := lexF_rn s (s.size + 1 - 0) 0 [] (by omega) hv (by omega) h
  refine ⟨l, hl, rn_ch hr, fun hl3 hs3 T hT => ?_⟩
  have hwl := wr_len l 0 (by omega) (rn_ch hr)
  have hTz : T.size = (wrL l).length := by rw [Lib.size_eq, hT]
  have hd0 : T.data.toList.drop 0 = wrL l := hT
  have hsk := skp_fst hd0 (wr_fst hr) (by omega)
  have hvT := vd_wr hr T 0 hd0
  obtain ⟨l', m1, m2⟩ := again hr T 0 (by omega) hvT (by omega) (by rw [hsk]; exact hd0)
  have hll : l'.length = l.length := by have := congrArg List.length m2; simpa using this
  refine ⟨l', ?_, m2⟩
  rw [cut_ok (by omega) hvT]
  exact rn_lexS m1 [] (by simp; omega)
theorem lexF_in (s : ByteArray) : ∀ (f i : Nat) (L : List Tk), i ≤ s.size → Vd s i → (lexF s f i L).2.1 ≤ s.size
  | 0, _, _, _, _ => Nat.zero_le _
  | f + 1, i, L, hi, hv => by
    have hk := skp_in i hi
    have hk2 := skp_vd i hi hv
    simp only [lexF]
    split
    · rename_i h1
      split
      · exact hk.2
      · cases ht : tok s (skp s i) with
        | error e => exact hk.2
        | ok te =>
          obtain ⟨t, e⟩ := te
          have hp := tok_past h1 hk2 ht
          exact lexF_in s f e _ hp.2.1 hp.2.2
    · exact Nat.zero_le _
theorem cutS_in (s : ByteArray) : (cutS s).2.1 ≤ s.size := by
  unfold cutS
  split
  · exact Nat.zero_le _
  · split
    · rename_i hv
      exact lexF_in s _ 0 [] (by omega) hv
    · exact sd_in 10 11 s 0 (by omega)
end Go.Proofs.YtecdfnpbcabdnaaGreatDoor
