/- Tokens that a text is cut into: what they may hold; the reader's tokens. -/
import Derived.Test.YtecdfnpbcabdnaaGreatDoorPyB
import Derived.Test.YtecdfnpbcabdnaaGreatDoorPyL
namespace Go.Proofs.YtecdfnpbcabdnaaGreatDoor
open Go.Lib

theorem lim_le {n v : Nat} (h : lim n = some v) : v ≤ 9223372036854775807 := by
  unfold lim at h
  split at h
  · cases h; omega
  · cases h
theorem readN_le {l : List UInt8} {v : Nat} (h : readN l = some v) : v ≤ 9223372036854775807 := by
  unfold readN at h
  split at h
  · exact lim_le h
  · cases h
theorem sp_le2 : ∀ (l : List UInt8) (sum cnt nx v : Nat), sp sum cnt nx l = some v → 1 ≤ v ∧ v ≤ 604800
  | [], sum, cnt, nx, v, h => by
    rw [sp_nil] at h
    split at h
    · cases h; omega
    · cases h
  | b :: r, sum, cnt, nx, v, h => by
    rw [sp] at h
    split at h
    · split at h
      · cases h
      · exact sp_le2 r _ _ _ v h
    · revert h
      cases part b.toNat nx with
      | none => intro h; simp at h
      | some q =>
        intro h
        simp only at h
        split at h
        · cases h
        · exact sp_le2 r _ _ _ v h
theorem spanN_le {l : List UInt8} {v : Nat} (h : spanN l = some v) : 1 ≤ v ∧ v ≤ 604800 := sp_le2 l 0 0 0 v h
theorem cut_le (s : ByteArray) (a e : Nat) : (s.extract a e).size ≤ s.size := by
  rw [ByteArray.size_extract]
  omega
theorem z01 : (0 : Int) ≤ 0 ∧ (0 : Int) ≤ 9223372036854775807 := by decide
theorem eot_ok (z a : Nat) (h : a ≤ z) : TkOk z ⟨7, ofL [], 0, a⟩ := ⟨⟨by show (1 : Int) ≤ 7; decide, by show (7 : Int) ≤ 8; decide⟩, Nat.zero_le _, z01, h⟩
theorem tok_good {s : ByteArray} {i e : Nat} {t : Tk} (hi : i < s.size) (h : tok s i = .ok (t, e)) : TkOk s.size t ∧ t.kind ≠ 7 := by
  have val : ∀ (k : Int) (a b : Nat) (o : Option Nat), 1 ≤ k ∧ k ≤ 8 → k ≠ 7 → a ≤ s.size → (∀ v, o = some v → v ≤ 9223372036854775807) → valT k s a b o = .ok (t, e) → TkOk s.size t ∧ t.kind ≠ 7 := fun k a b o hk h7 ha ho h => by
    cases o with
    | none => cases h
    | some v =>
      cases h
      have := ho v rfl
      exact ⟨⟨hk, cut_le _ _ _, ⟨Int.natCast_nonneg _, by show (v : Int) ≤ _; omega⟩, ha⟩, h7⟩
  have enc : ∀ (k : Int) nv d, 1 ≤ k ∧ k ≤ 8 → k ≠ 7 → encT k nv d s i = .ok (t, e) → TkOk s.size t ∧ t.kind ≠ 7 := fun k nv d hk h7 h => by
    unfold encT at h
    split at h
    · cases h
      exact ⟨⟨hk, cut_le _ _ _, z01, Nat.le_of_lt hi⟩, h7⟩
    · cases h
  have pl : ∀ (k : Int) (b : Nat), 1 ≤ k ∧ k ≤ 8 → k ≠ 7 → (Except.ok (⟨k, s.extract i b, 0, i⟩, b) : TR) = .ok (t, e) → TkOk s.size t ∧ t.kind ≠ 7 := fun k b hk h7 h => by
    cases h
    exact ⟨⟨hk, cut_le _ _ _, z01, Nat.le_of_lt hi⟩, h7⟩
  unfold tok at h
  split at h
  · unfold wordT at h
    split at h
    · exact pl _ _ (by decide) (by decide) h
    · split at h
      · exact pl _ _ (by decide) (by decide) h
      · cases h
  · split at h
    · unfold numT at h
      split at h
      · exact val _ _ _ _ (by decide) (by decide) (Nat.le_of_lt hi) (fun v hv => by have := spanN_le hv; omega) h
      · exact val _ _ _ _ (by decide) (by decide) (Nat.le_of_lt hi) (fun v hv => readN_le hv) h
    · split at h
      · exact enc _ _ _ (by decide) (by decide) h
      · split at h
        · exact enc _ _ _ (by decide) (by decide) h
        · unfold sigT at h
          split at h
          · exact pl _ _ (by decide) (by decide) h
          · split at h
            · exact pl _ _ (by decide) (by decide) h
            · cases h
theorem tl_snoc {z : Nat} {e : Tk} (he : TkOk z e) (h7 : e.kind = 7) : ∀ (l : List Tk), (∀ t, t ∈ l → TkOk z t ∧ t.kind ≠ 7) → TL z (l ++ [e])
  | [], _ => ⟨he, .inl ⟨rfl, h7⟩⟩
  | t :: l, h => ⟨(h t (by simp)).1, .inr ⟨(h t (by simp)).2, tl_snoc he h7 l (fun x hx => h x (by simp [hx]))⟩⟩
theorem rn_good {s : ByteArray} : ∀ (l : List Tk) (i : Nat), Rn s i l → ∀ t, t ∈ l → TkOk s.size t ∧ t.kind ≠ 7
  | [], _, _, _, h => by cases h
  | x :: l, i, h, t, ht => by
    obtain ⟨k1, k2, k3, e, k4, k5⟩ := h
    rcases List.mem_cons.1 ht with rfl | ht
    · exact tok_good k3 k4
    · exact rn_good l e k5 t ht
theorem rf_good {s : ByteArray} : ∀ (l : List Tk) (i k : Nat), Rf s i l k → ∀ t, t ∈ l → TkOk s.size t ∧ t.kind ≠ 7
  | [], _, _, _, _, h => by cases h
  | x :: l, i, k, h, t, ht => by
    obtain ⟨k1, k2, k3, e, k4, k5⟩ := h
    rcases List.mem_cons.1 ht with rfl | ht
    · exact tok_good k3 k4
    · exact rf_good l e k k5 t ht
/-- The reader's tokens, and what is wrong with the one in whose place the end stands; none: the text is none. -/
def rdS (s : ByteArray) : Option (List Tk × Int) :=
  if (cutS s).2.2 = 2 ∨ (cutS s).2.2 = 10 ∨ (cutS s).2.2 = 11 then none
  else if (cutS s).2.2 = 0 then some ((cutS s).1, 0)
  else some ((cutS (s.extract 0 (cutS s).2.1)).1, (cutS s).2.2)
theorem cutS_good {s : ByteArray} (h : (cutS s).2.2 = 0) : s.size ≤ 1048576 ∧ Vd s 0 ∧ ∃ l, Rn s 0 l ∧ (cutS s).1 = l ++ [⟨7, ofL [], 0, s.size⟩] := by
  have hz : s.size ≤ 1048576 := by
    rcases Nat.lt_or_ge 1048576 s.size with hh | hh
    · unfold cutS at h
      rw [if_pos hh] at h
      cases h
    · exact hh
  have hv : Vd s 0 := by
    unfold Vd
    by_cases hs : (sd 10 11 s (rs s 0)).2 = 0
    · exact hs
    · exfalso
      unfold cutS at h
      rw [if_neg (by omega), if_neg hs] at h
      exact hs h
  refine ⟨hz, hv, ?_⟩
  rw [cut_ok hz hv] at h ⊢
  obtain ⟨l, k1, k2⟩ := lexF_rn s _ 0 [] (Nat.zero_le _) hv (by omega) h
  rw [List.nil_append] at k2
  exact ⟨l, k1, k2⟩
theorem rdS_tl {s : ByteArray} {L : List Tk} {c : Int} (h : rdS s = some (L, c)) : TL s.size L := by
  have hg := cutS_good (s := s)
  have hf := cutS_fault (s := s)
  unfold rdS at h
  generalize hc : cutS s = cs at *
  generalize hd : cutS (s.extract 0 cs.2.1) = ds at *
  clear hc hd
  by_cases hn : cs.2.2 = 2 ∨ cs.2.2 = 10 ∨ cs.2.2 = 11
  · rw [if_pos hn] at h
    cases h
  · rw [if_neg hn] at h
    by_cases h0 : cs.2.2 = 0
    · rw [if_pos h0] at h
      obtain ⟨hz, hv, l, k1, k2⟩ := hg h0
      have hl : L = cs.1 := (congrArg Prod.fst (Option.some.inj h)).symm
      rw [hl, k2]
      exact tl_snoc (eot_ok _ _ (Nat.le_refl _)) rfl l (rn_good l 0 k1)
    · rw [if_neg h0] at h
      obtain ⟨hz, hv, l, k, k1, k2, k3, k4, k5, k6⟩ := hf h0 (fun h => hn (.inl h)) (fun h => hn (.inr (.inl h))) (fun h => hn (.inr (.inr h)))
      have hl : L = ds.1 := (congrArg Prod.fst (Option.some.inj h)).symm
      rw [hl, k6]
      exact tl_snoc (eot_ok _ _ (by omega)) rfl l (rf_good l 0 k k1)
/-- What Expr answers. -/
def exprS (s : ByteArray) : Except Flt Tm :=
  match rdS s with
  | none => .error ((cutS s).2.1, (cutS s).2.2)
  | some r => bnd (exprD r.2 64 r.1) (endP r.2)
end Go.Proofs.YtecdfnpbcabdnaaGreatDoor
