/- The document's Read: all of it; the statement NumReads. -/
import Derived.Test.YtecdfnpbcabdnaaGreatDoorLzU
namespace Go.Proofs.YtecdfnpbcabdnaaGreatDoor
open Go.RowKit

theorem all_run (p : List UInt8) : (p.takeWhile isD).length = p.length ↔ p.all isD = true := by
  constructor
  · intro h
    have hs := split_run p
    have hl := congrArg List.length hs
    rw [List.length_append] at hl
    have e : p.dropWhile isD = [] := List.length_eq_zero_iff.1 (by omega)
    rw [e, List.append_nil] at hs
    rw [hs]
    exact run_all _
  · intro h
    induction p with
    | nil => rfl
    | cons b r ih =>
      rw [List.all_cons, Bool.and_eq_true] at h
      rw [List.takeWhile_cons, if_pos h.1, List.length_cons, List.length_cons, ih h.2]
theorem val_full (W p : List UInt8) (h : p.length ≤ 6) : val (W ++ (p ++ List.replicate (6 - p.length) 48)) = sizeN W p := by
  rw [val_app, val_pad, List.length_append, List.length_replicate, show p.length + (6 - p.length) = 6 by omega]
  rfl
theorem dig_all (L : List UInt8) (h : L.all isD = true) (j : Nat) (hj : j < L.length) : 48 ≤ L[j].toNat ∧ L[j].toNat ≤ 57 := isD_at L h j hj
theorem rep_all (k : Nat) : (List.replicate k (48 : UInt8)).all isD = true := by
  rw [List.all_eq_true]
  intro x hx
  rw [(List.mem_replicate.1 hx).2]
  decide
theorem lay_bare (W : List UInt8) (ha : W.all isD = true) : Lay10 W (W ++ ([] ++ List.replicate (6 - 0) 48)) W.length 0 where
  len := by simp
  dig := fun j h => dig_all _ (by rw [List.all_append, ha, List.nil_append, rep_all]; rfl) j h
  f6 := by decide
  kl := Nat.le_refl _
  fl := fun h => by omega
  one := fun j h h1 h2 => by rw [List.getElem_append_left h1]
  two := fun j h h1 h2 h3 => by omega
  three := fun j h h1 => by
    rw [List.getElem_append_right (by omega), List.getElem_append_right (by simp), List.getElem_replicate]
theorem lay_point (W p : List UInt8) (ha : W.all isD = true) (hp : p.all isD = true) (h6 : p.length ≤ 6) : Lay10 (W ++ 46 :: p) (W ++ (p ++ List.replicate (6 - p.length) 48)) W.length p.length where
  len := by simp; omega
  dig := fun j h => dig_all _ (by rw [List.all_append, List.all_append, ha, hp, rep_all]; rfl) j h
  f6 := h6
  kl := by simp
  fl := fun h => by simp; omega
  one := fun j h h1 h2 => by rw [List.getElem_append_left h1, List.getElem_append_left h1]
  two := fun j h h1 h2 h3 => by
    rw [List.getElem_append_right (by omega), List.getElem_append_right (by omega), List.getElem_append_left (by omega), List.getElem_cons]
    rw [dif_neg (by omega)]
    congr 1
    omega
  three := fun j h h1 => by
    rw [List.getElem_append_right (by omega), List.getElem_append_right (by omega)]
    simp
theorem limV_read {l L : List UInt8} (h : readN l = lim (val L)) : readV l = limV L := by
  unfold readV limV
  rw [h]
  unfold lim
  by_cases h1 : val L < 9223372036854775808
  · rw [if_pos h1, if_pos h1]
  · rw [if_neg h1, if_neg h1]
theorem rRead_any (l : List UInt8) (hz : l.length ≤ 281474976710656) (w : World) :
    Calls Tryz.prog 107 #[strV l] w fun e w' => e = .returned (readV l) ∧ w = w' := by
  have er := read_same l
  unfold readR at er
  have hrun : runL l 0 = (l.takeWhile isD).length := rfl
  have hs := split_run l
  have ha := run_all l
  have hd := fun c p => drop_head l c p
  generalize l.takeWhile isD = W at *
  generalize l.dropWhile isD = r at *
  have hkl : W.length ≤ l.length := by rw [hs, List.length_append]; omega
  by_cases hn : W = []
  · rw [if_pos (.inl hn)] at er
    rw [readV_no er]
    exact rRead_no l W.length hz hkl hrun (.inl (by rw [hn]; rfl)) w
  · have hW1 : 1 ≤ W.length := by cases W with | nil => exact absurd rfl hn | cons _ _ => simp
    have hl0 : 0 < l.length := by omega
    have hh := head_at l hl0
    by_cases hb : 1 < W.length ∧ l.head? = some 48
    · rw [if_pos (.inr hb)] at er
      rw [readV_no er]
      rw [hh] at hb
      exact rRead_no l W.length hz hkl hrun (.inr ⟨hb.1, hl0, by rw [Option.some.inj hb.2]; rfl⟩) w
    · rw [if_neg (fun h => h.elim hn hb)] at er
      have h0 : 1 < W.length → l[0].toNat ≠ 48 := fun h e => hb ⟨h, by rw [hh]; congr 1; exact UInt8.toNat_inj.1 e⟩
      cases r with
      | nil =>
        rw [List.append_nil] at hs
        subst hs
        rw [tailR_nil] at er
        have e2 : readV l = limV (l ++ ([] ++ List.replicate (6 - 0) 48)) := limV_read (by rw [er]; congr 1; exact (val_full l [] (by simp)).symm)
        rw [e2]
        exact rRead_bare l _ l.length 0 hz (lay_bare l ha) hW1 (fun h _ => h0 h) hrun rfl rfl w
      | cons c p =>
        have hc := hd c p rfl
        rw [tailR_cons] at er
        have hlen : l.length = W.length + (p.length + 1) := by rw [hs, List.length_append, List.length_cons]
        have hck : ∀ h : W.length < l.length, l[W.length] = c := by
          intro h
          simp only [hs]
          rw [List.getElem_append_right (Nat.le_refl _)]
          simp
        have hrun2 : runL l (W.length + 1) = (p.takeWhile isD).length := by
          unfold runL
          rw [hs]
          simp
        have hfp : (p.takeWhile isD).length ≤ p.length := by
          have := congrArg List.length (split_run p)
          rw [List.length_append] at this
          omega
        have har := all_run p
        by_cases hg : c = 46 ∧ okP p = true
        · rw [if_pos hg] at er
          obtain ⟨p6, pa⟩ := okP_parts hg.2
          have pn : p ≠ [] := by have := hg.2; unfold okP at this; simp only [Bool.and_eq_true, decide_eq_true_eq] at this; exact this.1.1
          have hp1 : 1 ≤ p.length := by cases p with | nil => exact absurd rfl pn | cons _ _ => simp
          have e2 : readV l = limV (W ++ (p ++ List.replicate (6 - p.length) 48)) := limV_read (by rw [er]; congr 1; exact (val_full W p p6).symm)
          rw [e2]
          rw [har.2 pa] at hrun2
          have hlay := lay_point W p ha pa p6
          rw [← hg.1, ← hs] at hlay
          exact rRead_point l _ W.length p.length hz hlay hW1 (fun h _ => h0 h) hrun (by omega) hp1 (fun h => by rw [hck h, hg.1]; rfl) hrun2 w
        · rw [if_neg hg] at er
          rw [readV_no er]
          refine rRead_bad l W.length _ hz hW1 (by omega) h0 hrun hrun2 (by omega) ?_ w
          rw [hck (by omega)]
          by_cases c46 : c = 46
          · right
            have hk : ¬ okP p = true := fun h => hg ⟨c46, h⟩
            by_cases hpa : p.all isD = true
            · have e := har.2 hpa
              rw [e]
              unfold okP at hk
              simp only [Bool.and_eq_true, decide_eq_true_eq, hpa, and_true, not_and] at hk
              by_cases hpn : p = []
              · left; rw [hpn]; decide
              · right; left; have := hk hpn; omega
            · right; right
              have : (p.takeWhile isD).length ≠ p.length := fun h => hpa (har.1 h)
              omega
          · left
            intro h
            exact c46 (UInt8.toNat_inj.1 h)
end Go.Proofs.YtecdfnpbcabdnaaGreatDoor
