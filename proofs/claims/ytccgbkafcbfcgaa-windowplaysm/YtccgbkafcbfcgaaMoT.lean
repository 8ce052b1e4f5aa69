/- What leaves at the front; the list of what is kept. -/
import Derived.Test.YtccgbkafcbfcgaaMoA
namespace Go.Proofs.Ytccgbkafcbfcgaa
open Go.RowKit

theorem mPut_nil (v : Int) (w : World) : Calls Try.prog 43 #[.pointer none, .int .i64 v] w fun e w' => e = .returned (.tuple #[]) ∧ w = w' := by
  go_enter Try.func43, Try.ntmps43
  go_wp2_with fail
  exact bodyPost_ret (results_none rfl _ _ _) rfl ⟨rfl, rfl⟩
theorem mTake_nil (w : World) : Calls Try.prog 40 #[.pointer none] w fun e w' => e = .returned (.bool false) ∧ w = w' := by
  go_enter Try.func40, Try.ntmps40
  go_wp2_with fail
  refine (mLen_nil w).mono ?_
  rintro e w1 ⟨rfl, rfl⟩
  go_wp2_with fail
  go_ret
  exact ⟨rfl, rfl⟩
/-- What Take leaves and answers. -/
def Takes (w : World) (b g : Nat) (h : Bool) (L : List Int) (ok : Bool) (e : Ending) (w' : World) : Prop := e = .returned (.bool ok) ∧ Mo w' b g h L ∧ Turn [b, g] w w'
theorem mTake_no (b g : Nat) (h : Bool) (w : World) (x : Mo w b g h []) : Calls Try.prog 40 #[.pointer (some ⟨b, 0, none⟩)] w (Takes w b g h [] false) := by
  have HX := hid x
  clear x
  go_enter Try.func40, Try.ntmps40
  go_wp2_with fail
  refine (mLen b g h [] w HX.out).mono ?_
  rintro e w1 ⟨rfl, rfl⟩
  simp only [List.length_nil]
  go_wp2_with fail
  go_ret
  exact ⟨rfl, HX.out, Turn.refl _ _⟩
/-- The front goes. -/
theorem mDrop (b g off cap n : Nat) (v0 v1 : Value) (w : World) (hbox : Box w b [v0, v1, .slice (some ⟨g, off, none⟩) n cap]) (hn : 1 ≤ n) (hc : n ≤ cap) (hm : n < 8796093022209) :
    Calls Try.prog 63 #[.pointer (some ⟨b, 0, none⟩)] w fun e w' => e = .returned (.tuple #[]) ∧ ∃ off' cap', w' = (w.setCell ⟨b, 2, none⟩ (.slice (some ⟨g, off', none⟩) (n - 1) cap')).drew ∧ n - 1 ≤ cap' ∧ cap' + 1 ≤ cap ∧ (cap' = 0 ∨ off' = off + 2) := by
  obtain ⟨c0, c1, c2, f0, f1, f2⟩ := hbox.three
  have hlt := hbox.lt
  clear hbox
  go_enter Try.func63, Try.ntmps63
  go_wp2_with fail
  obtain ⟨m, hmm⟩ : ∃ m : Nat, m = min cap (2 * n) := ⟨_, rfl⟩
  have hif : (if 2 * (n : Int) < (cap : Int) then 2 * (n : Int) else (cap : Int)) = (m : Nat) := by split <;> omega
  have HIF := hid hif
  clear hif
  have h1 : 1 ≤ m := by omega
  have h2 : n ≤ m := by omega
  have h3 : m ≤ cap := by omega
  have HM := hid hmm
  clear hmm
  go_region
  go_end0
  rw [HIF.out, Int.toNat_natCast]
  by_cases e : m = 1
  · rw [if_pos e]
    exact ⟨rfl, off, m - 1, rfl, by omega, by omega, .inl (by omega)⟩
  · rw [if_neg e]
    exact ⟨rfl, off + 2, m - 1, rfl, by omega, by omega, .inr rfl⟩
/-- The front goes: what is left. -/
theorem KAt.rest {w w' : World} {b g off off' cap cap' : Nat} {k : Int × Nat} {K : List (Int × Nat)} {v : Value} (h : KAt w g off cap (k :: K)) (hgb : g ≠ b) (hw : w' = (w.setCell ⟨b, 2, none⟩ v).drew) (h1 : K.length ≤ cap') (h2 : cap' + 1 ≤ cap) (h3 : cap' = 0 ∨ off' = off + 2) : KAt w' g off' cap' K := by
  have t : Turn [b] w w' := by subst hw; exact ⟨rfl, rfl, rfl, by simp [World.setCell], fun i _ hn => Below.heap_setCell _ _ _ _ (by simpa [eq_comm] using hn)⟩
  have hh := h.turn t (by simpa using hgb)
  have hm := h.most
  by_cases e : cap' = 0
  · have : K = [] := List.eq_nil_of_length_eq_zero (by omega)
    subst this
    subst e
    exact ⟨hh.lt, by simp, by simp, by simp, by simp, by simp, by simp⟩
  · have e2 : off' = off + 2 := by rcases h3 with h3 | h3; (· exact absurd h3 e); (· exact h3)
    subst e2
    refine ⟨hh.lt, fun i j hj => ?_, fun i j hj => ?_, fun i hi => ?_, fun i hi => ?_, h1, by omega⟩
    · have := hh.num (i + 1) j (by simpa using hj)
      rwa [show off + (i + 1) * 2 = off + 2 + i * 2 by omega] at this
    · have := hh.ahd (i + 1) j (by simpa using hj)
      rwa [show off + (i + 1) * 2 + 1 = off + 2 + i * 2 + 1 by omega] at this
    · have := hh.spare (i + 2) (by omega)
      rwa [show off + (i + 2) = off + 2 + i by omega] at this
    · have := hh.free (i + 2) (by omega)
      rwa [show off + (i + 2) = off + 2 + i by omega] at this
/-- One less ahead of the front. -/
theorem KAt.less {w : World} {g off cap a : Nat} {k : Int × Nat} {K : List (Int × Nat)} (h : KAt w g off cap (k :: K)) : KAt (w.setCell ⟨g, off + 1, none⟩ (.int .i64 (a : Nat))) g off cap ((k.1, a) :: K) := by
  have hl := h.le
  simp at hl
  obtain ⟨u, hu⟩ := Option.isSome_iff_exists.1 (h.spare 1 (by omega))
  refine ⟨by simpa [World.setCell] using h.lt, fun i j hj => ?_, fun i j hj => ?_, fun i hi => ?_, fun i hi => (World.frozen?_setCell _ _ _ _).trans (h.free i hi), by simpa using hl, h.most⟩
  · rw [World.cell?_setCell_other _ _ _ _ (by intro e; have := congrArg Addr.off e; simp at this; omega)]
    cases i with
    | zero => simp at hj; subst hj; exact h.num 0 k rfl
    | succ i => exact h.num (i + 1) j (by simpa using hj)
  · cases i with
    | zero => simp at hj; subst hj; simpa using World.cell?_setCell_same _ _ _ hu
    | succ i =>
      rw [World.cell?_setCell_other _ _ _ _ (by intro e; have := congrArg Addr.off e; simp at this)]
      exact h.ahd (i + 1) j (by simpa using hj)
  · by_cases e : i = 1
    · subst e; rw [World.cell?_setCell_same _ _ _ hu]; rfl
    · rw [World.cell?_setCell_other _ _ _ _ (by intro e'; have := congrArg Addr.off e'; simp at this; omega)]
      exact h.spare i hi
set_option maxRecDepth 20000 in
theorem mTake_yes (b g : Nat) (h : Bool) (x0 : Int) (L : List Int) (w : World) (x : Mo w b g h (x0 :: L)) (hl : (x0 :: L).length ≤ 8796093022208) : Calls Try.prog 40 #[.pointer (some ⟨b, 0, none⟩)] w (Takes w b g h L true) := by
  have HX := hid x
  obtain ⟨lv, x⟩ := x
  obtain ⟨c0, c1, c2, f0, f1, f2⟩ := x.box.three
  have hlt := x.box.lt
  obtain ⟨k, K, hk⟩ : ∃ k K, rep h (x0 :: L) = k :: K := by
    cases hr : rep h (x0 :: L) with
    | nil => exact absurd hr (rep_ne h (by simp))
    | cons k K => exact ⟨k, K, rfl⟩
  rcases x.sl with ⟨_, e, _⟩ | ⟨hgb, off, cap, rfl, hs⟩
  · rw [hk] at e; cases e
  rw [hk] at hs c2
  obtain ⟨r0, r1⟩ := rep_take hk
  have hbox := x.box
  rw [hk] at hbox
  have hll : (k :: K).length < 8796093022209 := by have := HX.out.fits; rw [hk] at this; omega
  obtain ⟨n, hn⟩ : ∃ n, n = (k :: K).length := ⟨_, rfl⟩
  obtain ⟨N, hN⟩ : ∃ N, N = (x0 :: L).length := ⟨_, rfl⟩
  rw [← hn] at c2 hbox hll
  rw [← hN] at c1 hbox hl
  have hn1 : 1 ≤ n := by rw [hn]; simp
  have hn1' : (0 : Int) < (n : Int) := by omega
  have hN1 : ¬ (N : Int) = 0 := by rw [hN]; simp; omega
  have hcap := hs.le
  rw [← hn] at hcap
  have d0 := hs.num 0 k rfl
  have d1 := hs.ahd 0 k rfl
  have g1 := hs.free 1 (by omega)
  have hgl := hs.lt
  rw [Nat.zero_mul, Nat.add_zero] at d0 d1
  have HS := hid hs
  have HB := hid hbox
  have HN := hid hn
  have HNN := hid hN
  have H0 := hid r0
  have H1 := hid r1
  have hk2 : k.2 + 1 ≤ 8796093022208 := by have h1 := tot_rep h (x0 :: L); rw [hk, tot, ← hN] at h1; omega
  clear x hs hbox hn hN hk r0 r1
  obtain ⟨y, a⟩ := k
  simp only at d0 d1 hk2
  go_enter Try.func40, Try.ntmps40
  go_wp2_with fail
  refine (mLen b g h _ w HX.out).mono ?_
  rintro e w1 ⟨rfl, rfl⟩
  rw [← HNN.out]
  by_cases ha : a = 0
  · go_wp2_with fail
    refine (mDrop b g off cap n _ _ _ (HB.out.set 1 (by simp) (.int .i64 ((N : Int) - 1))) hn1 hcap hll).mono ?_
    rintro e w2 ⟨rfl, off', cap', hw, q1, q2, q3⟩
    have HW := hid hw
    clear hw
    go_wp2_with fail
    go_ret
    have hkk : n - 1 = K.length := by have := HN.out; simp at this; omega
    have hNN : (N : Int) - 1 = (L.length : Nat) := by have := HNN.out; simp at this; omega
    have e1 := HW.out
    have hs1 : KAt (w.setCell ⟨b, 1, none⟩ (.int .i64 ((N : Int) - 1))) g off cap ((y, a) :: K) := HS.out.turn (S := [b]) (Turn.set _ _ _ (by simp)) (by simpa using hgb)
    refine ⟨rfl, ⟨.slice (some ⟨g, off', none⟩) K.length cap', ?_, ?_⟩, ?_⟩
    · have := ((HB.out.set 1 (by simp) (.int .i64 ((N : Int) - 1))).set 2 (by simp) (.slice (some ⟨g, off', none⟩) (n - 1) cap')).alike (w' := w2) (by rw [e1]; rfl)
      rw [hkk, hNN] at this
      simpa using this
    · rw [H0.out ha]
      exact .inr ⟨hgb, off', cap', rfl, hs1.rest hgb e1 (by omega) q2 q3⟩
    · rw [e1]
      exact ⟨rfl, rfl, rfl, by simp [World.setCell], fun i _ hn => by
        have hib : i ≠ b := by intro e; simp [e] at hn
        exact (Below.heap_setCell _ _ _ _ hib).trans (Below.heap_setCell _ _ _ _ hib)⟩
  · obtain ⟨c, rfl⟩ : ∃ c, a = c + 1 := ⟨a - 1, by omega⟩
    have hpos : (0 : Int) < ((c + 1 : Nat) : Int) := by omega
    go_wp2_with fail
    go_ret
    have hNN : (N : Int) - 1 = (L.length : Nat) := by have := HNN.out; simp at this; omega
    refine ⟨rfl, ⟨.slice (some ⟨g, off, none⟩) n cap, ?_, ?_⟩, ?_⟩
    · have := (HB.out.set 1 (by simp) (.int .i64 ((N : Int) - 1))).other (q := g) (j := off + 1) (v := .int .i64 (c : Nat)) (Ne.symm hgb)
      rw [hNN] at this ⊢
      simpa using this
    · rw [H1.out c rfl]
      exact .inr ⟨hgb, off, cap, by have := HN.out; simp at this; simp [this], (HS.out.turn (S := [b]) (Turn.set _ _ _ (by simp)) (by simpa using hgb)).less⟩
    · exact (Turn.set _ _ _ (by simp)).andSet _ _ (.inl (by simp))
theorem mTake (b g : Nat) (h : Bool) (L : List Int) (w : World) (x : Mo w b g h L) (hl : L.length ≤ 8796093022208) : Calls Try.prog 40 #[.pointer (some ⟨b, 0, none⟩)] w (Takes w b g h L.tail (!L.isEmpty)) := by
  cases L with
  | nil => exact mTake_no b g h w x
  | cons y L => exact mTake_yes b g h y L w x hl
end Go.Proofs.Ytccgbkafcbfcgaa
