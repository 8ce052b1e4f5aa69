/- The document's answer: the number at a place of a text. -/
import Derived.Test.YtddinknnaakmmaaDoorRCroA
namespace Go.Proofs.YtddinknnaakmmaaDoor
open Go.RowKit Go.Deep

/-- What the digits from i on below k count: three of them at most. -/
def nV (l : List UInt8) (i k : Nat) : Int :=
  if k ≤ i then 0 else if k = i + 1 then bt l i - 48 else if k = i + 2 then 10 * (bt l i - 48) + (bt l (i + 1) - 48) else 10 * (10 * (bt l i - 48) + (bt l (i + 1) - 48)) + (bt l (i + 2) - 48)
theorem nV_first (l : List UInt8) (i : Nat) : nV l i i = 0 := if_pos (Nat.le_refl _)
theorem nV_one (l : List UInt8) (i : Nat) : nV l i (i + 1) = bt l i - 48 := by unfold nV; rw [if_neg (by omega), if_pos rfl]
theorem nV_two (l : List UInt8) (i : Nat) : nV l i (i + 2) = 10 * (bt l i - 48) + (bt l (i + 1) - 48) := by unfold nV; rw [if_neg (by omega), if_neg (by omega), if_pos rfl]
theorem nV_three (l : List UInt8) (i k : Nat) (h : i + 3 ≤ k) : nV l i k = 10 * (10 * (bt l i - 48) + (bt l (i + 1) - 48)) + (bt l (i + 2) - 48) := by unfold nV; rw [if_neg (by omega), if_neg (by omega), if_neg (by omega)]
theorem nV_go (l : List UInt8) (i k : Nat) (h0 : i ≤ k) (h1 : k < i + 3) : nV l i (k + 1) = 10 * nV l i k + (bt l k - 48) := by
  rcases (show k = i ∨ k = i + 1 ∨ k = i + 2 by omega) with rfl | rfl | rfl
  · rw [nV_one, nV_first]; omega
  · rw [nV_two, nV_one]
  · rw [nV_two, nV_three _ _ _ (by omega)]
theorem nV_stay (l : List UInt8) (i k : Nat) (h1 : i + 3 ≤ k) : nV l i (k + 1) = nV l i k := by
  rw [nV_three _ _ _ h1, nV_three _ _ _ (by omega)]
theorem nV_range (l : List UInt8) (i k : Nat) (h : ∀ j, i ≤ j → j < k → 48 ≤ bt l j ∧ bt l j ≤ 57) (h0 : i ≤ k) : 0 ≤ nV l i k ∧ nV l i k ≤ 999 := by
  rcases (show k = i ∨ k = i + 1 ∨ k = i + 2 ∨ i + 3 ≤ k by omega) with rfl | rfl | rfl | hk
  · rw [nV_first]; omega
  · rw [nV_one]; have := h i (by omega) (by omega); omega
  · rw [nV_two]; have := h i (by omega) (by omega); have := h (i + 1) (by omega) (by omega); omega
  · rw [nV_three _ _ _ hk]; have := h i (by omega) (by omega); have := h (i + 1) (by omega) (by omega); have := h (i + 2) (by omega) (by omega); omega
def rnumV (o : Option (Nat × Nat)) (i : Nat) : Value := match o with
  | none => .tuple #[.int .i64 0, .int .i64 (i : Nat), .bool false]
  | some (v, e) => .tuple #[.int .i64 (v : Nat), .int .i64 (e : Nat), .bool true]
theorem numS_val {l : List UInt8} {i lo hi v : Nat} (h : valS l i = some v) : numS l i lo hi = if lo ≤ v ∧ v ≤ hi then some (v, runEnd l i) else none := by unfold numS; rw [h]
theorem numS_no {l : List UInt8} {i lo hi : Nat} (h : valS l i = none) : numS l i lo hi = none := by unfold numS; rw [h]
def RNumPost (l : List UInt8) (i lo hi : Nat) (w : World) (e : Ending) (w' : World) : Prop := e = .returned (rnumV (numS l i lo hi) i) ∧ w = w'
theorem RNumPost.no {l : List UInt8} {i lo hi : Nat} {w : World} (h : numS l i lo hi = none) : RNumPost l i lo hi w (.returned (.tuple #[.int .i64 0, .int .i64 (i : Nat), .bool false])) w := ⟨by rw [h]; rfl, rfl⟩
theorem RNumPost.yes {l : List UInt8} {i lo hi v e : Nat} {w : World} (h : numS l i lo hi = some (v, e)) : RNumPost l i lo hi w (.returned (.tuple #[.int .i64 (v : Nat), .int .i64 (e : Nat), .bool true])) w := ⟨by rw [h]; rfl, rfl⟩
set_option maxRecDepth 20000 in
set_option maxHeartbeats 4000000 in
theorem rnumber_any (s : ByteArray) (l : List UInt8) (hl : s.data.toList = l) (hz : s.size ≤ 256) (i lo hi : Nat) (hi0 : i ≤ s.size) (_hlo : lo ≤ 1000) (_hhi : hi ≤ 1000) (w : World) :
    Calls Tryd.prog 43 #[.string s, .int .i64 i, .int .i64 lo, .int .i64 hi] w (RNumPost l i lo hi w) := by
  have hs : l.length = s.size := by rw [← hl]; rfl
  have hds : ∀ j, i ≤ j → j < runEnd l i → 48 ≤ bt l j ∧ bt l j ≤ 57 := fun j h1 h2 => (digitB_iff _).1 (runEnd_digit l i j h1 h2)
  have HDS : Hid _ := hds
  clear hds
  go_enter Tryd.func43, Tryd.ntmps43
  go_wp2_with fail
  go_loopw [11, 12] (fun p q wr => ∃ k : Nat, p = .int .i64 (nV l i k) ∧ q = .int .i64 k ∧ i ≤ k ∧ k ≤ s.size ∧ runEnd l k = runEnd l i ∧ w = wr) (fun _ q _ => s.size - (intOf q).toNat)
  case atStart => exact ⟨i, by rw [nV_first], rfl, Nat.le_refl _, hi0, rfl, rfl⟩
  case round =>
    obtain ⟨k, rfl, rfl, hk0, hk1, he, rfl⟩ := hrel
    have hke := (runEnd_le l k (by omega)).1
    rw [he] at hke
    have hnr := nV_range l i k (fun j h1 h2 => HDS.out j h1 (by omega)) hk0
    by_cases hdig : k < s.size ∧ 48 ≤ bt l k ∧ bt l k ≤ 57
    · obtain ⟨hlt, h1, h2⟩ := hdig
      have hg := bt_get s k hlt
      rw [hl] at hg
      have hx := runEnd_go l k (by omega) ((digitB_iff _).2 ⟨h1, h2⟩)
      rw [he] at hx
      have HX : Hid _ := hx
      have k1 : (k : Int) < (s.size : Int) := by omega
      by_cases h3 : k < i + 3
      · have hn := nV_go l i k hk0 h3
        have k2 : (k : Int) < (i : Int) + 3 := by omega
        have HN : Hid _ := hn
        clear hx he hn hke
        generalize nV l i k = N at *
        generalize bt l k = c at *
        go_wp2_with fail
        exact ⟨⟨k + 1, by rw [HN.out], by go_num, by omega, by omega, HX.out.symm, trivial⟩, by simp [intOf]; omega⟩
      · have hn := nV_stay l i k (by omega)
        have k2 : ¬ (k : Int) < (i : Int) + 3 := by omega
        have HN : Hid _ := hn
        clear hx he hn hke
        generalize nV l i k = N at *
        generalize bt l k = c at *
        go_wp2_with fail
        exact ⟨⟨k + 1, by rw [HN.out], by go_num, by omega, by omega, HX.out.symm, trivial⟩, by simp [intOf]; omega⟩
    · have hx : runEnd l k = k := by
        by_cases hlt : k < s.size
        · exact runEnd_no l k (by omega) (by
            cases hd : digitB (bt l k) with
            | false => rfl
            | true => exact absurd ⟨hlt, (digitB_iff _).1 hd⟩ hdig)
        · exact runEnd_end l k (by omega)
      have hex : runEnd l i = k := by rw [← he, hx]
      have hcase : ¬ ((k : Int) < (s.size : Int)) ∨ ((k : Int) < (s.size : Int) ∧ ∃ h : k < s.size, (((s[k]'h).toNat : Int) = bt l k ∧ ¬ 48 ≤ bt l k)) ∨ ((k : Int) < (s.size : Int) ∧ ∃ h : k < s.size, (((s[k]'h).toNat : Int) = bt l k ∧ 48 ≤ bt l k ∧ ¬ bt l k ≤ 57)) := by
        by_cases hlt : k < s.size
        · have hg := bt_get s k hlt
          rw [hl] at hg
          by_cases h1 : 48 ≤ bt l k
          · exact .inr (.inr ⟨by omega, hlt, hg, h1, fun h2 => hdig ⟨hlt, h1, h2⟩⟩)
          · exact .inr (.inl ⟨by omega, hlt, hg, h1⟩)
        · exact .inl (by omega)
      have HE : Hid _ := hex
      clear hdig hx he hke hex
      by_cases c0 : k = i
      · have hno : numS l i lo hi = none := numS_no (by unfold valS; rw [HE.out, if_neg (by omega), if_neg (by omega)])
        have k0 : ((k : Int) == (i : Int)) = true := beq_iff_eq.2 (by omega)
        have HNO : Hid _ := hno
        have HC : Hid _ := c0
        clear hno c0
        generalize nV l i k = N at *
        generalize bt l k = c at *
        rcases hcase with h0 | ⟨h0, h1, h2, h3⟩ | ⟨h0, h1, h2, h3, h4⟩
        all_goals
          go_wp2_with fail
          go_ret3
          exact RNumPost.no HNO.out
      · have k0 : ((k : Int) == (i : Int)) = false := beq_eq_false_iff_ne.2 (by omega)
        by_cases c3 : i + 2 < k
        · have hno : numS l i lo hi = none := numS_no (by unfold valS; rw [HE.out, if_neg (by omega), if_neg (by omega)])
          have k3 : (i : Int) + 2 < (k : Int) := by omega
          have HNO : Hid _ := hno
          have HC : Hid _ := c0
          clear hno c0
          generalize nV l i k = N at *
          generalize bt l k = c at *
          rcases hcase with h0 | ⟨h0, h1, h2, h3⟩ | ⟨h0, h1, h2, h3, h4⟩
          all_goals
            go_wp2_with fail
            go_ret3
            exact RNumPost.no HNO.out
        · have k3 : ¬ (i : Int) + 2 < (k : Int) := by omega
          have hi1 : i < s.size := by omega
          have hgi := bt_get s i hi1
          rw [hl] at hgi
          have b0 := HDS.out i (by omega) (by rw [HE.out]; omega)
          -- what is counted, or that nothing is
          have hval : (k = i + 1 ∧ valS l i = some (nV l i k).toNat) ∨ (k = i + 2 ∧ bt l i ≠ 48 ∧ valS l i = some (nV l i k).toNat) ∨ (k = i + 2 ∧ bt l i = 48 ∧ valS l i = none) := by
            unfold valS
            rw [HE.out]
            rcases (show k = i + 1 ∨ k = i + 2 by omega) with e | e
            · left
              refine ⟨e, ?_⟩
              rw [if_pos e, e, nV_one]
            · right
              have b1 := HDS.out (i + 1) (by omega) (by rw [HE.out]; omega)
              by_cases q : bt l i = 48
              · right; exact ⟨e, q, by rw [if_neg (by omega), if_neg (fun h => h.2 q)]⟩
              · left
                refine ⟨e, q, ?_⟩
                rw [if_neg (by omega), if_pos ⟨e, q⟩, e, nV_two]
                congr 2; omega
          rcases hval with ⟨hke, hv⟩ | ⟨hke, hb48, hv⟩ | ⟨hke, hb48, hv⟩
          · have k6 : ((k : Int) == (i : Int) + 2) = false := beq_eq_false_iff_ne.2 (by omega)
            have hno : lo ≤ (nV l i k).toNat ∧ (nV l i k).toNat ≤ hi → numS l i lo hi = some ((nV l i k).toNat, k) := fun h => by rw [numS_val hv, if_pos h, HE.out]
            have hnn : ¬ (lo ≤ (nV l i k).toNat ∧ (nV l i k).toNat ≤ hi) → numS l i lo hi = none := fun h => by rw [numS_val hv, if_neg h]
            have HNO : Hid _ := hno
            have HNN : Hid _ := hnn
            have HC : Hid _ := c0
            have HKE : Hid _ := hke
            clear hno hnn hv c0 hke
            generalize hN : nV l i k = N at *
            clear hN
            generalize bt l i = ci at *
            generalize bt l k = c at *
            obtain ⟨n, rfl⟩ : ∃ n : Nat, N = (n : Int) := ⟨N.toNat, by omega⟩
            simp only [Int.toNat_natCast] at HNO HNN
            by_cases q1 : n < lo
            · have k4 : (n : Int) < (lo : Int) := by omega
              have HF : Hid _ := HNN.out (by omega)
              clear HNO HNN
              rcases hcase with h0 | ⟨h0, h1, h2, h3⟩ | ⟨h0, h1, h2, h3, h4⟩
              all_goals
                go_wp2_with fail
                go_ret3
                exact RNumPost.no HF.out
            · have k4 : ¬ (n : Int) < (lo : Int) := by omega
              by_cases q2 : hi < n
              · have k5 : (hi : Int) < (n : Int) := by omega
                have HF : Hid _ := HNN.out (by omega)
                clear HNO HNN
                rcases hcase with h0 | ⟨h0, h1, h2, h3⟩ | ⟨h0, h1, h2, h3, h4⟩
                all_goals
                  go_wp2_with fail
                  go_ret3
                  exact RNumPost.no HF.out
              · have k5 : ¬ (hi : Int) < (n : Int) := by omega
                have HF : Hid _ := HNO.out ⟨by omega, by omega⟩
                clear HNO HNN
                rcases hcase with h0 | ⟨h0, h1, h2, h3⟩ | ⟨h0, h1, h2, h3, h4⟩
                all_goals
                  go_wp2_with fail
                  go_ret3
                  exact RNumPost.yes HF.out
          · have k6 : ((k : Int) == (i : Int) + 2) = true := beq_iff_eq.2 (by omega)
            have k7 : (bt l i == 48) = false := beq_eq_false_iff_ne.2 hb48
            have hno : lo ≤ (nV l i k).toNat ∧ (nV l i k).toNat ≤ hi → numS l i lo hi = some ((nV l i k).toNat, k) := fun h => by rw [numS_val hv, if_pos h, HE.out]
            have hnn : ¬ (lo ≤ (nV l i k).toNat ∧ (nV l i k).toNat ≤ hi) → numS l i lo hi = none := fun h => by rw [numS_val hv, if_neg h]
            have HNO : Hid _ := hno
            have HNN : Hid _ := hnn
            have HC : Hid _ := c0
            have HKE : Hid _ := hke
            clear hno hnn hv c0 hke
            generalize hN : nV l i k = N at *
            clear hN
            clear hb48
            generalize bt l i = ci at *
            generalize bt l k = c at *
            obtain ⟨n, rfl⟩ : ∃ n : Nat, N = (n : Int) := ⟨N.toNat, by omega⟩
            simp only [Int.toNat_natCast] at HNO HNN
            by_cases q1 : n < lo
            · have k4 : (n : Int) < (lo : Int) := by omega
              have HF : Hid _ := HNN.out (by omega)
              clear HNO HNN
              rcases hcase with h0 | ⟨h0, h1, h2, h3⟩ | ⟨h0, h1, h2, h3, h4⟩
              all_goals
                go_wp2_with fail
                go_ret3
                exact RNumPost.no HF.out
            · have k4 : ¬ (n : Int) < (lo : Int) := by omega
              by_cases q2 : hi < n
              · have k5 : (hi : Int) < (n : Int) := by omega
                have HF : Hid _ := HNN.out (by omega)
                clear HNO HNN
                rcases hcase with h0 | ⟨h0, h1, h2, h3⟩ | ⟨h0, h1, h2, h3, h4⟩
                all_goals
                  go_wp2_with fail
                  go_ret3
                  exact RNumPost.no HF.out
              · have k5 : ¬ (hi : Int) < (n : Int) := by omega
                have HF : Hid _ := HNO.out ⟨by omega, by omega⟩
                clear HNO HNN
                rcases hcase with h0 | ⟨h0, h1, h2, h3⟩ | ⟨h0, h1, h2, h3, h4⟩
                all_goals
                  go_wp2_with fail
                  go_ret3
                  exact RNumPost.yes HF.out
          · have k6 : ((k : Int) == (i : Int) + 2) = true := beq_iff_eq.2 (by omega)
            have k7 : (bt l i == 48) = true := beq_iff_eq.2 hb48
            have HF : Hid _ := numS_no (lo := lo) (hi := hi) hv
            have HC : Hid _ := c0
            have HKE : Hid _ := hke
            clear hv hb48 c0 hke
            generalize nV l i k = N at *
            generalize bt l i = ci at *
            generalize bt l k = c at *
            rcases hcase with h0 | ⟨h0, h1, h2, h3⟩ | ⟨h0, h1, h2, h3, h4⟩
            all_goals
              go_wp2_with fail
              go_ret3
              exact RNumPost.no HF.out
end Go.Proofs.YtddinknnaakmmaaDoor
