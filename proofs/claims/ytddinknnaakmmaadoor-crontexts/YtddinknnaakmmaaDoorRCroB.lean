/- The document's answer: a schedule's text. -/
import Derived.Test.YtddinknnaakmmaaDoorRCroA
namespace Go.Proofs.YtddinknnaakmmaaDoor
open Go.RowKit Go.Deep

theorem items_low {S lo hi : Nat} (h : OkSet S lo hi) : itemsUp S lo = [] :=
  (itemsUp_skip lo (Nat.zero_le _) fun j _ hj => by
    unfold startB
    cases hb : S.testBit j with
    | false => rfl
    | true => have := (h.bits j hb).1; omega).trans rfl
/-- All numbers from lo on below n are there. -/
def allB (S lo n : Nat) : Bool := (List.range n).all fun m => decide (m < lo) || S.testBit m
theorem allB_low (S lo : Nat) : allB S lo lo = true := by
  unfold allB
  rw [List.all_eq_true]
  intro m hm
  have := List.mem_range.1 hm
  simp [this]
theorem allB_succ (S lo n : Nat) (h : lo ≤ n) : allB S lo (n + 1) = (allB S lo n && S.testBit n) := by
  unfold allB
  rw [List.range_succ, List.all_append]
  have : decide (n < lo) = false := decide_eq_false (by omega)
  simp [this]
theorem allB_iff {S lo hi : Nat} (h : OkSet S lo hi) (hh : hi < 64) : allB S lo (hi + 1) = true ↔ S = evS lo hi 1 := by
  unfold allB
  rw [List.all_eq_true]
  constructor
  · intro k
    apply Nat.eq_of_testBit_eq
    intro i
    rw [evS_bit]
    by_cases hi : lo ≤ i ∧ i ≤ hi
    · have := k i (List.mem_range.2 (by omega))
      rw [decide_eq_false (by omega), Bool.false_or] at this
      rw [this, decide_eq_true (by omega)]
    · rw [decide_eq_false (by omega)]
      cases hb : S.testBit i with
      | false => rfl
      | true => exact absurd (h.bits i hb) hi
  · intro e m hm
    have := List.mem_range.1 hm
    rw [e, evS_bit]
    by_cases hl : m < lo
    · simp [hl]
    · rw [decide_eq_true (p := m < 64 ∧ lo ≤ m ∧ m ≤ hi) (by omega)]; simp
/-- A number ahead is there. -/
def prevB (S n : Nat) : Bool := decide (0 < n) && S.testBit (n - 1)
theorem start_prev (S n : Nat) : startB S n = (S.testBit n && !prevB S n) := rfl
theorem Has_prev (S n : Nat) (hS : S < 18446744073709551616) (hn : n ≤ 1000) (w : World) :
    Calls Tryd.prog 31 #[.int .u64 S, .int .i64 ((n : Int) - 1)] w fun e w' => e = .returned (.bool (prevB S n)) ∧ w = w' := by
  unfold prevB
  by_cases h : n = 0
  · subst h
    exact Has_neg S w
  · have e : ((n : Int) - 1) = ((n - 1 : Nat) : Int) := by omega
    rw [e, decide_eq_true (show 0 < n by omega), Bool.true_and]
    exact Has_any S (n - 1) hS (by omega) w
theorem join_nil_iff (S n : Nat) : Lib.join (itemsUp S n) [44] = [] ↔ itemsUp S n = [] := by
  constructor
  · intro h
    cases hx : itemsUp S n with
    | nil => rfl
    | cons a r =>
      have h1 := join_cst (itemsUp S n) (by rw [hx]; simp)
      rw [h, hx] at h1
      rw [items_runs] at hx
      obtain ⟨p, hp, rfl⟩ : ∃ p, p ∈ runsUp S n ∧ runT p.1 p.2 = a := by
        have : a ∈ runsT (runsUp S n) := by rw [hx]; simp
        simpa using this
      have := (runT_len p.1 p.2).1
      simp [cst] at h1
      omega
  · intro h; rw [h]; rfl
/-- What a run adds to a text. -/
def addR (x : List UInt8) (n k : Nat) : List UInt8 := (if x = [] then x else x ++ [44]) ++ runT n k
theorem join_addR (S n : Nat) (h : startB S n = true) : Lib.join (itemsUp S (n + 1)) [44] = addR (Lib.join (itemsUp S n) [44]) n (endOf S n) := by
  rw [itemsUp_yes h]
  unfold addR
  by_cases e : itemsUp S n = []
  · rw [if_pos ((join_nil_iff S n).2 e), e, List.nil_append, Lib.join_one]; rfl
  · rw [if_neg (fun k => e ((join_nil_iff S n).1 k)), join_snoc _ _ _ e, List.append_assoc]
theorem join_up_len (S n : Nat) (hn : n ≤ 64) : (Lib.join (itemsUp S n) [44]).length ≤ 384 := by
  have h := itemsUp_len S n
  have := join_len (itemsUp S n) [44] 5 1 h.2 (by simp)
  omega
set_option maxRecDepth 20000 in
set_option maxHeartbeats 8000000 in
theorem told_any (S f : Nat) (hf : f < 5) (h : OkSet S (lowN f) (highN f)) (w : World) :
    Calls Tryd.prog 29 #[.int .u64 S, .int .i64 f] w fun e w' => e = .returned (strV (fieldT S (lowN f) (highN f))) ∧ w = w' := by
  have hL := Low_any f hf
  have hH := High_any f hf
  have hS := h.lt
  have hlh := low_high f
  have hh := highN_lt f
  have hil := items_low h
  have hal := allB_iff h hh
  generalize lowN f = lo at *
  generalize highN f = hi at *
  have HL : Hid _ := hL
  have HH : Hid _ := hH
  have HIL : Hid _ := hil
  have HAL : Hid _ := hal
  clear hL hH hil hal
  have j0 : Lib.join (itemsUp S lo) [44] = [] := (join_nil_iff S lo).2 HIL.out
  have J0 : Hid _ := j0
  clear j0
  go_enter Tryd.func29, Tryd.ntmps29
  go_wp2_with fail
  refine (HL.out _).mono ?_
  rintro e w1 ⟨rfl, rfl⟩
  go_wp2_with fail
  go_loopw [5, 6, 7] (fun p q r wr => ∃ n : Nat, p = strV (Lib.join (itemsUp S n) [44]) ∧ q = .bool (allB S lo n) ∧ r = .int .i64 n ∧ lo ≤ n ∧ n ≤ hi + 1 ∧ w = wr) (fun _ _ r _ => (64 - intOf r).toNat)
  case atStart => exact ⟨lo, by rw [J0.out], by rw [allB_low], rfl, Nat.le_refl _, by omega, rfl⟩
  case round =>
    obtain ⟨n, rfl, rfl, rfl, hn0, hn1, rfl⟩ := hrel
    by_cases hlt : n ≤ hi
    · have k1 : (n : Int) ≤ (hi : Int) := by omega
      have ha := allB_succ S lo n hn0
      have hP := Has_prev S n hS (by omega)
      have hb := Has_any S n hS (by omega)
      have hst := start_prev S n
      have hj := join_addR S n
      have hjl := join_up_len S n (by omega)
      have hno : startB S n = false → Lib.join (itemsUp S (n + 1)) [44] = Lib.join (itemsUp S n) [44] := fun h => by rw [itemsUp_no h]
      have hen := fun k (h : Ends S n k) => h.unique hS (by omega)
      have HEN : Hid _ := hen
      clear hen
      generalize Lib.join (itemsUp S n) [44] = x at *
      generalize prevB S n = pv at *
      generalize hbn : S.testBit n = bn at *
      generalize allB S lo n = al at *
      clear h HIL HAL J0
      have HP : Hid _ := hP
      have HB : Hid _ := hb
      have HA : Hid _ := ha
      clear hP hb ha hbn
      have ia := Go.Proofs.Tryd.strconv_Itoa_small n (by omega)
      rw [dec_digits n (by omega)] at ia
      have IA : Hid _ := ia
      clear ia
      cases al with
      | true =>
        cases bn with
        | false =>
          have HX : Hid _ := hno (by rw [hst]; rfl)
          clear hno hst hj
          go_wp2_with fail
          refine (HH.out _).mono ?_
          rintro e w1 ⟨rfl, rfl⟩
          go_wp2_with fail
          refine (HB.out _).mono ?_
          rintro e w1 ⟨rfl, rfl⟩
          go_wp2_with fail
          refine (HB.out _).mono ?_
          rintro e w1 ⟨rfl, rfl⟩
          go_wp2_with fail
          exact ⟨⟨n + 1, by rw [HX.out], by rw [HA.out]; rfl, by go_num, by omega, by omega, trivial⟩, by simp [intOf]; omega⟩
        | true =>
          cases pv with
          | true =>
            have HX : Hid _ := hno (by rw [hst]; rfl)
            clear hno hst hj
            go_wp2_with fail
            refine (HH.out _).mono ?_
            rintro e w1 ⟨rfl, rfl⟩
            go_wp2_with fail
            refine (HB.out _).mono ?_
            rintro e w1 ⟨rfl, rfl⟩
            go_wp2_with fail
            refine (HB.out _).mono ?_
            rintro e w1 ⟨rfl, rfl⟩
            go_wp2_with fail
            refine (HP.out _).mono ?_
            rintro e w1 ⟨rfl, rfl⟩
            go_wp2_with fail
            exact ⟨⟨n + 1, by rw [HX.out], by rw [HA.out]; rfl, by go_num, by omega, by omega, trivial⟩, by simp [intOf]; omega⟩
          | false =>
            have hx := hj (by rw [hst]; rfl)
            have HX0 : Hid _ := hx
            clear hno hst hj hx
            go_wp2_with fail
            refine (HH.out _).mono ?_
            rintro e w1 ⟨rfl, rfl⟩
            go_wp2_with fail
            refine (HB.out _).mono ?_
            rintro e w1 ⟨rfl, rfl⟩
            go_wp2_with fail
            refine (HB.out _).mono ?_
            rintro e w1 ⟨rfl, rfl⟩
            go_wp2_with fail
            refine (HP.out _).mono ?_
            rintro e w1 ⟨rfl, rfl⟩
            go_wp2_with fail
            go_loopw [8] (fun p wr => ∃ k : Nat, p = .int .i64 k ∧ n ≤ k ∧ k < 64 ∧ (∀ i, n < i → i ≤ k → S.testBit i = true) ∧ w = wr) (fun p _ => (64 - intOf p).toNat)
            case atStart => exact ⟨n, rfl, Nat.le_refl _, by omega, (fun i h1 h2 => absurd h1 (by omega)), rfl⟩
            case round =>
              obtain ⟨k, rfl, h1, h2, h3, rfl⟩ := hrel
              have hh2 := Has_any S (k + 1) hS (by omega)
              rw [show ((k + 1 : Nat) : Int) = (k : Int) + 1 by omega] at hh2
              cases hb2 : S.testBit (k + 1) with
              | true =>
                have hlt2 := bit_lt hS hb2
                have h3x : ∀ i, n < i → i ≤ k + 1 → S.testBit i = true := fun i q1 q2 => by
                  by_cases hi2 : i = k + 1
                  · rw [hi2]; exact hb2
                  · exact h3 i q1 (by omega)
                rw [hb2] at hh2
                have H3 : Hid _ := h3x
                clear hb2 h3 h3x
                go_wp2_with fail
                refine (hh2 _).mono ?_
                rintro e w1 ⟨rfl, rfl⟩
                go_wp2_with fail
                exact ⟨⟨k + 1, by go_num, by omega, hlt2, H3.out, trivial⟩, by simp [intOf]; omega⟩
              | false =>
                have hke := HEN.out k ⟨h1, h2, h3, hb2⟩
                rw [hb2] at hh2
                rw [← hke] at HX0
                have HH2 : Hid _ := hh2
                clear hb2 h3 hke hh2
                have ib := Go.Proofs.Tryd.strconv_Itoa_small k (by omega)
                rw [dec_digits k (by omega)] at ib
                have IB : Hid _ := ib
                clear ib
                by_cases hx0 : x = []
                · subst hx0
                  rcases (show k = n ∨ k = n + 1 ∨ n + 1 < k by omega) with hk | hk | hk
                  · have q1 : ((k : Int) == (n : Int) + 1) = false := beq_eq_false_iff_ne.2 (by omega)
                    have q2 : ¬ (n : Int) + 1 < (k : Int) := by omega
                    have er : runT n k = dec n := if_pos hk
                    have HX1 := HX0.out
                    rw [addR, if_pos rfl, er] at HX1
                    have ld := dec_len n
                    have lk := dec_len k
                    have s1 := fun wx => add_str ([]) (dec n) (by simp; try omega) (by omega) wx
                    have HK : Hid _ := hk
                    clear er hk
                    have HX : Hid _ := HX1
                    clear HX1 HX0
                    generalize [] ++ dec n = tn at *
                    generalize dec n = dn at *
                    generalize dec k = dk at *
                    go_wp2_with fail
                    refine (HH2.out _).mono ?_
                    rintro e w1 ⟨rfl, rfl⟩
                    go_wp2_with fail
                    refine (IA.out _).mono ?_
                    rintro e w1 ⟨rfl, rfl⟩
                    go_wp2_with fail
                    exact ⟨⟨n + 1, by rw [HX.out], by rw [HA.out]; rfl, by go_num, by omega, by omega, trivial⟩, by simp [intOf]; omega⟩
                  · have q1 : ((k : Int) == (n : Int) + 1) = true := beq_iff_eq.2 (by omega)
                    have q2 : ¬ (n : Int) + 1 < (k : Int) := by omega
                    have er : runT n k = dec n ++ ([44] ++ dec k) := by unfold runT; rw [if_neg (by omega), if_pos (by omega)]; rfl
                    have HX1 := HX0.out
                    rw [addR, if_pos rfl, er] at HX1
                    have ld := dec_len n
                    have lk := dec_len k
                    have s1 := fun wx => add_str ([]) (dec n) (by simp; try omega) (by omega) wx
                    have s2 := fun wx => add_str [44] (dec k) (by simp) (by omega) wx
                    have s3 := fun wx => add_str ([] ++ dec n) ([44] ++ dec k) (by simp; omega) (by simp; omega) wx
                    have HK : Hid _ := hk
                    clear er hk
                    rw [← List.append_assoc] at HX1
                    have HX : Hid _ := HX1
                    clear HX1 HX0
                    generalize [] ++ dec n ++ ([44] ++ dec k) = tz at *
                    generalize [44] ++ dec k = tk at *
                    generalize [] ++ dec n = tn at *
                    generalize dec n = dn at *
                    generalize dec k = dk at *
                    go_wp2_with fail
                    refine (HH2.out _).mono ?_
                    rintro e w1 ⟨rfl, rfl⟩
                    go_wp2_with fail
                    refine (IA.out _).mono ?_
                    rintro e w1 ⟨rfl, rfl⟩
                    go_wp2_with fail
                    refine (IB.out _).mono ?_
                    rintro e w1 ⟨rfl, rfl⟩
                    go_wp2_with fail
                    exact ⟨⟨n + 1, by rw [HX.out], by rw [HA.out]; rfl, by go_num, by omega, by omega, trivial⟩, by simp [intOf]; omega⟩
                  · have q1 : ((k : Int) == (n : Int) + 1) = false := beq_eq_false_iff_ne.2 (by omega)
                    have q2 : (n : Int) + 1 < (k : Int) := by omega
                    have er : runT n k = dec n ++ ([45] ++ dec k) := by unfold runT; rw [if_neg (by omega), if_neg (by omega)]; rfl
                    have HX1 := HX0.out
                    rw [addR, if_pos rfl, er] at HX1
                    have ld := dec_len n
                    have lk := dec_len k
                    have s1 := fun wx => add_str ([]) (dec n) (by simp; try omega) (by omega) wx
                    have s2 := fun wx => add_str [45] (dec k) (by simp) (by omega) wx
                    have s3 := fun wx => add_str ([] ++ dec n) ([45] ++ dec k) (by simp; omega) (by simp; omega) wx
                    have HK : Hid _ := hk
                    clear er hk
                    rw [← List.append_assoc] at HX1
                    have HX : Hid _ := HX1
                    clear HX1 HX0
                    generalize [] ++ dec n ++ ([45] ++ dec k) = tz at *
                    generalize [45] ++ dec k = tk at *
                    generalize [] ++ dec n = tn at *
                    generalize dec n = dn at *
                    generalize dec k = dk at *
                    go_wp2_with fail
                    refine (HH2.out _).mono ?_
                    rintro e w1 ⟨rfl, rfl⟩
                    go_wp2_with fail
                    refine (IA.out _).mono ?_
                    rintro e w1 ⟨rfl, rfl⟩
                    go_wp2_with fail
                    refine (IB.out _).mono ?_
                    rintro e w1 ⟨rfl, rfl⟩
                    go_wp2_with fail
                    exact ⟨⟨n + 1, by rw [HX.out], by rw [HA.out]; rfl, by go_num, by omega, by omega, trivial⟩, by simp [intOf]; omega⟩
                · have hxe : x.isEmpty = false := by cases x with
                    | nil => exact absurd rfl hx0
                    | cons a r => rfl
                  rcases (show k = n ∨ k = n + 1 ∨ n + 1 < k by omega) with hk | hk | hk
                  · have q1 : ((k : Int) == (n : Int) + 1) = false := beq_eq_false_iff_ne.2 (by omega)
                    have q2 : ¬ (n : Int) + 1 < (k : Int) := by omega
                    have er : runT n k = dec n := if_pos hk
                    have HX1 := HX0.out
                    rw [addR, if_neg hx0, er] at HX1
                    have s0 := fun wx => add_str x [44] (by omega) (by simp) wx
                    have ld := dec_len n
                    have lk := dec_len k
                    have s1 := fun wx => add_str (x ++ [44]) (dec n) (by simp; try omega) (by omega) wx
                    have HK : Hid _ := hk
                    clear er hx0 hk
                    generalize x ++ [44] = y at *
                    have HX : Hid _ := HX1
                    clear HX1 HX0
                    generalize y ++ dec n = tn at *
                    generalize dec n = dn at *
                    generalize dec k = dk at *
                    go_wp2_with fail
                    refine (HH2.out _).mono ?_
                    rintro e w1 ⟨rfl, rfl⟩
                    go_wp2_with fail
                    refine (IA.out _).mono ?_
                    rintro e w1 ⟨rfl, rfl⟩
                    go_wp2_with fail
                    exact ⟨⟨n + 1, by rw [HX.out], by rw [HA.out]; rfl, by go_num, by omega, by omega, trivial⟩, by simp [intOf]; omega⟩
                  · have q1 : ((k : Int) == (n : Int) + 1) = true := beq_iff_eq.2 (by omega)
                    have q2 : ¬ (n : Int) + 1 < (k : Int) := by omega
                    have er : runT n k = dec n ++ ([44] ++ dec k) := by unfold runT; rw [if_neg (by omega), if_pos (by omega)]; rfl
                    have HX1 := HX0.out
                    rw [addR, if_neg hx0, er] at HX1
                    have s0 := fun wx => add_str x [44] (by omega) (by simp) wx
                    have ld := dec_len n
                    have lk := dec_len k
                    have s1 := fun wx => add_str (x ++ [44]) (dec n) (by simp; try omega) (by omega) wx
                    have s2 := fun wx => add_str [44] (dec k) (by simp) (by omega) wx
                    have s3 := fun wx => add_str (x ++ [44] ++ dec n) ([44] ++ dec k) (by simp; omega) (by simp; omega) wx
                    have HK : Hid _ := hk
                    clear er hx0 hk
                    generalize x ++ [44] = y at *
                    rw [← List.append_assoc] at HX1
                    have HX : Hid _ := HX1
                    clear HX1 HX0
                    generalize y ++ dec n ++ ([44] ++ dec k) = tz at *
                    generalize [44] ++ dec k = tk at *
                    generalize y ++ dec n = tn at *
                    generalize dec n = dn at *
                    generalize dec k = dk at *
                    go_wp2_with fail
                    refine (HH2.out _).mono ?_
                    rintro e w1 ⟨rfl, rfl⟩
                    go_wp2_with fail
                    refine (IA.out _).mono ?_
                    rintro e w1 ⟨rfl, rfl⟩
                    go_wp2_with fail
                    refine (IB.out _).mono ?_
                    rintro e w1 ⟨rfl, rfl⟩
                    go_wp2_with fail
                    exact ⟨⟨n + 1, by rw [HX.out], by rw [HA.out]; rfl, by go_num, by omega, by omega, trivial⟩, by simp [intOf]; omega⟩
                  · have q1 : ((k : Int) == (n : Int) + 1) = false := beq_eq_false_iff_ne.2 (by omega)
                    have q2 : (n : Int) + 1 < (k : Int) := by omega
                    have er : runT n k = dec n ++ ([45] ++ dec k) := by unfold runT; rw [if_neg (by omega), if_neg (by omega)]; rfl
                    have HX1 := HX0.out
                    rw [addR, if_neg hx0, er] at HX1
                    have s0 := fun wx => add_str x [44] (by omega) (by simp) wx
                    have ld := dec_len n
                    have lk := dec_len k
                    have s1 := fun wx => add_str (x ++ [44]) (dec n) (by simp; try omega) (by omega) wx
                    have s2 := fun wx => add_str [45] (dec k) (by simp) (by omega) wx
                    have s3 := fun wx => add_str (x ++ [44] ++ dec n) ([45] ++ dec k) (by simp; omega) (by simp; omega) wx
                    have HK : Hid _ := hk
                    clear er hx0 hk
                    generalize x ++ [44] = y at *
                    rw [← List.append_assoc] at HX1
                    have HX : Hid _ := HX1
                    clear HX1 HX0
                    generalize y ++ dec n ++ ([45] ++ dec k) = tz at *
                    generalize [45] ++ dec k = tk at *
                    generalize y ++ dec n = tn at *
                    generalize dec n = dn at *
                    generalize dec k = dk at *
                    go_wp2_with fail
                    refine (HH2.out _).mono ?_
                    rintro e w1 ⟨rfl, rfl⟩
                    go_wp2_with fail
                    refine (IA.out _).mono ?_
                    rintro e w1 ⟨rfl, rfl⟩
                    go_wp2_with fail
                    refine (IB.out _).mono ?_
                    rintro e w1 ⟨rfl, rfl⟩
                    go_wp2_with fail
                    exact ⟨⟨n + 1, by rw [HX.out], by rw [HA.out]; rfl, by go_num, by omega, by omega, trivial⟩, by simp [intOf]; omega⟩
      | false =>
        cases bn with
        | false =>
          have HX : Hid _ := hno (by rw [hst]; rfl)
          clear hno hst hj
          go_wp2_with fail
          refine (HH.out _).mono ?_
          rintro e w1 ⟨rfl, rfl⟩
          go_wp2_with fail
          refine (HB.out _).mono ?_
          rintro e w1 ⟨rfl, rfl⟩
          go_wp2_with fail
          exact ⟨⟨n + 1, by rw [HX.out], by rw [HA.out]; rfl, by go_num, by omega, by omega, trivial⟩, by simp [intOf]; omega⟩
        | true =>
          cases pv with
          | true =>
            have HX : Hid _ := hno (by rw [hst]; rfl)
            clear hno hst hj
            go_wp2_with fail
            refine (HH.out _).mono ?_
            rintro e w1 ⟨rfl, rfl⟩
            go_wp2_with fail
            refine (HB.out _).mono ?_
            rintro e w1 ⟨rfl, rfl⟩
            go_wp2_with fail
            refine (HP.out _).mono ?_
            rintro e w1 ⟨rfl, rfl⟩
            go_wp2_with fail
            exact ⟨⟨n + 1, by rw [HX.out], by rw [HA.out]; rfl, by go_num, by omega, by omega, trivial⟩, by simp [intOf]; omega⟩
          | false =>
            have hx := hj (by rw [hst]; rfl)
            have HX0 : Hid _ := hx
            clear hno hst hj hx
            go_wp2_with fail
            refine (HH.out _).mono ?_
            rintro e w1 ⟨rfl, rfl⟩
            go_wp2_with fail
            refine (HB.out _).mono ?_
            rintro e w1 ⟨rfl, rfl⟩
            go_wp2_with fail
            refine (HP.out _).mono ?_
            rintro e w1 ⟨rfl, rfl⟩
            go_wp2_with fail
            go_loopw [8] (fun p wr => ∃ k : Nat, p = .int .i64 k ∧ n ≤ k ∧ k < 64 ∧ (∀ i, n < i → i ≤ k → S.testBit i = true) ∧ w = wr) (fun p _ => (64 - intOf p).toNat)
            case atStart => exact ⟨n, rfl, Nat.le_refl _, by omega, (fun i h1 h2 => absurd h1 (by omega)), rfl⟩
            case round =>
              obtain ⟨k, rfl, h1, h2, h3, rfl⟩ := hrel
              have hh2 := Has_any S (k + 1) hS (by omega)
              rw [show ((k + 1 : Nat) : Int) = (k : Int) + 1 by omega] at hh2
              cases hb2 : S.testBit (k + 1) with
              | true =>
                have hlt2 := bit_lt hS hb2
                have h3x : ∀ i, n < i → i ≤ k + 1 → S.testBit i = true := fun i q1 q2 => by
                  by_cases hi2 : i = k + 1
                  · rw [hi2]; exact hb2
                  · exact h3 i q1 (by omega)
                rw [hb2] at hh2
                have H3 : Hid _ := h3x
                clear hb2 h3 h3x
                go_wp2_with fail
                refine (hh2 _).mono ?_
                rintro e w1 ⟨rfl, rfl⟩
                go_wp2_with fail
                exact ⟨⟨k + 1, by go_num, by omega, hlt2, H3.out, trivial⟩, by simp [intOf]; omega⟩
              | false =>
                have hke := HEN.out k ⟨h1, h2, h3, hb2⟩
                rw [hb2] at hh2
                rw [← hke] at HX0
                have HH2 : Hid _ := hh2
                clear hb2 h3 hke hh2
                have ib := Go.Proofs.Tryd.strconv_Itoa_small k (by omega)
                rw [dec_digits k (by omega)] at ib
                have IB : Hid _ := ib
                clear ib
                by_cases hx0 : x = []
                · subst hx0
                  rcases (show k = n ∨ k = n + 1 ∨ n + 1 < k by omega) with hk | hk | hk
                  · have q1 : ((k : Int) == (n : Int) + 1) = false := beq_eq_false_iff_ne.2 (by omega)
                    have q2 : ¬ (n : Int) + 1 < (k : Int) := by omega
                    have er : runT n k = dec n := if_pos hk
                    have HX1 := HX0.out
                    rw [addR, if_pos rfl, er] at HX1
                    have ld := dec_len n
                    have lk := dec_len k
                    have s1 := fun wx => add_str ([]) (dec n) (by simp; try omega) (by omega) wx
                    have HK : Hid _ := hk
                    clear er hk
                    have HX : Hid _ := HX1
                    clear HX1 HX0
                    generalize [] ++ dec n = tn at *
                    generalize dec n = dn at *
                    generalize dec k = dk at *
                    go_wp2_with fail
                    refine (HH2.out _).mono ?_
                    rintro e w1 ⟨rfl, rfl⟩
                    go_wp2_with fail
                    refine (IA.out _).mono ?_
                    rintro e w1 ⟨rfl, rfl⟩
                    go_wp2_with fail
                    exact ⟨⟨n + 1, by rw [HX.out], by rw [HA.out]; rfl, by go_num, by omega, by omega, trivial⟩, by simp [intOf]; omega⟩
                  · have q1 : ((k : Int) == (n : Int) + 1) = true := beq_iff_eq.2 (by omega)
                    have q2 : ¬ (n : Int) + 1 < (k : Int) := by omega
                    have er : runT n k = dec n ++ ([44] ++ dec k) := by unfold runT; rw [if_neg (by omega), if_pos (by omega)]; rfl
                    have HX1 := HX0.out
                    rw [addR, if_pos rfl, er] at HX1
                    have ld := dec_len n
                    have lk := dec_len k
                    have s1 := fun wx => add_str ([]) (dec n) (by simp; try omega) (by omega) wx
                    have s2 := fun wx => add_str [44] (dec k) (by simp) (by omega) wx
                    have s3 := fun wx => add_str ([] ++ dec n) ([44] ++ dec k) (by simp; omega) (by simp; omega) wx
                    have HK : Hid _ := hk
                    clear er hk
                    rw [← List.append_assoc] at HX1
                    have HX : Hid _ := HX1
                    clear HX1 HX0
                    generalize [] ++ dec n ++ ([44] ++ dec k) = tz at *
                    generalize [44] ++ dec k = tk at *
                    generalize [] ++ dec n = tn at *
                    generalize dec n = dn at *
                    generalize dec k = dk at *
                    go_wp2_with fail
                    refine (HH2.out _).mono ?_
                    rintro e w1 ⟨rfl, rfl⟩
                    go_wp2_with fail
                    refine (IA.out _).mono ?_
                    rintro e w1 ⟨rfl, rfl⟩
                    go_wp2_with fail
                    refine (IB.out _).mono ?_
                    rintro e w1 ⟨rfl, rfl⟩
                    go_wp2_with fail
                    exact ⟨⟨n + 1, by rw [HX.out], by rw [HA.out]; rfl, by go_num, by omega, by omega, trivial⟩, by simp [intOf]; omega⟩
                  · have q1 : ((k : Int) == (n : Int) + 1) = false := beq_eq_false_iff_ne.2 (by omega)
                    have q2 : (n : Int) + 1 < (k : Int) := by omega
                    have er : runT n k = dec n ++ ([45] ++ dec k) := by unfold runT; rw [if_neg (by omega), if_neg (by omega)]; rfl
                    have HX1 := HX0.out
                    rw [addR, if_pos rfl, er] at HX1
                    have ld := dec_len n
                    have lk := dec_len k
                    have s1 := fun wx => add_str ([]) (dec n) (by simp; try omega) (by omega) wx
                    have s2 := fun wx => add_str [45] (dec k) (by simp) (by omega) wx
                    have s3 := fun wx => add_str ([] ++ dec n) ([45] ++ dec k) (by simp; omega) (by simp; omega) wx
                    have HK : Hid _ := hk
                    clear er hk
                    rw [← List.append_assoc] at HX1
                    have HX : Hid _ := HX1
                    clear HX1 HX0
                    generalize [] ++ dec n ++ ([45] ++ dec k) = tz at *
                    generalize [45] ++ dec k = tk at *
                    generalize [] ++ dec n = tn at *
                    generalize dec n = dn at *
                    generalize dec k = dk at *
                    go_wp2_with fail
                    refine (HH2.out _).mono ?_
                    rintro e w1 ⟨rfl, rfl⟩
                    go_wp2_with fail
                    refine (IA.out _).mono ?_
                    rintro e w1 ⟨rfl, rfl⟩
                    go_wp2_with fail
                    refine (IB.out _).mono ?_
                    rintro e w1 ⟨rfl, rfl⟩
                    go_wp2_with fail
                    exact ⟨⟨n + 1, by rw [HX.out], by rw [HA.out]; rfl, by go_num, by omega, by omega, trivial⟩, by simp [intOf]; omega⟩
                · have hxe : x.isEmpty = false := by cases x with
                    | nil => exact absurd rfl hx0
                    | cons a r => rfl
                  rcases (show k = n ∨ k = n + 1 ∨ n + 1 < k by omega) with hk | hk | hk
                  · have q1 : ((k : Int) == (n : Int) + 1) = false := beq_eq_false_iff_ne.2 (by omega)
                    have q2 : ¬ (n : Int) + 1 < (k : Int) := by omega
                    have er : runT n k = dec n := if_pos hk
                    have HX1 := HX0.out
                    rw [addR, if_neg hx0, er] at HX1
                    have s0 := fun wx => add_str x [44] (by omega) (by simp) wx
                    have ld := dec_len n
                    have lk := dec_len k
                    have s1 := fun wx => add_str (x ++ [44]) (dec n) (by simp; try omega) (by omega) wx
                    have HK : Hid _ := hk
                    clear er hx0 hk
                    generalize x ++ [44] = y at *
                    have HX : Hid _ := HX1
                    clear HX1 HX0
                    generalize y ++ dec n = tn at *
                    generalize dec n = dn at *
                    generalize dec k = dk at *
                    go_wp2_with fail
                    refine (HH2.out _).mono ?_
                    rintro e w1 ⟨rfl, rfl⟩
                    go_wp2_with fail
                    refine (IA.out _).mono ?_
                    rintro e w1 ⟨rfl, rfl⟩
                    go_wp2_with fail
                    exact ⟨⟨n + 1, by rw [HX.out], by rw [HA.out]; rfl, by go_num, by omega, by omega, trivial⟩, by simp [intOf]; omega⟩
                  · have q1 : ((k : Int) == (n : Int) + 1) = true := beq_iff_eq.2 (by omega)
                    have q2 : ¬ (n : Int) + 1 < (k : Int) := by omega
                    have er : runT n k = dec n ++ ([44] ++ dec k) := by unfold runT; rw [if_neg (by omega), if_pos (by omega)]; rfl
                    have HX1 := HX0.out
                    rw [addR, if_neg hx0, er] at HX1
                    have s0 := fun wx => add_str x [44] (by omega) (by simp) wx
                    have ld := dec_len n
                    have lk := dec_len k
                    have s1 := fun wx => add_str (x ++ [44]) (dec n) (by simp; try omega) (by omega) wx
                    have s2 := fun wx => add_str [44] (dec k) (by simp) (by omega) wx
                    have s3 := fun wx => add_str (x ++ [44] ++ dec n) ([44] ++ dec k) (by simp; omega) (by simp; omega) wx
                    have HK : Hid _ := hk
                    clear er hx0 hk
                    generalize x ++ [44] = y at *
                    rw [← List.append_assoc] at HX1
                    have HX : Hid _ := HX1
                    clear HX1 HX0
                    generalize y ++ dec n ++ ([44] ++ dec k) = tz at *
                    generalize [44] ++ dec k = tk at *
                    generalize y ++ dec n = tn at *
                    generalize dec n = dn at *
                    generalize dec k = dk at *
                    go_wp2_with fail
                    refine (HH2.out _).mono ?_
                    rintro e w1 ⟨rfl, rfl⟩
                    go_wp2_with fail
                    refine (IA.out _).mono ?_
                    rintro e w1 ⟨rfl, rfl⟩
                    go_wp2_with fail
                    refine (IB.out _).mono ?_
                    rintro e w1 ⟨rfl, rfl⟩
                    go_wp2_with fail
                    exact ⟨⟨n + 1, by rw [HX.out], by rw [HA.out]; rfl, by go_num, by omega, by omega, trivial⟩, by simp [intOf]; omega⟩
                  · have q1 : ((k : Int) == (n : Int) + 1) = false := beq_eq_false_iff_ne.2 (by omega)
                    have q2 : (n : Int) + 1 < (k : Int) := by omega
                    have er : runT n k = dec n ++ ([45] ++ dec k) := by unfold runT; rw [if_neg (by omega), if_neg (by omega)]; rfl
                    have HX1 := HX0.out
                    rw [addR, if_neg hx0, er] at HX1
                    have s0 := fun wx => add_str x [44] (by omega) (by simp) wx
                    have ld := dec_len n
                    have lk := dec_len k
                    have s1 := fun wx => add_str (x ++ [44]) (dec n) (by simp; try omega) (by omega) wx
                    have s2 := fun wx => add_str [45] (dec k) (by simp) (by omega) wx
                    have s3 := fun wx => add_str (x ++ [44] ++ dec n) ([45] ++ dec k) (by simp; omega) (by simp; omega) wx
                    have HK : Hid _ := hk
                    clear er hx0 hk
                    generalize x ++ [44] = y at *
                    rw [← List.append_assoc] at HX1
                    have HX : Hid _ := HX1
                    clear HX1 HX0
                    generalize y ++ dec n ++ ([45] ++ dec k) = tz at *
                    generalize [45] ++ dec k = tk at *
                    generalize y ++ dec n = tn at *
                    generalize dec n = dn at *
                    generalize dec k = dk at *
                    go_wp2_with fail
                    refine (HH2.out _).mono ?_
                    rintro e w1 ⟨rfl, rfl⟩
                    go_wp2_with fail
                    refine (IA.out _).mono ?_
                    rintro e w1 ⟨rfl, rfl⟩
                    go_wp2_with fail
                    refine (IB.out _).mono ?_
                    rintro e w1 ⟨rfl, rfl⟩
                    go_wp2_with fail
                    exact ⟨⟨n + 1, by rw [HX.out], by rw [HA.out]; rfl, by go_num, by omega, by omega, trivial⟩, by simp [intOf]; omega⟩
    · obtain rfl : n = hi + 1 := by omega
      have k1 : ¬ ((hi : Int) + 1) ≤ (hi : Int) := by omega
      have e1 : ((hi + 1 : Nat) : Int) = (hi : Int) + 1 := by omega
      have hfl : Lib.join (itemsUp S (hi + 1)) [44] = Lib.join (itemsUp S 64) [44] := by
        rw [itemsUp_skip (a := hi + 1) 64 (by omega) fun j h1 h2 => by
          unfold startB
          cases hb : S.testBit j with
          | false => rfl
          | true => have := (h.bits j hb).2; omega]
      have HFL : Hid _ := hfl
      rw [e1]
      clear hfl e1 HIL J0
      cases hal : allB S lo (hi + 1) with
      | true =>
        have hft : fieldT S lo hi = [42] := if_pos (HAL.out.1 hal)
        have HFT : Hid _ := hft
        clear hft hal h
        generalize Lib.join (itemsUp S (hi + 1)) [44] = x at *
        go_wp2_with fail
        refine (HH.out _).mono ?_
        rintro e w1 ⟨rfl, rfl⟩
        go_wp2_with fail
        go_ret
        exact ⟨by rw [HFT.out]; rfl, rfl⟩
      | false =>
        have hft : fieldT S lo hi = Lib.join (itemsUp S 64) [44] := if_neg fun e => by rw [HAL.out.2 e] at hal; cases hal
        rw [← HFL.out] at hft
        have HFT : Hid _ := hft
        clear hft hal h HFL
        generalize Lib.join (itemsUp S (hi + 1)) [44] = x at *
        go_wp2_with fail
        refine (HH.out _).mono ?_
        rintro e w1 ⟨rfl, rfl⟩
        go_wp2_with fail
        go_ret
        exact ⟨by rw [HFT.out]; rfl, rfl⟩
end Go.Proofs.YtddinknnaakmmaaDoor
