/- The walk of the statement MonoKept. -/
import Derived.Test.YtelcaldenjgnkaaMoO
import Derived.Deep.CutRange
namespace Go.Proofs.Ytelcaldenjgnkaa
open Go.RowKit

/-- The numbers turned about. -/
def neg (L : List Int) : List Int := L.map (fun x => -x)
theorem neg_append (L : List Int) (v : Int) : neg L ++ [-v] = neg (L ++ [v]) := by simp [neg]
theorem neg_length (L : List Int) : (neg L).length = L.length := by simp [neg]
theorem neg_empty (L : List Int) : (neg L).isEmpty = L.isEmpty := by cases L <;> rfl
theorem neg_tail (L : List Int) : (neg L).tail = neg L.tail := by cases L <;> rfl
/-- Two queues, one for the least of L and one for the greatest of L turned about, in memory of the call's own (from the block B on), apart from each other. -/
structure Both (B : Nat) (w : World) (b g c d : Nat) (L : List Int) : Prop where
  low : Mo w b g false L
  high : Mo w c d true (neg L)
  apart : b ≠ c ∧ b ≠ d ∧ g ≠ c ∧ g ≠ d
  own : B ≤ b ∧ B ≤ g ∧ B ≤ c ∧ B ≤ d
  start : B ≤ w.heap.size
theorem Both.next {B : Nat} {w w' : World} {b g c d : Nat} {L : List Int} (x : Both B w b g c d L) (t : Below w.heap.size w w') : Both B w' b g c d L := ⟨x.low.next t, x.high.next t, x.apart, x.own, Nat.le_trans x.start t.size⟩
/-- The queue for the least has turned, the other not yet. -/
structure Half (B : Nat) (w : World) (b g c d : Nat) (L L0 : List Int) : Prop where
  low : Mo w b g false L
  high : Mo w c d true (neg L0)
  apart : b ≠ c ∧ b ≠ d ∧ g ≠ c ∧ g ≠ d
  own : B ≤ b ∧ B ≤ g ∧ B ≤ c ∧ B ≤ d
  start : B ≤ w.heap.size
theorem Both.first {B : Nat} {w w' : World} {b g g' c d : Nat} {L L' : List Int} (x : Both B w b g c d L) (m : Mo w' b g' false L') (t : Turn [b, g] w w') (ho : g' = g ∨ w.heap.size ≤ g') : Half B w' b g' c d L' L ∧ Below B w w' := by
  have a := x.apart
  have o := x.own
  have s := x.start
  have l1 := x.high.lt
  have l2 := x.high.glt
  have z := t.size
  exact ⟨⟨m, x.high.turn t (by simp; omega) (by simp; omega), by omega, by omega, by omega⟩, t.below (by simp; omega) s⟩
theorem Half.second {B : Nat} {w w' : World} {b g c d d' : Nat} {L L0 : List Int} (x : Half B w b g c d L L0) (m : Mo w' c d' true (neg L)) (t : Turn [c, d] w w') (ho : d' = d ∨ w.heap.size ≤ d') : Both B w' b g c d' L ∧ Below B w w' := by
  have a := x.apart
  have o := x.own
  have s := x.start
  have l1 := x.low.lt
  have l2 := x.low.glt
  have z := t.size
  exact ⟨⟨x.low.turn t (by simp; omega) (by simp; omega), m, by omega, by omega, by omega⟩, t.below (by simp; omega) s⟩
/-- Numbers that may be turned about. -/
def Mild (L : List Int) : Prop := ∀ x, x ∈ L → -4611686018427387904 ≤ x ∧ x ≤ 4611686018427387904
theorem mild_put {L : List Int} {v : Int} (h : Mild L) (h1 : -4611686018427387904 ≤ v) (h2 : v ≤ 4611686018427387904) : Mild (L ++ [v]) := fun x hx => by
  rcases List.mem_append.1 hx with hx | hx
  · exact h x hx
  · simp at hx; subst hx; exact ⟨h1, h2⟩
theorem mild_tail {L : List Int} (h : Mild L) : Mild L.tail := fun x hx => h x (List.mem_of_mem_tail hx)
/-- The number that came last is v, if there is one. -/
def Ends (L : List Int) (v : Int) : Prop := L = [] ∨ ∃ A, L = A ++ [v]
theorem ends_put (L : List Int) (v : Int) : Ends (L ++ [v]) v := .inr ⟨L, rfl⟩
theorem ends_tail {L : List Int} {v : Int} : Ends (L ++ [v]).tail v := by
  cases L with
  | nil => exact .inl rfl
  | cons x T => exact .inr ⟨T, rfl⟩
theorem half_range {x v : Int} (hx : (Lit.int .i64 x).wf = true) (hv : v = x.tdiv 2) : -4611686018427387904 ≤ v ∧ v ≤ 4611686018427387904 := by
  have h : IntKind.i64.min ≤ x ∧ x ≤ 9223372036854775807 := by simpa [Lit.wf, IntKind.i64] using hx
  have e : IntKind.i64.min = -9223372036854775808 := by decide
  rw [e] at h
  subst hv
  by_cases hp : 0 ≤ x
  · rw [Int.tdiv_eq_ediv_of_nonneg hp]; omega
  · have e2 : x.tdiv 2 = -((-x).tdiv 2) := by rw [Int.neg_tdiv]; omega
    rw [e2, Int.tdiv_eq_ediv_of_nonneg (by omega)]
    omega
set_option maxRecDepth 20000 in
set_option maxHeartbeats 2000000 in
theorem monoKept_walk (a : Option Addr) (len cap : Nat) (Z : List Int) (off : Int) (w : World) (hZ : Rd w (.slice a len cap) Z) (_hcap : len ≤ cap) (hwf : ∀ x, x ∈ Z → (Lit.int .i64 x).wf = true) (hl : len ≤ 1048576) (_hoff : (Lit.int .i64 off).wf = true) :
    Calls Try.prog 4 #[.slice a len cap, .int .i64 off] w fun e w' => e = .returned (.bool true) ∧ Below w.heap.size w w' := by
  obtain rfl : len = Z.length := by obtain ⟨_, _, e, _⟩ := hZ; cases e; rfl
  have HZ := hid hZ
  have HWF := hid hwf
  clear hZ hwf
  obtain ⟨n, hn⟩ : ∃ n, n = Z.length := ⟨_, rfl⟩
  rw [← hn] at hl ⊢
  rw [← hn] at HZ
  have HN := hid hn
  clear hn
  go_enter Try.func4, Try.ntmps4
  go_wp2_with fail
  refine (awake_any w).mono ?_
  rintro e w1 ⟨rfl, hb1⟩
  go_wp2_with fail
  refine Calls.mono (mNew false w1) ?_
  rintro e w2 ⟨rfl, hm2, hb2⟩
  obtain ⟨b, hb⟩ : ∃ b, b = w1.heap.size := ⟨_, rfl⟩
  rw [← hb] at hm2 ⊢
  have HM2 := hid hm2
  have HB1 := hid hb1
  have HB2 := hid hb2
  have HBB := hid hb
  clear hm2 hb1 hb2 hb
  go_wp2_with fail
  refine Calls.mono (mNew true w2) ?_
  rintro e w3 ⟨rfl, hm3, hb3⟩
  obtain ⟨c, hc⟩ : ∃ c, c = w2.heap.size := ⟨_, rfl⟩
  rw [← hc] at hm3 ⊢
  have hbo : Both w.heap.size w3 b b c c [] := by
    have := HM2.out.lt
    have := HBB.out
    have := HB1.out.size
    have := HB2.out.size
    have := hb3.size
    exact ⟨HM2.out.next hb3, hm3, by omega, by omega, by omega⟩
  have hbw : Below w.heap.size w w3 := (HB1.out.trans (HB2.out.mono HB1.out.size)).trans (hb3.mono (Nat.le_trans HB1.out.size HB2.out.size))
  have HBO := hid hbo
  have HW := hid hbw
  clear hm3 hb3 hbo hbw hc HM2 HB1 HB2 HBB
  go_wp2_with fail
  go_loopw [7] (fun q wr => ∃ (k g d : Nat) (L : List Int), q = .int .i64 (k : Nat) ∧ k ≤ n ∧ L.length ≤ k ∧ Mild L ∧ Both w.heap.size wr b g c d L ∧ Below w.heap.size w wr) (fun q _ => n - (intOf q).toNat)
  case atStart => exact ⟨0, b, c, [], rfl, by omega, by simp, by simp [Mild], HBO.out, HW.out⟩
  case round =>
    obtain ⟨k, g, d, L, rfl, hk, hLk, hmi, hbo, hbw⟩ := hrel
    clear HBO HW
    have HMI := hid hmi
    have HBO := hid hbo
    have HW := hid hbw
    clear hmi hbo hbw
    by_cases hlt : k < n
    · obtain ⟨x, hx⟩ : ∃ x, Z[k]? = some x := ⟨_, List.getElem?_eq_getElem (by have := HN.out; omega)⟩
      obtain ⟨a2, cap2, e, hz⟩ := HZ.out
      simp only [Value.slice.injEq] at e
      obtain ⟨rfl, en, rfl⟩ := e
      clear en
      rcases hz with h0 | ⟨zg, zo, rfl, hgl, hcell⟩
      · rw [h0] at hx; simp at hx
      have c0 := (HW.out.cell (p := ⟨zg, zo + k, none⟩) hgl).trans (hcell k x hx)
      have hxw := HWF.out x (List.mem_of_getElem? hx)
      have hlt' : (k : Int) < (n : Int) := by omega
      obtain ⟨v, hv⟩ : ∃ v, v = x.tdiv 2 := ⟨_, rfl⟩
      obtain ⟨v1, v2⟩ := half_range hxw hv
      have hvw : wrap64 (x.tdiv 2) = v := by rw [← hv]; unfold wrap64; omega
      have HVW := hid hvw
      clear hcell hx hv hvw
      go_wp2_with fail
      rw [HVW.out]
      refine Calls.mono (mPut b g false L v wr HBO.out.low (by omega)) ?_
      rintro e w4 ⟨rfl, g4, m4, t4, o4⟩
      obtain ⟨hh4, hb4⟩ := HBO.out.first m4 t4 o4
      have HH4 := hid hh4
      have HB4 := hid hb4
      clear m4 t4 o4 hh4 hb4 c0 hxw HVW
      go_wp2_with fail
      refine Calls.mono (mPut c d true (neg L) (-v) w4 HH4.out.high (by rw [neg_length]; omega)) ?_
      rintro e w5 ⟨rfl, d5, m5, t5, o5⟩
      rw [neg_append] at m5
      obtain ⟨hh5, hb5⟩ := HH4.out.second m5 t5 o5
      have HH5 := hid hh5
      have HB5 := hid ((HW.out.trans HB4.out).trans hb5)
      clear m5 t5 o5 hh5 hb5 HH4 HB4 HBO
      have hmi := mild_put HMI.out v1 v2
      have hen := ends_put L v
      have hle : (L ++ [v]).length ≤ k + 1 := by simp; omega
      have HMI2 := hid hmi
      have HEN := hid hen
      have HLE := hid hle
      clear hmi hen hle HMI
      go_upto_region 12 with fail
      go_cut [58] from 24 to 136 (fun s58 wc => s58 = .bool false ∧ ∃ (g d : Nat) (L : List Int), L.length ≤ k + 1 ∧ Mild L ∧ Ends L v ∧ Both w.heap.size wc b g c d L ∧ Below w.heap.size w wc)
      case first =>
        by_cases hp : (0 : Int) < off
        · by_cases hr : (k : Int) % (1 + off % 5) = 1
          · go_wp2_with fail
            refine Calls.mono (mTake b g4 false (L ++ [v]) w5 HH5.out.low (by have := HLE.out; omega)) ?_
            rintro e w6 ⟨rfl, m6, t6⟩
            obtain ⟨hh6, hb6⟩ := HH5.out.first m6 t6 (.inl rfl)
            have HH6 := hid hh6
            have HB6 := hid (HB5.out.trans hb6)
            clear m6 t6 hh6 hb6
            have hne : (L ++ [v]).isEmpty = false := by simp
            rw [hne]
            go_wp2_with fail
            refine Calls.mono (mTake c d5 true (neg (L ++ [v])) w6 HH6.out.high (by have := HLE.out; rw [neg_length]; omega)) ?_
            rintro e w7 ⟨rfl, m7, t7⟩
            rw [neg_tail] at m7
            rw [neg_empty, hne]
            obtain ⟨hh7, hb7⟩ := HH6.out.second m7 t7 (.inl rfl)
            have HH7 := hid hh7
            have HB7 := hid (HB6.out.trans hb7)
            clear m7 t7 hh7 hb7 hne
            go_wp2_with fail
            go_meet
            exact ⟨rfl, g4, d5, (L ++ [v]).tail, by have := HLE.out; simp at this ⊢; omega, mild_tail HMI2.out, ends_tail, HH7.out, HB7.out⟩
          · go_wp2_with fail
            go_meet
            exact ⟨rfl, g4, d5, L ++ [v], HLE.out, HMI2.out, HEN.out, HH5.out, HB5.out⟩
        · go_wp2_with fail
          go_meet
          exact ⟨rfl, g4, d5, L ++ [v], HLE.out, HMI2.out, HEN.out, HH5.out, HB5.out⟩
      case rest =>
        obtain ⟨rfl, g6, d6, L6, hl6, mi6, en6, bo6, bw6⟩ := hcut
        have HMI6 := hid mi6
        have HEN6 := hid en6
        have HBO6 := hid bo6
        have HBW6 := hid bw6
        clear mi6 en6 bo6 bw6 HMI2 HEN HLE HH5 HB5
        go_wp2_with fail
        refine Calls.mono (mKept b g6 false L6 wc HBO6.out.low (by omega)) ?_
        rintro e w7 ⟨ga, rfl, hga, hka, hb7⟩
        obtain ⟨A, hA⟩ : ∃ A, A = kept false L6 := ⟨_, rfl⟩
        rw [← hA] at hka ⊢
        obtain ⟨na, hna⟩ : ∃ na, na = A.length := ⟨_, rfl⟩
        have hnk : na ≤ k + 1 := by have := kept_length false L6; rw [← hA] at this; omega
        rw [← hna]
        have HA := hid hA
        have HNA := hid hna
        have HKA := hid hka
        have HB7 := hid hb7
        have hs7 := hb7.size
        have hga2 := hka.lt
        clear hA hna hka hb7
        go_wp2_with fail
        refine Calls.mono (mKept c d6 true (neg L6) w7 (HBO6.out.next HB7.out).high (by rw [neg_length]; omega)) ?_
        rintro e w8 ⟨gb, rfl, hgb, hkb, hb8⟩
        have ekn : kept true (neg L6) = neg A := by rw [HA.out]; exact kept_neg L6
        rw [ekn] at hkb
        rw [ekn, neg_length, ← HNA.out]
        have HKA8 := hid (HKA.out.next hb8)
        have HKB := hid hkb
        have HBO8 := hid ((HBO6.out.next HB7.out).next hb8)
        have HB8 := hid ((HBW6.out.trans (HB7.out.mono HBW6.out.size)).trans (hb8.mono (Nat.le_trans HBW6.out.size hs7)))
        clear hkb hb8 ekn HKA HBO6 HBW6 HB7
        go_wp2_with fail
        refine Calls.mono (mBest b g6 false L6 w8 HBO8.out.low) ?_
        rintro e w9 ⟨rfl, rfl⟩
        obtain ⟨y, hy⟩ : ∃ y, y = bestS false L6 := ⟨_, rfl⟩
        obtain ⟨ok, hok⟩ : ∃ ok, ok = !L6.isEmpty := ⟨_, rfl⟩
        rw [← hy, ← hok]
        have hok2 : decide (0 < na) = ok := by
          rw [hok, HNA.out, HA.out]
          cases L6 with
          | nil => rfl
          | cons z T => have := List.length_pos_iff.2 (kept_ne false (L := z :: T) (by simp)); simp [this]
        have HY := hid hy
        have HOK := hid hok
        clear hy hok
        go_wp2_with fail
        refine Calls.mono (mLen b g6 false L6 w8 HBO8.out.low) ?_
        rintro e w9 ⟨rfl, rfl⟩
        go_wp2_with fail
        refine Calls.mono (mLen c d6 true (neg L6) w8 HBO8.out.high) ?_
        rintro e w9 ⟨rfl, rfl⟩
        rw [neg_length]
        have HOK2 := hid hok2
        have hokt : ok = true → 0 < na := fun e => by rw [e] at hok2; exact of_decide_eq_true hok2
        have HOKT := hid hokt
        go_wp2_with fail
        clear hok2 hokt
        go_loopw [13] (fun p w9 => ∃ (j m : Nat), p = .int .i64 (j : Nat) ∧ j ≤ na ∧ w9 = w8.drewN m) (fun p _ => na - (intOf p).toNat)
        case atStart => exact ⟨0, 0, rfl, by omega, rfl⟩
        case round =>
          obtain ⟨j, m, rfl, hj, rfl⟩ := hrel
          by_cases hjn : j < na
          · obtain ⟨z, hz⟩ : ∃ z, A[j]? = some z := ⟨_, List.getElem?_eq_getElem (by have := HNA.out; omega)⟩
            have e0 := box_cell HKA8.out.box hz
            have e1 := box_cell (i := j) (x := -z) HKB.out.box (by simp [neg, hz])
            obtain ⟨z1, z2⟩ := HMI6.out z (kept_mem (h := false) (by rw [← HA.out]; exact List.mem_of_getElem? hz))
            have hjn' : (j : Int) < (na : Int) := by omega
            by_cases hj0 : j = 0
            · subst hj0
              clear hz
              go_wp2_with fail
              go_quiet (fail)
              go_wp2_with fail
              exact ⟨⟨1, m + nq, rfl, by omega, rfl⟩, by simp [intOf]; omega⟩
            · obtain ⟨i, rfl⟩ : ∃ i, j = i + 1 := ⟨j - 1, by omega⟩
              obtain ⟨u, hu⟩ : ∃ u, A[i]? = some u := ⟨_, List.getElem?_eq_getElem (by have := HNA.out; omega)⟩
              have e2 := box_cell HKA8.out.box hu
              have huz : u < z := by
                have h1 := kept_sorted false L6
                rw [← HA.out] at h1
                obtain ⟨i1, i2⟩ := List.getElem?_eq_some_iff.1 hu
                obtain ⟨j1, j2⟩ := List.getElem?_eq_some_iff.1 hz
                have := (List.pairwise_iff_getElem.1 h1) i (i + 1) i1 j1 (by omega)
                rw [i2, j2] at this
                simpa [win] using this
              have huz2 : ¬ z ≤ u := by omega
              have hi1 : ((i + 1 : Nat) : Int) - 1 = (i : Nat) := by omega
              have hi2 : (0 : Int) < ((i + 1 : Nat) : Int) := by omega
              clear hz hu
              go_wp2_with fail
              go_quiet (fail)
              go_wp2_with fail
              exact ⟨⟨i + 1 + 1, m + nq, by simp, by omega, rfl⟩, by simp [intOf]; omega⟩
          · obtain rfl : j = na := by omega
            cases ok with
            | false =>
              go_wp2_with fail
              exact ⟨⟨k + 1, g6, d6, L6, by simp, by omega, hl6, HMI6.out, HBO8.out.next (drewN_below _ _), HB8.out.trans ((drewN_below _ _).mono HB8.out.size)⟩, by simp [intOf]; omega⟩
            | true =>
              have hpos := HOKT.out rfl
              obtain ⟨t, rfl⟩ : ∃ t, j = t + 1 := ⟨j - 1, by omega⟩
              have hy0 : A[0]? = some y := by
                have h1 := HY.out
                rw [bestS, ← HA.out] at h1
                cases A with
                | nil => have := HNA.out; simp at this
                | cons z T => simp at h1; simp [h1]
              have hyt : A[t]? = some v := by
                rcases HEN6.out with e | ⟨B, e⟩
                · have h1 := HA.out
                  rw [e, kept_nil] at h1
                  have := HNA.out
                  rw [h1] at this
                  simp at this
                · obtain ⟨C, hC⟩ := kept_last false B v
                  rw [← e, ← HA.out] at hC
                  have h1 := HNA.out
                  rw [hC] at h1 ⊢
                  simp at h1
                  rw [h1]
                  simp
              have e0 := box_cell HKA8.out.box hy0
              have e1 := box_cell HKA8.out.box hyt
              have ht1 : ((t + 1 : Nat) : Int) - 1 = (t : Nat) := by omega
              clear hy0 hyt
              go_wp2_with fail
              exact ⟨⟨k + 1, g6, d6, L6, by simp, by omega, hl6, HMI6.out, HBO8.out.next (drewN_below _ _), HB8.out.trans ((drewN_below _ _).mono HB8.out.size)⟩, by simp [intOf]; omega⟩
    · obtain rfl : k = n := by omega
      go_wp2_with fail
      go_ret
      exact ⟨rfl, HW.out⟩
end Go.Proofs.Ytelcaldenjgnkaa
