/- The walk of the statement RankBounds. -/
import Derived.Test.YtgljcaebgcmahaaRkL
namespace Go.Proofs.Ytgljcaebgcmahaa
open Go.RowKit

theorem low_step {Z : List Int} {k : Nat} {x v : Int} (hx : Z[k]? = some x) : low v (Z.take (k + 1)) = low v (Z.take k) + (if x < v then 1 else 0) := by
  rw [List.take_add_one, hx]
  unfold low
  rw [List.countP_append]
  by_cases h : x < v <;> simp [h]
theorem cnt_step {Z : List Int} {k : Nat} {x v : Int} (hx : Z[k]? = some x) : cnt v (Z.take (k + 1)) = cnt v (Z.take k) + (if x ≤ v then 1 else 0) := by
  rw [List.take_add_one, hx]
  unfold cnt
  rw [List.countP_append]
  by_cases h : x ≤ v <;> simp [h]
/-- The greatest of the first k, or one of them all. -/
def Most (Z : List Int) (k : Nat) (m : Int) : Prop := m ∈ Z ∧ ∀ x, x ∈ Z.take k → x ≤ m
theorem most_start {Z : List Int} {x : Int} (h : Z[0]? = some x) : Most Z 0 x := ⟨List.mem_of_getElem? h, by simp⟩
theorem most_step {Z : List Int} {k : Nat} {x m : Int} (h : Most Z k m) (hx : Z[k]? = some x) : Most Z (k + 1) (if m < x then x else m) := by
  refine ⟨?_, fun y hy => ?_⟩
  · split
    · exact List.mem_of_getElem? hx
    · exact h.1
  · rw [List.take_add_one, hx] at hy
    rcases List.mem_append.1 hy with hy | hy
    · have := h.2 y hy
      split <;> omega
    · simp at hy
      subst hy
      split <;> omega
/-- What the statement says at the end. -/
theorem bounds_end {Z : List Int} {n : Nat} {p y top m : Int} (hn : n = Z.length) (h1 : 1 ≤ p) (h2 : p ≤ 100000000) (hp : 0 < n) (hy : (srt Z)[nearest p n - 1]? = some y) (ht : (srt Z)[nearest 100000000 n - 1]? = some top) (hm : Most Z n m) :
    p * (n : Int) ≤ (cnt y Z : Int) * 100000000 ∧ (low y Z : Int) * 100000000 < p * (n : Int) ∧ top = m ∧ y ≤ top := by
  obtain ⟨a1, a2, a3⟩ := nearest_bounds h1 h2 hp
  obtain ⟨b1, b2, b3⟩ := nearest_bounds (p := 100000000) (n := n) (by omega) (by omega) hp
  have hb : nearest 100000000 n = n := by omega
  rw [hb] at ht
  have h3 := (at_iff hy y).2 rfl
  rw [low_eqs] at h3
  have hmem : ∀ x, x ∈ Z → x ≤ top := fun x hx => by
    obtain ⟨i, hi⟩ := List.getElem?_of_mem ((srt_perm Z).mem_iff.2 hx)
    have hil := (List.getElem?_eq_some_iff.1 hi).1
    rw [srt_length] at hil
    exact asc_get (srt_asc Z) (by omega) hi ht
  have htop : top ∈ Z := (srt_perm Z).mem_iff.1 (List.mem_of_getElem? ht)
  have hm2 : top ≤ m := hm.2 top (by rw [List.take_of_length_le (by omega)]; exact htop)
  have hm3 := hmem m hm.1
  have hyt := asc_get (srt_asc Z) (by omega) hy ht
  generalize p * (n : Int) = q at a3
  omega
set_option maxRecDepth 20000 in
set_option maxHeartbeats 4000000 in
theorem rankBounds_any (a : Option Addr) (len cap : Nat) (Z : List Int) (p : Int) (w : World) (hR : Rd w (.slice a len cap) Z) :
    Calls Try.prog 4 #[.slice a len cap, .int .i64 p] w fun e w' => e = .returned (.bool true) ∧ Below w.heap.size w w' := by
  have hlen : len = Z.length := by obtain ⟨_, _, e, _⟩ := hR; cases e; rfl
  have HR := hid hR
  have HLEN := hid hlen
  clear hR hlen
  go_enter Try.func4, Try.ntmps4
  go_wp2_with fail
  refine (awake_any w).mono ?_
  rintro e w1 ⟨rfl, hb1⟩
  go_wp2_with fail
  refine Calls.mono (oNew w1 w.heap.size hb1.size) ?_
  rintro e w2 ⟨rfl, hm2, hb2⟩
  obtain ⟨b, hb⟩ : ∃ b, b = w1.heap.size := ⟨_, rfl⟩
  have HW2 := hid (hb1.trans (hb2.mono hb1.size))
  rw [← hb] at hm2 ⊢
  have HM2 := hid hm2
  clear hm2 hb1 hb2 hb
  by_cases h300 : len ≤ 2000
  · have h300' : ¬ (2000 : Int) < (len : Int) := by omega
    go_wp2_with fail
    go_loopw [6] (fun p wr => ∃ (k g : Nat), p = .int .i64 (k : Nat) ∧ k ≤ len ∧ Own w.heap.size wr b g (srt (Z.take k)) ∧ Below w.heap.size w wr) (fun p _ => len - (intOf p).toNat)
    case atStart => exact ⟨0, b, rfl, by omega, HM2.out, HW2.out⟩
    case round =>
      obtain ⟨k, g, rfl, hk, hO, hB⟩ := hrel
      have HO := hid hO
      have HB := hid hB
      clear hO hB HM2 HW2
      by_cases hlt : k < len
      · obtain ⟨x, hx⟩ : ∃ x, Z[k]? = some x := ⟨_, List.getElem?_eq_getElem (by have := HLEN.out; omega)⟩
        obtain ⟨a0, c0, he, hr⟩ := HR.out
        rcases hr with e | ⟨ga, off, e2, hga, hcell⟩
        · rw [e] at hx; simp at hx
        simp only [Value.slice.injEq] at he
        obtain ⟨e1, -, -⟩ := he
        subst e2
        subst e1
        have d0 := (HB.out.cell (p := ⟨ga, off + k, none⟩) hga).trans (hcell k x hx)
        have hlt' : (k : Int) < (len : Int) := by omega
        have HX := hid hx
        clear hx hcell
        go_wp2_with fail
        refine Calls.mono (oPut _ b g _ x wr HO.out (by rw [srt_length]; have := HLEN.out; simp; omega)) ?_
        rintro e w4 ⟨rfl, g4, h4, t4⟩
        rw [← srt_step HX.out] at h4
        have H4 := hid h4
        have T4 := hid t4
        clear h4 t4 d0
        go_wp2_with fail
        go_roundw
        case rel => exact ⟨k + 1, g4, by simp, by omega, H4.out, HB.out.trans T4.out⟩
        case measure => simp [intOf]; omega
      · obtain rfl : k = len := by omega
        have hZ : Z.take k = Z := List.take_of_length_le (by have := HLEN.out; omega)
        rw [hZ] at HO
        clear hZ
        have hSl : (srt Z).length = k := by rw [srt_length]; exact HLEN.out.symm
        have HSL := hid hSl
        clear hSl
        by_cases hno : k = 0 ∨ p < 1 ∨ 100000000 < p
        · go_wp2_with fail
          refine Calls.mono (rBy_no b g (srt Z) p wr HO.out.rk (hno.imp_left (fun e => List.eq_nil_of_length_eq_zero (by rw [HSL.out]; exact e)))) ?_
          rintro e w4 ⟨rfl, rfl⟩
          by_cases p1 : p < 1
          · clear hno
            go_wp2_with fail
            go_ret
            exact ⟨rfl, HB.out⟩
          · by_cases p2 : 100000000 < p
            · clear hno
              go_wp2_with fail
              go_ret
              exact ⟨rfl, HB.out⟩
            · have hk0 : k = 0 := by omega
              subst hk0
              clear hno
              go_wp2_with fail
              go_ret
              exact ⟨rfl, HB.out⟩
        · have hk0 : 0 < k := by omega
          have p1 : 1 ≤ p := by omega
          have p2 : p ≤ 100000000 := by omega
          obtain ⟨n1, n2, n3⟩ := nearest_bounds p1 p2 hk0
          obtain ⟨m1, m2, m3⟩ := nearest_bounds (p := 100000000) (n := k) (by omega) (by omega) hk0
          obtain ⟨y, hy⟩ : ∃ y, (srt Z)[nearest p k - 1]? = some y := ⟨_, List.getElem?_eq_getElem (by have := HSL.out; omega)⟩
          obtain ⟨top, htop⟩ : ∃ y, (srt Z)[nearest 100000000 k - 1]? = some y := ⟨_, List.getElem?_eq_getElem (by have := HSL.out; omega)⟩
          have hq0 : 0 < p * (k : Int) := Int.mul_pos (by omega) (by omega)
          have hq1 : p * (k : Int) ≤ 100000000 * (k : Int) := Int.mul_le_mul_of_nonneg_right p2 (by omega)
          have hq2 : p * (k : Int) ≤ 200000000000 := by omega
          have HY := hid hy
          have HT := hid htop
          have hkb : ((k : Int) == 0) = false := by simp; omega
          clear hy htop n1 n2 n3 m1 m2 m3 hno
          go_wp2_with fail
          refine Calls.mono (rBy_yes b g (srt Z) p y wr HO.out.rk p1 p2 (by rw [HSL.out]; omega) (by rw [HSL.out]; exact HY.out)) ?_
          rintro e w4 ⟨rfl, rfl⟩
          obtain ⟨x0, hx0⟩ : ∃ x, Z[0]? = some x := ⟨_, List.getElem?_eq_getElem (by have := HLEN.out; omega)⟩
          obtain ⟨a0, c0, he, hr⟩ := HR.out
          rcases hr with e | ⟨ga, off, e2, hga, hcell⟩
          · rw [e] at hx0; simp at hx0
          simp only [Value.slice.injEq] at he
          obtain ⟨e1, -, -⟩ := he
          subst e2
          subst e1
          have d0 := (HB.out.cell (p := ⟨ga, off + 0, none⟩) hga).trans (hcell 0 x0 hx0)
          rw [Nat.add_zero] at d0
          have HX0 := hid hx0
          have HCELL := hid hcell
          have hki : (0 : Int) < (k : Int) := by omega
          clear hx0 hcell
          have p1' : ¬ p < 1 := by omega
          have p2' : ¬ 100000000 < p := by omega
          go_wp2_with fail
          go_loopw [9, 10, 11, 12] (fun x9 x10 x11 x12 wi => ∃ (j : Nat) (m : Int), x9 = .int .i64 (low y (Z.take j) : Nat) ∧ x10 = .int .i64 (cnt y (Z.take j) : Nat) ∧ x11 = .int .i64 m ∧ x12 = .int .i64 (j : Nat) ∧ j ≤ k ∧ Most Z j m ∧ wi = wr) (fun _ _ _ q _ => k - (intOf q).toNat)
          case atStart => exact ⟨0, x0, rfl, rfl, rfl, rfl, by omega, most_start HX0.out, rfl⟩
          case round =>
            obtain ⟨j, m, rfl, rfl, rfl, rfl, hj, hM, rfl⟩ := hrel
            have hlo : low y (Z.take j) ≤ j := by have := List.countP_le_length (p := fun x => decide (x < y)) (l := Z.take j); unfold low; simp only [List.length_take] at this; omega
            have hup : cnt y (Z.take j) ≤ j := by have := cnt_le y (Z.take j); simp only [List.length_take] at this; omega
            obtain ⟨lo, elo⟩ : ∃ lo, lo = low y (Z.take j) := ⟨_, rfl⟩
            obtain ⟨up, eup⟩ : ∃ up, up = cnt y (Z.take j) := ⟨_, rfl⟩
            rw [← elo] at hlo ⊢
            rw [← eup] at hup ⊢
            have HLO := hid elo
            have HUP := hid eup
            have HM := hid hM
            clear elo eup hM d0
            by_cases hjk : j < k
            · obtain ⟨x, hx⟩ : ∃ x, Z[j]? = some x := ⟨_, List.getElem?_eq_getElem (by have := HLEN.out; omega)⟩
              have d1 := (HB.out.cell (p := ⟨ga, off + j, none⟩) hga).trans (HCELL.out j x hx)
              have hjk' : (j : Int) < (k : Int) := by omega
              have HX := hid hx
              clear hx
              by_cases hxy : x < y
              · have hxy2 : x ≤ y := by omega
                go_wp2_with fail
                go_roundw
                case rel => exact ⟨j + 1, if m < x then x else m, by rw [low_step HX.out, if_pos hxy, ← HLO.out]; simp, by rw [cnt_step HX.out, if_pos hxy2, ← HUP.out]; simp, rfl, by simp, by omega, most_step HM.out HX.out, trivial⟩
                case measure => simp [intOf]; omega
              · by_cases hxy2 : x ≤ y
                · go_wp2_with fail
                  go_roundw
                  case rel => exact ⟨j + 1, if m < x then x else m, by rw [low_step HX.out, if_neg hxy, ← HLO.out]; simp, by rw [cnt_step HX.out, if_pos hxy2, ← HUP.out]; simp, rfl, by simp, by omega, most_step HM.out HX.out, trivial⟩
                  case measure => simp [intOf]; omega
                · go_wp2_with fail
                  go_roundw
                  case rel => exact ⟨j + 1, if m < x then x else m, by rw [low_step HX.out, if_neg hxy, ← HLO.out]; simp, by rw [cnt_step HX.out, if_neg hxy2, ← HUP.out]; simp, rfl, by simp, by omega, most_step HM.out HX.out, trivial⟩
                  case measure => simp [intOf]; omega
            · obtain rfl : j = k := by omega
              have hZ : Z.take j = Z := List.take_of_length_le (by have := HLEN.out; omega)
              obtain ⟨e1, e2, e3, e4⟩ := bounds_end HLEN.out p1 p2 hk0 HY.out HT.out HM.out
              have elo := HLO.out
              have eup := HUP.out
              rw [hZ] at elo eup
              rw [← elo] at e2
              rw [← eup] at e1
              subst e3
              have e1' : ¬ (up : Int) * 100000000 < p * (j : Int) := by omega
              clear elo eup hZ
              go_wp2_with fail
              refine Calls.mono (rBy_yes b g (srt Z) 100000000 top wr HO.out.rk (by omega) (by omega) (by rw [HSL.out]; omega) (by rw [HSL.out]; exact HT.out)) ?_
              rintro e w4 ⟨rfl, rfl⟩
              go_wp2_with fail
              go_ret
              exact ⟨rfl, HB.out⟩
  · have h300' : (2000 : Int) < (len : Int) := by omega
    go_wp2_with fail
    go_ret
    exact ⟨rfl, HW2.out⟩
theorem rankBounds_walk (a : Option Addr) (len cap : Nat) (Z : List Int) (p : Int) (w : World) (hR : Rd w (.slice a len cap) Z) (_hc : len ≤ cap) (_hw : ∀ x, x ∈ Z → (Lit.int .i64 x).wf = true) (_hl : len * 8 ≤ reachBytes) (_hv : (Lit.int .i64 p).wf = true) :
    Calls Try.prog 4 #[.slice a len cap, .int .i64 p] w fun e w' => e = .returned (.bool true) ∧ Below w.heap.size w w' := rankBounds_any a len cap Z p w hR
end Go.Proofs.Ytgljcaebgcmahaa
