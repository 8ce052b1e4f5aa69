/- Package num: ReadSpan. -/
import Derived.Test.YtecdfnpbcabdnaaGreatDoorNuA
namespace Go.Proofs.YtecdfnpbcabdnaaGreatDoor
open Go.RowKit Go.Lib

def partV (n nx : Nat) : Value := match part n nx with
  | some j => .tuple #[.int .i64 (wrt j : Nat), .int .i64 (wrt (j + 1) : Nat)]
  | none => .tuple #[.int .i64 0, .int .i64 0]
theorem partOf_any (n nx : Nat) (hx : nx ≤ 4) (w : World) :
    Calls Tryz.prog 140 #[.int .u8 (n : Nat), .int .i64 (wrt nx : Nat)] w fun e w' => e = .returned (partV n nx) ∧ w = w' := by
  have h0 : partV n 0 = if n = 100 then .tuple #[.int .i64 86400, .int .i64 3600] else partV n 1 := by
    by_cases h : n = 100
    · subst h; rfl
    · rw [if_neg h]; unfold partV; rw [part_miss n 0 (by decide) h]
  have h1 : partV n 1 = if n = 104 then .tuple #[.int .i64 3600, .int .i64 60] else partV n 2 := by
    by_cases h : n = 104
    · subst h; rfl
    · rw [if_neg h]; unfold partV; rw [part_miss n 1 (by decide) h]
  have h2 : partV n 2 = if n = 109 then .tuple #[.int .i64 60, .int .i64 1] else partV n 3 := by
    by_cases h : n = 109
    · subst h; rfl
    · rw [if_neg h]; unfold partV; rw [part_miss n 2 (by decide) h]
  have h3 : partV n 3 = if n = 115 then .tuple #[.int .i64 1, .int .i64 0] else partV n 4 := by
    by_cases h : n = 115
    · subst h; rfl
    · rw [if_neg h]; unfold partV; rw [part_miss n 3 (by decide) h]
  have h4 : partV n 4 = .tuple #[.int .i64 0, .int .i64 0] := by unfold partV; rw [part_four n 4 (by decide)]
  rw [h4] at h3
  rw [h3] at h2
  rw [h2] at h1
  rw [h1] at h0
  rcases (show nx = 0 ∨ nx = 1 ∨ nx = 2 ∨ nx = 3 ∨ nx = 4 by omega) with rfl | rfl | rfl | rfl | rfl
  · generalize partV n 0 = v at *
    have HV : Hid _ := h0
    clear h0 h1 h2 h3 h4 hx
    simp only [wrt]
    go_enter Tryz.func140, Tryz.ntmps140
    go_wp2_with fail
    all_goals
      go_ret2
      refine ⟨?_, rfl⟩
      rw [HV.out]
      simp only [beq_iff_eq, beq_eq_false_iff_ne, ne_eq] at *
      repeat first | rw [if_pos (by omega)] | rw [if_neg (by omega)]
      rfl
  · generalize partV n 1 = v at *
    have HV : Hid _ := h1
    clear h0 h1 h2 h3 h4 hx
    simp only [wrt]
    go_enter Tryz.func140, Tryz.ntmps140
    go_wp2_with fail
    all_goals
      go_ret2
      refine ⟨?_, rfl⟩
      rw [HV.out]
      simp only [beq_iff_eq, beq_eq_false_iff_ne, ne_eq] at *
      repeat first | rw [if_pos (by omega)] | rw [if_neg (by omega)]
      rfl
  · generalize partV n 2 = v at *
    have HV : Hid _ := h2
    clear h0 h1 h2 h3 h4 hx
    simp only [wrt]
    go_enter Tryz.func140, Tryz.ntmps140
    go_wp2_with fail
    all_goals
      go_ret2
      refine ⟨?_, rfl⟩
      rw [HV.out]
      simp only [beq_iff_eq, beq_eq_false_iff_ne, ne_eq] at *
      repeat first | rw [if_pos (by omega)] | rw [if_neg (by omega)]
      rfl
  · generalize partV n 3 = v at *
    have HV : Hid _ := h3
    clear h0 h1 h2 h3 h4 hx
    simp only [wrt]
    go_enter Tryz.func140, Tryz.ntmps140
    go_wp2_with fail
    all_goals
      go_ret2
      refine ⟨?_, rfl⟩
      rw [HV.out]
      simp only [beq_iff_eq, beq_eq_false_iff_ne, ne_eq] at *
      repeat first | rw [if_pos (by omega)] | rw [if_neg (by omega)]
      rfl
  · rw [h4]
    clear h0 h1 h2 h3 h4 hx
    simp only [wrt]
    go_enter Tryz.func140, Tryz.ntmps140
    go_wp2_with fail
    go_ret2
    exact ⟨rfl, rfl⟩
def spanR (l : List UInt8) : Value := match spanN l with
  | some v => .tuple #[.int .i64 (v : Nat), .int .i64 0]
  | none => .tuple #[.int .i64 0, .int .i64 13]
theorem spanR_no {l : List UInt8} (h : spanN l = none) : spanR l = .tuple #[.int .i64 0, .int .i64 13] := by unfold spanR; rw [h]
theorem spanR_ok {l : List UInt8} {v : Nat} (h : spanN l = some v) : spanR l = .tuple #[.int .i64 (v : Nat), .int .i64 0] := by unfold spanR; rw [h]
/-- Where the reading stands. -/
structure At10 (l : List UInt8) (k sm cn nx : Nat) : Prop where
  x : nx ≤ 4
  c : cn ≤ 999999
  s : sm ≤ nx * 86399913600
  e : spanN l = sp sm cn nx (l.drop k)
theorem At10.cons {l : List UInt8} {k sm cn nx : Nat} (h : At10 l k sm cn nx) (hk : k < l.length) : spanN l = sp sm cn nx (l[k] :: l.drop (k + 1)) := by
  rw [h.e, ← List.drop_eq_getElem_cons hk]
theorem At10.dig {l : List UInt8} {k sm cn nx : Nat} (h : At10 l k sm cn nx) (hk : k < l.length) (hd : isD l[k] = true) (h0 : ¬ (vstep cn l[k] = 0 ∨ 999999 < vstep cn l[k])) : At10 l (k + 1) sm (vstep cn l[k]) nx :=
  ⟨h.x, by omega, h.s, by rw [h.cons hk, sp_dig _ _ _ _ _ hd, if_neg h0]⟩
theorem At10.digNo {l : List UInt8} {k sm cn nx : Nat} (h : At10 l k sm cn nx) (hk : k < l.length) (hd : isD l[k] = true) (h0 : vstep cn l[k] = 0 ∨ 999999 < vstep cn l[k]) : spanR l = .tuple #[.int .i64 0, .int .i64 13] :=
  spanR_no (by rw [h.cons hk, sp_dig _ _ _ _ _ hd, if_pos h0])
theorem At10.no {l : List UInt8} {k sm cn nx : Nat} (h : At10 l k sm cn nx) (hk : k < l.length) (hd : isD l[k] = false) (hp : part l[k].toNat nx = none ∨ cn = 0) : spanR l = .tuple #[.int .i64 0, .int .i64 13] :=
  spanR_no (by rw [h.cons hk, sp_no _ _ _ _ _ hd hp])
theorem At10.part {l : List UInt8} {k sm cn nx j : Nat} (h : At10 l k sm cn nx) (hk : k < l.length) (hd : isD l[k] = false) (hp : part l[k].toNat nx = some j) (hc : cn ≠ 0) : At10 l (k + 1) (sm + cn * wrt j) 0 (j + 1) := by
  obtain ⟨h1, h2, _⟩ := part_some hp
  have h3 : cn * wrt j ≤ 999999 * 86400 := Nat.mul_le_mul h.c (wrt_le j)
  have h4 := h.s
  have h5 : nx * 86399913600 ≤ j * 86399913600 := Nat.mul_le_mul_right _ h1
  exact ⟨by omega, by omega, by omega, by rw [h.cons hk, sp_part _ _ _ _ _ _ hd hp hc]⟩
theorem At10.end_no {l : List UInt8} {sm cn nx : Nat} (h : At10 l l.length sm cn nx) (hc : ¬ (cn = 0 ∧ 1 ≤ sm ∧ sm ≤ 604800)) : spanR l = .tuple #[.int .i64 0, .int .i64 13] :=
  spanR_no (by rw [h.e, List.drop_length, sp_nil, if_neg hc])
theorem At10.end_ok {l : List UInt8} {sm cn nx : Nat} (h : At10 l l.length sm cn nx) (hc : cn = 0 ∧ 1 ≤ sm ∧ sm ≤ 604800) : spanR l = .tuple #[.int .i64 (sm : Nat), .int .i64 0] :=
  spanR_ok (by rw [h.e, List.drop_length, sp_nil, if_pos hc])
theorem partV_some {n nx j : Nat} (h : part n nx = some j) : partV n nx = .tuple #[.int .i64 (wrt j : Nat), .int .i64 (wrt (j + 1) : Nat)] := by unfold partV; rw [h]
theorem partV_none {n nx : Nat} (h : part n nx = none) : partV n nx = .tuple #[.int .i64 0, .int .i64 0] := by unfold partV; rw [h]
theorem wrt_pos (j : Nat) (h : j < 4) : 1 ≤ wrt j := by rcases four h with rfl | rfl | rfl | rfl <;> decide

set_option maxHeartbeats 4000000 in
theorem ReadSpan_any (l : List UInt8) (hz : l.length ≤ 281474976710656) (w : World) :
    Calls Tryz.prog 120 #[strV l] w fun e w' => e = .returned (spanR l) ∧ w = w' := by
  go_enter Tryz.func120, Tryz.ntmps120
  go_wp2_with fail
  go_loopw [4, 5, 6, 12] (fun s c n i wr => ∃ k sm cn nx : Nat, s = .int .i64 sm ∧ c = .int .i64 cn ∧ n = .int .i64 (wrt nx : Nat) ∧ i = .int .i64 k ∧ k ≤ l.length ∧ Hid (At10 l k sm cn nx) ∧ w = wr) (fun _ _ _ i _ => l.length - (intOf i).toNat)
  case atStart => exact ⟨0, 0, 0, 0, rfl, rfl, rfl, rfl, Nat.zero_le _, (⟨by decide, by decide, by decide, rfl⟩ : At10 l 0 0 0 0), rfl⟩
  case round =>
    obtain ⟨k, sm, cn, nx, rfl, rfl, rfl, rfl, hk, hA, rfl⟩ := hrel
    have bc := hA.out.c
    have bx := hA.out.x
    have bs : sm ≤ 345599654400 := by
      have h1 := hA.out.s
      have : nx * 86399913600 ≤ 4 * 86399913600 := Nat.mul_le_mul_right _ bx
      omega
    by_cases hlt : k < l.length
    · have hix := fun wx => idx_at l k hlt wx
      have hd := fun wx => isDigit_any l[k] wx
      have k1 : (k : Int) < (l.length : Int) := by omega
      have q1 := hA.out.dig hlt
      have q2 := hA.out.digNo hlt
      have q3 := fun a b => hA.out.no hlt a b
      have q4 := fun j a b c => hA.out.part (j := j) hlt a b c
      have hp := fun wx => partOf_any l[k].toNat nx bx wx
      cases hb : isD l[k] with
      | true =>
        rw [hb] at hd
        have dg := isD_iff.1 hb
        replace q1 := q1 hb
        replace q2 := q2 hb
        clear q3 q4 hp hb
        have ev : vstep cn l[k] = cn * 10 + (l[k].toNat - 48) := rfl
        generalize vstep cn l[k] = c2 at *
        generalize l[k].toNat = b at *
        generalize hX : wrt nx = X at *
        have HX : Hid _ := hX
        clear hX
        have h1 : (cn : Int) * 10 + ((b : Int) - 48) = c2 := by omega
        by_cases h0 : c2 = 0
        · have HQ : Hid _ := q2 (.inl h0)
          have h2 : (c2 : Int) = 0 := by omega
          have HE : Hid _ := ev
          clear q1 q2 h0 ev
          go_wp2_with fail
          refine (hd _).mono ?_
          rintro e w1 ⟨rfl, rfl⟩
          go_wp2_with fail
          go_ret2
          exact ⟨by rw [HQ.out]; rfl, rfl⟩
        · have h2 : ((c2 : Int) == 0) = false := beq_eq_false_iff_ne.2 (by omega)
          by_cases h3 : 999999 < c2
          · have HQ : Hid _ := q2 (.inr h3)
            have h4 : (999999 : Int) < (c2 : Int) := by omega
            have HE : Hid _ := ev
            clear q1 q2 h0 ev h3
            go_wp2_with fail
            refine (hd _).mono ?_
            rintro e w1 ⟨rfl, rfl⟩
            go_wp2_with fail
            go_ret2
            exact ⟨by rw [HQ.out]; rfl, rfl⟩
          · have HQ : Hid _ := q1 (by omega)
            have HE : Hid _ := ev
            clear q1 q2 h0 ev
            go_wp2_with fail
            refine (hd _).mono ?_
            rintro e w1 ⟨rfl, rfl⟩
            go_wp2_with fail
            go_roundw
            case rel => exact ⟨k + 1, sm, c2, nx, rfl, rfl, by rw [HX.out], by go_num, by omega, HQ, trivial⟩
            case measure => simp [intOf]; omega
      | false =>
        rw [hb] at hd
        replace q3 := q3 hb
        replace q4 := fun j => q4 j hb
        clear q1 q2 hb
        generalize l[k].toNat = b at *
        cases hpt : part b nx with
        | none =>
          have HQ : Hid _ := q3 (.inl hpt)
          rw [partV_none hpt] at hp
          clear q3 q4 hpt
          generalize wrt nx = X at *
          go_wp2_with fail
          refine (hd _).mono ?_
          rintro e w1 ⟨rfl, rfl⟩
          go_wp2_with fail
          refine (hp _).mono ?_
          rintro e w1 ⟨rfl, rfl⟩
          go_wp2_with fail
          go_ret2
          exact ⟨by rw [HQ.out]; rfl, rfl⟩
        | some j =>
          rw [partV_some hpt] at hp
          have hj := part_some hpt
          have wp := wrt_pos j hj.2.1
          have wl := wrt_le j
          by_cases h0 : cn = 0
          · have HQ : Hid _ := q3 (.inr h0)
            have hw0 : ((wrt j : Int) == 0) = false := beq_eq_false_iff_ne.2 (by omega)
            clear q3 q4 hpt hj
            subst h0
            generalize wrt nx = X at *
            generalize wrt j = Y at *
            generalize wrt (j + 1) = Z at *
            go_wp2_with fail
            refine (hd _).mono ?_
            rintro e w1 ⟨rfl, rfl⟩
            go_wp2_with fail
            refine (hp _).mono ?_
            rintro e w1 ⟨rfl, rfl⟩
            go_wp2_with fail
            go_ret2
            exact ⟨by rw [HQ.out]; rfl, rfl⟩
          · have HQ : Hid _ := q4 j hpt h0
            have hw0 : ((wrt j : Int) == 0) = false := beq_eq_false_iff_ne.2 (by omega)
            have hc0 : ((cn : Int) == 0) = false := beq_eq_false_iff_ne.2 (by omega)
            have hm : cn * wrt j ≤ 999999 * 86400 := Nat.mul_le_mul bc wl
            have em : (cn : Int) * (wrt j : Int) = ((cn * wrt j : Nat) : Int) := by simp
            clear q3 q4 hpt hj h0
            generalize cn * wrt j = M at *
            generalize wrt nx = X at *
            generalize wrt j = Y at *
            generalize hZ : wrt (j + 1) = Z at *
            have HZ : Hid _ := hZ
            clear hZ
            go_wp2_with fail
            refine (hd _).mono ?_
            rintro e w1 ⟨rfl, rfl⟩
            go_wp2_with fail
            refine (hp _).mono ?_
            rintro e w1 ⟨rfl, rfl⟩
            go_wp2_with fail
            go_roundw
            case rel => exact ⟨k + 1, sm + M, 0, j + 1, by go_num, rfl, by rw [HZ.out], by go_num, by omega, HQ, trivial⟩
            case measure => simp [intOf]; omega
    · have e : k = l.length := by omega
      subst e
      have q1 := hA.out.end_no
      have q2 := hA.out.end_ok
      generalize wrt nx = X at *
      by_cases hc : cn = 0 ∧ 1 ≤ sm ∧ sm ≤ 604800
      · have HQ : Hid _ := q2 hc
        clear q1 q2 hA
        obtain ⟨rfl, h1, h2⟩ := hc
        have h3 : ((sm : Int) == 0) = false := beq_eq_false_iff_ne.2 (by omega)
        go_wp2_with fail
        go_ret2
        exact ⟨by rw [HQ.out]; rfl, rfl⟩
      · have HQ : Hid _ := q1 hc
        clear q1 q2 hA
        by_cases h0 : cn = 0
        · subst h0
          by_cases h1 : sm = 0
          · subst h1
            clear hc
            go_wp2_with fail
            go_ret2
            exact ⟨by rw [HQ.out]; rfl, rfl⟩
          · have h2 : (604800 : Int) < sm := by omega
            have h3 : ((sm : Int) == 0) = false := beq_eq_false_iff_ne.2 (by omega)
            clear hc
            go_wp2_with fail
            go_ret2
            exact ⟨by rw [HQ.out]; rfl, rfl⟩
        · have h3 : ((cn : Int) != 0) = true := bne_iff_ne.2 (by omega)
          clear hc
          go_wp2_with fail
          go_ret2
          exact ⟨by rw [HQ.out]; rfl, rfl⟩
end Go.Proofs.YtecdfnpbcabdnaaGreatDoor
