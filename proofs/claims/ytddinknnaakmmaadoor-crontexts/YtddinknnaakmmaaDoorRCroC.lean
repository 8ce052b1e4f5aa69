/- The document's answer: Text; and the statement CronTexts: the walk of her Go text. -/
import Derived.Test.YtddinknnaakmmaaDoorRCroB
import Derived.ProofKit
import Derived.OpenShut
namespace Go.Proofs.YtddinknnaakmmaaDoor
open Go.RowKit Go.Deep

theorem fieldT_114 {c : Cr} (h : ∀ i, i < 5 → OkSet (c.get i) (lowN i) (highN i)) (i : Nat) (hi : i < 5) : (fieldT (c.get i) (lowN i) (highN i)).length ≤ 114 := by
  have := fieldT_len (h i hi) (by rcases (show i = 0 ∨ i = 1 ∨ i = 2 ∨ i = 3 ∨ i = 4 by omega) with rfl | rfl | rfl | rfl | rfl <;> decide)
  generalize (fieldT (c.get i) (lowN i) (highN i)).length = L at *
  rcases (show i = 0 ∨ i = 1 ∨ i = 2 ∨ i = 3 ∨ i = 4 by omega) with rfl | rfl | rfl | rfl | rfl
  all_goals
    simp [lowN, highN, wt] at this
    omega
theorem fldsT_ne (c : Cr) (i : Nat) (h : 1 ≤ i) : fldsT c i ≠ [] := fun e => by
  have := fldsT_len c i
  rw [e] at this
  simp at this
  omega
theorem joinF_succ (c : Cr) (i : Nat) (h : 1 ≤ i) : Lib.join (fldsT c (i + 1)) [32] = Lib.join (fldsT c i) [32] ++ ([32] ++ fieldT (c.get i) (lowN i) (highN i)) := by
  rw [fldsT_succ, join_snoc _ _ _ (fldsT_ne c i h)]
theorem joinF_len {c : Cr} (h : ∀ i, i < 5 → OkSet (c.get i) (lowN i) (highN i)) (i : Nat) (hi : i ≤ 5) : (Lib.join (fldsT c i) [32]).length ≤ 600 := by
  have := join_len (fldsT c i) [32] 114 1 (fun x hx => by
    unfold fldsT at hx
    obtain ⟨j, hj, rfl⟩ := List.mem_map.1 hx
    exact fieldT_114 h j (by have := List.mem_range.1 hj; omega)) (by simp)
  rw [fldsT_len] at this
  omega
set_option maxRecDepth 20000 in
set_option maxHeartbeats 4000000 in
theorem rText_any (c : Cr) (fc : c.Fits) (w : World) :
    Calls Tryd.prog 13 #[cronV c] w (TextPost c w) := by
  obtain ⟨cb, l0⟩ := one_box w 25 (u5 c.a c.b c.c c.d c.e)
  have hfm := fun wx => rFormed_any c fc wx
  obtain ⟨o0, o1, o2, o3, o4, _⟩ := cb.five
  cases hc : cfB c with
  | false =>
    have hv : textV c = .tuple #[.string ⟨#[]⟩, .int .i64 1] := if_neg (by rw [hc]; decide)
    have HV : Hid _ := hv
    have HC : Hid _ := hc
    have HF : Hid _ := hfm
    clear hv hc hfm
    go_enter Tryd.func13, Tryd.ntmps13
    go_wp2_with fail
    refine (HF.out _).mono ?_
    rintro e w1 ⟨rfl, hb1⟩
    rw [HC.out]
    go_wp2_with fail
    go_ret2
    exact ⟨by rw [HV.out]; rfl, l0.trans (hb1.mono l0.size)⟩
  | true =>
    have hv : textV c = .tuple #[strV (textL c.get), .int .i64 0] := if_pos hc
    have hset := cfB_set fc hc
    have hs := Sets_any c
    have hto := fun i hi => told_any (c.get i) i hi (hset i hi)
    have hjs := joinF_succ c
    have hjl := fun i hi => joinF_len hset i hi
    have hfl := fun i hi => fieldT_114 hset i hi
    have hj5 := fldsT_join c
    have hj1 : Lib.join (fldsT c 1) [32] = fieldT (c.get 0) (lowN 0) (highN 0) := by
      rw [show fldsT c 1 = [fieldT (c.get 0) (lowN 0) (highN 0)] from rfl, Lib.join_one]
    have hto0 := hto 0 (by omega)
    rw [← hj1] at hto0
    have HV : Hid _ := hv
    have HC : Hid _ := hc
    have HF : Hid _ := hfm
    have HTO : Hid _ := hto
    have HTO0 : Hid _ := hto0
    have HJS : Hid _ := hjs
    have HJL : Hid _ := hjl
    have HFL : Hid _ := hfl
    have HJ5 : Hid _ := hj5
    clear hv hc hfm hset hto hjs hjl hfl hj5 hj1 hto0
    go_enter Tryd.func13, Tryd.ntmps13
    go_wp2_with fail
    refine (HF.out _).mono ?_
    rintro e w1 ⟨rfl, hb1⟩
    rw [HC.out]
    have bl1 := l0.trans (hb1.mono l0.size)
    have cb1 := cb.next hb1
    clear o0 o1 o2 o3 o4 hb1 cb l0
    obtain ⟨o0, o1, o2, o3, o4, _⟩ := cb1.five
    go_wp2_with fail
    refine (hs _).mono ?_
    rintro e w2 ⟨rfl, hb2⟩
    obtain ⟨rb, l2⟩ := one_box w2 39 (u5 c.a c.b c.c c.d c.e)
    have bl2 := bl1.trans (hb2.mono bl1.size)
    have bl := bl2.trans (l2.mono bl2.size)
    have hc0 := rb.get 0 (by omega)
    clear o0 o1 o2 o3 o4 hb2 cb1 bl1 bl2 l2 hs
    go_wp2_with fail
    have hcell := fun i hi => rb.get i hi
    have HCE : Hid _ := hcell
    clear rb hcell
    refine (HTO0.out _).mono ?_
    rintro e w3 ⟨rfl, hw3⟩
    subst hw3
    generalize (w2.alloc (Obj.cells (u5 c.a c.b c.c c.d c.e).toArray 39)) = W at *
    clear hc0
    go_wp2_with fail
    go_loopw [5, 6] (fun p q wr => ∃ i : Nat, p = strV (Lib.join (fldsT c i) [32]) ∧ q = .int .i64 i ∧ 1 ≤ i ∧ i ≤ 5 ∧ W = wr) (fun _ q _ => (5 - intOf q).toNat)
    case atStart => exact ⟨1, rfl, rfl, Nat.le_refl _, by decide, rfl⟩
    case round =>
      obtain ⟨i, rfl, rfl, hi1, hi5, rfl⟩ := hrel
      by_cases hlt : i < 5
      · have k1 : (i : Int) < 5 := by omega
        have hcl := HCE.out i hlt
        have hto := HTO.out i hlt
        have hjs := HJS.out i hi1
        have l1 := HJL.out i hi5
        have l2 := HFL.out i hlt
        have s1 := fun wx => add_str [32] (fieldT (c.get i) (lowN i) (highN i)) (by simp) (by omega) wx
        have s2 := fun wx => add_str (Lib.join (fldsT c i) [32]) ([32] ++ fieldT (c.get i) (lowN i) (highN i)) (by omega) (by simp; omega) wx
        have HT2 : Hid _ := hto
        have HX : Hid _ := hjs
        clear hto hjs HTO HTO0 HJS HJL HFL HCE
        generalize Lib.join (fldsT c i) [32] ++ ([32] ++ fieldT (c.get i) (lowN i) (highN i)) = tz at *
        generalize [32] ++ fieldT (c.get i) (lowN i) (highN i) = ty at *
        generalize fieldT (c.get i) (lowN i) (highN i) = tx at *
        generalize Lib.join (fldsT c i) [32] = tw at *
        generalize c.get i = S at *
        go_wp2_with fail
        refine (HT2.out _).mono ?_
        rintro e w4 ⟨rfl, rfl⟩
        go_wp2_with fail
        exact ⟨⟨i + 1, by rw [HX.out], by go_num, by omega, by omega, trivial⟩, by simp [intOf]; omega⟩
      · obtain rfl : i = 5 := by omega
        rw [HJ5.out]
        go_wp2_with fail
        go_ret2
        exact ⟨by rw [HV.out]; rfl, bl⟩
set_option maxRecDepth 20000 in
set_option maxHeartbeats 4000000 in
theorem cronTexts_walk (c : Cr) (fc : c.Fits) (w : World) (hF : FldAt w) (hT : TzAt w) :
    Calls Tryd.prog 4 #[cronV c] w fun e w' => e = .returned (.bool true) ∧ Below w.heap.size w w' := by
  obtain ⟨cb, bl⟩ := one_box w 25 (u5 c.a c.b c.c c.d c.e)
  replace hF := hF.later bl
  replace hT := hT.later bl
  have ht := fun wx h1 h2 => Text_any c fc wx h1 h2
  have hrt := fun wx => rText_any c fc wx
  have hf := fun wx h1 => Formed_any c fc wx h1
  have hrf := fun wx => rFormed_any c fc wx
  unfold TextPost at ht hrt
  unfold FormedPost at hf hrf
  obtain ⟨tx, en, hv, hl⟩ : ∃ (x : List UInt8) (n : Int), textV c = .tuple #[strV x, .int .i64 n] ∧ True := by
    unfold textV
    split
    · exact ⟨_, _, rfl, trivial⟩
    · exact ⟨[], 1, rfl, trivial⟩
  rw [hv] at ht hrt
  have HT : Hid _ := ht
  have HRT : Hid _ := hrt
  clear ht hrt hv hl
  generalize cfB c = b at *
  obtain ⟨o0, o1, o2, o3, o4, _⟩ := cb.five
  go_enter Tryd.func4, Tryd.ntmps4
  go_wp2_with fail
  refine (awake_any _ hF hT).mono ?_
  rintro e w1 ⟨rfl, hb⟩
  replace hF := hF.later hb
  replace hT := hT.later hb
  replace cb := cb.next hb
  replace bl := bl.trans (hb.mono bl.size)
  clear hb o0 o1 o2 o3 o4
  obtain ⟨o0, o1, o2, o3, o4, _⟩ := cb.five
  go_wp2_with fail
  refine (HT.out _ hF hT).mono ?_
  rintro e w2 ⟨rfl, hb⟩
  replace hF := hF.later hb
  replace cb := cb.next hb
  replace bl := bl.trans (hb.mono bl.size)
  clear hb o0 o1 o2 o3 o4 hT
  obtain ⟨o0, o1, o2, o3, o4, _⟩ := cb.five
  go_wp2_with fail
  refine (HRT.out _).mono ?_
  rintro e w3 ⟨rfl, hb⟩
  replace hF := hF.later hb
  replace cb := cb.next hb
  replace bl := bl.trans (hb.mono bl.size)
  clear hb o0 o1 o2 o3 o4
  have lq := bl.drew
  have hF1 : FldAt w3.drew := hF.later ((Below.refl _ _).drew)
  obtain ⟨o0, o1, o2, o3, o4, _⟩ := cb.five
  go_wp2_with fail
  go_region_with (first
    | (go_at_call 14; refine (hf _ ?_).mono ?_; exact hF1; rintro e w4 ⟨rfl, hb4⟩; have cb := cb.next ((Below.refl _ _).drew.trans hb4); obtain ⟨x0, x1, x2, x3, x4, _⟩ := cb.five; have lq := lq.trans (hb4.mono lq.size); have hF1 := hF1.later hb4; clear hb4)
    | (go_at_call 15; refine (hrf _).mono ?_; rintro e w5 ⟨rfl, hb5⟩; first | (have cb := cb.next hb5; obtain ⟨x0, x1, x2, x3, x4, _⟩ := cb.five; have lq := lq.trans (hb5.mono lq.size); have hF1 := hF1.later hb5; clear hb5) | (have cb := cb.next ((Below.refl _ _).drew.trans hb5); obtain ⟨x0, x1, x2, x3, x4, _⟩ := cb.five; have lq := lq.trans (hb5.mono lq.size); have hF1 := hF1.later hb5; clear hb5)))
  all_goals
    go_wp2_with fail
    go_ret
    first | exact ⟨rfl, lq⟩ | (cases b <;> exact ⟨rfl, lq⟩)
end Go.Proofs.YtddinknnaakmmaaDoor
