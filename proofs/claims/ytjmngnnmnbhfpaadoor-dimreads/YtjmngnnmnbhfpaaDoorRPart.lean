/- The document's part (package capstanref02): a factor as it is read. -/
import Derived.Test.YtjmngnnmnbhfpaaDoorRFind
import Derived.Test.YtjmngnnmnbhfpaaDoorUpTo
namespace Go.Proofs.YtjmngnnmnbhfpaaDoor
open Go.RowKit

/-- What a factor at n is: where it is wrong; or the name's place, how often, and the byte behind it. -/
def facK (l : List UInt8) (n : Nat) : Except Nat (Nat × Nat × Nat) :=
  match findI (word letterB l n) with
  | none => .error n
  | some k =>
    if runEnd letterB l n = l.length ∨ bt l (runEnd letterB l n) ≠ 94 then .ok (k, 1, runEnd letterB l n)
    else match numS (word digitB l (runEnd letterB l n + 1)) with
      | none => .error (runEnd letterB l n + 1)
      | some c => .ok (k, c, runEnd digitB l (runEnd letterB l n + 1))
def toFac : Except Nat (Nat × Nat × Nat) → Except Nat (U5 × Nat × Nat)
  | .error p => .error p
  | .ok (k, c, f) => .ok (unitOf k, c, f)
theorem facS_K (l : List UInt8) (n : Nat) : facS l n = toFac (facK l n) := by
  unfold facS facK
  rw [findS_I]
  cases findI (word letterB l n) with
  | none => rfl
  | some k =>
    simp only [Option.map_some]
    split
    · rfl
    · cases numS (word digitB l (runEnd letterB l n + 1)) <;> rfl
theorem facK_lt (l : List UInt8) (n k c f : Nat) (h : facK l n = .ok (k, c, f)) : k < 18 := by
  unfold facK at h
  split at h
  · cases h
  · rename_i j hj
    have := findI_lt _ _ hj
    split at h
    · cases h; exact this
    · split at h
      · cases h
      · cases h; exact this
def facKV (n : Nat) : Except Nat (Nat × Nat × Nat) → Value
  | .error p => .tuple #[.agg #[.int .i64 0, .int .i64 0, .int .i64 0, .int .i64 0], .int .i64 p, .bool false]
  | .ok (k, c, f) => .tuple #[.agg #[.int .i64 k, .int .i64 c, .int .i64 n, .int .i64 f], .int .i64 0, .bool true]
theorem Box.four {w : World} {g : Nat} {v0 v1 v2 v3 : Value} (h : Box w g [v0, v1, v2, v3]) : w.cell? ⟨g, 0, none⟩ = some v0 ∧ w.cell? ⟨g, 1, none⟩ = some v1 ∧ w.cell? ⟨g, 2, none⟩ = some v2 ∧ w.cell? ⟨g, 3, none⟩ = some v3 ∧ w.frozen? ⟨g, 0, none⟩ = false ∧ w.frozen? ⟨g, 1, none⟩ = false ∧ w.frozen? ⟨g, 2, none⟩ = false ∧ w.frozen? ⟨g, 3, none⟩ = false :=
  ⟨h.cell 0 _ rfl, h.cell 1 _ rfl, h.cell 2 _ rfl, h.cell 3 _ rfl, h.free 0 (by simp), h.free 1 (by simp), h.free 2 (by simp), h.free 3 (by simp)⟩
theorem below_four {s q : Nat} {w w' : World} (h : Below s w w') (hq : s ≤ q) (v0 v1 v2 v3 : Value) : Below s w ((((w'.setCell ⟨q, 0, none⟩ v0).setCell ⟨q, 1, none⟩ v1).setCell ⟨q, 2, none⟩ v2).setCell ⟨q, 3, none⟩ v3) :=
  (((h.setCell hq _).setCell hq _).setCell hq _).setCell hq _
/-- What the first m bytes of a run of digits count. -/
theorem dec_take (l : List UInt8) (m : Nat) (h : m < l.length) : decV (l.take (m + 1)) = decV (l.take m) * 10 + ((l.getD m 0).toNat - 48) := by
  unfold decV
  rw [List.take_succ_eq_append_getElem h, List.foldl_append, List.getD_eq_getElem?_getD, List.getElem?_eq_getElem h]
  rfl

theorem word_bt (p : Int → Bool) (l : List UInt8) (n j : Nat) (h : j < (word p l n).length) : bt (word p l n) j = bt l (n + j) := by
  have e : word p l n = (l.drop n).take (word p l n).length := List.prefix_iff_eq_take.1 (List.takeWhile_prefix _)
  unfold bt
  rw [List.getD_eq_getElem?_getD, List.getD_eq_getElem?_getD, e, List.getElem?_take, if_pos h, List.getElem?_drop]
theorem digit_bt (l : List UInt8) (h : ∀ b ∈ l, digitB b.toNat = true) (j : Nat) (hj : j < l.length) : 48 ≤ bt l j ∧ bt l j ≤ 57 := by
  have hb := h l[j] (List.getElem_mem hj)
  unfold digitB at hb
  simp only [Bool.and_eq_true, decide_eq_true_eq] at hb
  unfold bt
  rw [List.getD_eq_getElem?_getD, List.getElem?_eq_getElem hj]
  exact hb
theorem dec_step (l : List UInt8) (h : ∀ b ∈ l, digitB b.toNat = true) (m : Nat) (hm : m < l.length) : ((decV (l.take (m + 1)) : Nat) : Int) = 10 * (decV (l.take m) : Nat) + (bt l m - 48) := by
  have hb := digit_bt l h m hm
  rw [dec_take l m hm]
  unfold bt at hb ⊢
  omega
theorem dec_small (l : List UInt8) (h : ∀ b ∈ l, digitB b.toNat = true) (m : Nat) (hl : l.length ≤ 3) : decV (l.take m) ≤ 1000 := by
  have := decV_le (l.take m) 0 fun b hb => h b (List.mem_of_mem_take hb)
  have e : 10 ^ (l.take m).length ≤ 10 ^ 3 := Nat.pow_le_pow_right (by decide) (by rw [List.length_take]; omega)
  unfold decV
  omega
set_option maxHeartbeats 4000000 in
theorem part_any (s : ByteArray) (l : List UInt8) (n : Nat) (hl : s.data.toList = l) (hn : n ≤ s.size) (hz : s.size ≤ 64) (w : World) :
    Calls Tryd.prog 22 #[.string s, .int .i64 n] w fun e w' => e = .returned (facKV n (facK l n)) ∧ Below w.heap.size w w' := by
  have hs : l.length = s.size := by rw [← hl]; rfl
  obtain ⟨ob, l0⟩ := one_box w 49 [.int .i64 0, .int .i64 0, .int .i64 0, .int .i64 0]
  have r1 := runEnd_le letterB l n (by omega)
  have hw := word_cut letterB s l hl n
  have i1 : (n : Int) ≤ (runEnd letterB l n : Nat) := by omega
  have i2 : ((runEnd letterB l n : Nat) : Int) ≤ (s.size : Int) := by omega
  have FS0 : facK l n = facK l n := rfl
  conv at FS0 => rhs; unfold facK
  have FSQ : Hid _ := FS0
  clear FS0
  have hrun := fun w => upTo_letter s l n hl hn (by omega) w
  have hfind := fun wx => rFind_any (s.extract n (runEnd letterB l n)) _ hw wx
  generalize hE : runEnd letterB l n = E at *
  cases hf : findI (word letterB l n) with
  | none =>
    have e1 : facK l n = .error n := by rw [FSQ.out, hf]
    have E1 : Hid _ := e1
    rw [hf] at hfind
    simp only [placeI] at hfind
    clear e1 FSQ hf hw hE
    go_enter Tryd.func22, Tryd.ntmps22
    go_wp2_with fail
    refine (hrun _).mono ?_
    rintro e w0 ⟨rfl, rfl⟩
    go_wp2_with fail
    refine (hfind _).mono ?_
    rintro e w1 ⟨rfl, hb1⟩
    have ox := ob.next hb1
    obtain ⟨o0, o1, o2, o3, g0, g1, g2, g3⟩ := ox.four
    have bl2 := l0.trans (hb1.mono l0.size)
    clear ob ox hb1
    go_wp2_with fail
    refine bodyPost_ret (v := facKV n (.error n)) (by simp [results, Tryd.results22, go_sem, facKV, o0, o1, o2, o3]) rfl ⟨by rw [E1.out], ?_⟩
    exact below_four bl2 (Nat.le_refl _) _ _ _ _
  | some k =>
    have hk18 := findI_lt _ _ hf
    rw [hf] at hfind
    simp only [placeI] at hfind
    clear hw
    by_cases hA : E = l.length ∨ bt l E ≠ 94
    · have e1 : facK l n = .ok (k, 1, E) := by rw [FSQ.out, hf]; exact if_pos hA
      have E1 : Hid _ := e1
      clear e1 FSQ hf hE
      by_cases hA1 : E = l.length
      · have k1 : ((E : Int) == (s.size : Int)) = true := by rw [beq_iff_eq]; omega
        clear hA hA1
        go_enter Tryd.func22, Tryd.ntmps22
        go_wp2_with fail
        refine (hrun _).mono ?_
        rintro e w0 ⟨rfl, rfl⟩
        go_wp2_with fail
        refine (hfind _).mono ?_
        rintro e w1 ⟨rfl, hb1⟩
        have ox := ob.next hb1
        obtain ⟨o0, o1, o2, o3, g0, g1, g2, g3⟩ := ox.four
        have bl2 := l0.trans (hb1.mono l0.size)
        clear ob ox hb1
        go_wp2_with fail
        refine bodyPost_ret (v := facKV n (.ok (k, 1, E))) (by simp [results, Tryd.results22, go_sem, facKV, o0, o1, o2, o3]) rfl ⟨by rw [E1.out], ?_⟩
        exact below_four bl2 (Nat.le_refl _) _ _ _ _
      · have k1 : ((E : Int) == (s.size : Int)) = false := beq_eq_false_iff_ne.2 (by omega)
        have k2 : (E : Int) < (s.size : Int) := by omega
        have k3 : E < s.size := by omega
        have hg := bt_get s E k3
        rw [hl] at hg
        have k4 : (bt l E == 94) = false := beq_eq_false_iff_ne.2 (by rcases hA with h | h; exact absurd h hA1; exact h)
        clear hA hA1
        generalize bt l E = b0 at *
        go_enter Tryd.func22, Tryd.ntmps22
        go_wp2_with fail
        refine (hrun _).mono ?_
        rintro e w0 ⟨rfl, rfl⟩
        go_wp2_with fail
        refine (hfind _).mono ?_
        rintro e w1 ⟨rfl, hb1⟩
        have ox := ob.next hb1
        obtain ⟨o0, o1, o2, o3, g0, g1, g2, g3⟩ := ox.four
        have bl2 := l0.trans (hb1.mono l0.size)
        clear ob ox hb1
        go_wp2_with fail
        refine bodyPost_ret (v := facKV n (.ok (k, 1, E))) (by simp [results, Tryd.results22, go_sem, facKV, o0, o1, o2, o3]) rfl ⟨by rw [E1.out], ?_⟩
        exact below_four bl2 (Nat.le_refl _) _ _ _ _
    · have k1 : ((E : Int) == (s.size : Int)) = false := beq_eq_false_iff_ne.2 (by omega)
      have k2 : (E : Int) < (s.size : Int) := by omega
      have k3 : E < s.size := by omega
      have hg := bt_get s E k3
      rw [hl] at hg
      have k4 : bt l E = 94 := by omega
      rw [k4] at hg
      have rd := runEnd_le digitB l (E + 1) (by omega)
      have hrun2 := fun w => upTo_digit s l (E + 1) hl (by omega) (by omega) w
      have e0 : facK l n = match numS (word digitB l (E + 1)) with
        | none => .error (E + 1)
        | some c => .ok (k, c, runEnd digitB l (E + 1)) := by rw [FSQ.out, hf]; exact if_neg hA
      have hwl : (word digitB l (E + 1)).length = runEnd digitB l (E + 1) - (E + 1) := by rw [word_end]; omega
      have hwb : ∀ j, j < (word digitB l (E + 1)).length → bt (word digitB l (E + 1)) j = bt l (E + 1 + j) := word_bt digitB l (E + 1)
      have hwd := word_all digitB l (E + 1)
      have FSQ : Hid _ := e0
      clear e0 hA hf hE k4
      generalize word digitB l (E + 1) = W at *
      generalize runEnd digitB l (E + 1) = F at *
      have ec : ((E + 1 : Nat) : Int) = (E : Int) + 1 := by omega
      rw [ec] at hrun2
      by_cases c1 : F = E + 1
      · have e1 : facK l n = .error (E + 1) := by rw [FSQ.out, show numS W = none from if_pos (.inl (by omega))]
        have E1 : Hid _ := e1
        have q1 : ((F : Int) == (E : Int) + 1) = true := by rw [beq_iff_eq]; omega
        clear e1 FSQ hwb hwd c1
        go_enter Tryd.func22, Tryd.ntmps22
        go_wp2_with fail
        refine (hrun _).mono ?_
        rintro e w0 ⟨rfl, rfl⟩
        go_wp2_with fail
        refine (hfind _).mono ?_
        rintro e w1 ⟨rfl, hb1⟩
        have ox := ob.next hb1
        have bl2 := l0.trans (hb1.mono l0.size)
        clear ob hb1
        go_wp2_with fail
        refine (hrun2 _).mono ?_
        rintro e w0 ⟨rfl, rfl⟩
        obtain ⟨o0, o1, o2, o3, g0, g1, g2, g3⟩ := ox.four
        clear ox
        go_wp2_with fail
        refine bodyPost_ret (v := facKV n (.error (E + 1))) (by simp [results, Tryd.results22, go_sem, facKV, o0, o1, o2, o3]) rfl ⟨by rw [E1.out], ?_⟩
        exact below_four bl2 (Nat.le_refl _) _ _ _ _
      · have q1 : ((F : Int) == (E : Int) + 1) = false := beq_eq_false_iff_ne.2 (by omega)
        by_cases c2 : E + 1 + 3 < F
        · have e1 : facK l n = .error (E + 1) := by rw [FSQ.out, show numS W = none from if_pos (.inr (.inl (by omega)))]
          have E1 : Hid _ := e1
          have q2 : (E : Int) + 1 + 3 < (F : Int) := by omega
          clear e1 FSQ hwb hwd c1 c2
          go_enter Tryd.func22, Tryd.ntmps22
          go_wp2_with fail
          refine (hrun _).mono ?_
          rintro e w0 ⟨rfl, rfl⟩
          go_wp2_with fail
          refine (hfind _).mono ?_
          rintro e w1 ⟨rfl, hb1⟩
          have ox := ob.next hb1
          have bl2 := l0.trans (hb1.mono l0.size)
          clear ob hb1
          go_wp2_with fail
          refine (hrun2 _).mono ?_
          rintro e w0 ⟨rfl, rfl⟩
          obtain ⟨o0, o1, o2, o3, g0, g1, g2, g3⟩ := ox.four
          clear ox
          go_wp2_with fail
          refine bodyPost_ret (v := facKV n (.error (E + 1))) (by simp [results, Tryd.results22, go_sem, facKV, o0, o1, o2, o3]) rfl ⟨by rw [E1.out], ?_⟩
          exact below_four bl2 (Nat.le_refl _) _ _ _ _
        · have q2 : ¬ (E : Int) + 1 + 3 < (F : Int) := by omega
          have k5 : E + 1 < s.size := by omega
          have k6 : (E : Int) + 1 < (s.size : Int) := by omega
          have hg2 := bt_get s (E + 1) k5
          rw [hl] at hg2
          have hw0 := hwb 0 (by omega)
          rw [Nat.add_zero] at hw0
          by_cases c3 : bt l (E + 1) = 48
          · have e1 : facK l n = .error (E + 1) := by rw [FSQ.out, show numS W = none from if_pos (.inr (.inr (by rw [hw0]; exact c3)))]
            have E1 : Hid _ := e1
            rw [c3] at hg2
            clear e1 FSQ hwb hwd c1 c2 c3 hw0
            go_enter Tryd.func22, Tryd.ntmps22
            go_wp2_with fail
            refine (hrun _).mono ?_
            rintro e w0 ⟨rfl, rfl⟩
            go_wp2_with fail
            refine (hfind _).mono ?_
            rintro e w1 ⟨rfl, hb1⟩
            have ox := ob.next hb1
            have bl2 := l0.trans (hb1.mono l0.size)
            clear ob hb1
            go_wp2_with fail
            refine (hrun2 _).mono ?_
            rintro e w0 ⟨rfl, rfl⟩
            obtain ⟨o0, o1, o2, o3, g0, g1, g2, g3⟩ := ox.four
            clear ox
            go_wp2_with fail
            refine bodyPost_ret (v := facKV n (.error (E + 1))) (by simp [results, Tryd.results22, go_sem, facKV, o0, o1, o2, o3]) rfl ⟨by rw [E1.out], ?_⟩
            exact below_four bl2 (Nat.le_refl _) _ _ _ _
          · have e1 : facK l n = .ok (k, decV W, F) := by rw [FSQ.out, show numS W = some (decV W) from if_neg (by rw [hw0]; omega)]
            have E1 : Hid _ := e1
            have q3 : (bt l (E + 1) == 48) = false := beq_eq_false_iff_ne.2 c3
            have hsm := dec_small W hwd
            have hst := dec_step W hwd
            have hdg := digit_bt W hwd
            have HSM : Hid _ := hsm
            have HST : Hid _ := hst
            have HDG : Hid _ := hdg
            have HWB : Hid _ := hwb
            have HB0 : Hid (bt l (E + 1) = bt l (E + 1)) := rfl
            generalize bt l (E + 1) = b0 at *
            clear e1 FSQ hwb hwd c1 c2 c3 hw0 hsm hst hdg HB0
            go_enter Tryd.func22, Tryd.ntmps22
            go_wp2_with fail
            refine (hrun _).mono ?_
            rintro e w0 ⟨rfl, rfl⟩
            go_wp2_with fail
            refine (hfind _).mono ?_
            rintro e w1 ⟨rfl, hb1⟩
            have ox := ob.next hb1
            have bl2 := l0.trans (hb1.mono l0.size)
            clear ob hb1
            go_wp2_with fail
            refine (hrun2 _).mono ?_
            rintro e w0 ⟨rfl, rfl⟩
            go_wp2_with fail
            go_loopw [11, 12] (fun v j wr => ∃ m : Nat, j = .int .i64 ((E : Int) + 1 + m) ∧ m ≤ W.length ∧ v = .int .i64 (decV (W.take m) : Nat) ∧ w1 = wr) (fun _ j _ => (F - (intOf j).toNat))
            case atStart => exact ⟨0, by simp, Nat.zero_le _, rfl, rfl⟩
            case round =>
              obtain ⟨m, rfl, hm, rfl, rfl⟩ := hrel
              by_cases hlt : m < W.length
              · have k7 : E + 1 + m < s.size := by omega
                have hg3 := bt_get s (E + 1 + m) k7
                rw [hl, ← HWB.out m hlt] at hg3
                have hd := HDG.out m hlt
                have hs1 := HSM.out m (by omega)
                have hst := HST.out m hlt
                have hgi : ∀ wx, (Instr.index 9 (.string s) (.int .i64 ((E : Int) + 1 + (m : Int)))).run Tryd.prog wx = .ok (.int .u8 (bt W m)) wx := fun wx => by
                  rw [run_index_string wx 9 s .i64 _ Tryd.underlying9, dif_pos ⟨by omega, by omega⟩]
                  have e : ((E : Int) + 1 + (m : Int)).toNat = E + 1 + m := by omega
                  simp only [e, hg3]
                have k8 : (E : Int) + 1 + (m : Int) < (F : Int) := by omega
                generalize bt W m = b at *
                generalize decV (W.take m) = D at *
                have HT : Hid _ := hst
                clear hst hg3
                go_wp2_with fail
                exact ⟨⟨m + 1, by go_num, by omega, by rw [HT.out], trivial⟩, by simp [intOf]; omega⟩
              · have hmm : m = W.length := by omega
                have hdv : decV (W.take m) = decV W := by rw [hmm, List.take_length]
                have HDV : Hid _ := hdv
                have k8 : ¬ (E : Int) + 1 + (m : Int) < (F : Int) := by omega
                clear hdv
                generalize decV (W.take m) = D at *
                obtain ⟨o0, o1, o2, o3, g0, g1, g2, g3⟩ := ox.four
                clear ox
                go_wp2_with fail
                refine bodyPost_ret (v := facKV n (.ok (k, D, F))) (by simp [results, Tryd.results22, go_sem, facKV, o0, o1, o2, o3]) rfl ⟨by rw [E1.out, HDV.out], ?_⟩
                exact below_four bl2 (Nat.le_refl _) _ _ _ _
end Go.Proofs.YtjmngnnmnbhfpaaDoor
