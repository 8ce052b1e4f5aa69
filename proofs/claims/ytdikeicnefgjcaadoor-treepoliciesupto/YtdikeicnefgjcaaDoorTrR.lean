/- The document's Text, Arity, own. -/
import Derived.Test.YtdikeicnefgjcaaDoorTrB
import Derived.Test.YtdikeicnefgjcaaDoorTrC
namespace Go.Proofs.YtdikeicnefgjcaaDoor
open Go.RowKit Go.Lib

def chs (b : Bool) : List UInt8 := if b then brk else quo
theorem nin_brk (r : Nat) : nin brk r = (!(decide (r = 91)) && (!(decide (r = 93)) && (!(decide (r = 34)) && !(decide (r = 10))))) := by
  simp only [nin, brk, List.any_cons, List.any_nil, Bool.or_false, Bool.not_or]
  congr 1
  · rw [Bool.eq_iff_iff]; simp; omega
  congr 1
  · rw [Bool.eq_iff_iff]; simp; omega
  congr 1
  · rw [Bool.eq_iff_iff]; simp; omega
  · rw [Bool.eq_iff_iff]; simp; omega
theorem nin_quo (r : Nat) : nin quo r = (!(decide (r = 34)) && !(decide (r = 10))) := by
  simp only [nin, quo, List.any_cons, List.any_nil, Bool.or_false, Bool.not_or]
  congr 1
  · rw [Bool.eq_iff_iff]; simp; omega
  · rw [Bool.eq_iff_iff]; simp; omega
set_option maxHeartbeats 4000000 in
theorem rText_c (s : ByteArray) (br : Bool) (hz : s.size ≤ 1048576) (w : World) : Calls Tryd.prog 61 #[.string s, .bool br] w fun e w' => e = .returned (.bool (txt (chs br) s)) ∧ Below w.heap.size w w' := by
  obtain ⟨r, hr⟩ : ∃ r : Bool, Hid (r = txt (chs br) s) := ⟨_, rfl⟩
  rw [← hr.out]
  unfold txt at hr
  have HP := hid2 (pieces_c s hz w)
  go_enter Tryd.func61, Tryd.ntmps61
  go_wp2_with fail
  refine Calls.mono HP.out ?_
  rintro e w1 ⟨⟨v, rfl, hv⟩, b1⟩
  have B1 := hid2 b1
  generalize (sd 10 11 s (rs s 0)).1 = pl at *
  generalize (sd 10 11 s (rs s 0)).2 = er at *
  clear HP b1
  by_cases he : er = 0
  · rw [if_pos he] at hv
    subst he
    generalize rs s 0 = P at *
    rcases own_box hv with ⟨rfl, h0⟩ | ⟨g, cap, rfl, _, hb⟩
    · have hP : P = [] := List.eq_nil_of_length_eq_zero h0
      subst hP
      have hr2 : r = true := by rw [hr.out]; rfl
      subst hr2
      clear hr hv
      go_wp2_with fail
      refine wp_loop_rounds 1 ?_
      rw [rounds_succ]
      go_wp2_with fail
      go_ret
      exact ⟨rfl, B1.out⟩
    · have HB := hid2 hb
      have bl := hb.lt
      generalize hLn : P.length = ln at *
      have HLn := hid2 hLn
      clear hv hb hLn
      by_cases h64 : ln ≤ 64
      · have h65 : ¬ (64 : Int) < (ln : Int) := by omega
        have hr3 : Hid (r = (P.drop 0).all (fun q => nin (chs br) q.1)) := by show _ = _; rw [hr.out, decide_eq_true h64]; rfl
        clear hr
        go_wp2_with fail
        go_loop [8] (fun s8 => ∃ j : Nat, s8 = .int .i64 (j : Nat) ∧ j ≤ ln ∧ Hid (r = (P.drop j).all (fun q => nin (chs br) q.1))) (fun s8 => ln - (RowKit.intOf s8).toNat)
        case atStart => exact ⟨0, rfl, by omega, hr3⟩
        case round =>
          obtain ⟨j, rfl, hj, HJ⟩ := hrel
          clear hr3
          by_cases hlt : j < ln
          · have hlt2 : (j : Int) < (ln : Int) := by omega
            have hj2 : j < P.length := by have := HLn.out; omega
            have hget : (toI P)[j]? = some (((P[j].1 : Nat) : Int), ((P[j].2 : Nat) : Int)) := by
              show (P.map _)[j]? = _
              rw [List.getElem?_map, List.getElem?_eq_getElem hj2]
              rfl
            have hc : w1.cell? ⟨g, 2 * j, none⟩ = some (.int .i64 ((P[j].1 : Nat) : Int)) := HB.out.cell (2 * j) _ (pcs_get _ _ _ hget).1
            have hR := HJ.out
            rw [List.drop_eq_getElem_cons hj2, List.all_cons] at hR
            rw [Nat.mul_comm] at hc
            generalize P[j].1 = pr at *
            clear HJ hget hj2
            have fin : Hid (nin (chs br) pr = false → r = false) := fun h => by rw [hR, h]; rfl
            have goon : Hid (nin (chs br) pr = true → r = (P.drop (j + 1)).all (fun q => nin (chs br) q.1)) := fun h => by rw [hR, h]; rfl
            clear hR
            have key : Hid (nin (chs br) pr = (!(decide (pr = 34)) && (!(decide (pr = 10)) && (!br || (!(decide (pr = 91)) && !(decide (pr = 93))))))) := by
              show _ = _
              cases br
              · rw [show chs false = quo from rfl, nin_quo]; simp
              · rw [show chs true = brk from rfl, nin_brk, Bool.eq_iff_iff]; simp; omega
            by_cases q1 : pr = 34
            · have e1 : ((pr : Int) == 34) = true := by rw [q1]; rfl
              have hr2 : r = false := fin.out (by rw [key.out, decide_eq_true q1]; rfl)
              subst hr2
              go_wp2_with fail
              go_ret
              exact ⟨rfl, B1.out⟩
            · have e1 : ((pr : Int) == 34) = false := beq_eq_false_iff_ne.2 (by omega)
              by_cases q2 : pr = 10
              · have e2 : ((pr : Int) == 10) = true := by rw [q2]; rfl
                have hr2 : r = false := fin.out (by rw [key.out, decide_eq_true q2]; simp)
                subst hr2
                go_wp2_with fail
                go_ret
                exact ⟨rfl, B1.out⟩
              · have e2 : ((pr : Int) == 10) = false := beq_eq_false_iff_ne.2 (by omega)
                cases br
                · have hr2 := hid2 (goon.out (by rw [key.out, decide_eq_false q1, decide_eq_false q2]; rfl))
                  go_wp2_with fail
                  go_round
                  case rel => exact ⟨j + 1, by go_num, by omega, hr2⟩
                  case measure => simp [RowKit.intOf]; omega
                · by_cases q3 : pr = 91
                  · have e3 : ((pr : Int) == 91) = true := by rw [q3]; rfl
                    have hr2 : r = false := fin.out (by rw [key.out, decide_eq_true q3]; simp)
                    subst hr2
                    go_wp2_with fail
                    go_ret
                    exact ⟨rfl, B1.out⟩
                  · have e3 : ((pr : Int) == 91) = false := beq_eq_false_iff_ne.2 (by omega)
                    by_cases q4 : pr = 93
                    · have e4 : ((pr : Int) == 93) = true := by rw [q4]; rfl
                      have hr2 : r = false := fin.out (by rw [key.out, decide_eq_true q4]; simp)
                      subst hr2
                      go_wp2_with fail
                      go_ret
                      exact ⟨rfl, B1.out⟩
                    · have e4 : ((pr : Int) == 93) = false := beq_eq_false_iff_ne.2 (by omega)
                      have hr2 := hid2 (goon.out (by rw [key.out, decide_eq_false q1, decide_eq_false q2, decide_eq_false q3, decide_eq_false q4]; rfl))
                      go_wp2_with fail
                      go_round
                      case rel => exact ⟨j + 1, by go_num, by omega, hr2⟩
                      case measure => simp [RowKit.intOf]; omega
          · obtain rfl : j = ln := by omega
            have hr3 : r = true := by rw [HJ.out, List.drop_of_length_le (by have := HLn.out; omega)]; rfl
            subst hr3
            clear HJ
            go_wp2_with fail
            go_ret
            exact ⟨rfl, B1.out⟩
      · have h65 : (64 : Int) < (ln : Int) := by omega
        have hr2 : r = false := by rw [hr.out, decide_eq_false h64]; simp
        subst hr2
        clear hr
        go_wp2_with fail
        go_ret
        exact ⟨rfl, B1.out⟩
  · have he2 : (er != 0) = true := by simpa using he
    have hr2 : r = false := by rw [hr.out, decide_eq_false he]; rfl
    rw [if_neg he] at hv
    subst hv hr2
    clear hr
    go_wp2_with fail
    go_ret
    exact ⟨rfl, B1.out⟩
/-- How many parts an expression's kind has. -/
def arI (k : Int) : Nat := if k ≤ 12 then 0 else if k ≤ 17 then 1 else if k ≤ 31 then 2 else 3
theorem arity_c (k : Int) (h1 : 1 ≤ k) (h2 : k ≤ 32) (w : World) : Calls Tryd.prog 34 #[.int .i64 k] w fun e w' => e = .returned (.int .i64 ((arI k : Nat) : Int)) ∧ w' = w := by
  by_cases a : k ≤ 12
  · rw [show arI k = 0 by unfold arI; rw [if_pos a]]
    go_enter Tryd.func34, Tryd.ntmps34
    go_wp2_with fail
    go_ret
    exact ⟨rfl, rfl⟩
  by_cases b : k ≤ 17
  · rw [show arI k = 1 by unfold arI; rw [if_neg a, if_pos b]]
    have a2 : (k == 33) = false := beq_eq_false_iff_ne.2 (by omega)
    have a3 : 13 ≤ k := by omega
    go_enter Tryd.func34, Tryd.ntmps34
    go_wp2_with fail
    go_ret
    exact ⟨rfl, rfl⟩
  have a2 : (k == 33) = false := beq_eq_false_iff_ne.2 (by omega)
  have a3 : (k == 34) = false := beq_eq_false_iff_ne.2 (by omega)
  have a4 : (k == 35) = false := beq_eq_false_iff_ne.2 (by omega)
  have a5 : 13 ≤ k := by omega
  by_cases c : k ≤ 31
  · rw [show arI k = 2 by unfold arI; rw [if_neg a, if_neg b, if_pos c]]
    have a6 : 18 ≤ k := by omega
    go_enter Tryd.func34, Tryd.ntmps34
    go_wp2_with fail
    go_ret
    exact ⟨rfl, rfl⟩
  · rw [show arI k = 3 by unfold arI; rw [if_neg a, if_neg b, if_neg c]]
    have e : k = 32 := by omega
    subst e
    go_enter Tryd.func34, Tryd.ntmps34
    go_wp2_with fail
    go_ret
    exact ⟨rfl, rfl⟩
/-- What own answers. -/
def ownB (k : Int) (s : ByteArray) (n m : Int) : Bool :=
  if k = 1 then decide (0 ≤ n) && (decide (m = 0) && txt brk s)
  else if k = 2 then decide (n = 0) && (decide (m = 0) && isN s)
  else if k = 6 then decide (n = 0) && (decide (m = 0) && txt quo s)
  else if 7 ≤ k ∧ k ≤ 11 then decide (m = 0) && (spanB n && isN s)
  else if k = 12 then decide (0 ≤ m) && (spanB n && isN s)
  else bareB s n m
set_option maxRecDepth 20000 in
theorem own_k1 (t : Tm) (v : Value) (hv : ∃ a n c, v = .slice a n c) (hz : t.text.size ≤ 1048576) (w : World) (hk : t.kind = 1) : Calls Tryd.prog 35 #[tmV t v] w fun e w' => e = .returned (.bool (ownB t.kind t.text t.n t.m)) ∧ Below w.heap.size w w' := by
  obtain ⟨va, vn, vc, rfl⟩ := hv
  have HN : Hid (∀ wx, Calls Tryd.prog 44 #[.string t.text] wx fun e w' => e = .returned (.bool (isN t.text)) ∧ Below wx.heap.size wx w') := fun wx => by rw [names_same]; exact rIsName_c t.text hz wx
  have HB := hid2 (fun wx => rText_c t.text true hz wx)
  have HQ := hid2 (fun wx => rText_c t.text false hz wx)
  have A : ∀ o, Below w.heap.size w (w.alloc o) := fun o => (Below.refl _ _).alloc (Nat.le_refl _) _
  have HA := hid2 A
  clear hz A
  obtain ⟨r, hr⟩ : ∃ r : Bool, Hid (r = ownB t.kind t.text t.n t.m) := ⟨_, rfl⟩
  rw [← hr.out]
  have hr2 := hr.out
  unfold ownB at hr2
  obtain ⟨k, s, n, m, pl, ps⟩ := t
  simp only at hk hr2 HN HB HQ ⊢
  subst hk
  clear hr
  simp only [Int.reduceEq, if_true, if_false] at hr2
  have HR := hid2 hr2
  clear hr2
  go_enter Tryd.func35, Tryd.ntmps35
  go_wp2_with (first | (go_at_call 61; refine Calls.mono (HB.out _) ?_; rintro e w1 ⟨rfl, b1⟩) | (go_at_call 44; refine Calls.mono (HN.out _) ?_; rintro e w1 ⟨rfl, b1⟩))
  all_goals go_ret
  all_goals refine ⟨ret_bool ?_, by first | exact HA.out _ | exact below_on (HA.out _) b1 (by simp)⟩
  all_goals rw [HR.out]
  all_goals first | (simp [*, chs]; done) | (simp [*]; omega)
set_option maxRecDepth 20000 in
theorem own_k2 (t : Tm) (v : Value) (hv : ∃ a n c, v = .slice a n c) (hz : t.text.size ≤ 1048576) (w : World) (hk : t.kind = 2) : Calls Tryd.prog 35 #[tmV t v] w fun e w' => e = .returned (.bool (ownB t.kind t.text t.n t.m)) ∧ Below w.heap.size w w' := by
  obtain ⟨va, vn, vc, rfl⟩ := hv
  have HN : Hid (∀ wx, Calls Tryd.prog 44 #[.string t.text] wx fun e w' => e = .returned (.bool (isN t.text)) ∧ Below wx.heap.size wx w') := fun wx => by rw [names_same]; exact rIsName_c t.text hz wx
  have HB := hid2 (fun wx => rText_c t.text true hz wx)
  have HQ := hid2 (fun wx => rText_c t.text false hz wx)
  have A : ∀ o, Below w.heap.size w (w.alloc o) := fun o => (Below.refl _ _).alloc (Nat.le_refl _) _
  have HA := hid2 A
  clear hz A
  obtain ⟨r, hr⟩ : ∃ r : Bool, Hid (r = ownB t.kind t.text t.n t.m) := ⟨_, rfl⟩
  rw [← hr.out]
  have hr2 := hr.out
  unfold ownB at hr2
  obtain ⟨k, s, n, m, pl, ps⟩ := t
  simp only at hk hr2 HN HB HQ ⊢
  subst hk
  clear hr
  simp only [Int.reduceEq, if_true, if_false] at hr2
  have HR := hid2 hr2
  clear hr2
  go_enter Tryd.func35, Tryd.ntmps35
  go_wp2_with (first | (go_at_call 61; refine Calls.mono (HB.out _) ?_; rintro e w1 ⟨rfl, b1⟩) | (go_at_call 44; refine Calls.mono (HN.out _) ?_; rintro e w1 ⟨rfl, b1⟩))
  all_goals go_ret
  all_goals refine ⟨ret_bool ?_, by first | exact HA.out _ | exact below_on (HA.out _) b1 (by simp)⟩
  all_goals rw [HR.out]
  all_goals first | (simp [*]; done) | (simp [*]; omega)
set_option maxRecDepth 20000 in
theorem own_k6 (t : Tm) (v : Value) (hv : ∃ a n c, v = .slice a n c) (hz : t.text.size ≤ 1048576) (w : World) (hk : t.kind = 6) : Calls Tryd.prog 35 #[tmV t v] w fun e w' => e = .returned (.bool (ownB t.kind t.text t.n t.m)) ∧ Below w.heap.size w w' := by
  obtain ⟨va, vn, vc, rfl⟩ := hv
  have HN : Hid (∀ wx, Calls Tryd.prog 44 #[.string t.text] wx fun e w' => e = .returned (.bool (isN t.text)) ∧ Below wx.heap.size wx w') := fun wx => by rw [names_same]; exact rIsName_c t.text hz wx
  have HB := hid2 (fun wx => rText_c t.text true hz wx)
  have HQ := hid2 (fun wx => rText_c t.text false hz wx)
  have A : ∀ o, Below w.heap.size w (w.alloc o) := fun o => (Below.refl _ _).alloc (Nat.le_refl _) _
  have HA := hid2 A
  clear hz A
  obtain ⟨r, hr⟩ : ∃ r : Bool, Hid (r = ownB t.kind t.text t.n t.m) := ⟨_, rfl⟩
  rw [← hr.out]
  have hr2 := hr.out
  unfold ownB at hr2
  obtain ⟨k, s, n, m, pl, ps⟩ := t
  simp only at hk hr2 HN HB HQ ⊢
  subst hk
  clear hr
  simp only [Int.reduceEq, if_true, if_false] at hr2
  have HR := hid2 hr2
  clear hr2
  go_enter Tryd.func35, Tryd.ntmps35
  go_wp2_with (first | (go_at_call 61; refine Calls.mono (HQ.out _) ?_; rintro e w1 ⟨rfl, b1⟩) | (go_at_call 44; refine Calls.mono (HN.out _) ?_; rintro e w1 ⟨rfl, b1⟩))
  all_goals go_ret
  all_goals refine ⟨ret_bool ?_, by first | exact HA.out _ | exact below_on (HA.out _) b1 (by simp)⟩
  all_goals rw [HR.out]
  all_goals first | (simp [*, chs]; done) | (simp [*]; omega)
set_option maxRecDepth 20000 in
theorem own_k7 (t : Tm) (v : Value) (hv : ∃ a n c, v = .slice a n c) (hz : t.text.size ≤ 1048576) (w : World) (hk : t.kind = 7) : Calls Tryd.prog 35 #[tmV t v] w fun e w' => e = .returned (.bool (ownB t.kind t.text t.n t.m)) ∧ Below w.heap.size w w' := by
  obtain ⟨va, vn, vc, rfl⟩ := hv
  have HN : Hid (∀ wx, Calls Tryd.prog 44 #[.string t.text] wx fun e w' => e = .returned (.bool (isN t.text)) ∧ Below wx.heap.size wx w') := fun wx => by rw [names_same]; exact rIsName_c t.text hz wx
  have HB := hid2 (fun wx => rText_c t.text true hz wx)
  have HQ := hid2 (fun wx => rText_c t.text false hz wx)
  have A : ∀ o, Below w.heap.size w (w.alloc o) := fun o => (Below.refl _ _).alloc (Nat.le_refl _) _
  have HA := hid2 A
  clear hz A
  obtain ⟨r, hr⟩ : ∃ r : Bool, Hid (r = ownB t.kind t.text t.n t.m) := ⟨_, rfl⟩
  rw [← hr.out]
  have hr2 := hr.out
  unfold ownB at hr2
  obtain ⟨k, s, n, m, pl, ps⟩ := t
  simp only at hk hr2 HN HB HQ ⊢
  subst hk
  clear hr HB HQ
  simp only [Int.reduceEq, Int.reduceLE, if_true, if_false, and_self] at hr2
  generalize isN s = q at *
  have HR := hid2 hr2
  clear hr2
  go_enter Tryd.func35, Tryd.ntmps35
  go_wp2_with fail
  refine Calls.mono (HN.out _) ?_
  rintro e w1 ⟨rfl, b1⟩
  have Y := (Box.new w [.int .i64 7, .string s, .int .i64 n, .int .i64 m, .int .i64 pl, .slice va vn vc] 24).next b1
  have k2 := Y.cell 2 _ rfl
  have k3 := Y.cell 3 _ rfl
  have B1 := hid2 (below_on (HA.out _) b1 (by simp))
  clear b1 Y HN HA
  cases q
  · go_wp2_with fail
    go_ret
    exact ⟨ret_bool (by rw [HR.out]; simp), B1.out⟩
  · go_wp2_with fail
    all_goals go_ret
    all_goals refine ⟨ret_bool ?_, B1.out⟩
    all_goals rw [HR.out]
    all_goals refine Bool.eq_iff_iff.2 ?_
    all_goals simp only [spanB, Bool.and_eq_true, decide_eq_true_eq, beq_iff_eq, Bool.false_eq_true, false_iff, not_and, and_true]
    all_goals omega
set_option maxRecDepth 20000 in
theorem own_k8 (t : Tm) (v : Value) (hv : ∃ a n c, v = .slice a n c) (hz : t.text.size ≤ 1048576) (w : World) (hk : t.kind = 8) : Calls Tryd.prog 35 #[tmV t v] w fun e w' => e = .returned (.bool (ownB t.kind t.text t.n t.m)) ∧ Below w.heap.size w w' := by
  obtain ⟨va, vn, vc, rfl⟩ := hv
  have HN : Hid (∀ wx, Calls Tryd.prog 44 #[.string t.text] wx fun e w' => e = .returned (.bool (isN t.text)) ∧ Below wx.heap.size wx w') := fun wx => by rw [names_same]; exact rIsName_c t.text hz wx
  have HB := hid2 (fun wx => rText_c t.text true hz wx)
  have HQ := hid2 (fun wx => rText_c t.text false hz wx)
  have A : ∀ o, Below w.heap.size w (w.alloc o) := fun o => (Below.refl _ _).alloc (Nat.le_refl _) _
  have HA := hid2 A
  clear hz A
  obtain ⟨r, hr⟩ : ∃ r : Bool, Hid (r = ownB t.kind t.text t.n t.m) := ⟨_, rfl⟩
  rw [← hr.out]
  have hr2 := hr.out
  unfold ownB at hr2
  obtain ⟨k, s, n, m, pl, ps⟩ := t
  simp only at hk hr2 HN HB HQ ⊢
  subst hk
  clear hr HB HQ
  simp only [Int.reduceEq, Int.reduceLE, if_true, if_false, and_self] at hr2
  generalize isN s = q at *
  have HR := hid2 hr2
  clear hr2
  go_enter Tryd.func35, Tryd.ntmps35
  go_wp2_with fail
  refine Calls.mono (HN.out _) ?_
  rintro e w1 ⟨rfl, b1⟩
  have Y := (Box.new w [.int .i64 8, .string s, .int .i64 n, .int .i64 m, .int .i64 pl, .slice va vn vc] 24).next b1
  have k2 := Y.cell 2 _ rfl
  have k3 := Y.cell 3 _ rfl
  have B1 := hid2 (below_on (HA.out _) b1 (by simp))
  clear b1 Y HN HA
  cases q
  · go_wp2_with fail
    go_ret
    exact ⟨ret_bool (by rw [HR.out]; simp), B1.out⟩
  · go_wp2_with fail
    all_goals go_ret
    all_goals refine ⟨ret_bool ?_, B1.out⟩
    all_goals rw [HR.out]
    all_goals refine Bool.eq_iff_iff.2 ?_
    all_goals simp only [spanB, Bool.and_eq_true, decide_eq_true_eq, beq_iff_eq, Bool.false_eq_true, false_iff, not_and, and_true]
    all_goals omega
set_option maxRecDepth 20000 in
theorem own_k9 (t : Tm) (v : Value) (hv : ∃ a n c, v = .slice a n c) (hz : t.text.size ≤ 1048576) (w : World) (hk : t.kind = 9) : Calls Tryd.prog 35 #[tmV t v] w fun e w' => e = .returned (.bool (ownB t.kind t.text t.n t.m)) ∧ Below w.heap.size w w' := by
  obtain ⟨va, vn, vc, rfl⟩ := hv
  have HN : Hid (∀ wx, Calls Tryd.prog 44 #[.string t.text] wx fun e w' => e = .returned (.bool (isN t.text)) ∧ Below wx.heap.size wx w') := fun wx => by rw [names_same]; exact rIsName_c t.text hz wx
  have HB := hid2 (fun wx => rText_c t.text true hz wx)
  have HQ := hid2 (fun wx => rText_c t.text false hz wx)
  have A : ∀ o, Below w.heap.size w (w.alloc o) := fun o => (Below.refl _ _).alloc (Nat.le_refl _) _
  have HA := hid2 A
  clear hz A
  obtain ⟨r, hr⟩ : ∃ r : Bool, Hid (r = ownB t.kind t.text t.n t.m) := ⟨_, rfl⟩
  rw [← hr.out]
  have hr2 := hr.out
  unfold ownB at hr2
  obtain ⟨k, s, n, m, pl, ps⟩ := t
  simp only at hk hr2 HN HB HQ ⊢
  subst hk
  clear hr HB HQ
  simp only [Int.reduceEq, Int.reduceLE, if_true, if_false, and_self] at hr2
  generalize isN s = q at *
  have HR := hid2 hr2
  clear hr2
  go_enter Tryd.func35, Tryd.ntmps35
  go_wp2_with fail
  refine Calls.mono (HN.out _) ?_
  rintro e w1 ⟨rfl, b1⟩
  have Y := (Box.new w [.int .i64 9, .string s, .int .i64 n, .int .i64 m, .int .i64 pl, .slice va vn vc] 24).next b1
  have k2 := Y.cell 2 _ rfl
  have k3 := Y.cell 3 _ rfl
  have B1 := hid2 (below_on (HA.out _) b1 (by simp))
  clear b1 Y HN HA
  cases q
  · go_wp2_with fail
    go_ret
    exact ⟨ret_bool (by rw [HR.out]; simp), B1.out⟩
  · go_wp2_with fail
    all_goals go_ret
    all_goals refine ⟨ret_bool ?_, B1.out⟩
    all_goals rw [HR.out]
    all_goals refine Bool.eq_iff_iff.2 ?_
    all_goals simp only [spanB, Bool.and_eq_true, decide_eq_true_eq, beq_iff_eq, Bool.false_eq_true, false_iff, not_and, and_true]
    all_goals omega
set_option maxRecDepth 20000 in
theorem own_k10 (t : Tm) (v : Value) (hv : ∃ a n c, v = .slice a n c) (hz : t.text.size ≤ 1048576) (w : World) (hk : t.kind = 10) : Calls Tryd.prog 35 #[tmV t v] w fun e w' => e = .returned (.bool (ownB t.kind t.text t.n t.m)) ∧ Below w.heap.size w w' := by
  obtain ⟨va, vn, vc, rfl⟩ := hv
  have HN : Hid (∀ wx, Calls Tryd.prog 44 #[.string t.text] wx fun e w' => e = .returned (.bool (isN t.text)) ∧ Below wx.heap.size wx w') := fun wx => by rw [names_same]; exact rIsName_c t.text hz wx
  have HB := hid2 (fun wx => rText_c t.text true hz wx)
  have HQ := hid2 (fun wx => rText_c t.text false hz wx)
  have A : ∀ o, Below w.heap.size w (w.alloc o) := fun o => (Below.refl _ _).alloc (Nat.le_refl _) _
  have HA := hid2 A
  clear hz A
  obtain ⟨r, hr⟩ : ∃ r : Bool, Hid (r = ownB t.kind t.text t.n t.m) := ⟨_, rfl⟩
  rw [← hr.out]
  have hr2 := hr.out
  unfold ownB at hr2
  obtain ⟨k, s, n, m, pl, ps⟩ := t
  simp only at hk hr2 HN HB HQ ⊢
  subst hk
  clear hr HB HQ
  simp only [Int.reduceEq, Int.reduceLE, if_true, if_false, and_self] at hr2
  generalize isN s = q at *
  have HR := hid2 hr2
  clear hr2
  go_enter Tryd.func35, Tryd.ntmps35
  go_wp2_with fail
  refine Calls.mono (HN.out _) ?_
  rintro e w1 ⟨rfl, b1⟩
  have Y := (Box.new w [.int .i64 10, .string s, .int .i64 n, .int .i64 m, .int .i64 pl, .slice va vn vc] 24).next b1
  have k2 := Y.cell 2 _ rfl
  have k3 := Y.cell 3 _ rfl
  have B1 := hid2 (below_on (HA.out _) b1 (by simp))
  clear b1 Y HN HA
  cases q
  · go_wp2_with fail
    go_ret
    exact ⟨ret_bool (by rw [HR.out]; simp), B1.out⟩
  · go_wp2_with fail
    all_goals go_ret
    all_goals refine ⟨ret_bool ?_, B1.out⟩
    all_goals rw [HR.out]
    all_goals refine Bool.eq_iff_iff.2 ?_
    all_goals simp only [spanB, Bool.and_eq_true, decide_eq_true_eq, beq_iff_eq, Bool.false_eq_true, false_iff, not_and, and_true]
    all_goals omega
set_option maxRecDepth 20000 in
theorem own_k11 (t : Tm) (v : Value) (hv : ∃ a n c, v = .slice a n c) (hz : t.text.size ≤ 1048576) (w : World) (hk : t.kind = 11) : Calls Tryd.prog 35 #[tmV t v] w fun e w' => e = .returned (.bool (ownB t.kind t.text t.n t.m)) ∧ Below w.heap.size w w' := by
  obtain ⟨va, vn, vc, rfl⟩ := hv
  have HN : Hid (∀ wx, Calls Tryd.prog 44 #[.string t.text] wx fun e w' => e = .returned (.bool (isN t.text)) ∧ Below wx.heap.size wx w') := fun wx => by rw [names_same]; exact rIsName_c t.text hz wx
  have HB := hid2 (fun wx => rText_c t.text true hz wx)
  have HQ := hid2 (fun wx => rText_c t.text false hz wx)
  have A : ∀ o, Below w.heap.size w (w.alloc o) := fun o => (Below.refl _ _).alloc (Nat.le_refl _) _
  have HA := hid2 A
  clear hz A
  obtain ⟨r, hr⟩ : ∃ r : Bool, Hid (r = ownB t.kind t.text t.n t.m) := ⟨_, rfl⟩
  rw [← hr.out]
  have hr2 := hr.out
  unfold ownB at hr2
  obtain ⟨k, s, n, m, pl, ps⟩ := t
  simp only at hk hr2 HN HB HQ ⊢
  subst hk
  clear hr HB HQ
  simp only [Int.reduceEq, Int.reduceLE, if_true, if_false, and_self] at hr2
  generalize isN s = q at *
  have HR := hid2 hr2
  clear hr2
  go_enter Tryd.func35, Tryd.ntmps35
  go_wp2_with fail
  refine Calls.mono (HN.out _) ?_
  rintro e w1 ⟨rfl, b1⟩
  have Y := (Box.new w [.int .i64 11, .string s, .int .i64 n, .int .i64 m, .int .i64 pl, .slice va vn vc] 24).next b1
  have k2 := Y.cell 2 _ rfl
  have k3 := Y.cell 3 _ rfl
  have B1 := hid2 (below_on (HA.out _) b1 (by simp))
  clear b1 Y HN HA
  cases q
  · go_wp2_with fail
    go_ret
    exact ⟨ret_bool (by rw [HR.out]; simp), B1.out⟩
  · go_wp2_with fail
    all_goals go_ret
    all_goals refine ⟨ret_bool ?_, B1.out⟩
    all_goals rw [HR.out]
    all_goals refine Bool.eq_iff_iff.2 ?_
    all_goals simp only [spanB, Bool.and_eq_true, decide_eq_true_eq, beq_iff_eq, Bool.false_eq_true, false_iff, not_and, and_true]
    all_goals omega
set_option maxRecDepth 20000 in
theorem own_k12 (t : Tm) (v : Value) (hv : ∃ a n c, v = .slice a n c) (hz : t.text.size ≤ 1048576) (w : World) (hk : t.kind = 12) : Calls Tryd.prog 35 #[tmV t v] w fun e w' => e = .returned (.bool (ownB t.kind t.text t.n t.m)) ∧ Below w.heap.size w w' := by
  obtain ⟨va, vn, vc, rfl⟩ := hv
  have HN : Hid (∀ wx, Calls Tryd.prog 44 #[.string t.text] wx fun e w' => e = .returned (.bool (isN t.text)) ∧ Below wx.heap.size wx w') := fun wx => by rw [names_same]; exact rIsName_c t.text hz wx
  have HB := hid2 (fun wx => rText_c t.text true hz wx)
  have HQ := hid2 (fun wx => rText_c t.text false hz wx)
  have A : ∀ o, Below w.heap.size w (w.alloc o) := fun o => (Below.refl _ _).alloc (Nat.le_refl _) _
  have HA := hid2 A
  clear hz A
  obtain ⟨r, hr⟩ : ∃ r : Bool, Hid (r = ownB t.kind t.text t.n t.m) := ⟨_, rfl⟩
  rw [← hr.out]
  have hr2 := hr.out
  unfold ownB at hr2
  obtain ⟨k, s, n, m, pl, ps⟩ := t
  simp only at hk hr2 HN HB HQ ⊢
  subst hk
  clear hr HB HQ
  simp only [Int.reduceEq, Int.reduceLE, if_true, if_false, true_and] at hr2
  generalize isN s = q at *
  have HR := hid2 hr2
  clear hr2
  go_enter Tryd.func35, Tryd.ntmps35
  go_wp2_with fail
  refine Calls.mono (HN.out _) ?_
  rintro e w1 ⟨rfl, b1⟩
  have Y := (Box.new w [.int .i64 12, .string s, .int .i64 n, .int .i64 m, .int .i64 pl, .slice va vn vc] 24).next b1
  have k2 := Y.cell 2 _ rfl
  have k3 := Y.cell 3 _ rfl
  have B1 := hid2 (below_on (HA.out _) b1 (by simp))
  clear b1 Y HN HA
  cases q
  · go_wp2_with fail
    go_ret
    exact ⟨ret_bool (by rw [HR.out]; simp), B1.out⟩
  · go_wp2_with fail
    all_goals go_ret
    all_goals refine ⟨ret_bool ?_, B1.out⟩
    all_goals rw [HR.out]
    all_goals refine Bool.eq_iff_iff.2 ?_
    all_goals simp only [spanB, Bool.and_eq_true, decide_eq_true_eq, Bool.false_eq_true, false_iff, not_and, and_true]
    all_goals omega
set_option maxRecDepth 20000 in
theorem own_else (t : Tm) (v : Value) (hv : ∃ a n c, v = .slice a n c) (w : World) (h1 : t.kind ≠ 1) (h2 : t.kind ≠ 2) (h6 : t.kind ≠ 6) (h7 : ¬ (7 ≤ t.kind ∧ t.kind ≤ 12)) : Calls Tryd.prog 35 #[tmV t v] w fun e w' => e = .returned (.bool (ownB t.kind t.text t.n t.m)) ∧ Below w.heap.size w w' := by
  obtain ⟨va, vn, vc, rfl⟩ := hv
  have q1 : (t.kind == 1) = false := beq_eq_false_iff_ne.2 h1
  have q2 : (t.kind == 2) = false := beq_eq_false_iff_ne.2 h2
  have q6 : (t.kind == 6) = false := beq_eq_false_iff_ne.2 h6
  have q7 : (t.kind == 7) = false := beq_eq_false_iff_ne.2 (by omega)
  have q8 : (t.kind == 8) = false := beq_eq_false_iff_ne.2 (by omega)
  have q9 : (t.kind == 9) = false := beq_eq_false_iff_ne.2 (by omega)
  have q10 : (t.kind == 10) = false := beq_eq_false_iff_ne.2 (by omega)
  have q11 : (t.kind == 11) = false := beq_eq_false_iff_ne.2 (by omega)
  have q12 : (t.kind == 12) = false := beq_eq_false_iff_ne.2 (by omega)
  have HL : Hid (ownB t.kind t.text t.n t.m = bareB t.text t.n t.m) := by
    show _ = _
    unfold ownB
    rw [if_neg h1, if_neg h2, if_neg h6, if_neg (by omega), if_neg (by omega)]
  rw [HL.out]
  clear h1 h2 h6 h7
  go_enter Tryd.func35, Tryd.ntmps35
  go_wp2_with fail
  all_goals go_ret
  all_goals refine ⟨ret_bool (Bool.eq_iff_iff.2 ?_), (Below.refl _ _).alloc (Nat.le_refl _) _⟩
  all_goals simp only [bareB, Bool.and_eq_true, decide_eq_true_eq, beq_iff_eq, Bool.false_eq_true, false_iff, not_and]
  all_goals first | omega | (simp [*]; done) | (intro c; simp_all; done)
theorem own_c (t : Tm) (v : Value) (hv : ∃ a n c, v = .slice a n c) (hz : t.text.size ≤ 1048576) (w : World) : Calls Tryd.prog 35 #[tmV t v] w fun e w' => e = .returned (.bool (ownB t.kind t.text t.n t.m)) ∧ Below w.heap.size w w' := by
  by_cases h1 : t.kind = 1
  · exact own_k1 t v hv hz w h1
  by_cases h2 : t.kind = 2
  · exact own_k2 t v hv hz w h2
  by_cases h6 : t.kind = 6
  · exact own_k6 t v hv hz w h6
  by_cases h7 : t.kind = 7
  · exact own_k7 t v hv hz w h7
  by_cases h8 : t.kind = 8
  · exact own_k8 t v hv hz w h8
  by_cases h9 : t.kind = 9
  · exact own_k9 t v hv hz w h9
  by_cases h10 : t.kind = 10
  · exact own_k10 t v hv hz w h10
  by_cases h11 : t.kind = 11
  · exact own_k11 t v hv hz w h11
  by_cases h12 : t.kind = 12
  · exact own_k12 t v hv hz w h12
  exact own_else t v hv w h1 h2 h6 (by omega)
end Go.Proofs.YtdikeicnefgjcaaDoor
