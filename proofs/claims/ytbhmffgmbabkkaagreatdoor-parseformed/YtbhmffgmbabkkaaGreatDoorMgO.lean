/- The document's Text, Arity, own. The document's Formed. The document's Literal. The document's Action. -/
import Derived.Test.YtbhmffgmbabkkaaGreatDoorTrB
import Derived.Test.YtbhmffgmbabkkaaGreatDoorMgL
import Derived.Test.YtbhmffgmbabkkaaGreatDoorMgN
import Derived.Deep.RegionHeld3
section
namespace Go.Proofs.YtbhmffgmbabkkaaGreatDoor
open Go.RowKit Go.Lib

def chs (b : Bool) : List UInt8 := if b then brk else quo
theorem nin_brk (r : Nat) : nin brk r = (!(decide (r = 91)) && (!(decide (r = 93)) && (!(decide (r = 34)) && !(decide (r = 10))))) := by
  simp only [nin, brk, List.any_cons, List.any_nil, Bool.or_false, Bool.not_or]
  congr 1
  · rw [Bool.eq_iff_iff]; simp; omega
  congr 1
  · rw [Bool.eq_iff_iff]; simp; omega
  congr 1
  · rw [Bool.eq_iff_iff]; simp; omega
  · rw [Bool.eq_iff_iff]; simp; omega
theorem nin_quo (r : Nat) : nin quo r = (!(decide (r = 34)) && !(decide (r = 10))) := by
  simp only [nin, quo, List.any_cons, List.any_nil, Bool.or_false, Bool.not_or]
  congr 1
  · rw [Bool.eq_iff_iff]; simp; omega
  · rw [Bool.eq_iff_iff]; simp; omega
set_option maxHeartbeats 4000000 in
theorem rText_c (s : ByteArray) (br : Bool) (hz : s.size ≤ 1048576) (w : World) : Calls Tryz.prog 73 #[.string s, .bool br] w fun e w' => e = .returned (.bool (txt (chs br) s)) ∧ Below w.heap.size w w' := by
  obtain ⟨r, hr⟩ : ∃ r : Bool, Hid (r = txt (chs br) s) := ⟨_, rfl⟩
  rw [← hr.out]
  unfold txt at hr
  have HP := hid2 (pieces_c s hz w)
  go_enter Tryz.func73, Tryz.ntmps73
  go_wp2_with fail
  refine Calls.mono HP.out ?_
  rintro e w1 ⟨⟨v, rfl, hv⟩, b1⟩
  have B1 := hid2 b1
  generalize (sd 10 11 s (rs s 0)).1 = pl at *
  generalize (sd 10 11 s (rs s 0)).2 = er at *
  clear HP b1
  by_cases he : er = 0
  · rw [if_pos he] at hv
    subst he
    generalize rs s 0 = P at *
    rcases own_box hv with ⟨rfl, h0⟩ | ⟨g, cap, rfl, _, hb⟩
    · have hP : P = [] := List.eq_nil_of_length_eq_zero h0
      subst hP
      have hr2 : r = true := by rw [hr.out]; rfl
      subst hr2
      clear hr hv
      go_wp2_with fail
      refine wp_loop_rounds 1 ?_
      rw [rounds_succ]
      go_wp2_with fail
      go_ret
      exact ⟨rfl, B1.out⟩
    · have HB := hid2 hb
      have bl := hb.lt
      generalize hLn : P.length = ln at *
      have HLn := hid2 hLn
      clear hv hb hLn
      by_cases h64 : ln ≤ 64
      · have h65 : ¬ (64 : Int) < (ln : Int) := by omega
        have hr3 : Hid (r = (P.drop 0).all (fun q => nin (chs br) q.1)) := by show _ = _; rw [hr.out, decide_eq_true h64]; rfl
        clear hr
        go_wp2_with fail
        go_loop [8] (fun s8 => ∃ j : Nat, s8 = .int .i64 (j : Nat) ∧ j ≤ ln ∧ Hid (r = (P.drop j).all (fun q => nin (chs br) q.1))) (fun s8 => ln - (RowKit.intOf s8).toNat)
        case atStart => exact ⟨0, rfl, by omega, hr3⟩
        case round =>
          obtain ⟨j, rfl, hj, HJ⟩ := hrel
          clear hr3
          by_cases hlt : j < ln
          · have hlt2 : (j : Int) < (ln : Int) := by omega
            have hj2 : j < P.length := by have := HLn.out; omega
            have hget : (toI P)[j]? = some (((P[j].1 : Nat) : Int), ((P[j].2 : Nat) : Int)) := by
              show (P.map _)[j]? = _
              rw [List.getElem?_map, List.getElem?_eq_getElem hj2]
              rfl
            have hc : w1.cell? ⟨g, 2 * j, none⟩ = some (.int .i64 ((P[j].1 : Nat) : Int)) := HB.out.cell (2 * j) _ (pcs_get _ _ _ hget).1
            have hR := HJ.out
            rw [List.drop_eq_getElem_cons hj2, List.all_cons] at hR
            rw [Nat.mul_comm] at hc
            generalize P[j].1 = pr at *
            clear HJ hget hj2
            have fin : Hid (nin (chs br) pr = false → r = false) := fun h => by rw [hR, h]; rfl
            have goon : Hid (nin (chs br) pr = true → r = (P.drop (j + 1)).all (fun q => nin (chs br) q.1)) := fun h => by rw [hR, h]; rfl
            clear hR
            have key : Hid (nin (chs br) pr = (!(decide (pr = 34)) && (!(decide (pr = 10)) && (!br || (!(decide (pr = 91)) && !(decide (pr = 93))))))) := by
              show _ = _
              cases br
              · rw [show chs false = quo from rfl, nin_quo]; simp
              · rw [show chs true = brk from rfl, nin_brk, Bool.eq_iff_iff]; simp; omega
            by_cases q1 : pr = 34
            · have e1 : ((pr : Int) == 34) = true := by rw [q1]; rfl
              have hr2 : r = false := fin.out (by rw [key.out, decide_eq_true q1]; rfl)
              subst hr2
              go_wp2_with fail
              go_ret
              exact ⟨rfl, B1.out⟩
            · have e1 : ((pr : Int) == 34) = false := beq_eq_false_iff_ne.2 (by omega)
              by_cases q2 : pr = 10
              · have e2 : ((pr : Int) == 10) = true := by rw [q2]; rfl
                have hr2 : r = false := fin.out (by rw [key.out, decide_eq_true q2]; simp)
                subst hr2
                go_wp2_with fail
                go_ret
                exact ⟨rfl, B1.out⟩
              · have e2 : ((pr : Int) == 10) = false := beq_eq_false_iff_ne.2 (by omega)
                cases br
                · have hr2 := hid2 (goon.out (by rw [key.out, decide_eq_false q1, decide_eq_false q2]; rfl))
                  go_wp2_with fail
                  go_round
                  case rel => exact ⟨j + 1, by go_num, by omega, hr2⟩
                  case measure => simp [RowKit.intOf]; omega
                · by_cases q3 : pr = 91
                  · have e3 : ((pr : Int) == 91) = true := by rw [q3]; rfl
                    have hr2 : r = false := fin.out (by rw [key.out, decide_eq_true q3]; simp)
                    subst hr2
                    go_wp2_with fail
                    go_ret
                    exact ⟨rfl, B1.out⟩
                  · have e3 : ((pr : Int) == 91) = false := beq_eq_false_iff_ne.2 (by omega)
                    by_cases q4 : pr = 93
                    · have e4 : ((pr : Int) == 93) = true := by rw [q4]; rfl
                      have hr2 : r = false := fin.out (by rw [key.out, decide_eq_true q4]; simp)
                      subst hr2
                      go_wp2_with fail
                      go_ret
                      exact ⟨rfl, B1.out⟩
                    · have e4 : ((pr : Int) == 93) = false := beq_eq_false_iff_ne.2 (by omega)
                      have hr2 := hid2 (goon.out (by rw [key.out, decide_eq_false q1, decide_eq_false q2, decide_eq_false q3, decide_eq_false q4]; rfl))
                      go_wp2_with fail
                      go_round
                      case rel => exact ⟨j + 1, by go_num, by omega, hr2⟩
                      case measure => simp [RowKit.intOf]; omega
          · obtain rfl : j = ln := by omega
            have hr3 : r = true := by rw [HJ.out, List.drop_of_length_le (by have := HLn.out; omega)]; rfl
            subst hr3
            clear HJ
            go_wp2_with fail
            go_ret
            exact ⟨rfl, B1.out⟩
      · have h65 : (64 : Int) < (ln : Int) := by omega
        have hr2 : r = false := by rw [hr.out, decide_eq_false h64]; simp
        subst hr2
        clear hr
        go_wp2_with fail
        go_ret
        exact ⟨rfl, B1.out⟩
  · have he2 : (er != 0) = true := by simpa using he
    have hr2 : r = false := by rw [hr.out, decide_eq_false he]; rfl
    rw [if_neg he] at hv
    subst hv hr2
    clear hr
    go_wp2_with fail
    go_ret
    exact ⟨rfl, B1.out⟩
/-- How many parts an expression's kind has. -/
def arI (k : Int) : Nat := if k ≤ 12 then 0 else if k ≤ 17 then 1 else if k ≤ 31 then 2 else 3
theorem arity_c (k : Int) (h1 : 1 ≤ k) (h2 : k ≤ 32) (w : World) : Calls Tryz.prog 41 #[.int .i64 k] w fun e w' => e = .returned (.int .i64 ((arI k : Nat) : Int)) ∧ w' = w := by
  by_cases a : k ≤ 12
  · rw [show arI k = 0 by unfold arI; rw [if_pos a]]
    go_enter Tryz.func41, Tryz.ntmps41
    go_wp2_with fail
    go_ret
    exact ⟨rfl, rfl⟩
  by_cases b : k ≤ 17
  · rw [show arI k = 1 by unfold arI; rw [if_neg a, if_pos b]]
    have a2 : (k == 33) = false := beq_eq_false_iff_ne.2 (by omega)
    have a3 : 13 ≤ k := by omega
    go_enter Tryz.func41, Tryz.ntmps41
    go_wp2_with fail
    go_ret
    exact ⟨rfl, rfl⟩
  have a2 : (k == 33) = false := beq_eq_false_iff_ne.2 (by omega)
  have a3 : (k == 34) = false := beq_eq_false_iff_ne.2 (by omega)
  have a4 : (k == 35) = false := beq_eq_false_iff_ne.2 (by omega)
  have a5 : 13 ≤ k := by omega
  by_cases c : k ≤ 31
  · rw [show arI k = 2 by unfold arI; rw [if_neg a, if_neg b, if_pos c]]
    have a6 : 18 ≤ k := by omega
    go_enter Tryz.func41, Tryz.ntmps41
    go_wp2_with fail
    go_ret
    exact ⟨rfl, rfl⟩
  · rw [show arI k = 3 by unfold arI; rw [if_neg a, if_neg b, if_neg c]]
    have e : k = 32 := by omega
    subst e
    go_enter Tryz.func41, Tryz.ntmps41
    go_wp2_with fail
    go_ret
    exact ⟨rfl, rfl⟩
/-- What own answers. -/
def ownB (k : Int) (s : ByteArray) (n m : Int) : Bool :=
  if k = 1 then decide (0 ≤ n) && (decide (m = 0) && txt brk s)
  else if k = 2 then decide (n = 0) && (decide (m = 0) && isN s)
  else if k = 6 then decide (n = 0) && (decide (m = 0) && txt quo s)
  else if 7 ≤ k ∧ k ≤ 11 then decide (m = 0) && (spanB n && isN s)
  else if k = 12 then decide (0 ≤ m) && (spanB n && isN s)
  else bareB s n m
set_option maxRecDepth 20000 in
theorem own_k1 (t : Tm) (v : Value) (hv : ∃ a n c, v = .slice a n c) (hz : t.text.size ≤ 1048576) (w : World) (hk : t.kind = 1) : Calls Tryz.prog 42 #[tmV t v] w fun e w' => e = .returned (.bool (ownB t.kind t.text t.n t.m)) ∧ Below w.heap.size w w' := by
  obtain ⟨va, vn, vc, rfl⟩ := hv
  have HN : Hid (∀ wx, Calls Tryz.prog 43 #[.string t.text] wx fun e w' => e = .returned (.bool (isN t.text)) ∧ Below wx.heap.size wx w') := fun wx => by rw [names_same]; exact rIsName_c t.text hz wx
  have HB := hid2 (fun wx => rText_c t.text true hz wx)
  have HQ := hid2 (fun wx => rText_c t.text false hz wx)
  have A : ∀ o, Below w.heap.size w (w.alloc o) := fun o => (Below.refl _ _).alloc (Nat.le_refl _) _
  have HA := hid2 A
  clear hz A
  obtain ⟨r, hr⟩ : ∃ r : Bool, Hid (r = ownB t.kind t.text t.n t.m) := ⟨_, rfl⟩
  rw [← hr.out]
  have hr2 := hr.out
  unfold ownB at hr2
  obtain ⟨k, s, n, m, pl, ps⟩ := t
  simp only at hk hr2 HN HB HQ ⊢
  subst hk
  clear hr
  simp only [Int.reduceEq, if_true, if_false] at hr2
  have HR := hid2 hr2
  clear hr2
  go_enter Tryz.func42, Tryz.ntmps42
  go_wp2_with (first | (go_at_call 73; refine Calls.mono (HB.out _) ?_; rintro e w1 ⟨rfl, b1⟩) | (go_at_call 43; refine Calls.mono (HN.out _) ?_; rintro e w1 ⟨rfl, b1⟩))
  all_goals go_ret
  all_goals refine ⟨ret_bool ?_, by first | exact HA.out _ | exact below_on (HA.out _) b1 (by simp)⟩
  all_goals rw [HR.out]
  all_goals first | (simp [*, chs]; done) | (simp [*]; omega)
set_option maxRecDepth 20000 in
theorem own_k2 (t : Tm) (v : Value) (hv : ∃ a n c, v = .slice a n c) (hz : t.text.size ≤ 1048576) (w : World) (hk : t.kind = 2) : Calls Tryz.prog 42 #[tmV t v] w fun e w' => e = .returned (.bool (ownB t.kind t.text t.n t.m)) ∧ Below w.heap.size w w' := by
  obtain ⟨va, vn, vc, rfl⟩ := hv
  have HN : Hid (∀ wx, Calls Tryz.prog 43 #[.string t.text] wx fun e w' => e = .returned (.bool (isN t.text)) ∧ Below wx.heap.size wx w') := fun wx => by rw [names_same]; exact rIsName_c t.text hz wx
  have HB := hid2 (fun wx => rText_c t.text true hz wx)
  have HQ := hid2 (fun wx => rText_c t.text false hz wx)
  have A : ∀ o, Below w.heap.size w (w.alloc o) := fun o => (Below.refl _ _).alloc (Nat.le_refl _) _
  have HA := hid2 A
  clear hz A
  obtain ⟨r, hr⟩ : ∃ r : Bool, Hid (r = ownB t.kind t.text t.n t.m) := ⟨_, rfl⟩
  rw [← hr.out]
  have hr2 := hr.out
  unfold ownB at hr2
  obtain ⟨k, s, n, m, pl, ps⟩ := t
  simp only at hk hr2 HN HB HQ ⊢
  subst hk
  clear hr
  simp only [Int.reduceEq, if_true, if_false] at hr2
  have HR := hid2 hr2
  clear hr2
  go_enter Tryz.func42, Tryz.ntmps42
  go_wp2_with (first | (go_at_call 73; refine Calls.mono (HB.out _) ?_; rintro e w1 ⟨rfl, b1⟩) | (go_at_call 43; refine Calls.mono (HN.out _) ?_; rintro e w1 ⟨rfl, b1⟩))
  all_goals go_ret
  all_goals refine ⟨ret_bool ?_, by first | exact HA.out _ | exact below_on (HA.out _) b1 (by simp)⟩
  all_goals rw [HR.out]
  all_goals first | (simp [*]; done) | (simp [*]; omega)
set_option maxRecDepth 20000 in
theorem own_k6 (t : Tm) (v : Value) (hv : ∃ a n c, v = .slice a n c) (hz : t.text.size ≤ 1048576) (w : World) (hk : t.kind = 6) : Calls Tryz.prog 42 #[tmV t v] w fun e w' => e = .returned (.bool (ownB t.kind t.text t.n t.m)) ∧ Below w.heap.size w w' := by
  obtain ⟨va, vn, vc, rfl⟩ := hv
  have HN : Hid (∀ wx, Calls Tryz.prog 43 #[.string t.text] wx fun e w' => e = .returned (.bool (isN t.text)) ∧ Below wx.heap.size wx w') := fun wx => by rw [names_same]; exact rIsName_c t.text hz wx
  have HB := hid2 (fun wx => rText_c t.text true hz wx)
  have HQ := hid2 (fun wx => rText_c t.text false hz wx)
  have A : ∀ o, Below w.heap.size w (w.alloc o) := fun o => (Below.refl _ _).alloc (Nat.le_refl _) _
  have HA := hid2 A
  clear hz A
  obtain ⟨r, hr⟩ : ∃ r : Bool, Hid (r = ownB t.kind t.text t.n t.m) := ⟨_, rfl⟩
  rw [← hr.out]
  have hr2 := hr.out
  unfold ownB at hr2
  obtain ⟨k, s, n, m, pl, ps⟩ := t
  simp only at hk hr2 HN HB HQ ⊢
  subst hk
  clear hr
  simp only [Int.reduceEq, if_true, if_false] at hr2
  have HR := hid2 hr2
  clear hr2
  go_enter Tryz.func42, Tryz.ntmps42
  go_wp2_with (first | (go_at_call 73; refine Calls.mono (HQ.out _) ?_; rintro e w1 ⟨rfl, b1⟩) | (go_at_call 43; refine Calls.mono (HN.out _) ?_; rintro e w1 ⟨rfl, b1⟩))
  all_goals go_ret
  all_goals refine ⟨ret_bool ?_, by first | exact HA.out _ | exact below_on (HA.out _) b1 (by simp)⟩
  all_goals rw [HR.out]
  all_goals first | (simp [*, chs]; done) | (simp [*]; omega)
set_option maxRecDepth 20000 in
theorem own_k7 (t : Tm) (v : Value) (hv : ∃ a n c, v = .slice a n c) (hz : t.text.size ≤ 1048576) (w : World) (hk : t.kind = 7) : Calls Tryz.prog 42 #[tmV t v] w fun e w' => e = .returned (.bool (ownB t.kind t.text t.n t.m)) ∧ Below w.heap.size w w' := by
  obtain ⟨va, vn, vc, rfl⟩ := hv
  have HN : Hid (∀ wx, Calls Tryz.prog 43 #[.string t.text] wx fun e w' => e = .returned (.bool (isN t.text)) ∧ Below wx.heap.size wx w') := fun wx => by rw [names_same]; exact rIsName_c t.text hz wx
  have HB := hid2 (fun wx => rText_c t.text true hz wx)
  have HQ := hid2 (fun wx => rText_c t.text false hz wx)
  have A : ∀ o, Below w.heap.size w (w.alloc o) := fun o => (Below.refl _ _).alloc (Nat.le_refl _) _
  have HA := hid2 A
  clear hz A
  obtain ⟨r, hr⟩ : ∃ r : Bool, Hid (r = ownB t.kind t.text t.n t.m) := ⟨_, rfl⟩
  rw [← hr.out]
  have hr2 := hr.out
  unfold ownB at hr2
  obtain ⟨k, s, n, m, pl, ps⟩ := t
  simp only at hk hr2 HN HB HQ ⊢
  subst hk
  clear hr HB HQ
  simp only [Int.reduceEq, Int.reduceLE, if_true, if_false, and_self] at hr2
  generalize isN s = q at *
  have HR := hid2 hr2
  clear hr2
  go_enter Tryz.func42, Tryz.ntmps42
  go_wp2_with fail
  refine Calls.mono (HN.out _) ?_
  rintro e w1 ⟨rfl, b1⟩
  have Y := (Box.new w [.int .i64 7, .string s, .int .i64 n, .int .i64 m, .int .i64 pl, .slice va vn vc] 33).next b1
  have k2 := Y.cell 2 _ rfl
  have k3 := Y.cell 3 _ rfl
  have B1 := hid2 (below_on (HA.out _) b1 (by simp))
  clear b1 Y HN HA
  cases q
  · go_wp2_with fail
    go_ret
    exact ⟨ret_bool (by rw [HR.out]; simp), B1.out⟩
  · go_wp2_with fail
    all_goals go_ret
    all_goals refine ⟨ret_bool ?_, B1.out⟩
    all_goals rw [HR.out]
    all_goals refine Bool.eq_iff_iff.2 ?_
    all_goals simp only [spanB, Bool.and_eq_true, decide_eq_true_eq, beq_iff_eq, Bool.false_eq_true, false_iff, not_and, and_true]
    all_goals omega
set_option maxRecDepth 20000 in
theorem own_k8 (t : Tm) (v : Value) (hv : ∃ a n c, v = .slice a n c) (hz : t.text.size ≤ 1048576) (w : World) (hk : t.kind = 8) : Calls Tryz.prog 42 #[tmV t v] w fun e w' => e = .returned (.bool (ownB t.kind t.text t.n t.m)) ∧ Below w.heap.size w w' := by
  obtain ⟨va, vn, vc, rfl⟩ := hv
  have HN : Hid (∀ wx, Calls Tryz.prog 43 #[.string t.text] wx fun e w' => e = .returned (.bool (isN t.text)) ∧ Below wx.heap.size wx w') := fun wx => by rw [names_same]; exact rIsName_c t.text hz wx
  have HB := hid2 (fun wx => rText_c t.text true hz wx)
  have HQ := hid2 (fun wx => rText_c t.text false hz wx)
  have A : ∀ o, Below w.heap.size w (w.alloc o) := fun o => (Below.refl _ _).alloc (Nat.le_refl _) _
  have HA := hid2 A
  clear hz A
  obtain ⟨r, hr⟩ : ∃ r : Bool, Hid (r = ownB t.kind t.text t.n t.m) := ⟨_, rfl⟩
  rw [← hr.out]
  have hr2 := hr.out
  unfold ownB at hr2
  obtain ⟨k, s, n, m, pl, ps⟩ := t
  simp only at hk hr2 HN HB HQ ⊢
  subst hk
  clear hr HB HQ
  simp only [Int.reduceEq, Int.reduceLE, if_true, if_false, and_self] at hr2
  generalize isN s = q at *
  have HR := hid2 hr2
  clear hr2
  go_enter Tryz.func42, Tryz.ntmps42
  go_wp2_with fail
  refine Calls.mono (HN.out _) ?_
  rintro e w1 ⟨rfl, b1⟩
  have Y := (Box.new w [.int .i64 8, .string s, .int .i64 n, .int .i64 m, .int .i64 pl, .slice va vn vc] 33).next b1
  have k2 := Y.cell 2 _ rfl
  have k3 := Y.cell 3 _ rfl
  have B1 := hid2 (below_on (HA.out _) b1 (by simp))
  clear b1 Y HN HA
  cases q
  · go_wp2_with fail
    go_ret
    exact ⟨ret_bool (by rw [HR.out]; simp), B1.out⟩
  · go_wp2_with fail
    all_goals go_ret
    all_goals refine ⟨ret_bool ?_, B1.out⟩
    all_goals rw [HR.out]
    all_goals refine Bool.eq_iff_iff.2 ?_
    all_goals simp only [spanB, Bool.and_eq_true, decide_eq_true_eq, beq_iff_eq, Bool.false_eq_true, false_iff, not_and, and_true]
    all_goals omega
set_option maxRecDepth 20000 in
theorem own_k9 (t : Tm) (v : Value) (hv : ∃ a n c, v = .slice a n c) (hz : t.text.size ≤ 1048576) (w : World) (hk : t.kind = 9) : Calls Tryz.prog 42 #[tmV t v] w fun e w' => e = .returned (.bool (ownB t.kind t.text t.n t.m)) ∧ Below w.heap.size w w' := by
  obtain ⟨va, vn, vc, rfl⟩ := hv
  have HN : Hid (∀ wx, Calls Tryz.prog 43 #[.string t.text] wx fun e w' => e = .returned (.bool (isN t.text)) ∧ Below wx.heap.size wx w') := fun wx => by rw [names_same]; exact rIsName_c t.text hz wx
  have HB := hid2 (fun wx => rText_c t.text true hz wx)
  have HQ := hid2 (fun wx => rText_c t.text false hz wx)
  have A : ∀ o, Below w.heap.size w (w.alloc o) := fun o => (Below.refl _ _).alloc (Nat.le_refl _) _
  have HA := hid2 A
  clear hz A
  obtain ⟨r, hr⟩ : ∃ r : Bool, Hid (r = ownB t.kind t.text t.n t.m) := ⟨_, rfl⟩
  rw [← hr.out]
  have hr2 := hr.out
  unfold ownB at hr2
  obtain ⟨k, s, n, m, pl, ps⟩ := t
  simp only at hk hr2 HN HB HQ ⊢
  subst hk
  clear hr HB HQ
  simp only [Int.reduceEq, Int.reduceLE, if_true, if_false, and_self] at hr2
  generalize isN s = q at *
  have HR := hid2 hr2
  clear hr2
  go_enter Tryz.func42, Tryz.ntmps42
  go_wp2_with fail
  refine Calls.mono (HN.out _) ?_
  rintro e w1 ⟨rfl, b1⟩
  have Y := (Box.new w [.int .i64 9, .string s, .int .i64 n, .int .i64 m, .int .i64 pl, .slice va vn vc] 33).next b1
  have k2 := Y.cell 2 _ rfl
  have k3 := Y.cell 3 _ rfl
  have B1 := hid2 (below_on (HA.out _) b1 (by simp))
  clear b1 Y HN HA
  cases q
  · go_wp2_with fail
    go_ret
    exact ⟨ret_bool (by rw [HR.out]; simp), B1.out⟩
  · go_wp2_with fail
    all_goals go_ret
    all_goals refine ⟨ret_bool ?_, B1.out⟩
    all_goals rw [HR.out]
    all_goals refine Bool.eq_iff_iff.2 ?_
    all_goals simp only [spanB, Bool.and_eq_true, decide_eq_true_eq, beq_iff_eq, Bool.false_eq_true, false_iff, not_and, and_true]
    all_goals omega
set_option maxRecDepth 20000 in
theorem own_k10 (t : Tm) (v : Value) (hv : ∃ a n c, v = .slice a n c) (hz : t.text.size ≤ 1048576) (w : World) (hk : t.kind = 10) : Calls Tryz.prog 42 #[tmV t v] w fun e w' => e = .returned (.bool (ownB t.kind t.text t.n t.m)) ∧ Below w.heap.size w w' := by
  obtain ⟨va, vn, vc, rfl⟩ := hv
  have HN : Hid (∀ wx, Calls Tryz.prog 43 #[.string t.text] wx fun e w' => e = .returned (.bool (isN t.text)) ∧ Below wx.heap.size wx w') := fun wx => by rw [names_same]; exact rIsName_c t.text hz wx
  have HB := hid2 (fun wx => rText_c t.text true hz wx)
  have HQ := hid2 (fun wx => rText_c t.text false hz wx)
  have A : ∀ o, Below w.heap.size w (w.alloc o) := fun o => (Below.refl _ _).alloc (Nat.le_refl _) _
  have HA := hid2 A
  clear hz A
  obtain ⟨r, hr⟩ : ∃ r : Bool, Hid (r = ownB t.kind t.text t.n t.m) := ⟨_, rfl⟩
  rw [← hr.out]
  have hr2 := hr.out
  unfold ownB at hr2
  obtain ⟨k, s, n, m, pl, ps⟩ := t
  simp only at hk hr2 HN HB HQ ⊢
  subst hk
  clear hr HB HQ
  simp only [Int.reduceEq, Int.reduceLE, if_true, if_false, and_self] at hr2
  generalize isN s = q at *
  have HR := hid2 hr2
  clear hr2
  go_enter Tryz.func42, Tryz.ntmps42
  go_wp2_with fail
  refine Calls.mono (HN.out _) ?_
  rintro e w1 ⟨rfl, b1⟩
  have Y := (Box.new w [.int .i64 10, .string s, .int .i64 n, .int .i64 m, .int .i64 pl, .slice va vn vc] 33).next b1
  have k2 := Y.cell 2 _ rfl
  have k3 := Y.cell 3 _ rfl
  have B1 := hid2 (below_on (HA.out _) b1 (by simp))
  clear b1 Y HN HA
  cases q
  · go_wp2_with fail
    go_ret
    exact ⟨ret_bool (by rw [HR.out]; simp), B1.out⟩
  · go_wp2_with fail
    all_goals go_ret
    all_goals refine ⟨ret_bool ?_, B1.out⟩
    all_goals rw [HR.out]
    all_goals refine Bool.eq_iff_iff.2 ?_
    all_goals simp only [spanB, Bool.and_eq_true, decide_eq_true_eq, beq_iff_eq, Bool.false_eq_true, false_iff, not_and, and_true]
    all_goals omega
set_option maxRecDepth 20000 in
theorem own_k11 (t : Tm) (v : Value) (hv : ∃ a n c, v = .slice a n c) (hz : t.text.size ≤ 1048576) (w : World) (hk : t.kind = 11) : Calls Tryz.prog 42 #[tmV t v] w fun e w' => e = .returned (.bool (ownB t.kind t.text t.n t.m)) ∧ Below w.heap.size w w' := by
  obtain ⟨va, vn, vc, rfl⟩ := hv
  have HN : Hid (∀ wx, Calls Tryz.prog 43 #[.string t.text] wx fun e w' => e = .returned (.bool (isN t.text)) ∧ Below wx.heap.size wx w') := fun wx => by rw [names_same]; exact rIsName_c t.text hz wx
  have HB := hid2 (fun wx => rText_c t.text true hz wx)
  have HQ := hid2 (fun wx => rText_c t.text false hz wx)
  have A : ∀ o, Below w.heap.size w (w.alloc o) := fun o => (Below.refl _ _).alloc (Nat.le_refl _) _
  have HA := hid2 A
  clear hz A
  obtain ⟨r, hr⟩ : ∃ r : Bool, Hid (r = ownB t.kind t.text t.n t.m) := ⟨_, rfl⟩
  rw [← hr.out]
  have hr2 := hr.out
  unfold ownB at hr2
  obtain ⟨k, s, n, m, pl, ps⟩ := t
  simp only at hk hr2 HN HB HQ ⊢
  subst hk
  clear hr HB HQ
  simp only [Int.reduceEq, Int.reduceLE, if_true, if_false, and_self] at hr2
  generalize isN s = q at *
  have HR := hid2 hr2
  clear hr2
  go_enter Tryz.func42, Tryz.ntmps42
  go_wp2_with fail
  refine Calls.mono (HN.out _) ?_
  rintro e w1 ⟨rfl, b1⟩
  have Y := (Box.new w [.int .i64 11, .string s, .int .i64 n, .int .i64 m, .int .i64 pl, .slice va vn vc] 33).next b1
  have k2 := Y.cell 2 _ rfl
  have k3 := Y.cell 3 _ rfl
  have B1 := hid2 (below_on (HA.out _) b1 (by simp))
  clear b1 Y HN HA
  cases q
  · go_wp2_with fail
    go_ret
    exact ⟨ret_bool (by rw [HR.out]; simp), B1.out⟩
  · go_wp2_with fail
    all_goals go_ret
    all_goals refine ⟨ret_bool ?_, B1.out⟩
    all_goals rw [HR.out]
    all_goals refine Bool.eq_iff_iff.2 ?_
    all_goals simp only [spanB, Bool.and_eq_true, decide_eq_true_eq, beq_iff_eq, Bool.false_eq_true, false_iff, not_and, and_true]
    all_goals omega
set_option maxRecDepth 20000 in
theorem own_k12 (t : Tm) (v : Value) (hv : ∃ a n c, v = .slice a n c) (hz : t.text.size ≤ 1048576) (w : World) (hk : t.kind = 12) : Calls Tryz.prog 42 #[tmV t v] w fun e w' => e = .returned (.bool (ownB t.kind t.text t.n t.m)) ∧ Below w.heap.size w w' := by
  obtain ⟨va, vn, vc, rfl⟩ := hv
  have HN : Hid (∀ wx, Calls Tryz.prog 43 #[.string t.text] wx fun e w' => e = .returned (.bool (isN t.text)) ∧ Below wx.heap.size wx w') := fun wx => by rw [names_same]; exact rIsName_c t.text hz wx
  have HB := hid2 (fun wx => rText_c t.text true hz wx)
  have HQ := hid2 (fun wx => rText_c t.text false hz wx)
  have A : ∀ o, Below w.heap.size w (w.alloc o) := fun o => (Below.refl _ _).alloc (Nat.le_refl _) _
  have HA := hid2 A
  clear hz A
  obtain ⟨r, hr⟩ : ∃ r : Bool, Hid (r = ownB t.kind t.text t.n t.m) := ⟨_, rfl⟩
  rw [← hr.out]
  have hr2 := hr.out
  unfold ownB at hr2
  obtain ⟨k, s, n, m, pl, ps⟩ := t
  simp only at hk hr2 HN HB HQ ⊢
  subst hk
  clear hr HB HQ
  simp only [Int.reduceEq, Int.reduceLE, if_true, if_false, true_and] at hr2
  generalize isN s = q at *
  have HR := hid2 hr2
  clear hr2
  go_enter Tryz.func42, Tryz.ntmps42
  go_wp2_with fail
  refine Calls.mono (HN.out _) ?_
  rintro e w1 ⟨rfl, b1⟩
  have Y := (Box.new w [.int .i64 12, .string s, .int .i64 n, .int .i64 m, .int .i64 pl, .slice va vn vc] 33).next b1
  have k2 := Y.cell 2 _ rfl
  have k3 := Y.cell 3 _ rfl
  have B1 := hid2 (below_on (HA.out _) b1 (by simp))
  clear b1 Y HN HA
  cases q
  · go_wp2_with fail
    go_ret
    exact ⟨ret_bool (by rw [HR.out]; simp), B1.out⟩
  · go_wp2_with fail
    all_goals go_ret
    all_goals refine ⟨ret_bool ?_, B1.out⟩
    all_goals rw [HR.out]
    all_goals refine Bool.eq_iff_iff.2 ?_
    all_goals simp only [spanB, Bool.and_eq_true, decide_eq_true_eq, Bool.false_eq_true, false_iff, not_and, and_true]
    all_goals omega
set_option maxRecDepth 20000 in
theorem own_else (t : Tm) (v : Value) (hv : ∃ a n c, v = .slice a n c) (w : World) (h1 : t.kind ≠ 1) (h2 : t.kind ≠ 2) (h6 : t.kind ≠ 6) (h7 : ¬ (7 ≤ t.kind ∧ t.kind ≤ 12)) : Calls Tryz.prog 42 #[tmV t v] w fun e w' => e = .returned (.bool (ownB t.kind t.text t.n t.m)) ∧ Below w.heap.size w w' := by
  obtain ⟨va, vn, vc, rfl⟩ := hv
  have q1 : (t.kind == 1) = false := beq_eq_false_iff_ne.2 h1
  have q2 : (t.kind == 2) = false := beq_eq_false_iff_ne.2 h2
  have q6 : (t.kind == 6) = false := beq_eq_false_iff_ne.2 h6
  have q7 : (t.kind == 7) = false := beq_eq_false_iff_ne.2 (by omega)
  have q8 : (t.kind == 8) = false := beq_eq_false_iff_ne.2 (by omega)
  have q9 : (t.kind == 9) = false := beq_eq_false_iff_ne.2 (by omega)
  have q10 : (t.kind == 10) = false := beq_eq_false_iff_ne.2 (by omega)
  have q11 : (t.kind == 11) = false := beq_eq_false_iff_ne.2 (by omega)
  have q12 : (t.kind == 12) = false := beq_eq_false_iff_ne.2 (by omega)
  have HL : Hid (ownB t.kind t.text t.n t.m = bareB t.text t.n t.m) := by
    show _ = _
    unfold ownB
    rw [if_neg h1, if_neg h2, if_neg h6, if_neg (by omega), if_neg (by omega)]
  rw [HL.out]
  clear h1 h2 h6 h7
  go_enter Tryz.func42, Tryz.ntmps42
  go_wp2_with fail
  all_goals go_ret
  all_goals refine ⟨ret_bool (Bool.eq_iff_iff.2 ?_), (Below.refl _ _).alloc (Nat.le_refl _) _⟩
  all_goals simp only [bareB, Bool.and_eq_true, decide_eq_true_eq, beq_iff_eq, Bool.false_eq_true, false_iff, not_and]
  all_goals first | omega | (simp [*]; done) | (intro c; simp_all; done)
theorem own_c (t : Tm) (v : Value) (hv : ∃ a n c, v = .slice a n c) (hz : t.text.size ≤ 1048576) (w : World) : Calls Tryz.prog 42 #[tmV t v] w fun e w' => e = .returned (.bool (ownB t.kind t.text t.n t.m)) ∧ Below w.heap.size w w' := by
  by_cases h1 : t.kind = 1
  · exact own_k1 t v hv hz w h1
  by_cases h2 : t.kind = 2
  · exact own_k2 t v hv hz w h2
  by_cases h6 : t.kind = 6
  · exact own_k6 t v hv hz w h6
  by_cases h7 : t.kind = 7
  · exact own_k7 t v hv hz w h7
  by_cases h8 : t.kind = 8
  · exact own_k8 t v hv hz w h8
  by_cases h9 : t.kind = 9
  · exact own_k9 t v hv hz w h9
  by_cases h10 : t.kind = 10
  · exact own_k10 t v hv hz w h10
  by_cases h11 : t.kind = 11
  · exact own_k11 t v hv hz w h11
  by_cases h12 : t.kind = 12
  · exact own_k12 t v hv hz w h12
  exact own_else t v hv w h1 h2 h6 (by omega)
end Go.Proofs.YtbhmffgmbabkkaaGreatDoor
end
section
namespace Go.Proofs.YtbhmffgmbabkkaaGreatDoor
open Go.RowKit

theorem head_own (k : Int) (s : ByteArray) (n m : Int) (c : Nat) : headB k s n m c = (decide (1 ≤ k) && (decide (k ≤ 32) && (decide (arI k = c) && ownB k s n m))) := by
  refine Bool.eq_iff_iff.2 ?_
  simp only [Bool.and_eq_true, decide_eq_true_eq]
  have plain : ∀ lo hi, plainB k s n m lo hi = true ↔ lo ≤ k ∧ k ≤ hi ∧ bareB s n m = true := fun lo hi => by simp only [plainB, Bool.and_eq_true, decide_eq_true_eq]
  have own13 : 13 ≤ k → ownB k s n m = bareB s n m := fun h => by
    unfold ownB
    rw [if_neg (by omega), if_neg (by omega), if_neg (by omega), if_neg (by omega), if_neg (by omega)]
  unfold headB
  by_cases c0 : c = 0
  · subst c0
    rw [if_pos rfl]
    have ar : arI k = 0 ↔ k ≤ 12 := by unfold arI; (repeat' split) <;> omega
    rw [ar]
    unfold leafB ownB
    by_cases k1 : k = 1
    · rw [if_pos k1, if_pos k1]; exact ⟨fun h => ⟨by omega, by omega, by omega, h⟩, fun h => h.2.2.2⟩
    rw [if_neg k1, if_neg k1]
    by_cases k2 : k = 2
    · rw [if_pos k2, if_pos k2]; exact ⟨fun h => ⟨by omega, by omega, by omega, h⟩, fun h => h.2.2.2⟩
    rw [if_neg k2, if_neg k2]
    by_cases k6 : k = 6
    · rw [if_pos k6, if_pos k6]; exact ⟨fun h => ⟨by omega, by omega, by omega, h⟩, fun h => h.2.2.2⟩
    rw [if_neg k6, if_neg k6]
    by_cases k7 : 7 ≤ k ∧ k ≤ 11
    · rw [if_pos k7, if_pos k7]; exact ⟨fun h => ⟨by omega, by omega, by omega, h⟩, fun h => h.2.2.2⟩
    rw [if_neg k7, if_neg k7]
    by_cases k12 : k = 12
    · rw [if_pos k12, if_pos k12]; exact ⟨fun h => ⟨by omega, by omega, by omega, h⟩, fun h => h.2.2.2⟩
    rw [if_neg k12, if_neg k12, plain]
    exact ⟨fun h => ⟨by omega, by omega, by omega, h.2.2⟩, fun h => ⟨by omega, by omega, h.2.2.2⟩⟩
  rw [if_neg c0]
  by_cases c1 : c = 1
  · subst c1
    rw [if_pos rfl, plain]
    have ar : arI k = 1 ↔ 13 ≤ k ∧ k ≤ 17 := by unfold arI; (repeat' split) <;> omega
    rw [ar]
    exact ⟨fun h => ⟨by omega, by omega, by omega, by rw [own13 (by omega)]; exact h.2.2⟩, fun h => ⟨by omega, by omega, by rw [← own13 (by omega)]; exact h.2.2.2⟩⟩
  rw [if_neg c1]
  by_cases c2 : c = 2
  · subst c2
    rw [if_pos rfl, plain]
    have ar : arI k = 2 ↔ 18 ≤ k ∧ k ≤ 31 := by unfold arI; (repeat' split) <;> omega
    rw [ar]
    exact ⟨fun h => ⟨by omega, by omega, by omega, by rw [own13 (by omega)]; exact h.2.2⟩, fun h => ⟨by omega, by omega, by rw [← own13 (by omega)]; exact h.2.2.2⟩⟩
  rw [if_neg c2]
  by_cases c3 : c = 3
  · subst c3
    rw [if_pos rfl, plain]
    have ar : arI k = 3 ↔ 32 ≤ k := by unfold arI; (repeat' split) <;> omega
    rw [ar]
    exact ⟨fun h => ⟨by omega, by omega, by omega, by rw [own13 (by omega)]; exact h.2.2⟩, fun h => ⟨by omega, by omega, by rw [← own13 (by omega)]; exact h.2.2.2⟩⟩
  rw [if_neg c3]
  constructor
  · intro h; cases h
  · rintro ⟨_, _, h, _⟩
    unfold arI at h
    split at h
    · omega
    · split at h
      · omega
      · split at h <;> omega
def RForm (z : Nat) (t : Tm) : Prop := ∀ (v : Value) (w : World), Sits z w t v → Calls Tryz.prog 20 #[tmV t v] w fun e w' => e = .returned (.bool (formedB t)) ∧ Below w.heap.size w w'
set_option maxHeartbeats 2000000 in
theorem rForm_step {z : Nat} (hz : z ≤ 1048576) (t : Tm) (ih : ∀ x, x ∈ t.parts → RForm z x) : RForm z t := by
  intro v w hs
  have HP := hid2 hs.parts
  have HI := hid2 ih
  obtain ⟨ad, cap, rfl, hlc, hc⟩ := hs.parts.shape
  have HO := hid2 (fun wx => own_c t (.slice ad t.parts.length cap) ⟨_, _, _, rfl⟩ (Nat.le_trans hs.fit.s hz) wx)
  obtain ⟨r, hr⟩ : ∃ r : Bool, Hid (r = formedB t) := ⟨_, rfl⟩
  rw [← hr.out]
  have hr2 := hr.out
  rw [formedB_eq, head_own] at hr2
  have HR := hid2 hr2
  obtain ⟨N, hN⟩ : ∃ N, Hid (N = t.parts.length) := ⟨_, rfl⟩
  rw [← hN.out] at hlc HP HO HR ⊢
  clear hs ih hr hr2
  by_cases k1 : t.kind < 1
  · have rf : r = false := by rw [HR.out, decide_eq_false (by omega)]; rfl
    subst rf
    have d1 : decide (t.kind < 1) = true := decide_eq_true k1
    clear HR HO HI HP
    go_enter Tryz.func20, Tryz.ntmps20
    go_wp2_with fail
    go_quiet (fail)
    go_wp2_with fail
    go_ret
    exact ⟨rfl, below_drewN ((Below.refl _ _).alloc (Nat.le_refl _) _) _⟩
  have d1 : decide (t.kind < 1) = false := decide_eq_false k1
  by_cases k2 : 32 < t.kind
  · have rf : r = false := by rw [HR.out, decide_eq_false (show ¬ t.kind ≤ 32 by omega)]; simp
    subst rf
    have d2 : decide (32 < t.kind) = true := decide_eq_true k2
    clear HR HO HI HP
    go_enter Tryz.func20, Tryz.ntmps20
    go_wp2_with fail
    go_quiet (fail)
    go_wp2_with fail
    go_ret
    exact ⟨rfl, below_drewN ((Below.refl _ _).alloc (Nat.le_refl _) _) _⟩
  have d2 : decide (32 < t.kind) = false := decide_eq_false k2
  have HAr := hid2 (fun wx => arity_c t.kind (by omega) (by omega) wx)
  obtain ⟨A, hA⟩ : ∃ A, Hid (A = arI t.kind) := ⟨_, hid2 rfl⟩
  rw [← hA.out] at HAr HR
  by_cases k3 : A = N
  · have d3 : ((A : Int) != (N : Int)) = false := by rw [k3]; simp
    obtain ⟨q, hq⟩ : ∃ q : Bool, Hid (q = ownB t.kind t.text t.n t.m) := ⟨_, rfl⟩
    rw [← hq.out] at HO HR
    have HR2 : Hid (r = (q && t.parts.all formedB)) := by
      show _ = _
      rw [HR.out, decide_eq_true (show 1 ≤ t.kind by omega), decide_eq_true (show t.kind ≤ 32 by omega), decide_eq_true k3]; rfl
    clear HR k3 hA
    go_enter Tryz.func20, Tryz.ntmps20
    go_wp2_with fail
    go_region_held3 (fun w' => w'.cell? ⟨w.heap.size, 0, none⟩ = some (.int .i64 t.kind) ∧ w'.cell? ⟨w.heap.size, 1, none⟩ = some (.string t.text) ∧ w'.cell? ⟨w.heap.size, 2, none⟩ = some (.int .i64 t.n) ∧ w'.cell? ⟨w.heap.size, 3, none⟩ = some (.int .i64 t.m) ∧ w'.cell? ⟨w.heap.size, 4, none⟩ = some (.int .i64 t.pl) ∧ w'.cell? ⟨w.heap.size, 5, none⟩ = some (.slice ad N cap)) (simp [go_sem, *]) (first | (go_at_call 41; refine Calls.mono (HAr.out _) ?_; rintro e w1 ⟨rfl, rfl⟩) | (go_at_call 42; refine Calls.mono (HO.out _) ?_; rintro e w1 ⟨rfl, b1⟩; have Y := ((Box.new w (tmL t (.slice ad N cap)) 33).next (below_drewN (Below.refl _ _) _)).next b1; have y0 := Y.cell 0 _ rfl; have y1 := Y.cell 1 _ rfl; have y2 := Y.cell 2 _ rfl; have y3 := Y.cell 3 _ rfl; have y4 := Y.cell 4 _ rfl; have y5 := Y.cell 5 _ rfl; have ly := Y.lt; have B1 : Hid (Below (w.heap.size + 1) (w.alloc (.cells (tmL t (.slice ad N cap)).toArray 33)) w1) := (below_drewN (Below.refl (w.heap.size + 1) _) _).trans (b1.mono (by simp)); clear b1 Y))
    have HA0 : Hid (Below w.heap.size w (w.alloc (.cells (tmL t (.slice ad N cap)).toArray 33))) := (Below.refl _ _).alloc (Nat.le_refl _) _
    cases q
    · have rf : r = false := by rw [HR2.out]; rfl
      subst rf
      go_wp2_with fail
      go_ret
      exact ⟨rfl, by first | exact HA0.out.trans (B1.out.mono (by omega)) | exact below_drewN (HA0.out.trans (B1.out.mono (by omega))) _⟩
    · have HR3 : Hid (r = (t.parts.drop 0).all formedB) := by show _ = _; rw [HR2.out]; rfl
      have BX : Hid (Box (w.alloc (.cells (tmL t (.slice ad N cap)).toArray 33)) w.heap.size (tmL t (.slice ad N cap))) := Box.new _ _ _
      clear HR2 y0 y1 y2 y3 y4 y5 ly HO HAr
      simp only [Bool.not_true]
      go_wp2_with fail
      go_loopw [3] (fun i wr => ∃ k : Nat, i = .int .i64 (k : Nat) ∧ k ≤ N ∧ Hid (r = (t.parts.drop k).all formedB) ∧ Hid (Below (w.heap.size + 1) (w.alloc (.cells (tmL t (.slice ad N cap)).toArray 33)) wr)) (fun i _ => match i with | .int _ p => ((N : Int) - p).toNat | _ => 0)
      case atStart => exact ⟨0, rfl, by omega, HR3, by first | exact B1 | exact below_drewN B1.out _⟩
      case round =>
        obtain ⟨k, rfl, hk, HK, HB⟩ := hrel
        have HBw : Hid (Below w.heap.size w wr) := HA0.out.trans (HB.out.mono (by omega))
        have X := BX.out.later HB.out (by omega)
        have k5 := X.cell 5 _ rfl
        clear HR3
        by_cases hlt : k < N
        · have hlt' : (k : Int) < (N : Int) := by omega
          have hl1 : k < t.parts.length := by rw [← hN.out]; exact hlt
          obtain ⟨b, off, cap', hv, -, -, hbl, hx⟩ := HP.out.open (by omega)
          simp only [Value.slice.injEq] at hv
          obtain ⟨rfl, -, rfl⟩ := hv
          obtain ⟨u, h6, hu⟩ := hx k hl1
          obtain ⟨c0, c1, c2, c3, c4, c5⟩ := h6.keep (w' := wr) (fun q => HBw.out.cell (p := ⟨b, q, none⟩) hbl)
          have HC := hid2 (HI.out _ (List.getElem_mem hl1) u wr (hu.next HBw.out))
          have hS := HK.out
          rw [List.drop_eq_getElem_cons hl1, List.all_cons] at hS
          have HS := hid2 hS
          clear hx h6 hu X hS HK
          generalize t.parts[k] = x at *
          clear hl1
          go_wp2_with fail
          refine Calls.mono HC.out ?_
          rintro e w2 ⟨rfl, b2⟩
          have B2 := hid2 (HB.out.trans (b2.mono (by have := HB.out.size; simp at this; omega)))
          have B3 := hid2 (below_on HBw.out b2 HBw.out.size)
          clear b2 HC
          cases hq : formedB x with
          | false =>
            have rf : r = false := by rw [HS.out, hq]; rfl
            subst rf
            clear hq HS
            go_wp2_with fail
            go_ret
            exact ⟨rfl, B3.out⟩
          | true =>
            have HS2 : Hid (r = (t.parts.drop (k + 1)).all formedB) := by show _ = _; rw [HS.out, hq]; rfl
            clear hq HS
            go_wp2_with fail
            go_roundw
            case rel => exact ⟨k + 1, by go_num, by omega, HS2, B2⟩
            case measure => simp; omega
        · have hlt' : ¬ (k : Int) < (N : Int) := by omega
          have rt : r = true := by rw [HK.out, List.drop_of_length_le (by have := hN.out; omega)]; rfl
          subst rt
          clear HK
          go_wp2_with fail
          go_ret
          exact ⟨rfl, HBw.out⟩
  · have d3 : ((A : Int) != (N : Int)) = true := by simp; omega
    have rf : r = false := by rw [HR.out, decide_eq_false k3]; simp
    subst rf
    clear HR HO HI HP hA
    go_enter Tryz.func20, Tryz.ntmps20
    go_wp2_with fail
    go_quiet ((go_at_call 41; exact Calls.quiet_of_same (HAr.out _)))
    go_wp2_with fail
    go_ret
    exact ⟨rfl, below_drewN ((Below.refl _ _).alloc (Nat.le_refl _) _) _⟩
theorem rForm_all {z : Nat} (hz : z ≤ 1048576) (t : Tm) : RForm z t := by
  induction t using Tm.ind with
  | h t ih => exact rForm_step hz t ih
end Go.Proofs.YtbhmffgmbabkkaaGreatDoor
end
section
namespace Go.Proofs.YtbhmffgmbabkkaaGreatDoor
open Go.RowKit

/-- What Literal answers. -/
def litOut (r : Option (Tm × Int)) : Value := match r with
  | some (x, s) => .tuple #[.int .i64 (s * x.n), .string x.text, .bool true]
  | none => .tuple #[.int .i64 0, .string ⟨#[]⟩, .bool false]
theorem num_formed {t : Tm} (h : numB t = true) : formedB t = true := by
  unfold numB at h
  simp only [Bool.and_eq_true, decide_eq_true_eq] at h
  obtain ⟨hk, hl, hf⟩ := h
  rw [formedB_eq, hl, List.eq_nil_of_length_eq_zero hl, headB, if_pos rfl, hf]; rfl
theorem plain_iff {k : Int} {s : ByteArray} {n m lo hi : Int} : plainB k s n m lo hi = true ↔ lo ≤ k ∧ k ≤ hi ∧ bareB s n m = true := by simp only [plainB, Bool.and_eq_true, decide_eq_true_eq]
theorem lit_none {t : Tm} (h : formedB t = false) : litR t = none := by
  have hn : ¬ numB t = true := fun e => by rw [num_formed e] at h; cases h
  unfold litR
  rw [if_neg hn]
  match hp : t.parts with
  | [] => rfl
  | [x] =>
    simp only
    rw [if_neg]
    rintro ⟨h1, h2⟩
    unfold negB at h1
    rw [Bool.and_eq_true, plain_iff] at h1
    rw [formedB_eq, hp, headB] at h
    simp only [List.length_singleton, Nat.one_ne_zero, if_false, if_true, List.all_cons, List.all_nil, Bool.and_true, num_formed h2] at h
    rw [show plainB t.kind t.text t.n t.m 13 17 = true from plain_iff.2 ⟨h1.1.1, by omega, h1.1.2.2⟩] at h
    cases h
  | _ :: _ :: _ => rfl
theorem formed_num {t : Tm} (h : formedB t = true) (hk : t.kind = 1) : numB t = true ∧ t.parts = [] := by
  rw [formedB_eq, Bool.and_eq_true] at h
  obtain ⟨h1, _⟩ := h
  unfold headB at h1
  have hl : t.parts.length = 0 := by
    rcases Nat.eq_zero_or_pos t.parts.length with e | e
    · exact e
    · rw [if_neg (by omega)] at h1
      exfalso
      split at h1
      · rw [plain_iff] at h1; omega
      · split at h1
        · rw [plain_iff] at h1; omega
        · split at h1
          · rw [plain_iff] at h1; omega
          · cases h1
  rw [if_pos hl] at h1
  unfold numB
  rw [decide_eq_true hk, decide_eq_true hl, h1]
  exact ⟨rfl, List.eq_nil_of_length_eq_zero hl⟩
theorem formed_neg {t : Tm} (h : formedB t = true) (hk : t.kind = 13) : ∃ x, t.parts = [x] ∧ formedB x = true ∧ negB t = true := by
  rw [formedB_eq, Bool.and_eq_true] at h
  obtain ⟨h1, h2⟩ := h
  rw [head_own] at h1
  simp only [Bool.and_eq_true, decide_eq_true_eq] at h1
  obtain ⟨_, _, h3, h4⟩ := h1
  rw [hk] at h3
  have hl : t.parts.length = 1 := h3.symm
  match hp : t.parts, hl with
  | [x], _ =>
    refine ⟨x, rfl, ?_, ?_⟩
    · rw [hp] at h2; simpa using h2
    · unfold negB
      rw [hp, Bool.and_eq_true, plain_iff]
      have hb : ownB t.kind t.text t.n t.m = bareB t.text t.n t.m := by
        unfold ownB
        rw [if_neg (by omega), if_neg (by omega), if_neg (by omega), if_neg (by omega), if_neg (by omega)]
      exact ⟨⟨by omega, by omega, by rw [← hb]; exact h4⟩, rfl⟩
theorem lit_other {t : Tm} (h1 : t.kind ≠ 1) (h2 : t.kind ≠ 13) : litR t = none := by
  unfold litR
  rw [if_neg (by unfold numB; rw [decide_eq_false h1]; simp)]
  match t.parts with
  | [] => rfl
  | [x] =>
    simp only
    rw [if_neg]
    rintro ⟨h, _⟩
    unfold negB at h
    rw [Bool.and_eq_true, plain_iff] at h
    omega
  | _ :: _ :: _ => rfl
theorem leaf_num_pos {t : Tm} (h : numB t = true) : 0 ≤ t.n := by
  unfold numB at h
  simp only [Bool.and_eq_true, decide_eq_true_eq] at h
  obtain ⟨hk, _, hf⟩ := h
  unfold leafB at hf
  rw [if_pos hk] at hf
  simp only [Bool.and_eq_true, decide_eq_true_eq] at hf
  exact hf.1
set_option maxHeartbeats 2000000 in
theorem rLiteral_c {z : Nat} (hz : z ≤ 1048576) (t : Tm) (v : Value) (w : World) (hs : Sits z w t v) : Calls Tryz.prog 123 #[tmV t v] w fun e w' => e = .returned (litOut (litR t)) ∧ Below w.heap.size w w' := by
  have A : ∀ o, Below w.heap.size w (w.alloc o) := fun o => (Below.refl _ _).alloc (Nat.le_refl _) _
  have HF := hid2 (fun o => rForm_all hz t v (w.alloc o) (hs.next (A o)))
  have HA := hid2 A
  have HS := hid2 hs
  have fit := hs.fit.n
  obtain ⟨ad, cap, rfl, hlc, hc⟩ := hs.parts.shape
  obtain ⟨R, hR⟩ : ∃ R, Hid (R = litOut (litR t)) := ⟨_, rfl⟩
  rw [← hR.out]
  clear A hs
  go_enter Tryz.func123, Tryz.ntmps123
  go_wp2_with fail
  refine Calls.mono (HF.out _) ?_
  rintro e w1 ⟨rfl, b1⟩
  have B1 := hid2 (below_on (HA.out _) b1 (by simp))
  have Y := (Box.new w (tmL t (.slice ad t.parts.length cap)) 33).next b1
  have y0 := Y.cell 0 _ rfl
  have y1 := Y.cell 1 _ rfl
  have y2 := Y.cell 2 _ rfl
  have y5 := Y.cell 5 _ rfl
  have ly := Y.lt
  clear b1 HF HA Y
  cases hf : formedB t with
  | false =>
    have hr : R = litOut none := by rw [hR.out, lit_none hf]
    subst hr
    clear hR hf
    go_wp2_with fail
    refine bodyPost_ret (v := litOut none) (by simp [results, Tryz.results123, go_sem, litOut]) rfl ⟨rfl, B1.out⟩
  | true =>
    by_cases k1 : t.kind = 1
    · obtain ⟨hn, hp⟩ := formed_num hf k1
      have hr : R = .tuple #[.int .i64 t.n, .string t.text, .bool true] := by
        rw [hR.out]; unfold litR; rw [if_pos hn]; show Value.tuple #[.int .i64 (1 * t.n), _, _] = _; rw [Int.one_mul]
      subst hr
      have d1 : (t.kind == 1) = true := by rw [k1]; rfl
      clear hR hf hn hp k1
      go_wp2_with fail
      go_quiet (fail)
      go_wp2_with fail
      refine bodyPost_ret (v := .tuple #[.int .i64 t.n, .string t.text, .bool true]) (by simp [results, Tryz.results123, go_sem]) rfl ⟨rfl, below_drewN B1.out _⟩
    have d1 : (t.kind == 1) = false := beq_eq_false_iff_ne.2 k1
    by_cases k13 : t.kind = 13
    · obtain ⟨x, hp, hx, hn⟩ := formed_neg hf k13
      have d2 : (t.kind == 13) = true := by rw [k13]; rfl
      obtain ⟨b, off, cap', hv, -, -, hbl, hxx⟩ := HS.out.parts.open (by rw [hp]; simp)
      simp only [Value.slice.injEq] at hv
      obtain ⟨rfl, -, rfl⟩ := hv
      obtain ⟨u, h6, hu⟩ := hxx 0 (by rw [hp]; simp)
      have e0 : t.parts[0]'(by rw [hp]; simp) = x := by simp [hp]
      rw [e0, Nat.zero_mul, Nat.add_zero] at h6
      rw [e0] at hu
      have xf := hu.fit.n
      obtain ⟨c0, c1, c2, c3, c4, c5⟩ := h6.keep (w' := w1) (fun q => B1.out.cell (p := ⟨b, q, none⟩) hbl)
      have hbl1 : b < w1.heap.size := Nat.lt_of_lt_of_le hbl B1.out.size
      have hl1 : t.parts.length = 1 := by rw [hp]; rfl
      rw [hl1] at y5 ⊢
      by_cases kx : x.kind = 1
      · obtain ⟨hnx, hpx⟩ := formed_num hx kx
        have pos := leaf_num_pos hnx
        have hr : R = .tuple #[.int .i64 (-x.n), .string x.text, .bool true] := by
          rw [hR.out]; unfold litR
          rw [if_neg (by unfold numB; rw [decide_eq_false k1]; simp), hp]
          simp only
          rw [if_pos ⟨hn, hnx⟩]
          show Value.tuple #[.int .i64 (-1 * x.n), _, _] = _
          rw [Int.neg_mul, Int.one_mul]
        subst hr
        have d3 : (x.kind == 1) = true := by rw [kx]; rfl
        have xb := xf.2
        clear hR hf hn hp hx k13 k1 kx hnx hpx h6 hu hxx e0 xf c3 c4 c5 HS hl1 fit
        go_wp2_with fail
        go_quiet (fail)
        go_wp2_with fail
        refine bodyPost_ret (v := .tuple #[.int .i64 (-x.n), .string x.text, .bool true]) (by simp [results, Tryz.results123, go_sem]) rfl ⟨rfl, below_drewN B1.out _⟩
      · have hr : R = litOut none := by
          rw [hR.out]; unfold litR
          rw [if_neg (by unfold numB; rw [decide_eq_false k1]; simp), hp]
          simp only
          rw [if_neg (by unfold numB; rw [decide_eq_false kx]; simp)]
        subst hr
        have d3 : (x.kind == 1) = false := beq_eq_false_iff_ne.2 kx
        clear hR hf hn hp hx k13 k1 kx h6 hu hxx e0 xf c1 c2 c3 c4 c5 HS hl1 fit
        go_wp2_with fail
        refine bodyPost_ret (v := litOut none) (by simp [results, Tryz.results123, go_sem, litOut]) rfl ⟨rfl, B1.out⟩
    · have hr : R = litOut none := by rw [hR.out, lit_other k1 k13]
      subst hr
      have d2 : (t.kind == 13) = false := beq_eq_false_iff_ne.2 k13
      clear hR hf k1 k13 HS fit
      go_wp2_with fail
      refine bodyPost_ret (v := litOut none) (by simp [results, Tryz.results123, go_sem, litOut]) rfl ⟨rfl, B1.out⟩
end Go.Proofs.YtbhmffgmbabkkaaGreatDoor
end
section
namespace Go.Proofs.YtbhmffgmbabkkaaGreatDoor
open Go.RowKit

theorem own33 {k : Int} {s : ByteArray} {n m : Int} (h : 33 ≤ k) : ownB k s n m = bareB s n m := by
  unfold ownB
  rw [if_neg (by omega), if_neg (by omega), if_neg (by omega), if_neg (by omega), if_neg (by omega)]
theorem do_own {k : Int} {s : ByteArray} {n m : Int} {c : Nat} (h : doB k s n m c = true) : 33 ≤ k ∧ bareB s n m = true := by
  unfold doB at h
  split at h
  · rw [plain_iff] at h; exact ⟨by omega, h.2.2⟩
  · split at h
    · rw [plain_iff] at h; exact ⟨by omega, h.2.2⟩
    · rw [Bool.and_eq_true, plain_iff] at h; exact ⟨by omega, h.2.2.2⟩
theorem act_noOwn {t : Tm} (h : ownB t.kind t.text t.n t.m = false) : actionB t = false := by
  rw [actionB_eq]
  cases hd : doB t.kind t.text t.n t.m t.parts.length with
  | false => rfl
  | true =>
    obtain ⟨h1, h2⟩ := do_own hd
    rw [own33 h1, h2] at h
    cases h
theorem act_33 {t : Tm} (hk : t.kind = 33) (h : ownB t.kind t.text t.n t.m = true) : actionB t = decide (t.parts.length = 0) := by
  rw [own33 (by omega)] at h
  rw [actionB_eq]
  by_cases hl : t.parts.length = 0
  · rw [decide_eq_true hl, doB, if_pos hl, plain_iff.2 ⟨by omega, by omega, h⟩, hl]; rfl
  · rw [decide_eq_false hl, doB, if_neg hl]
    have e1 : plainB t.kind t.text t.n t.m 34 35 = false := by rw [Bool.eq_false_iff]; intro e; rw [plain_iff] at e; omega
    have e2 : plainB t.kind t.text t.n t.m 36 36 = false := by rw [Bool.eq_false_iff]; intro e; rw [plain_iff] at e; omega
    rw [e1, e2]; simp
theorem act_34 {t : Tm} (hk : t.kind = 34 ∨ t.kind = 35) (h : ownB t.kind t.text t.n t.m = true) : actionB t = (decide (t.parts.length = 1) && t.parts.all formedB) := by
  rw [own33 (by omega)] at h
  by_cases hl : t.parts.length = 1
  · match hp : t.parts, hl with
    | [x], _ =>
      rw [action_1 hp, plain_iff.2 ⟨by omega, by omega, h⟩]; simp
  · rw [actionB_eq, decide_eq_false hl, doB, if_neg hl]
    have e1 : plainB t.kind t.text t.n t.m 33 33 = false := by rw [Bool.eq_false_iff]; intro e; rw [plain_iff] at e; omega
    have e2 : plainB t.kind t.text t.n t.m 36 36 = false := by rw [Bool.eq_false_iff]; intro e; rw [plain_iff] at e; omega
    rw [e1, e2]; simp
theorem act_36 {t : Tm} (hk : t.kind = 36) (h : ownB t.kind t.text t.n t.m = true) : actionB t = (decide (2 ≤ t.parts.length) && (decide (t.parts.length % 2 = 0) && (List.range t.parts.length).all (partB t.parts))) := by
  rw [own33 (by omega)] at h
  rw [actionB_eq, doB]
  by_cases h2 : 2 ≤ t.parts.length
  · rw [decide_eq_true h2, if_neg (by omega), if_neg (by omega), plain_iff.2 ⟨by omega, by omega, h⟩, Bool.and_true, Bool.true_and]
  · rw [decide_eq_false h2]
    have e1 : plainB t.kind t.text t.n t.m 33 33 = false := by rw [Bool.eq_false_iff]; intro e; rw [plain_iff] at e; omega
    have e2 : plainB t.kind t.text t.n t.m 34 35 = false := by rw [Bool.eq_false_iff]; intro e; rw [plain_iff] at e; omega
    by_cases h0 : t.parts.length = 0
    · rw [if_pos h0, e1]; rfl
    · rw [if_neg h0, if_pos (by omega), e2]; rfl
theorem act_none {t : Tm} (h3 : t.kind ≠ 33) (h4 : t.kind ≠ 34) (h5 : t.kind ≠ 35) (h6 : t.kind ≠ 36) : actionB t = false := by
  rw [actionB_eq, doB]
  have e0 : plainB t.kind t.text t.n t.m 33 33 = false := by rw [Bool.eq_false_iff]; intro e; rw [plain_iff] at e; omega
  have e1 : plainB t.kind t.text t.n t.m 34 35 = false := by rw [Bool.eq_false_iff]; intro e; rw [plain_iff] at e; omega
  have e2 : plainB t.kind t.text t.n t.m 36 36 = false := by rw [Bool.eq_false_iff]; intro e; rw [plain_iff] at e; omega
  rw [e0, e1, e2]; simp
def RAct (z : Nat) (t : Tm) : Prop := ∀ (v : Value) (w : World), Sits z w t v → Calls Tryz.prog 78 #[tmV t v] w fun e w' => e = .returned (.bool (actionB t)) ∧ Below w.heap.size w w'
theorem litOut_ok (r : Option (Tm × Int)) : ∃ (n : Int) (s : ByteArray), litOut r = .tuple #[.int .i64 n, .string s, .bool r.isSome] := by
  cases r with
  | none => exact ⟨_, _, rfl⟩
  | some p => exact ⟨_, _, rfl⟩
set_option maxRecDepth 20000 in
set_option maxHeartbeats 4000000 in
theorem rAct_step {z : Nat} (hz : z ≤ 1048576) (t : Tm) (ih : ∀ x, x ∈ t.parts → RAct z x) : RAct z t := by
  intro v w hs
  have HP := hid2 hs.parts
  have HI := hid2 ih
  obtain ⟨ad, cap, rfl, hlc, hc⟩ := hs.parts.shape
  have HO := hid2 (fun wx => own_c t (.slice ad t.parts.length cap) ⟨_, _, _, rfl⟩ (Nat.le_trans hs.fit.s hz) wx)
  obtain ⟨r, hr⟩ : ∃ r : Bool, Hid (r = actionB t) := ⟨_, rfl⟩
  rw [← hr.out]
  obtain ⟨N, hN⟩ : ∃ N, Hid (N = t.parts.length) := ⟨_, rfl⟩
  rw [← hN.out] at hlc HP HO ⊢
  obtain ⟨q, hq⟩ : ∃ q : Bool, Hid (q = ownB t.kind t.text t.n t.m) := ⟨_, rfl⟩
  rw [← hq.out] at HO
  have HA0 : Hid (Below w.heap.size w (w.alloc (.cells (tmL t (.slice ad N cap)).toArray 33))) := (Below.refl _ _).alloc (Nat.le_refl _) _
  have BX : Hid (Box (w.alloc (.cells (tmL t (.slice ad N cap)).toArray 33)) w.heap.size (tmL t (.slice ad N cap))) := Box.new _ _ _
  clear hs ih
  go_enter Tryz.func78, Tryz.ntmps78
  go_wp2_with fail
  refine Calls.mono (HO.out _) ?_
  rintro e w1 ⟨rfl, b1⟩
  have B1 : Hid (Below (w.heap.size + 1) (w.alloc (.cells (tmL t (.slice ad N cap)).toArray 33)) w1) := b1.mono (by simp)
  have BW : Hid (Below w.heap.size w w1) := HA0.out.trans (B1.out.mono (by omega))
  have Y := BX.out.later B1.out (by omega)
  have y0 := Y.cell 0 _ rfl
  have y5 := Y.cell 5 _ rfl
  have ly := Y.lt
  clear b1 HO Y
  cases q
  · have rf : r = false := by rw [hr.out, act_noOwn hq.out.symm]
    subst rf
    go_wp2_with fail
    go_ret
    exact ⟨rfl, BW.out⟩
  simp only []
  have HQ := hid2 hq.out.symm
  clear hq
  by_cases k33 : t.kind = 33
  · have d : (t.kind == 33) = true := by rw [k33]; rfl
    have HR : Hid (r = decide ((N : Int) = 0)) := by show _ = _; rw [hr.out, act_33 k33 HQ.out]; exact decide_eq_decide.2 (by have := hN.out; omega)
    clear k33 hr
    go_wp2_with fail
    go_ret
    exact ⟨ret_bool (by rw [HR.out, Bool.eq_iff_iff]; simp), BW.out⟩
  have d33 : (t.kind == 33) = false := beq_eq_false_iff_ne.2 k33
  by_cases k34 : t.kind = 34 ∨ t.kind = 35
  · have HR : Hid (r = (decide (t.parts.length = 1) && t.parts.all formedB)) := by show _ = _; rw [hr.out, act_34 k34 HQ.out]
    clear hr
    by_cases hl : N = 1
    · have hl1 : t.parts.length = 1 := by rw [← hN.out]; exact hl
      obtain ⟨x, hp⟩ : ∃ x, t.parts = [x] := by
        match hp : t.parts, hl1 with
        | [x], _ => exact ⟨x, rfl⟩
      have HR2 : Hid (r = formedB x) := by show _ = _; rw [HR.out, hp]; simp
      subst hl
      obtain ⟨b, off, cap', hv, -, -, hbl, hxx⟩ := HP.out.open (by omega)
      simp only [Value.slice.injEq] at hv
      obtain ⟨rfl, -, rfl⟩ := hv
      obtain ⟨u, h6, hu⟩ := hxx 0 (by omega)
      have e0 : t.parts[0]'(by omega) = x := by simp [hp]
      rw [e0, Nat.zero_mul, Nat.add_zero] at h6
      rw [e0] at hu
      obtain ⟨c0, c1, c2, c3, c4, c5⟩ := h6.keep (w' := w1) (fun q => BW.out.cell (p := ⟨b, q, none⟩) hbl)
      have hbl1 : b < w1.heap.size := Nat.lt_of_lt_of_le hbl BW.out.size
      have HF := hid2 (rForm_all hz x u w1 (hu.next BW.out))
      rw [← HR2.out] at HF
      clear HR HR2 h6 hu hxx e0 hp hl1
      rcases k34 with k | k
      all_goals
        rw [k] at y0
        have d34 : (t.kind == 34) = decide (t.kind = 34) := by rw [k]; rfl
        have d35 : (t.kind == 35) = decide (t.kind = 35) := by rw [k]; rfl
        clear k33 k
        go_wp2_with fail
        refine Calls.mono HF.out ?_
        rintro e w2 ⟨rfl, b2⟩
        have B2 := hid2 (below_on BW.out b2 BW.out.size)
        clear b2
        go_wp2_with fail
        go_ret
        exact ⟨rfl, B2.out⟩
    · have rf : r = false := by rw [HR.out, decide_eq_false (by have := hN.out; omega)]; rfl
      subst rf
      have dN : ((N : Int) == 1) = false := beq_eq_false_iff_ne.2 (by omega)
      clear HR HP HI
      rcases k34 with k | k
      all_goals
        rw [k] at y0
        clear k33
        go_wp2_with fail
        go_ret
        exact ⟨rfl, BW.out⟩
  have d34 : (t.kind == 34) = false := beq_eq_false_iff_ne.2 (by omega)
  have d35 : (t.kind == 35) = false := beq_eq_false_iff_ne.2 (by omega)
  by_cases k36 : t.kind = 36
  · have d36 : (t.kind == 36) = true := by rw [k36]; rfl
    have HR : Hid (r = (decide (2 ≤ N) && (decide (N % 2 = 0) && (List.range N).all (partB t.parts)))) := by show _ = _; rw [hr.out, act_36 k36 HQ.out, hN.out]
    clear hr k33 k34
    by_cases h2 : N < 2
    · have h2' : (N : Int) < 2 := by omega
      have rf : r = false := by rw [HR.out, decide_eq_false (by omega)]; rfl
      subst rf
      clear HR HP HI
      go_wp2_with fail
      go_ret
      exact ⟨rfl, BW.out⟩
    have h2' : ¬ (N : Int) < 2 := by omega
    by_cases hev : N % 2 = 1
    · have ho : ((N : Int) % 2 == 1) = true := beq_iff_eq.2 (by omega)
      have rf : r = false := by rw [HR.out, decide_eq_false (show ¬ N % 2 = 0 by omega)]; simp
      subst rf
      clear HR HP HI
      go_wp2_with fail
      go_ret
      exact ⟨rfl, BW.out⟩
    have ho : ((N : Int) % 2 == 1) = false := beq_eq_false_iff_ne.2 (by omega)
    have HR2 : Hid (r = (List.range N).all (partB t.parts)) := by show _ = _; rw [HR.out, decide_eq_true (show 2 ≤ N by omega), decide_eq_true (show N % 2 = 0 by omega)]; rfl
    obtain ⟨b, off, cap', hv, -, -, hbl, hxx⟩ := HP.out.open (by have := hN.out; omega)
    simp only [Value.slice.injEq] at hv
    obtain ⟨rfl, -, rfl⟩ := hv
    have HX := hid2 hxx
    have H2 := hid2 h2
    have HEV := hid2 hev
    clear HR hxx HP h2 hev
    have hl0 : 0 < t.parts.length := by rw [← hN.out]; have := H2.out; omega
    obtain ⟨u, h6, hu⟩ := HX.out 0 hl0
    rw [Nat.zero_mul, Nat.add_zero] at h6
    obtain ⟨c0, c1, c2, c3, c4, c5⟩ := h6.keep (w' := w1) (fun q => BW.out.cell (p := ⟨b, q, none⟩) hbl)
    have hbl1 : b < w1.heap.size := Nat.lt_of_lt_of_le hbl BW.out.size
    have HF := hid2 (rForm_all hz t.parts[0] u w1 (hu.next BW.out))
    have P0 : Hid (partB t.parts 0 = formedB t.parts[0]) := by show _ = _; unfold partB; rw [List.getElem?_eq_getElem hl0]; rfl
    clear h6 hu
    generalize t.parts[0] = x0 at *
    clear hl0
    go_wp2_with fail
    refine Calls.mono HF.out ?_
    rintro e w2 ⟨rfl, b2⟩
    have B2 := hid2 (B1.out.trans (b2.mono (by have := B1.out.size; simp at this; omega)))
    have B2W := hid2 (below_on BW.out b2 BW.out.size)
    clear b2 HF c0 c1 c2 c3 c4 c5 hbl1 y0 y5 ly
    cases hf : formedB x0 with
    | false =>
      have rf : r = false := by rw [HR2.out]; exact all_false (j := 0) (by have := H2.out; omega) (by rw [P0.out, hf])
      subst rf
      clear hf P0 HR2
      go_wp2_with fail
      go_ret
      exact ⟨rfl, B2W.out⟩
    | true =>
      have P1 : Hid ((List.range 1).all (partB t.parts) = true) := by show _ = _; rw [show List.range 1 = [0] from rfl]; simp [P0.out, hf]
      clear hf P0
      simp only []
      go_wp2_with fail
      go_loopw [4] (fun i wr => ∃ j : Nat, i = .int .i64 (j : Nat) ∧ 1 ≤ j ∧ j ≤ N ∧ Hid ((List.range j).all (partB t.parts) = true) ∧ Hid (Below (w.heap.size + 1) (w.alloc (.cells (tmL t (.slice (some ⟨b, off, none⟩) N cap)).toArray 33)) wr)) (fun i _ => match i with | .int _ p => ((N : Int) - p).toNat | _ => 0)
      case atStart => exact ⟨1, rfl, by omega, by have := H2.out; omega, P1, B2⟩
      case round =>
        obtain ⟨j, rfl, hj1, hj, HK, HB⟩ := hrel
        have HBw : Hid (Below w.heap.size w wr) := HA0.out.trans (HB.out.mono (by omega))
        have X := BX.out.later HB.out (by omega)
        have k5 := X.cell 5 _ rfl
        have lw := X.lt
        clear P1 X
        by_cases hlt : j < N
        · have hlt' : (j : Int) < (N : Int) := by omega
          have hl1 : j < t.parts.length := by rw [← hN.out]; exact hlt
          obtain ⟨u, h6, hu⟩ := HX.out j hl1
          obtain ⟨c0, c1, c2, c3, c4, c5⟩ := h6.keep (w' := wr) (fun q => HBw.out.cell (p := ⟨b, q, none⟩) hbl)
          have lbr : b < wr.heap.size := Nat.lt_of_lt_of_le hbl HBw.out.size
          have HCA := hid2 (HI.out _ (List.getElem_mem hl1) u wr (hu.next HBw.out))
          have HCL := hid2 (rLiteral_c hz t.parts[j] u wr (hu.next HBw.out))
          have PJ : Hid (partB t.parts j = if j % 2 = 1 ∧ j + 1 < N then (litR t.parts[j]).isSome else actionB t.parts[j]) := by
            show _ = _
            unfold partB
            rw [List.getElem?_eq_getElem hl1, ← hN.out]
            simp only [if_neg (show ¬ j = 0 by omega)]
            rw [litR_some]
          clear h6 hu
          generalize t.parts[j] = x at *
          clear hl1
          by_cases hc : j % 2 = 1 ∧ j + 1 < N
          · have e1 : ((j : Int) % 2 == 1) = true := beq_iff_eq.2 (by omega)
            have e2 : (j : Int) < (N : Int) - 1 := by omega
            have PJ2 : Hid (partB t.parts j = (litR x).isSome) := by show _ = _; rw [PJ.out, if_pos hc]
            obtain ⟨n', s', he⟩ := litOut_ok (litR x)
            rw [he] at HCL
            generalize (litR x).isSome = ok at *
            clear PJ hc he HCA
            go_wp2_with fail
            refine Calls.mono HCL.out ?_
            rintro e w3 ⟨rfl, b3⟩
            have B3 := hid2 (HB.out.trans (b3.mono (by have := HB.out.size; simp at this; omega)))
            have B3W := hid2 (below_on HBw.out b3 HBw.out.size)
            clear b3 HCL
            cases ok
            · have rf : r = false := by rw [HR2.out]; exact all_false hlt PJ2.out
              subst rf
              go_wp2_with fail
              go_ret
              exact ⟨rfl, B3W.out⟩
            · have HK2 := hid2 (all_step HK.out PJ2.out)
              go_wp2_with fail
              go_roundw
              case rel => exact ⟨j + 1, by go_num, by omega, by omega, HK2, B3⟩
              case measure => simp; omega
          · have PJ2 : Hid (partB t.parts j = actionB x) := by show _ = _; rw [PJ.out, if_neg hc]
            clear PJ HCL
            by_cases ho1 : j % 2 = 1
            all_goals
              first
              | (have e1 : ((j : Int) % 2 == 1) = true := beq_iff_eq.2 (by omega)
                 have e2 : ¬ (j : Int) < (N : Int) - 1 := by omega
                 clear hc ho1)
              | (have e1 : ((j : Int) % 2 == 1) = false := beq_eq_false_iff_ne.2 (by omega)
                 clear hc ho1)
              go_wp2_with fail
              refine Calls.mono HCA.out ?_
              rintro e w3 ⟨rfl, b3⟩
              have B3 := hid2 (HB.out.trans (b3.mono (by have := HB.out.size; simp at this; omega)))
              have B3W := hid2 (below_on HBw.out b3 HBw.out.size)
              clear b3 HCA
              cases hact : actionB x with
              | false =>
                have rf : r = false := by rw [HR2.out]; exact all_false hlt (by rw [PJ2.out, hact])
                subst rf
                clear hact
                go_wp2_with fail
                go_ret
                exact ⟨rfl, B3W.out⟩
              | true =>
                have HK2 := hid2 (all_step HK.out (by rw [PJ2.out, hact]))
                clear hact
                go_wp2_with fail
                go_roundw
                case rel => exact ⟨j + 1, by go_num, by omega, by omega, HK2, B3⟩
                case measure => simp; omega
        · have hlt' : ¬ (j : Int) < (N : Int) := by omega
          have hjN : j = N := by omega
          have rt : r = true := by rw [HR2.out, ← hjN, HK.out]
          subst rt
          clear HK HR2
          go_wp2_with fail
          go_ret
          exact ⟨rfl, HBw.out⟩
  · have d36 : (t.kind == 36) = false := beq_eq_false_iff_ne.2 k36
    have rf : r = false := by rw [hr.out, act_none k33 (by omega) (by omega) k36]
    subst rf
    clear hr
    go_wp2_with fail
    go_ret
    exact ⟨rfl, BW.out⟩
theorem rAct_all {z : Nat} (hz : z ≤ 1048576) (t : Tm) : RAct z t := by
  induction t using Tm.ind with
  | h t ih => exact rAct_step hz t ih
end Go.Proofs.YtbhmffgmbabkkaaGreatDoor
end
