/- Package dim: Read: what every text is read as. -/
import Derived.Test.YtjmngnnmnbhfpaaDoorDimV
namespace Go.Proofs.YtjmngnnmnbhfpaaDoor
open Go.RowKit

/-- What is read from n on; the first number bounds the factors. -/
def readF (l : List UInt8) : Nat → Nat → Bool → U5 → U5 × Nat × Nat
  | 0, _, _, _ => (unit0, 0, 0)
  | k + 1, n, under, v =>
    match facS l n with
    | .error p => (unit0, p, 20)
    | .ok (u, c, f) =>
      match timesS (if under then invS u else u) c v with
      | none => (unit0, n, 21)
      | some x =>
        if f = l.length then (x, 0, 0)
        else if bt l f ≠ 42 ∧ bt l f ≠ 47 then (unit0, f, 20)
        else readF l k (f + 1) (bt l f == 47) x
def unit1 : U5 := ⟨1, 1, dim0⟩
def readS (l : List UInt8) : U5 × Nat × Nat := if 64 < l.length then (unit0, 0, 2) else readF l (l.length + 1) 0 false unit1
abbrev readV (r : U5 × Nat × Nat) : Value := .tuple #[unitV r.1, .int .i64 (r.2.1 : Nat), .int .i64 (r.2.2 : Nat)]
theorem unit1_ok : unit1.Ok := by constructor <;> decide
theorem tab_ok : ∀ r ∈ tab, r.2.Ok := by
  intro r hr
  simp only [tab, List.mem_cons, List.not_mem_nil, or_false] at hr
  rcases hr with rfl | rfl | rfl | rfl | rfl | rfl | rfl | rfl | rfl | rfl | rfl | rfl | rfl | rfl | rfl | rfl | rfl | rfl <;> (constructor <;> decide)
theorem findS_ok (l : List UInt8) (u : U5) (h : findS l = some u) : u.Ok := by
  unfold findS at h
  obtain ⟨r, hr, rfl⟩ := Option.map_eq_some_iff.1 h
  exact tab_ok r (List.mem_of_find?_eq_some hr)
theorem decV_le : ∀ (l : List UInt8) (acc : Nat), (∀ b ∈ l, digitB b.toNat = true) → l.foldl (fun n b => n * 10 + (b.toNat - 48)) acc < (acc + 1) * 10 ^ l.length
  | [], acc, _ => by simp
  | b :: r, acc, h => by
    have hb := h b (by simp)
    unfold digitB at hb
    simp only [Bool.and_eq_true, decide_eq_true_eq] at hb
    have := decV_le r (acc * 10 + (b.toNat - 48)) fun x hx => h x (by simp [hx])
    rw [List.foldl_cons, List.length_cons, Nat.pow_succ]
    have e : (acc * 10 + (b.toNat - 48) + 1) * 10 ^ r.length ≤ (acc * 10 + 10) * 10 ^ r.length := Nat.mul_le_mul_right _ (by omega)
    have e2 : (acc + 1) * (10 ^ r.length * 10) = (acc * 10 + 10) * 10 ^ r.length := by rw [← Nat.mul_assoc, Nat.mul_right_comm, Nat.add_mul, Nat.one_mul]
    omega
theorem numS_le (l : List UInt8) (c : Nat) (hd : ∀ b ∈ l, digitB b.toNat = true) (h : numS l = some c) : c ≤ 1000 := by
  unfold numS at h
  split at h
  · cases h
  · rename_i hk
    cases h
    have := decV_le l 0 hd
    have e : 10 ^ l.length ≤ 10 ^ 3 := Nat.pow_le_pow_right (by decide) (by omega)
    unfold decV
    omega
theorem facS_ok (l : List UInt8) (n f c : Nat) (u : U5) (hn : n ≤ l.length) (h : facS l n = .ok (u, c, f)) : u.Ok ∧ c ≤ 1000 ∧ n ≤ f ∧ f ≤ l.length := by
  have r1 := runEnd_le letterB l n hn
  unfold facS at h
  split at h
  · cases h
  · rename_i x hx
    split at h
    · cases h
      exact ⟨findS_ok _ _ hx, by decide, r1.1, r1.2⟩
    · rename_i hk
      have r2 := runEnd_le digitB l (runEnd letterB l n + 1) (by omega)
      split at h
      · cases h
      · rename_i y hy
        cases h
        exact ⟨findS_ok _ _ hx, numS_le _ _ (word_all _ _ _) hy, by omega, r2.2⟩

set_option maxHeartbeats 8000000 in
theorem Read_short (s : ByteArray) (l : List UInt8) (hl : s.data.toList = l) (hz : s.size ≤ 64) (w : World) (hN : NamesAt w) :
    Calls Tryd.prog 10 #[.string s] w fun e w' => e = .returned (readV (readF l (l.length + 1) 0 false unit1)) ∧ Below w.heap.size w w' := by
  have hs : l.length = s.size := by rw [← hl]; rfl
  have kz : ¬ (64 : Int) < (s.size : Int) := by omega
  generalize hR : readF l (l.length + 1) 0 false unit1 = R
  have HR : Hid _ := hR
  clear hR
  obtain ⟨ob, ub, l0⟩ := two_boxes w 26 26 [.int .i64 0, .int .i64 0, .int .i64 0, .int .i64 0, .int .i64 0, .int .i64 0, .int .i64 0] [.int .i64 1, .int .i64 1, .int .i64 0, .int .i64 0, .int .i64 0, .int .i64 0, .int .i64 0]
  go_enter Tryd.func10, Tryd.ntmps10
  go_wp2_with fail
  go_loopw [6, 7] (fun i j wr => ∃ (n k : Nat) (und : Bool) (v : U5), i = .int .i64 n ∧ j = .bool und ∧ n ≤ s.size ∧ l.length < k + n ∧ v.Ok ∧ readF l k n und v = R ∧ Box wr w.heap.size [.int .i64 0, .int .i64 0, .int .i64 0, .int .i64 0, .int .i64 0, .int .i64 0, .int .i64 0] ∧ Box wr (w.heap.size + 1) (uCells v) ∧ Below w.heap.size w wr) (fun i _ _ => s.size + 1 - (intOf i).toNat)
  case atStart => exact ⟨0, l.length + 1, false, unit1, rfl, rfl, Nat.zero_le _, by omega, unit1_ok, HR.out, ob, ub, l0⟩
  case round =>
    clear ob ub l0 HR
    obtain ⟨n, k, und, v, rfl, rfl, hn, hk, hv, hR, ob, ub, bl⟩ := hrel
    obtain _ | k := k
    · omega
    have hN1 := hN.later bl
    have hfac := fun wx hx => readFactor_any s l n hl hn hz wx hx
    cases hf : facS l n with
    | error p =>
      have e1 : readF l (k + 1) n und v = (unit0, p, 20) := by simp only [readF, hf]
      rw [hR] at e1
      have E1 : Hid _ := e1
      rw [hf] at hfac
      simp only [facR, facV, unit0, dim0] at hfac
      clear e1 hR hf
      go_wp2_with fail
      refine (hfac _ hN1).mono ?_
      rintro e w1 ⟨rfl, hb1⟩
      have l1 : Below w1.heap.size w1 (w1.alloc (.cells #[.int .i64 0, .int .i64 0, .int .i64 0, .int .i64 0, .int .i64 0, .int .i64 0, .int .i64 0, .int .i64 0] 41)) := (Below.refl _ _).alloc (Nat.le_refl _) _
      have ox := (ob.next hb1).next l1
      have bl2 := (bl.trans (hb1.mono bl.size)).trans (l1.mono (Nat.le_trans bl.size hb1.size))
      obtain ⟨o0, o1, o2, o3, o4, o5, o6, g0, g1, g2, g3, g4, g5, g6⟩ := ox.seven
      clear ob ub hb1 l1 ox
      go_wp2_with fail
      refine bodyPost_ret (v := .tuple #[unitV unit0, .int .i64 p, .int .i64 20]) (by simp [results, Tryd.results10, go_sem, unit0, dim0, o0, o1, o2, o3, o4, o5, o6]) rfl ⟨by rw [E1.out]; rfl, ?_⟩
      exact below_seven bl2 (Nat.le_refl _) _ _ _ _ _ _ _
    | ok t =>
      obtain ⟨u, c, f⟩ := t
      obtain ⟨hu, hc, hf0, hf1⟩ := facS_ok l n f c u (by omega) hf
      have er : readF l (k + 1) n und v = match timesS (if und then invS u else u) c v with
        | none => (unit0, n, 21)
        | some x => if f = l.length then (x, 0, 0) else if bt l f ≠ 42 ∧ bt l f ≠ 47 then (unit0, f, 20) else readF l k (f + 1) (bt l f == 47) x := by simp only [readF, hf]
      rw [hR] at er
      have ER : Hid _ := er
      rw [hf] at hfac
      simp only [facR, facV] at hfac
      clear er hR hf
      cases und
      · have ER : Hid _ := ER.out
        have htm := fun wx => dtimes_any v u c hc hv hu wx
        go_wp2_with fail
        refine (hfac _ hN1).mono ?_
        rintro e w1 ⟨rfl, hb1⟩
        have l1 : Below w1.heap.size w1 (w1.alloc (.cells #[.int .i64 u.num, .int .i64 u.den, .int .i64 u.dim.a, .int .i64 u.dim.b, .int .i64 u.dim.c, .int .i64 u.dim.d, .int .i64 u.dim.e, .int .i64 c] 41)) := (Below.refl _ _).alloc (Nat.le_refl _) _
        have ox := (ob.next hb1).next l1
        have ux := (ub.next hb1).next l1
        have fx : Box (w1.alloc (.cells #[.int .i64 u.num, .int .i64 u.den, .int .i64 u.dim.a, .int .i64 u.dim.b, .int .i64 u.dim.c, .int .i64 u.dim.d, .int .i64 u.dim.e, .int .i64 c] 41)) w1.heap.size [.int .i64 u.num, .int .i64 u.den, .int .i64 u.dim.a, .int .i64 u.dim.b, .int .i64 u.dim.c, .int .i64 u.dim.d, .int .i64 u.dim.e, .int .i64 c] := Box.new w1 [.int .i64 u.num, .int .i64 u.den, .int .i64 u.dim.a, .int .i64 u.dim.b, .int .i64 u.dim.c, .int .i64 u.dim.d, .int .i64 u.dim.e, .int .i64 c] 41
        have bl2 := (bl.trans (hb1.mono bl.size)).trans (l1.mono (Nat.le_trans bl.size hb1.size))
        have sz1 := hb1.size
        have sz0 := bl.size
        have sz2 := ub.lt
        clear ob ub hb1 l1 bl
        obtain ⟨u0, u1, u2, u3, u4, u5, u6, ug0, ug1, ug2, ug3, ug4, ug5, ug6⟩ := ux.seven
        have OX : Hid _ := ox
        have UX : Hid _ := ux
        clear ox ux fx
        go_wp2_with fail
        refine (htm _).mono ?_
        cases ht : timesS u c v with
        | none =>
          simp only [findV, Option.getD, Option.isSome, unitV, unit0, dim0]
          rintro e w3 ⟨rfl, hb3⟩
          have e1 : R = (unit0, n, 21) := by have := ER.out; simp only [Bool.false_eq_true, if_false, ht] at this; exact this
          have E1 : Hid _ := e1
          have ox := OX.out.next hb3
          have ux := UX.out.next hb3
          have bl3 := bl2.trans (hb3.mono bl2.size)
          clear OX UX ER e1 hb3 u0 u1 u2 u3 u4 u5 u6 ug0 ug1 ug2 ug3 ug4 ug5 ug6
          obtain ⟨u0, u1, u2, u3, u4, u5, u6, ug0, ug1, ug2, ug3, ug4, ug5, ug6⟩ := ux.seven
          have ox := ox.other_seven (q := w.heap.size + 1) (by omega) (.int .i64 0) (.int .i64 0) (.int .i64 0) (.int .i64 0) (.int .i64 0) (.int .i64 0) (.int .i64 0)
          obtain ⟨o0, o1, o2, o3, o4, o5, o6, g0, g1, g2, g3, g4, g5, g6⟩ := ox.seven
          clear ox ux
          go_wp2_with fail
          refine bodyPost_ret (v := .tuple #[unitV unit0, .int .i64 n, .int .i64 21]) (by simp [results, Tryd.results10, go_sem, unit0, dim0, o0, o1, o2, o3, o4, o5, o6]) rfl ⟨by rw [E1.out]; rfl, ?_⟩
          exact below_seven (below_seven bl3 (by omega) _ _ _ _ _ _ _) (Nat.le_refl _) _ _ _ _ _ _ _
        | some x =>
          have hx := timesS_ok u hu c v x hv ht
          simp only [findV, Option.getD, Option.isSome, unitV]
          rintro e w3 ⟨rfl, hb3⟩
          have er : R = if f = l.length then (x, 0, 0) else if bt l f ≠ 42 ∧ bt l f ≠ 47 then (unit0, f, 20) else readF l k (f + 1) (bt l f == 47) x := by have := ER.out; simp only [Bool.false_eq_true, if_false, ht] at this; exact this
          have ox := OX.out.next hb3
          have ux := UX.out.next hb3
          have bl3 := bl2.trans (hb3.mono bl2.size)
          clear OX UX ER hb3 u0 u1 u2 u3 u4 u5 u6 ug0 ug1 ug2 ug3 ug4 ug5 ug6 htm ht
          obtain ⟨u0, u1, u2, u3, u4, u5, u6, ug0, ug1, ug2, ug3, ug4, ug5, ug6⟩ := ux.seven
          have ox := ox.other_seven (q := w.heap.size + 1) (by omega) (.int .i64 x.num) (.int .i64 x.den) (.int .i64 x.dim.a) (.int .i64 x.dim.b) (.int .i64 x.dim.c) (.int .i64 x.dim.d) (.int .i64 x.dim.e)
          have ux := ux.put_seven (.int .i64 x.num) (.int .i64 x.den) (.int .i64 x.dim.a) (.int .i64 x.dim.b) (.int .i64 x.dim.c) (.int .i64 x.dim.d) (.int .i64 x.dim.e)
          have bl4 := below_seven (q := w.heap.size + 1) bl3 (by omega) (.int .i64 x.num) (.int .i64 x.den) (.int .i64 x.dim.a) (.int .i64 x.dim.b) (.int .i64 x.dim.c) (.int .i64 x.dim.d) (.int .i64 x.dim.e)
          obtain ⟨o0, o1, o2, o3, o4, o5, o6, g0, g1, g2, g3, g4, g5, g6⟩ := ox.seven
          have OX : Hid _ := ox
          have UX : Hid _ := ux
          have uc0 := ux.seven
          obtain ⟨x0, x1, x2, x3, x4, x5, x6, _⟩ := uc0
          clear ox ux
          by_cases hL : f = l.length
          · rw [if_pos hL] at er
            have E1 : Hid _ := er
            have k1 : ((f : Int) == (s.size : Int)) = true := by rw [beq_iff_eq]; omega
            clear er hL
            go_wp2_with fail
            refine bodyPost_ret (v := .tuple #[unitV x, .int .i64 0, .int .i64 0]) (by simp [results, Tryd.results10, go_sem, o0, o1, o2, o3, o4, o5, o6]) rfl ⟨by rw [E1.out]; rfl, ?_⟩
            exact below_seven bl4 (Nat.le_refl _) _ _ _ _ _ _ _
          · rw [if_neg hL] at er
            have k1 : ((f : Int) == (s.size : Int)) = false := beq_eq_false_iff_ne.2 (by omega)
            have k2 : (f : Int) < (s.size : Int) := by omega
            have k3 : f < s.size := by omega
            have hg := bt_get s f k3
            rw [hl] at hg
            have bne : ∀ y z : Int, (y != z) = !(y == z) := fun y z => rfl
            by_cases h42 : bt l f = 42
            · rw [if_neg (by omega)] at er
              have e2 : (bt l f == 47) = false := beq_eq_false_iff_ne.2 (by omega)
              rw [e2] at er
              have E1 : Hid _ := er
              rw [h42] at hg
              clear er hL h42 e2
              go_wp2_with fail
              go_quiet (fail)
              go_wp2_with fail
              go_roundw
              case rel =>
                refine ⟨f + 1, k, false, x, by go_num, rfl, by omega, by omega, hx, E1.out.symm, OX.out.later (below_drewN (Below.refl _ _) _) OX.out.lt, UX.out.later (below_drewN (Below.refl _ _) _) UX.out.lt, below_drewN bl4 _⟩
              case measure => simp [intOf]; omega
            · by_cases h47 : bt l f = 47
              · rw [if_neg (by omega)] at er
                have e2 : (bt l f == 47) = true := by rw [beq_iff_eq]; exact h47
                rw [e2] at er
                have E1 : Hid _ := er
                rw [h47] at hg
                clear er hL h42 e2 h47
                go_wp2_with fail
                go_quiet (fail)
                go_wp2_with fail
                go_roundw
                case rel =>
                  refine ⟨f + 1, k, true, x, by go_num, rfl, by omega, by omega, hx, E1.out.symm, OX.out.later (below_drewN (Below.refl _ _) _) OX.out.lt, UX.out.later (below_drewN (Below.refl _ _) _) UX.out.lt, below_drewN bl4 _⟩
                case measure => simp [intOf]; omega
              · rw [if_pos ⟨h42, h47⟩] at er
                have E1 : Hid _ := er
                have e2 : (bt l f == 42) = false := beq_eq_false_iff_ne.2 h42
                have e3 : (bt l f == 47) = false := beq_eq_false_iff_ne.2 h47
                clear er hL h42 h47
                generalize bt l f = b0 at *
                go_wp2_with fail
                refine bodyPost_ret (v := .tuple #[unitV unit0, .int .i64 f, .int .i64 20]) (by simp [results, Tryd.results10, go_sem, unit0, dim0, o0, o1, o2, o3, o4, o5, o6]) rfl ⟨by rw [E1.out]; rfl, ?_⟩
                exact below_seven bl4 (Nat.le_refl _) _ _ _ _ _ _ _
      · have ER : Hid _ := ER.out
        have hi := invS_ok u hu
        have hinv := fun wx => inverse_any u hu wx
        have HI : Hid (invS u = invS u) := rfl
        generalize invS u = i at *
        clear HI
        have htm := fun wx => dtimes_any v i c hc hv hi wx
        go_wp2_with fail
        refine (hfac _ hN1).mono ?_
        rintro e w1 ⟨rfl, hb1⟩
        have l1 : Below w1.heap.size w1 (w1.alloc (.cells #[.int .i64 u.num, .int .i64 u.den, .int .i64 u.dim.a, .int .i64 u.dim.b, .int .i64 u.dim.c, .int .i64 u.dim.d, .int .i64 u.dim.e, .int .i64 c] 41)) := (Below.refl _ _).alloc (Nat.le_refl _) _
        have ox := (ob.next hb1).next l1
        have ux := (ub.next hb1).next l1
        have fx : Box (w1.alloc (.cells #[.int .i64 u.num, .int .i64 u.den, .int .i64 u.dim.a, .int .i64 u.dim.b, .int .i64 u.dim.c, .int .i64 u.dim.d, .int .i64 u.dim.e, .int .i64 c] 41)) w1.heap.size [.int .i64 u.num, .int .i64 u.den, .int .i64 u.dim.a, .int .i64 u.dim.b, .int .i64 u.dim.c, .int .i64 u.dim.d, .int .i64 u.dim.e, .int .i64 c] := Box.new w1 [.int .i64 u.num, .int .i64 u.den, .int .i64 u.dim.a, .int .i64 u.dim.b, .int .i64 u.dim.c, .int .i64 u.dim.d, .int .i64 u.dim.e, .int .i64 c] 41
        have bl2 := (bl.trans (hb1.mono bl.size)).trans (l1.mono (Nat.le_trans bl.size hb1.size))
        have sz1 := hb1.size
        have sz0 := bl.size
        have sz2 := ub.lt
        clear ob ub hb1 l1 bl
        go_wp2_with fail
        refine (hinv _).mono ?_
        simp only [unitV]
        rintro e w2 ⟨rfl, hb2⟩
        have ox := ox.next hb2
        have ux := ux.next hb2
        have fx := fx.next hb2
        have bl2 := bl2.trans (hb2.mono bl2.size)
        have sz3 := hb2.size
        simp at sz3
        obtain ⟨f0, f1, f2, f3, f4, f5, f6, f7, fg0, fg1, fg2, fg3, fg4, fg5, fg6, fg7⟩ := fx.eight
        have ox := ox.other_seven (q := w1.heap.size) (by omega) (.int .i64 i.num) (.int .i64 i.den) (.int .i64 i.dim.a) (.int .i64 i.dim.b) (.int .i64 i.dim.c) (.int .i64 i.dim.d) (.int .i64 i.dim.e)
        have ux := ux.other_seven (q := w1.heap.size) (by omega) (.int .i64 i.num) (.int .i64 i.den) (.int .i64 i.dim.a) (.int .i64 i.dim.b) (.int .i64 i.dim.c) (.int .i64 i.dim.d) (.int .i64 i.dim.e)
        have fx := fx.put_seven_of_eight (.int .i64 i.num) (.int .i64 i.den) (.int .i64 i.dim.a) (.int .i64 i.dim.b) (.int .i64 i.dim.c) (.int .i64 i.dim.d) (.int .i64 i.dim.e)
        have bl2 := below_seven (q := w1.heap.size) bl2 (by omega) (.int .i64 i.num) (.int .i64 i.den) (.int .i64 i.dim.a) (.int .i64 i.dim.b) (.int .i64 i.dim.c) (.int .i64 i.dim.d) (.int .i64 i.dim.e)
        have szx := fx.lt
        clear hb2
        obtain ⟨u0, u1, u2, u3, u4, u5, u6, ug0, ug1, ug2, ug3, ug4, ug5, ug6⟩ := ux.seven
        obtain ⟨f0', f1', f2', f3', f4', f5', f6', f7', fg0', fg1', fg2', fg3', fg4', fg5', fg6', fg7'⟩ := fx.eight
        have OX : Hid _ := ox
        have UX : Hid _ := ux
        have FX : Hid _ := fx
        clear ox ux fx
        go_wp2_with fail
        refine (htm _).mono ?_
        cases ht : timesS i c v with
        | none =>
          simp only [findV, Option.getD, Option.isSome, unitV, unit0, dim0]
          rintro e w3 ⟨rfl, hb3⟩
          have e1 : R = (unit0, n, 21) := by have := ER.out; simp only [if_true, ht] at this; exact this
          have E1 : Hid _ := e1
          have ox := OX.out.next hb3
          have ux := UX.out.next hb3
          have bl3 := bl2.trans (hb3.mono bl2.size)
          clear OX UX ER e1 hb3 u0 u1 u2 u3 u4 u5 u6 ug0 ug1 ug2 ug3 ug4 ug5 ug6 FX
          obtain ⟨u0, u1, u2, u3, u4, u5, u6, ug0, ug1, ug2, ug3, ug4, ug5, ug6⟩ := ux.seven
          have ox := ox.other_seven (q := w.heap.size + 1) (by omega) (.int .i64 0) (.int .i64 0) (.int .i64 0) (.int .i64 0) (.int .i64 0) (.int .i64 0) (.int .i64 0)
          obtain ⟨o0, o1, o2, o3, o4, o5, o6, g0, g1, g2, g3, g4, g5, g6⟩ := ox.seven
          clear ox ux
          go_wp2_with fail
          refine bodyPost_ret (v := .tuple #[unitV unit0, .int .i64 n, .int .i64 21]) (by simp [results, Tryd.results10, go_sem, unit0, dim0, o0, o1, o2, o3, o4, o5, o6]) rfl ⟨by rw [E1.out]; rfl, ?_⟩
          exact below_seven (below_seven bl3 (by omega) _ _ _ _ _ _ _) (Nat.le_refl _) _ _ _ _ _ _ _
        | some x =>
          have hx := timesS_ok i hi c v x hv ht
          simp only [findV, Option.getD, Option.isSome, unitV]
          rintro e w3 ⟨rfl, hb3⟩
          have er : R = if f = l.length then (x, 0, 0) else if bt l f ≠ 42 ∧ bt l f ≠ 47 then (unit0, f, 20) else readF l k (f + 1) (bt l f == 47) x := by have := ER.out; simp only [if_true, ht] at this; exact this
          have ox := OX.out.next hb3
          have ux := UX.out.next hb3
          have bl3 := bl2.trans (hb3.mono bl2.size)
          clear OX UX ER hb3 u0 u1 u2 u3 u4 u5 u6 ug0 ug1 ug2 ug3 ug4 ug5 ug6 htm ht FX
          obtain ⟨u0, u1, u2, u3, u4, u5, u6, ug0, ug1, ug2, ug3, ug4, ug5, ug6⟩ := ux.seven
          have ox := ox.other_seven (q := w.heap.size + 1) (by omega) (.int .i64 x.num) (.int .i64 x.den) (.int .i64 x.dim.a) (.int .i64 x.dim.b) (.int .i64 x.dim.c) (.int .i64 x.dim.d) (.int .i64 x.dim.e)
          have ux := ux.put_seven (.int .i64 x.num) (.int .i64 x.den) (.int .i64 x.dim.a) (.int .i64 x.dim.b) (.int .i64 x.dim.c) (.int .i64 x.dim.d) (.int .i64 x.dim.e)
          have bl4 := below_seven (q := w.heap.size + 1) bl3 (by omega) (.int .i64 x.num) (.int .i64 x.den) (.int .i64 x.dim.a) (.int .i64 x.dim.b) (.int .i64 x.dim.c) (.int .i64 x.dim.d) (.int .i64 x.dim.e)
          obtain ⟨o0, o1, o2, o3, o4, o5, o6, g0, g1, g2, g3, g4, g5, g6⟩ := ox.seven
          have OX : Hid _ := ox
          have UX : Hid _ := ux
          have uc0 := ux.seven
          obtain ⟨x0, x1, x2, x3, x4, x5, x6, _⟩ := uc0
          clear ox ux
          by_cases hL : f = l.length
          · rw [if_pos hL] at er
            have E1 : Hid _ := er
            have k1 : ((f : Int) == (s.size : Int)) = true := by rw [beq_iff_eq]; omega
            clear er hL
            go_wp2_with fail
            refine bodyPost_ret (v := .tuple #[unitV x, .int .i64 0, .int .i64 0]) (by simp [results, Tryd.results10, go_sem, o0, o1, o2, o3, o4, o5, o6]) rfl ⟨by rw [E1.out]; rfl, ?_⟩
            exact below_seven bl4 (Nat.le_refl _) _ _ _ _ _ _ _
          · rw [if_neg hL] at er
            have k1 : ((f : Int) == (s.size : Int)) = false := beq_eq_false_iff_ne.2 (by omega)
            have k2 : (f : Int) < (s.size : Int) := by omega
            have k3 : f < s.size := by omega
            have hg := bt_get s f k3
            rw [hl] at hg
            have bne : ∀ y z : Int, (y != z) = !(y == z) := fun y z => rfl
            by_cases h42 : bt l f = 42
            · rw [if_neg (by omega)] at er
              have e2 : (bt l f == 47) = false := beq_eq_false_iff_ne.2 (by omega)
              rw [e2] at er
              have E1 : Hid _ := er
              rw [h42] at hg
              clear er hL h42 e2
              go_wp2_with fail
              go_quiet (fail)
              go_wp2_with fail
              go_roundw
              case rel =>
                refine ⟨f + 1, k, false, x, by go_num, rfl, by omega, by omega, hx, E1.out.symm, OX.out.later (below_drewN (Below.refl _ _) _) OX.out.lt, UX.out.later (below_drewN (Below.refl _ _) _) UX.out.lt, below_drewN bl4 _⟩
              case measure => simp [intOf]; omega
            · by_cases h47 : bt l f = 47
              · rw [if_neg (by omega)] at er
                have e2 : (bt l f == 47) = true := by rw [beq_iff_eq]; exact h47
                rw [e2] at er
                have E1 : Hid _ := er
                rw [h47] at hg
                clear er hL h42 e2 h47
                go_wp2_with fail
                go_quiet (fail)
                go_wp2_with fail
                go_roundw
                case rel =>
                  refine ⟨f + 1, k, true, x, by go_num, rfl, by omega, by omega, hx, E1.out.symm, OX.out.later (below_drewN (Below.refl _ _) _) OX.out.lt, UX.out.later (below_drewN (Below.refl _ _) _) UX.out.lt, below_drewN bl4 _⟩
                case measure => simp [intOf]; omega
              · rw [if_pos ⟨h42, h47⟩] at er
                have E1 : Hid _ := er
                have e2 : (bt l f == 42) = false := beq_eq_false_iff_ne.2 h42
                have e3 : (bt l f == 47) = false := beq_eq_false_iff_ne.2 h47
                clear er hL h42 h47
                generalize bt l f = b0 at *
                go_wp2_with fail
                refine bodyPost_ret (v := .tuple #[unitV unit0, .int .i64 f, .int .i64 20]) (by simp [results, Tryd.results10, go_sem, unit0, dim0, o0, o1, o2, o3, o4, o5, o6]) rfl ⟨by rw [E1.out]; rfl, ?_⟩
                exact below_seven bl4 (Nat.le_refl _) _ _ _ _ _ _ _
end Go.Proofs.YtjmngnnmnbhfpaaDoor
