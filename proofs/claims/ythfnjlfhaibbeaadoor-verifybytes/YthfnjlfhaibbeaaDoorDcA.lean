/- Package codec: what can be told. -/
import Derived.Test.YthfnjlfhaibbeaaDoorDcP
namespace Go.Proofs.YthfnjlfhaibbeaaDoor
open Go.RowKit

def ks (l : List Int) : List Value := l.map fun x => .int .i64 x
set_option maxHeartbeats 2000000 in
set_option maxRecDepth 20000 in
theorem within_c (m : Int) (l : List Int) (g c : Nat) (w : World) (h : Box w g (ks l)) (hl : l.length ≤ 1000) :
    Calls Tryd.prog 49 #[.int .i64 m, .slice (some ⟨g, 0, none⟩) l.length c] w fun e w' => e = .returned (.bool (l.all fun n => decide (0 ≤ n) && decide (n ≤ m))) ∧ w' = w := by
  obtain ⟨N, hN⟩ : ∃ N, Hid (N = l.length) := ⟨_, chid rfl⟩
  rw [← hN.out] at hl ⊢
  obtain ⟨R, hR⟩ : ∃ R : Bool, Hid (R = l.all fun n => decide (0 ≤ n) && decide (n ≤ m)) := ⟨_, chid rfl⟩
  rw [← hR.out]
  have HB := chid h
  clear h
  go_enter Tryd.func49, Tryd.ntmps49
  go_wp2_with fail
  go_loopw [9] (fun i wr => ∃ (k : Nat), i = .int .i64 (k : Nat) ∧ k ≤ N ∧ Hid (∀ j, j < k → ∀ x, l[j]? = some x → 0 ≤ x ∧ x ≤ m) ∧ wr = w) (fun i _ => match i with | .int _ z => ((N : Int) - z).toNat | _ => 0)
  case atStart => exact ⟨0, rfl, by omega, chid (fun j hj => by omega), rfl⟩
  case round =>
    obtain ⟨k, rfl, hk, HA, rfl⟩ := hrel
    by_cases hlt : k < N
    · have hlt' : (k : Int) < (N : Int) := by omega
      have hkl : k < l.length := by rw [← hN.out]; exact hlt
      have hy : l[k]? = some l[k] := List.getElem?_eq_getElem hkl
      have c0 := HB.out.cell k (.int .i64 l[k]) (by simp [ks, hkl])
      have gl := HB.out.lt
      generalize l[k] = y at *
      have HY := chid hy
      clear hy
      by_cases h1 : y < 0
      · go_wp2_with fail
        go_ret
        have e : R = false := by rw [hR.out, List.all_eq_false]; exact ⟨y, List.mem_of_getElem? HY.out, by simp; omega⟩
        exact ⟨by rw [e]; rfl, rfl⟩
      · by_cases h2 : m < y
        · go_wp2_with fail
          go_ret
          have e : R = false := by rw [hR.out, List.all_eq_false]; exact ⟨y, List.mem_of_getElem? HY.out, by simp; omega⟩
          exact ⟨by rw [e]; rfl, rfl⟩
        · go_wp2_with fail
          go_roundw
          case rel => exact ⟨k + 1, by go_num, by omega, chid (fun j hj x hx => by
            by_cases h : j = k
            · subst h
              rw [HY.out] at hx
              cases hx
              omega
            · exact HA.out j (by omega) x hx), by trivial⟩
          case measure => simp; omega
    · have hlt' : ¬ (k : Int) < (N : Int) := by omega
      go_wp2_with fail
      go_ret
      have e : R = true := by
        rw [hR.out, List.all_eq_true]
        intro x hx
        obtain ⟨j, hj, rfl⟩ := List.mem_iff_getElem.1 hx
        have := HA.out j (by have := hN.out; omega) _ (List.getElem?_eq_getElem hj)
        simp
        omega
      exact ⟨by rw [e]; rfl, rfl⟩
/-- The numbers of a call with as many of them, new in memory. -/
theorem within_new (m : Int) (l : List Int) (w : World) (hl : l.length ≤ 1000) (t : TypeId) :
    Calls Tryd.prog 49 #[.int .i64 m, .slice (some ⟨w.heap.size, 0, none⟩) l.length l.length] (w.alloc (.cells (ks l).toArray t)) fun e w' => e = .returned (.bool (l.all fun n => decide (0 ≤ n) && decide (n ≤ m))) ∧ Below w.heap.size w w' := by
  refine (within_c m l w.heap.size l.length _ (Box.new w (ks l) t) hl).mono ?_
  rintro e w' ⟨rfl, rfl⟩
  exact ⟨rfl, bel_alloc w _⟩
set_option maxHeartbeats 1000000 in
set_option maxRecDepth 20000 in
theorem told_c (g : PgP) (v : PgV) (w : World) (h : PgRd w g v) :
    Calls Tryd.prog 29 #[pgV g v] w fun e w' => e = .returned (.bool (toldB g)) ∧ Below w.heap.size w w' := by
  obtain ⟨a1, c1, e1, l1, m1⟩ := RowsK.shape h.k
  obtain ⟨a2, c2, e2, l2, m2⟩ := RowsK.shape h.wi
  obtain ⟨a3, c3, e3, l3, m3⟩ := RowsK.shape h.cr
  obtain ⟨a4, c4, e4, l4, m4⟩ := RowsK.shape h.c
  obtain ⟨vk, vw, vr, vc⟩ := v
  simp only at e1 e2 e3 e4
  subst e1 e2 e3 e4
  obtain ⟨Y0, YB⟩ := one_box w 31 (pgL g ⟨.slice a1 g.K.length c1, .slice a2 g.wins.length c2, .slice a3 g.crons.length c3, .slice a4 g.C.length c4⟩)
  have HY := chid Y0
  have HB := chid YB
  have HR := chid (h.next YB)
  have hl1 : g.K.length ≤ 9223372036854775807 := by omega
  have hl2 : g.wins.length ≤ 9223372036854775807 := by omega
  have hl3 : g.crons.length ≤ 9223372036854775807 := by omega
  have hl4 : g.C.length ≤ 9223372036854775807 := by omega
  have x6 := Y0.cell 6 _ rfl
  have x7 := Y0.cell 7 _ rfl
  have x8 := Y0.cell 8 _ rfl
  have x11 := Y0.cell 11 _ rfl
  have xl := Y0.lt
  obtain ⟨R, hR⟩ : ∃ R : Bool, Hid (R = toldB g) := ⟨_, chid rfl⟩
  rw [← hR.out]
  clear h Y0 YB l1 m1 l2 m2 l3 m3 l4 m4
  by_cases q1 : 16384 < g.K.length
  · have e : R = false := by rw [hR.out]; unfold toldB fewL; simp; omega
    have q1' : (16384 : Int) < (g.K.length : Int) := by omega
    rw [e]
    clear hR HY HR
    go_enter Tryd.func29, Tryd.ntmps29
    go_wp2_with fail
    go_ret
    exact ⟨rfl, HB.out⟩
  have q1' : ¬ (16384 : Int) < (g.K.length : Int) := by omega
  by_cases q2 : 256 < g.wins.length
  · have e : R = false := by rw [hR.out]; unfold toldB fewL; simp; omega
    have q2' : (256 : Int) < (g.wins.length : Int) := by omega
    rw [e]
    clear hR HY HR
    go_enter Tryd.func29, Tryd.ntmps29
    go_wp2_with fail
    go_ret
    exact ⟨rfl, HB.out⟩
  have q2' : ¬ (256 : Int) < (g.wins.length : Int) := by omega
  by_cases q3 : 256 < g.crons.length
  · have e : R = false := by rw [hR.out]; unfold toldB fewL; simp; omega
    have q3' : (256 : Int) < (g.crons.length : Int) := by omega
    rw [e]
    clear hR HY HR
    go_enter Tryd.func29, Tryd.ntmps29
    go_wp2_with fail
    go_ret
    exact ⟨rfl, HB.out⟩
  have q3' : ¬ (256 : Int) < (g.crons.length : Int) := by omega
  by_cases q4 : 16384 < g.C.length
  · have e : R = false := by rw [hR.out]; unfold toldB fewL; simp; omega
    have q4' : (16384 : Int) < (g.C.length : Int) := by omega
    rw [e]
    clear hR HY HR
    go_enter Tryd.func29, Tryd.ntmps29
    go_wp2_with fail
    go_ret
    exact ⟨rfl, HB.out⟩
  have q4' : ¬ (16384 : Int) < (g.C.length : Int) := by omega
  have HF : Hid (fewL g = true) := chid (by unfold fewL; simp; omega)
  clear q1 q2 q3 q4
  obtain ⟨gm, ⟨r0, r1, r2, r3, r4⟩, K, wins, crons, loc, hh, C⟩ := g
  simp only at *
  go_enter Tryd.func29, Tryd.ntmps29
  go_wp2_with fail
  generalize hW : w.alloc _ = W at *
  clear hW
  have HW := chid (Below.refl W.heap.size W)
  go_loopw [32] (fun i wr => ∃ (k : Nat), i = .int .i64 (k : Nat) ∧ k ≤ wins.length ∧ Hid (∀ j, j < k → ∀ x, wins[j]? = some x → (fitB x.m && fitB x.a) = true) ∧ Hid (Below W.heap.size W wr)) (fun i _ => match i with | .int _ z => ((wins.length : Int) - z).toNat | _ => 0)
  case atStart => exact ⟨0, rfl, by omega, chid (fun j hj => by omega), HW⟩
  case round =>
    obtain ⟨k, rfl, hk, HA, HW0⟩ := hrel
    by_cases hlt : k < wins.length
    · have hlt' : (k : Int) < (wins.length : Int) := by omega
      have hy : wins[k]? = some (wins.getD k wi0) := by simp [List.getD, hlt]
      obtain ⟨b, off, cap, hv, -, -, hbl, hx⟩ := RowsK.open HR.out.wi (show 0 < wins.length by omega)
      simp only [Value.slice.injEq] at hv
      obtain ⟨rfl, -, rfl⟩ := hv
      have z0 := keepc HW0.out (hx k hlt 0 _ rfl)
      have z1 := keepc HW0.out (hx k hlt 1 _ rfl)
      have z2 := keepc HW0.out (hx k hlt 2 _ rfl)
      have z3 := keepc HW0.out (hx k hlt 3 _ rfl)
      have bl := Nat.lt_of_lt_of_le hbl HW0.out.size
      rw [show off + k * 4 + 0 = off + k * 4 by omega] at z0
      clear hx hbl
      generalize wins.getD k wi0 = e at *
      have HY := chid hy
      clear hy
      obtain ⟨q, hq⟩ : ∃ q, Hid (q = (fitB e.m && fitB e.a)) := ⟨_, chid rfl⟩
      have hq2 : ([e.m, e.a].all fun n => decide (0 ≤ n) && decide (n ≤ 2147483647)) = q := by rw [hq.out]; simp [fitB]
      have HC := within_new 2147483647 [e.m, e.a] (wr.alloc (.cells (wiL e).toArray 65)) (by simp) 3
      rw [hq2, World.size_alloc] at HC
      have HC := chid HC
      clear hq2
      have HE := chid (fun w'' (h : Below (wr.heap.size + 1) (wr.alloc (.cells (wiL e).toArray 65)) w'') => cbelow_on HW0.out ((bel_alloc wr _).trans (h.mono (by simp))) HW0.out.size)
      cases q with
      | false =>
        have e1 : R = false := by
          rw [hR.out]
          unfold toldB
          rw [show (wins.all fun x => fitB x.m && fitB x.a) = false from List.all_eq_false.2 ⟨e, List.mem_of_getElem? HY.out, by rw [← hq.out]; simp⟩]
          simp
        go_wp2_with fail
        refine Calls.mono HC.out ?_
        rintro e' w1 ⟨rfl, b1⟩
        go_wp2_with fail
        go_ret
        exact ⟨by rw [e1]; rfl, cbelow_on HB.out (HE.out _ b1) HB.out.size⟩
      | true =>
        go_wp2_with fail
        refine Calls.mono HC.out ?_
        rintro e' w1 ⟨rfl, b1⟩
        have b2 := HE.out _ b1
        clear b1
        go_wp2_with fail
        go_roundw
        case rel => exact ⟨k + 1, by go_num, by omega, chid (fun j hj x hx => by
          by_cases h : j = k
          · subst h
            rw [HY.out] at hx
            cases hx
            exact hq.out.symm
          · exact HA.out j (by omega) x hx), chid b2⟩
        case measure => simp; omega
    · have hlt' : ¬ (k : Int) < (wins.length : Int) := by omega
      obtain rfl : k = wins.length := by omega
      have hw : (wins.all fun x => fitB x.m && fitB x.a) = true := by
        rw [List.all_eq_true]
        intro x hx
        obtain ⟨j, hj, rfl⟩ := List.mem_iff_getElem.1 hx
        exact HA.out j hj _ (List.getElem?_eq_getElem hj)
      have HWi := chid hw
      clear hw HA
      have Y1 := HY.out.next HW0.out
      have x11 := Y1.cell 11 _ rfl
      have xl := Y1.lt
      have HY1 := chid Y1
      clear Y1
      go_wp2_with fail
      go_loopw [47] (fun i wr => ∃ (k : Nat), i = .int .i64 (k : Nat) ∧ k ≤ C.length ∧ Hid (∀ j, j < k → ∀ x, C[j]? = some x → opB x.1 = true) ∧ Hid (Below W.heap.size W wr)) (fun i _ => match i with | .int _ z => ((C.length : Int) - z).toNat | _ => 0)
      case atStart => exact ⟨0, rfl, by omega, chid (fun j hj => by omega), HW0⟩
      case round =>
        obtain ⟨k, rfl, hk, HA, HW1⟩ := hrel
        by_cases hlt : k < C.length
        · have hlt' : (k : Int) < (C.length : Int) := by omega
          have hy : C[k]? = some (C.getD k in0) := by simp [List.getD, hlt]
          obtain ⟨b, off, cap, hv, -, -, hbl, hx⟩ := RowsK.open HR.out.c (show 0 < C.length by omega)
          simp only [Value.slice.injEq] at hv
          obtain ⟨rfl, -, rfl⟩ := hv
          have z0 := keepc HW1.out (hx k hlt 0 _ rfl)
          have z1 := keepc HW1.out (hx k hlt 1 _ rfl)
          have bl := Nat.lt_of_lt_of_le hbl HW1.out.size
          rw [show off + k * 2 + 0 = off + k * 2 by omega] at z0
          clear hx hbl
          generalize C.getD k in0 = e at *
          have HY := chid hy
          clear hy
          obtain ⟨q, hq⟩ : ∃ q, Hid (q = opB e.1) := ⟨_, chid rfl⟩
          have hq2 : ([e.1].all fun n => decide (0 ≤ n) && decide (n ≤ 255)) = q := by rw [hq.out]; simp [opB]
          have HC := within_new 255 [e.1] (wr.alloc (.cells (inL e).toArray 51)) (by simp) 3
          rw [hq2, World.size_alloc] at HC
          have HC := chid HC
          clear hq2
          have HE := chid (fun w'' (h : Below (wr.heap.size + 1) (wr.alloc (.cells (inL e).toArray 51)) w'') => cbelow_on HW1.out ((bel_alloc wr _).trans (h.mono (by simp))) HW1.out.size)
          cases q with
          | false =>
            have e1 : R = false := by
              rw [hR.out]
              unfold toldB
              rw [show (C.all fun x => opB x.1) = false from List.all_eq_false.2 ⟨e, List.mem_of_getElem? HY.out, by rw [← hq.out]; simp⟩]
              simp
            go_wp2_with fail
            refine Calls.mono HC.out ?_
            rintro e' w1 ⟨rfl, b1⟩
            go_wp2_with fail
            go_ret
            exact ⟨by rw [e1]; rfl, cbelow_on HB.out (HE.out _ b1) HB.out.size⟩
          | true =>
            go_wp2_with fail
            refine Calls.mono HC.out ?_
            rintro e' w1 ⟨rfl, b1⟩
            have b2 := HE.out _ b1
            clear b1
            go_wp2_with fail
            go_roundw
            case rel => exact ⟨k + 1, by go_num, by omega, chid (fun j hj x hx => by
              by_cases h : j = k
              · subst h
                rw [HY.out] at hx
                cases hx
                exact hq.out.symm
              · exact HA.out j (by omega) x hx), chid b2⟩
            case measure => simp; omega
        · have hlt' : ¬ (k : Int) < (C.length : Int) := by omega
          obtain rfl : k = C.length := by omega
          have hw : (C.all fun x => opB x.1) = true := by
            rw [List.all_eq_true]
            intro x hx
            obtain ⟨j, hj, rfl⟩ := List.mem_iff_getElem.1 hx
            exact HA.out j hj _ (List.getElem?_eq_getElem hj)
          have HCo := chid hw
          clear hw HA
          have Y2 := HY.out.next HW1.out
          have x0 := Y2.cell 0 _ rfl
          have x9 := Y2.cell 9 _ rfl
          have x10 := Y2.cell 10 _ rfl
          have xl := Y2.lt
          clear Y2
          have e1 : ([gm, loc, hh].all fun n => decide (0 ≤ n) && decide (n ≤ 2147483647)) = R := by
            rw [hR.out]
            unfold toldB
            rw [HWi.out, HCo.out, HF.out]
            simp only [Bool.true_and, fitB, List.all_cons, List.all_nil, Bool.and_true, Bool.and_assoc]
          have HC := within_new 2147483647 [gm, loc, hh] wr (by simp) 3
          rw [e1] at HC
          have HC := chid HC
          clear e1
          go_wp2_with fail
          refine Calls.mono HC.out ?_
          rintro e' w1 ⟨rfl, b1⟩
          go_wp2_with fail
          go_ret
          exact ⟨rfl, cbelow_on HB.out (cbelow_on HW1.out b1 HW1.out.size) HB.out.size⟩
end Go.Proofs.YthfnjlfhaibbeaaDoor
