/- The document's Same, at programs that are alike. -/
import Derived.Test.YtbddbnjhmdbkbaaGreatDoorCaKdV
namespace Go.Proofs.YtbddbnjhmdbkbaaGreatDoor
open Go.RowKit

def in0 : Ins := (0, 0)
/-- A program that can be read. -/
structure PgRd (w : World) (g : PgP) (v : PgV) : Prop where
  k : RowsK w v.k g.K.length 1 (fun i => [.int .i64 (g.K.getD i 0)])
  wi : WisAt w v.wi g.wins
  cr : CrsAt w v.cr g.crons
  c : RowsK w v.c g.C.length 2 (fun i => [.int .i64 (g.C.getD i in0).1, .int .i64 (g.C.getD i in0).2])
theorem PgRd.next {w w' : World} {g : PgP} {v : PgV} (h : PgRd w g v) (k : Below w.heap.size w w') : PgRd w' g v := ⟨h.k.next k, RowsK.next h.wi k, RowsK.next h.cr k, h.c.next k⟩
theorem rows_of_box {w : World} {lo n k : Nat} {e : TypeId} {v : Value} {xs : List Value} {cs : Nat → List Value} (h : w.ownsRow lo e k v n xs) (hx : ∀ i, i < n → ∀ j x, (cs i)[j]? = some x → xs[i * k + j]? = some x) : RowsK w v n k cs := by
  obtain ⟨-, ⟨h2, h3⟩ | ⟨g, cap, cur, h2, h3, h4, h5, h6, h7, h8⟩⟩ := h
  · exact ⟨none, 0, by rw [h2, h3], by omega, by omega, .inl h3⟩
  · have BX : Box w g xs := (Box.ofBlock h4).part (by rw [← h8]; exact List.take_prefix _ _)
    exact ⟨some ⟨g, 0, none⟩, cap, h2, h5, h6, .inr ⟨g, 0, rfl, BX.lt, fun i hi j x hj => by rw [Nat.zero_add]; exact BX.cell _ _ (hx i hi j x hj)⟩⟩
theorem PgAt.rd {w : World} {lo : Nat} {g : PgP} {v : PgV} (h : PgAt w lo g v) : PgRd w g v := by
  refine ⟨rows_of_box h.k (fun i hi j x hj => ?_), rows_of_own (fun _ => rfl) h.wi, rows_of_own (fun _ => rfl) h.cr, rows_of_box h.c (fun i hi j x hj => ?_)⟩
  · have hj0 : j = 0 := by have := (List.getElem?_eq_some_iff.1 hj).1; simp at this; omega
    subst hj0
    simp only [List.getElem?_cons_zero, Option.some.injEq] at hj
    subst hj
    simp [flK, hi, List.getD]
  · have hj2 : j = 0 ∨ j = 1 := by have := (List.getElem?_eq_some_iff.1 hj).1; simp at this; omega
    have hg : g.C[i]? = some (g.C.getD i in0) := by simp [List.getD, hi]
    rcases hj2 with rfl | rfl
    · simp only [List.getElem?_cons_zero, Option.some.injEq] at hj
      subst hj
      exact (flI_at g.C i _ hg).1
    · simp only [List.getElem?_cons_succ, List.getElem?_cons_zero, Option.some.injEq] at hj
      subst hj
      exact (flI_at g.C i _ hg).2
set_option maxHeartbeats 8000000 in
set_option maxRecDepth 20000 in
theorem same21_c (g : PgP) (v u : PgV) (w : World) (h : PgRd w g v) (k : PgRd w g u) : Calls Tryz.prog 20 #[pgV g v, pgV g u] w fun e w' => e = .returned (.bool true) ∧ Below w.heap.size w w' := by
  obtain ⟨a1, c1, e1, l1, m1⟩ := RowsK.shape h.k
  obtain ⟨a2, c2, e2, l2, m2⟩ := RowsK.shape h.wi
  obtain ⟨a3, c3, e3, l3, m3⟩ := RowsK.shape h.cr
  obtain ⟨a4, c4, e4, l4, m4⟩ := RowsK.shape h.c
  obtain ⟨b1, d1, f1, -, -⟩ := RowsK.shape k.k
  obtain ⟨b2, d2, f2, -, -⟩ := RowsK.shape k.wi
  obtain ⟨b3, d3, f3, -, -⟩ := RowsK.shape k.cr
  obtain ⟨b4, d4, f4, -, -⟩ := RowsK.shape k.c
  obtain ⟨vk, vw, vr, vc⟩ := v
  obtain ⟨uk, uw, ur, uc⟩ := u
  simp only at e1 e2 e3 e4 f1 f2 f3 f4
  subst e1 e2 e3 e4 f1 f2 f3 f4
  obtain ⟨Y0, Y1, YB⟩ := two_boxes w 55 55 (pgL g ⟨.slice a1 g.K.length c1, .slice a2 g.wins.length c2, .slice a3 g.crons.length c3, .slice a4 g.C.length c4⟩) (pgL g ⟨.slice b1 g.K.length d1, .slice b2 g.wins.length d2, .slice b3 g.crons.length d3, .slice b4 g.C.length d4⟩)
  have HY := chid (And.intro Y0 Y1)
  have HB := chid YB
  have HR := chid (And.intro (h.next YB) (k.next YB))
  have hl1 : g.K.length ≤ 9223372036854775807 := by omega
  have hl2 : g.wins.length ≤ 9223372036854775807 := by omega
  have hl3 : g.crons.length ≤ 9223372036854775807 := by omega
  have hl4 : g.C.length ≤ 9223372036854775807 := by omega
  have x0 := Y0.cell 0 _ rfl
  have y0 := Y1.cell 0 _ rfl
  have x1 := Y0.cell 1 _ rfl
  have y1 := Y1.cell 1 _ rfl
  have x2 := Y0.cell 2 _ rfl
  have y2 := Y1.cell 2 _ rfl
  have x3 := Y0.cell 3 _ rfl
  have y3 := Y1.cell 3 _ rfl
  have x4 := Y0.cell 4 _ rfl
  have y4 := Y1.cell 4 _ rfl
  have x5 := Y0.cell 5 _ rfl
  have y5 := Y1.cell 5 _ rfl
  have x6 := Y0.cell 6 _ rfl
  have y6 := Y1.cell 6 _ rfl
  have x7 := Y0.cell 7 _ rfl
  have y7 := Y1.cell 7 _ rfl
  have x8 := Y0.cell 8 _ rfl
  have y8 := Y1.cell 8 _ rfl
  have x9 := Y0.cell 9 _ rfl
  have y9 := Y1.cell 9 _ rfl
  have x10 := Y0.cell 10 _ rfl
  have y10 := Y1.cell 10 _ rfl
  have x11 := Y0.cell 11 _ rfl
  have y11 := Y1.cell 11 _ rfl
  have xl := Y0.lt
  have yl := Y1.lt
  clear h k Y0 Y1 YB l1 m1 l2 m2 l3 m3 l4 m4
  obtain ⟨gm, ⟨r0, r1, r2, r3, r4⟩, K, wins, crons, loc, hh, C⟩ := g
  simp only at *
  go_enter Tryz.func20, Tryz.ntmps20
  go_wp2_with fail
  generalize hW : ((w.alloc _).alloc _) = W at *
  clear hW x0 y0 x1 y1 x2 y2 x3 y3 x4 y4 x5 y5 x6 y6 x7 y7 x8 y8 x9 y9 x10 y10 x11 y11 xl yl
  have HW := chid (Below.refl W.heap.size W)
  skip
  go_loopw [5] (fun i wr => ∃ (j : Nat), i = .int .i64 (j : Nat) ∧ j ≤ K.length ∧ Hid (Below W.heap.size W wr)) (fun i _ => match i with | .int _ z => ((K.length : Int) - z).toNat | _ => 0)
  case atStart => exact ⟨0, rfl, Nat.zero_le _, HW⟩
  case round =>
    obtain ⟨j, rfl, hj, HW0⟩ := hrel
    have Y0 := HY.out.1.next HW0.out
    have Y1 := HY.out.2.next HW0.out
    have p0 := Y0.cell 6 _ rfl
    have p1 := Y1.cell 6 _ rfl
    have pl := Y0.lt
    have ql := Y1.lt
    have s0 := Y0.cell 7 _ rfl
    have s1 := Y1.cell 7 _ rfl
    clear Y0 Y1
    by_cases hlt : j < K.length
    · have hlt' : (j : Int) < (K.length : Int) := by omega
      have hwj : IntKind.i64.wrap ((j : Int) + 1) = (j : Int) + 1 := by rw [IntKind.wrap_i64]; omega
      obtain ⟨b, off, cap, hv, -, -, hbl, hx⟩ := RowsK.open HR.out.1.k (show 0 < K.length by omega)
      obtain ⟨b', off', cap', hv', -, -, hbl', hx'⟩ := RowsK.open HR.out.2.k (show 0 < K.length by omega)
      simp only [Value.slice.injEq] at hv hv'
      obtain ⟨rfl, -, rfl⟩ := hv
      obtain ⟨rfl, -, rfl⟩ := hv'
      have z0 := keepc HW0.out (hx j hlt 0 _ rfl)
      have t0 := keepc HW0.out (hx' j hlt 0 _ rfl)
      have bl := Nat.lt_of_lt_of_le hbl HW0.out.size
      have bl' := Nat.lt_of_lt_of_le hbl' HW0.out.size
      rw [show off + j * 1 + 0 = off + j by omega] at z0
      rw [show off' + j * 1 + 0 = off' + j by omega] at t0
      clear hx hx' hbl hbl'
      generalize K.getD j 0 = e at *
      go_wp2_with fail
      go_quiet (fail)
      go_wp2_with fail
      go_roundw
      case rel => exact ⟨j + 1, by go_num, by omega, chid (cdrewN HW0.out _)⟩
      case measure => simp; omega
    · have hlt' : ¬ (j : Int) < (K.length : Int) := by omega
      obtain rfl : j = K.length := by omega
      go_wp2_with fail
      go_loopw [6] (fun i wr => ∃ (j : Nat), i = .int .i64 (j : Nat) ∧ j ≤ wins.length ∧ Hid (Below W.heap.size W wr)) (fun i _ => match i with | .int _ z => ((wins.length : Int) - z).toNat | _ => 0)
      case atStart => exact ⟨0, rfl, Nat.zero_le _, HW0⟩
      case round =>
        obtain ⟨j, rfl, hj, HW1⟩ := hrel
        have Y0 := HY.out.1.next HW1.out
        have Y1 := HY.out.2.next HW1.out
        have p0 := Y0.cell 7 _ rfl
        have p1 := Y1.cell 7 _ rfl
        have pl := Y0.lt
        have ql := Y1.lt
        have s0 := Y0.cell 8 _ rfl
        have s1 := Y1.cell 8 _ rfl
        clear Y0 Y1
        by_cases hlt : j < wins.length
        · have hlt' : (j : Int) < (wins.length : Int) := by omega
          have hwj : IntKind.i64.wrap ((j : Int) + 1) = (j : Int) + 1 := by rw [IntKind.wrap_i64]; omega
          obtain ⟨b, off, cap, hv, -, -, hbl, hx⟩ := RowsK.open HR.out.1.wi (show 0 < wins.length by omega)
          obtain ⟨b', off', cap', hv', -, -, hbl', hx'⟩ := RowsK.open HR.out.2.wi (show 0 < wins.length by omega)
          simp only [Value.slice.injEq] at hv hv'
          obtain ⟨rfl, -, rfl⟩ := hv
          obtain ⟨rfl, -, rfl⟩ := hv'
          have z0 := keepc HW1.out (hx j hlt 0 _ rfl)
          have t0 := keepc HW1.out (hx' j hlt 0 _ rfl)
          have z1 := keepc HW1.out (hx j hlt 1 _ rfl)
          have t1 := keepc HW1.out (hx' j hlt 1 _ rfl)
          have z2 := keepc HW1.out (hx j hlt 2 _ rfl)
          have t2 := keepc HW1.out (hx' j hlt 2 _ rfl)
          have z3 := keepc HW1.out (hx j hlt 3 _ rfl)
          have t3 := keepc HW1.out (hx' j hlt 3 _ rfl)
          have bl := Nat.lt_of_lt_of_le hbl HW1.out.size
          have bl' := Nat.lt_of_lt_of_le hbl' HW1.out.size
          rw [show off + j * 4 + 0 = off + j * 4 by omega] at z0
          rw [show off' + j * 4 + 0 = off' + j * 4 by omega] at t0
          clear hx hx' hbl hbl'
          generalize wins.getD j wi0 = e at *
          go_wp2_with fail
          go_quiet (fail)
          go_wp2_with fail
          go_roundw
          case rel => exact ⟨j + 1, by go_num, by omega, chid (cdrewN HW1.out _)⟩
          case measure => simp; omega
        · have hlt' : ¬ (j : Int) < (wins.length : Int) := by omega
          obtain rfl : j = wins.length := by omega
          go_wp2_with fail
          go_loopw [7] (fun i wr => ∃ (j : Nat), i = .int .i64 (j : Nat) ∧ j ≤ crons.length ∧ Hid (Below W.heap.size W wr)) (fun i _ => match i with | .int _ z => ((crons.length : Int) - z).toNat | _ => 0)
          case atStart => exact ⟨0, rfl, Nat.zero_le _, HW1⟩
          case round =>
            obtain ⟨j, rfl, hj, HW2⟩ := hrel
            have Y0 := HY.out.1.next HW2.out
            have Y1 := HY.out.2.next HW2.out
            have p0 := Y0.cell 8 _ rfl
            have p1 := Y1.cell 8 _ rfl
            have pl := Y0.lt
            have ql := Y1.lt
            have s0 := Y0.cell 11 _ rfl
            have s1 := Y1.cell 11 _ rfl
            clear Y0 Y1
            by_cases hlt : j < crons.length
            · have hlt' : (j : Int) < (crons.length : Int) := by omega
              have hwj : IntKind.i64.wrap ((j : Int) + 1) = (j : Int) + 1 := by rw [IntKind.wrap_i64]; omega
              obtain ⟨b, off, cap, hv, -, -, hbl, hx⟩ := RowsK.open HR.out.1.cr (show 0 < crons.length by omega)
              obtain ⟨b', off', cap', hv', -, -, hbl', hx'⟩ := RowsK.open HR.out.2.cr (show 0 < crons.length by omega)
              simp only [Value.slice.injEq] at hv hv'
              obtain ⟨rfl, -, rfl⟩ := hv
              obtain ⟨rfl, -, rfl⟩ := hv'
              have z0 := keepc HW2.out (hx j hlt 0 _ rfl)
              have t0 := keepc HW2.out (hx' j hlt 0 _ rfl)
              have z1 := keepc HW2.out (hx j hlt 1 _ rfl)
              have t1 := keepc HW2.out (hx' j hlt 1 _ rfl)
              have z2 := keepc HW2.out (hx j hlt 2 _ rfl)
              have t2 := keepc HW2.out (hx' j hlt 2 _ rfl)
              have z3 := keepc HW2.out (hx j hlt 3 _ rfl)
              have t3 := keepc HW2.out (hx' j hlt 3 _ rfl)
              have z4 := keepc HW2.out (hx j hlt 4 _ rfl)
              have t4 := keepc HW2.out (hx' j hlt 4 _ rfl)
              have bl := Nat.lt_of_lt_of_le hbl HW2.out.size
              have bl' := Nat.lt_of_lt_of_le hbl' HW2.out.size
              rw [show off + j * 5 + 0 = off + j * 5 by omega] at z0
              rw [show off' + j * 5 + 0 = off' + j * 5 by omega] at t0
              clear hx hx' hbl hbl'
              generalize crons.getD j cr0 = e at *
              go_wp2_with fail
              go_quiet (fail)
              go_wp2_with fail
              go_roundw
              case rel => exact ⟨j + 1, by go_num, by omega, chid (cdrewN HW2.out _)⟩
              case measure => simp; omega
            · have hlt' : ¬ (j : Int) < (crons.length : Int) := by omega
              obtain rfl : j = crons.length := by omega
              go_wp2_with fail
              go_loopw [8] (fun i wr => ∃ (j : Nat), i = .int .i64 (j : Nat) ∧ j ≤ C.length ∧ Hid (Below W.heap.size W wr)) (fun i _ => match i with | .int _ z => ((C.length : Int) - z).toNat | _ => 0)
              case atStart => exact ⟨0, rfl, Nat.zero_le _, HW2⟩
              case round =>
                obtain ⟨j, rfl, hj, HW3⟩ := hrel
                have Y0 := HY.out.1.next HW3.out
                have Y1 := HY.out.2.next HW3.out
                have p0 := Y0.cell 11 _ rfl
                have p1 := Y1.cell 11 _ rfl
                have pl := Y0.lt
                have ql := Y1.lt
                clear Y0 Y1
                by_cases hlt : j < C.length
                · have hlt' : (j : Int) < (C.length : Int) := by omega
                  have hwj : IntKind.i64.wrap ((j : Int) + 1) = (j : Int) + 1 := by rw [IntKind.wrap_i64]; omega
                  obtain ⟨b, off, cap, hv, -, -, hbl, hx⟩ := RowsK.open HR.out.1.c (show 0 < C.length by omega)
                  obtain ⟨b', off', cap', hv', -, -, hbl', hx'⟩ := RowsK.open HR.out.2.c (show 0 < C.length by omega)
                  simp only [Value.slice.injEq] at hv hv'
                  obtain ⟨rfl, -, rfl⟩ := hv
                  obtain ⟨rfl, -, rfl⟩ := hv'
                  have z0 := keepc HW3.out (hx j hlt 0 _ rfl)
                  have t0 := keepc HW3.out (hx' j hlt 0 _ rfl)
                  have z1 := keepc HW3.out (hx j hlt 1 _ rfl)
                  have t1 := keepc HW3.out (hx' j hlt 1 _ rfl)
                  have bl := Nat.lt_of_lt_of_le hbl HW3.out.size
                  have bl' := Nat.lt_of_lt_of_le hbl' HW3.out.size
                  rw [show off + j * 2 + 0 = off + j * 2 by omega] at z0
                  rw [show off' + j * 2 + 0 = off' + j * 2 by omega] at t0
                  clear hx hx' hbl hbl'
                  generalize C.getD j in0 = e at *
                  go_wp2_with fail
                  go_quiet (fail)
                  go_wp2_with fail
                  go_roundw
                  case rel => exact ⟨j + 1, by go_num, by omega, chid (cdrewN HW3.out _)⟩
                  case measure => simp; omega
                · have hlt' : ¬ (j : Int) < (C.length : Int) := by omega
                  obtain rfl : j = C.length := by omega
                  go_wp2_with fail
                  go_ret
                  exact ⟨rfl, cbelow_on HB.out HW3.out HB.out.size⟩
end Go.Proofs.YtbddbnjhmdbkbaaGreatDoor
