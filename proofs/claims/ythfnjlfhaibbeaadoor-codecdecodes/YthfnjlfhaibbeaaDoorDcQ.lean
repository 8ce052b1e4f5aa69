/- The document's Same, at any two programs. -/
import Derived.Test.YthfnjlfhaibbeaaDoorDcN
namespace Go.Proofs.YthfnjlfhaibbeaaDoor
open Go.RowKit

def SaP (g q : PgP) (w : World) (e : Ending) (w' : World) : Prop := Below w.heap.size w w' ∧ ∃ R : Bool, e = .returned (.bool R) ∧ (R = true ↔ g = q)
theorem ext_getD {α : Type} (d : α) {xs ys : List α} (hl : ys.length = xs.length) (h : ∀ i, i < xs.length → xs.getD i d = ys.getD i d) : xs = ys := by
  apply List.ext_getElem hl.symm
  intro i h1 h2
  have := h i h1
  simpa [List.getD, h1, h2] using this
set_option maxHeartbeats 8000000 in
set_option maxRecDepth 20000 in
theorem same_c (g q : PgP) (v u : PgV) (w : World) (h : PgRd w g v) (k : PgRd w q u) : Calls Tryd.prog 11 #[pgV g v, pgV q u] w (SaP g q w) := by
  have HT : Hid (∀ w', Below w.heap.size w w' → g = q → SaP g q w (.returned (.bool true)) w') := chid (fun w' hb he => ⟨hb, true, rfl, by simp [he]⟩)
  have HF : Hid (∀ w', Below w.heap.size w w' → g ≠ q → SaP g q w (.returned (.bool false)) w') := chid (fun w' hb he => ⟨hb, false, rfl, by simp [he]⟩)
  generalize SaP g q w = Post at *
  obtain ⟨a1, c1, e1, l1, m1⟩ := RowsK.shape h.k
  obtain ⟨a2, c2, e2, l2, m2⟩ := RowsK.shape h.wi
  obtain ⟨a3, c3, e3, l3, m3⟩ := RowsK.shape h.cr
  obtain ⟨a4, c4, e4, l4, m4⟩ := RowsK.shape h.c
  obtain ⟨b1, d1, f1, n1, o1⟩ := RowsK.shape k.k
  obtain ⟨b2, d2, f2, n2, o2⟩ := RowsK.shape k.wi
  obtain ⟨b3, d3, f3, n3, o3⟩ := RowsK.shape k.cr
  obtain ⟨b4, d4, f4, n4, o4⟩ := RowsK.shape k.c
  obtain ⟨LK, hLK⟩ : ∃ L, Hid (L = q.K.length) := ⟨_, chid rfl⟩
  obtain ⟨LW, hLW⟩ : ∃ L, Hid (L = q.wins.length) := ⟨_, chid rfl⟩
  obtain ⟨LR, hLR⟩ : ∃ L, Hid (L = q.crons.length) := ⟨_, chid rfl⟩
  obtain ⟨LC, hLC⟩ : ∃ L, Hid (L = q.C.length) := ⟨_, chid rfl⟩
  rw [← hLK.out] at f1 n1
  rw [← hLW.out] at f2 n2
  rw [← hLR.out] at f3 n3
  rw [← hLC.out] at f4 n4
  obtain ⟨vk, vw, vr, vc⟩ := v
  obtain ⟨uk, uw, ur, uc⟩ := u
  simp only at e1 e2 e3 e4 f1 f2 f3 f4
  subst e1 e2 e3 e4 f1 f2 f3 f4
  obtain ⟨Y0, Y1, YB⟩ := two_boxes w 31 31 (pgL g ⟨.slice a1 g.K.length c1, .slice a2 g.wins.length c2, .slice a3 g.crons.length c3, .slice a4 g.C.length c4⟩) (pgL q ⟨.slice b1 LK d1, .slice b2 LW d2, .slice b3 LR d3, .slice b4 LC d4⟩)
  have HY := chid (And.intro Y0 Y1)
  have HB := chid YB
  have HR := chid (And.intro (h.next YB) (k.next YB))
  have x0 := Y0.cell 0 _ rfl
  have y0 := Y1.cell 0 _ rfl
  have x1 := Y0.cell 1 _ rfl
  have y1 := Y1.cell 1 _ rfl
  have x2 := Y0.cell 2 _ rfl
  have y2 := Y1.cell 2 _ rfl
  have x3 := Y0.cell 3 _ rfl
  have y3 := Y1.cell 3 _ rfl
  have x4 := Y0.cell 4 _ rfl
  have y4 := Y1.cell 4 _ rfl
  have x5 := Y0.cell 5 _ rfl
  have y5 := Y1.cell 5 _ rfl
  have x6 := Y0.cell 6 _ rfl
  have y6 := Y1.cell 6 _ rfl
  have x7 := Y0.cell 7 _ rfl
  have y7 := Y1.cell 7 _ rfl
  have x8 := Y0.cell 8 _ rfl
  have y8 := Y1.cell 8 _ rfl
  have x9 := Y0.cell 9 _ rfl
  have y9 := Y1.cell 9 _ rfl
  have x10 := Y0.cell 10 _ rfl
  have y10 := Y1.cell 10 _ rfl
  have x11 := Y0.cell 11 _ rfl
  have y11 := Y1.cell 11 _ rfl
  have xl := Y0.lt
  have yl := Y1.lt
  clear h k Y0 Y1 YB
  obtain ⟨gm, ⟨r0, r1, r2, r3, r4⟩, K, wins, crons, loc, hh, C⟩ := g
  obtain ⟨gm', ⟨s0, s1, s2, s3, s4⟩, K', wins', crons', loc', hh', C'⟩ := q
  simp only at *
  by_cases p0 : gm = gm'
  case neg =>
    have n0 : (gm == gm') = false := by simpa using p0
    clear HY HR
    go_enter Tryd.func11, Tryd.ntmps11
    go_wp2_with fail
    exact HF.out _ HB.out (fun e => by cases e; exact p0 rfl)
  subst p0
  by_cases p1 : r0 = s0
  case neg =>
    have n1 : (r0 == s0) = false := by simpa using p1
    clear HY HR
    go_enter Tryd.func11, Tryd.ntmps11
    go_wp2_with fail
    exact HF.out _ HB.out (fun e => by cases e; exact p1 rfl)
  subst p1
  by_cases p2 : r1 = s1
  case neg =>
    have n2 : (r1 == s1) = false := by simpa using p2
    clear HY HR
    go_enter Tryd.func11, Tryd.ntmps11
    go_wp2_with fail
    exact HF.out _ HB.out (fun e => by cases e; exact p2 rfl)
  subst p2
  by_cases p3 : r2 = s2
  case neg =>
    have n3 : (r2 == s2) = false := by simpa using p3
    clear HY HR
    go_enter Tryd.func11, Tryd.ntmps11
    go_wp2_with fail
    exact HF.out _ HB.out (fun e => by cases e; exact p3 rfl)
  subst p3
  by_cases p4 : r3 = s3
  case neg =>
    have n4 : (r3 == s3) = false := by simpa using p4
    clear HY HR
    go_enter Tryd.func11, Tryd.ntmps11
    go_wp2_with fail
    exact HF.out _ HB.out (fun e => by cases e; exact p4 rfl)
  subst p4
  by_cases p5 : r4 = s4
  case neg =>
    have n5 : (r4 == s4) = false := by simpa using p5
    clear HY HR
    go_enter Tryd.func11, Tryd.ntmps11
    go_wp2_with fail
    exact HF.out _ HB.out (fun e => by cases e; exact p5 rfl)
  subst p5
  by_cases p6 : loc = loc'
  case neg =>
    have n6 : (loc == loc') = false := by simpa using p6
    clear HY HR
    go_enter Tryd.func11, Tryd.ntmps11
    go_wp2_with fail
    exact HF.out _ HB.out (fun e => by cases e; exact p6 rfl)
  subst p6
  by_cases p7 : hh = hh'
  case neg =>
    have n7 : (hh == hh') = false := by simpa using p7
    clear HY HR
    go_enter Tryd.func11, Tryd.ntmps11
    go_wp2_with fail
    exact HF.out _ HB.out (fun e => by cases e; exact p7 rfl)
  subst p7
  by_cases p10 : LK = K.length
  case neg =>
    have n10 : ¬ (K.length : Int) = (LK : Int) := by omega
    clear HY HR
    go_enter Tryd.func11, Tryd.ntmps11
    go_wp2_with fail
    exact HF.out _ HB.out (fun e => by cases e; exact p10 hLK.out)
  subst p10
  by_cases p11 : LW = wins.length
  case neg =>
    have n11 : ¬ (wins.length : Int) = (LW : Int) := by omega
    clear HY HR
    go_enter Tryd.func11, Tryd.ntmps11
    go_wp2_with fail
    exact HF.out _ HB.out (fun e => by cases e; exact p11 hLW.out)
  subst p11
  by_cases p12 : LR = crons.length
  case neg =>
    have n12 : ¬ (crons.length : Int) = (LR : Int) := by omega
    clear HY HR
    go_enter Tryd.func11, Tryd.ntmps11
    go_wp2_with fail
    exact HF.out _ HB.out (fun e => by cases e; exact p12 hLR.out)
  subst p12
  by_cases p13 : LC = C.length
  case neg =>
    have n13 : ¬ (C.length : Int) = (LC : Int) := by omega
    clear HY HR
    go_enter Tryd.func11, Tryd.ntmps11
    go_wp2_with fail
    exact HF.out _ HB.out (fun e => by cases e; exact p13 hLC.out)
  subst p13
  go_enter Tryd.func11, Tryd.ntmps11
  go_wp2_with fail
  generalize hW : ((w.alloc _).alloc _) = W at *
  clear hW x0 y0 x1 y1 x2 y2 x3 y3 x4 y4 x5 y5 x6 y6 x7 y7 x8 y8 x9 y9 x10 y10 x11 y11 xl yl
  have HW0 := chid (Below.refl W.heap.size W)
  go_loopw [5] (fun i wr => ∃ (j : Nat), i = .int .i64 (j : Nat) ∧ j ≤ K.length ∧ Hid (∀ i, i < j → K.getD i 0 = K'.getD i 0) ∧ Hid (Below W.heap.size W wr)) (fun i _ => match i with | .int _ z => ((K.length : Int) - z).toNat | _ => 0)
  case atStart => exact ⟨0, rfl, Nat.zero_le _, chid (fun i hi => by omega), HW0⟩
  case round =>
    obtain ⟨j, rfl, hj, HE1, HW1⟩ := hrel
    have Y0 := HY.out.1.next HW1.out
    have Y1 := HY.out.2.next HW1.out
    have p0 := Y0.cell 6 _ rfl
    have p1 := Y1.cell 6 _ rfl
    have pl := Y0.lt
    have ql := Y1.lt
    have s0 := Y0.cell 7 _ rfl
    have s1 := Y1.cell 7 _ rfl
    clear Y0 Y1
    by_cases hlt : j < K.length
    · have hlt' : (j : Int) < (K.length : Int) := by omega
      have hlt2 : j < K'.length := by have := hLK.out; omega
      have hwj : IntKind.i64.wrap ((j : Int) + 1) = (j : Int) + 1 := by rw [IntKind.wrap_i64]; omega
      obtain ⟨b, off, cap, hv, -, -, hbl, hx⟩ := RowsK.open HR.out.1.k (show 0 < K.length by omega)
      obtain ⟨b', off', cap', hv', -, -, hbl', hx'⟩ := RowsK.open HR.out.2.k (show 0 < K'.length by omega)
      simp only [Value.slice.injEq] at hv hv'
      obtain ⟨rfl, -, rfl⟩ := hv
      obtain ⟨rfl, -, rfl⟩ := hv'
      have z0 := keepc HW1.out (hx j hlt 0 _ rfl)
      have t0 := keepc HW1.out (hx' j hlt2 0 _ rfl)
      have bl := Nat.lt_of_lt_of_le hbl HW1.out.size
      have bl' := Nat.lt_of_lt_of_le hbl' HW1.out.size
      rw [show off + j * 1 + 0 = off + j by omega] at z0
      rw [show off' + j * 1 + 0 = off' + j by omega] at t0
      clear hx hx' hbl hbl'
      obtain ⟨ea, hea⟩ : ∃ e, Hid (e = K.getD j 0) := ⟨_, chid rfl⟩
      obtain ⟨eb, heb⟩ : ∃ e, Hid (e = K'.getD j 0) := ⟨_, chid rfl⟩
      rw [← hea.out] at z0
      rw [← heb.out] at t0
      have HNE : Hid (ea ≠ eb → K ≠ K') := chid (fun hne he => hne (by rw [hea.out, heb.out, he]))
      by_cases he : ea = eb
      case neg =>
        have hq : (ea == eb) = false := by simpa using he
        go_wp2_with fail
        go_quiet (fail)
        go_wp2_with fail
        exact HF.out _ (cbelow_on HB.out (cdrewN HW1.out _) HB.out.size) (fun e => HNE.out he (by cases e; rfl))
      subst he
      go_wp2_with fail
      go_quiet (fail)
      go_wp2_with fail
      go_roundw
      case rel => exact ⟨j + 1, by go_num, by omega, chid (fun i hi => by
        by_cases h : i = j
        · subst h
          rw [← hea.out, ← heb.out]
        · exact HE1.out i (by omega)), chid (cdrewN HW1.out _)⟩
      case measure => simp; omega
    · have hlt' : ¬ (j : Int) < (K.length : Int) := by omega
      obtain rfl : j = K.length := by omega
      have HL1 := chid (ext_getD 0 hLK.out.symm HE1.out)
      clear HE1
      go_wp2_with fail
      go_loopw [6] (fun i wr => ∃ (j : Nat), i = .int .i64 (j : Nat) ∧ j ≤ wins.length ∧ Hid (∀ i, i < j → wins.getD i wi0 = wins'.getD i wi0) ∧ Hid (Below W.heap.size W wr)) (fun i _ => match i with | .int _ z => ((wins.length : Int) - z).toNat | _ => 0)
      case atStart => exact ⟨0, rfl, Nat.zero_le _, chid (fun i hi => by omega), HW1⟩
      case round =>
        obtain ⟨j, rfl, hj, HE2, HW2⟩ := hrel
        have Y0 := HY.out.1.next HW2.out
        have Y1 := HY.out.2.next HW2.out
        have p0 := Y0.cell 7 _ rfl
        have p1 := Y1.cell 7 _ rfl
        have pl := Y0.lt
        have ql := Y1.lt
        have s0 := Y0.cell 8 _ rfl
        have s1 := Y1.cell 8 _ rfl
        clear Y0 Y1
        by_cases hlt : j < wins.length
        · have hlt' : (j : Int) < (wins.length : Int) := by omega
          have hlt2 : j < wins'.length := by have := hLW.out; omega
          have hwj : IntKind.i64.wrap ((j : Int) + 1) = (j : Int) + 1 := by rw [IntKind.wrap_i64]; omega
          obtain ⟨b, off, cap, hv, -, -, hbl, hx⟩ := RowsK.open HR.out.1.wi (show 0 < wins.length by omega)
          obtain ⟨b', off', cap', hv', -, -, hbl', hx'⟩ := RowsK.open HR.out.2.wi (show 0 < wins'.length by omega)
          simp only [Value.slice.injEq] at hv hv'
          obtain ⟨rfl, -, rfl⟩ := hv
          obtain ⟨rfl, -, rfl⟩ := hv'
          have z0 := keepc HW2.out (hx j hlt 0 _ rfl)
          have t0 := keepc HW2.out (hx' j hlt2 0 _ rfl)
          have z1 := keepc HW2.out (hx j hlt 1 _ rfl)
          have t1 := keepc HW2.out (hx' j hlt2 1 _ rfl)
          have z2 := keepc HW2.out (hx j hlt 2 _ rfl)
          have t2 := keepc HW2.out (hx' j hlt2 2 _ rfl)
          have z3 := keepc HW2.out (hx j hlt 3 _ rfl)
          have t3 := keepc HW2.out (hx' j hlt2 3 _ rfl)
          have bl := Nat.lt_of_lt_of_le hbl HW2.out.size
          have bl' := Nat.lt_of_lt_of_le hbl' HW2.out.size
          rw [show off + j * 4 + 0 = off + j * 4 by omega] at z0
          rw [show off' + j * 4 + 0 = off' + j * 4 by omega] at t0
          clear hx hx' hbl hbl'
          obtain ⟨ea, hea⟩ : ∃ e, Hid (e = wins.getD j wi0) := ⟨_, chid rfl⟩
          obtain ⟨eb, heb⟩ : ∃ e, Hid (e = wins'.getD j wi0) := ⟨_, chid rfl⟩
          rw [← hea.out] at z0 z1 z2 z3
          rw [← heb.out] at t0 t1 t2 t3
          have HNE : Hid (ea ≠ eb → wins ≠ wins') := chid (fun hne he => hne (by rw [hea.out, heb.out, he]))
          obtain ⟨pa, pb, pc, pd⟩ := ea
          obtain ⟨qa, qb, qc, qd⟩ := eb
          simp only at z0 z1 z2 z3 t0 t1 t2 t3
          by_cases he0 : pa = qa
          case neg =>
            have hq : ((pa : Int) == (qa : Int)) = false := by rw [beq_eq_false_iff_ne]; omega
            have hq2 : ¬ ((pa : Int) = (qa : Int)) := by omega
            go_wp2_with fail
            go_quiet (fail)
            go_wp2_with fail
            exact HF.out _ (cbelow_on HB.out (cdrewN HW2.out _) HB.out.size) (fun e => HNE.out (fun h => by cases h; exact he0 rfl) (by cases e; rfl))
          subst he0
          by_cases he1 : pb = qb
          case neg =>
            have hq : ((pb : Int) == (qb : Int)) = false := by rw [beq_eq_false_iff_ne]; omega
            have hq2 : ¬ ((pb : Int) = (qb : Int)) := by omega
            go_wp2_with fail
            go_quiet (fail)
            go_wp2_with fail
            exact HF.out _ (cbelow_on HB.out (cdrewN HW2.out _) HB.out.size) (fun e => HNE.out (fun h => by cases h; exact he1 rfl) (by cases e; rfl))
          subst he1
          by_cases he2 : pc = qc
          case neg =>
            have hq : ((pc : Int) == (qc : Int)) = false := by rw [beq_eq_false_iff_ne]; omega
            have hq2 : ¬ ((pc : Int) = (qc : Int)) := by omega
            go_wp2_with fail
            go_quiet (fail)
            go_wp2_with fail
            exact HF.out _ (cbelow_on HB.out (cdrewN HW2.out _) HB.out.size) (fun e => HNE.out (fun h => by cases h; exact he2 rfl) (by cases e; rfl))
          subst he2
          by_cases he3 : pd = qd
          case neg =>
            have hq : ((pd : Int) == (qd : Int)) = false := by rw [beq_eq_false_iff_ne]; omega
            have hq2 : ¬ ((pd : Int) = (qd : Int)) := by omega
            go_wp2_with fail
            go_quiet (fail)
            go_wp2_with fail
            exact HF.out _ (cbelow_on HB.out (cdrewN HW2.out _) HB.out.size) (fun e => HNE.out (fun h => by cases h; exact he3 rfl) (by cases e; rfl))
          subst he3
          go_wp2_with fail
          go_quiet (fail)
          go_wp2_with fail
          go_roundw
          case rel => exact ⟨j + 1, by go_num, by omega, chid (fun i hi => by
            by_cases h : i = j
            · subst h
              rw [← hea.out, ← heb.out]
            · exact HE2.out i (by omega)), chid (cdrewN HW2.out _)⟩
          case measure => simp; omega
        · have hlt' : ¬ (j : Int) < (wins.length : Int) := by omega
          obtain rfl : j = wins.length := by omega
          have HL2 := chid (ext_getD wi0 hLW.out.symm HE2.out)
          clear HE2
          go_wp2_with fail
          go_loopw [7] (fun i wr => ∃ (j : Nat), i = .int .i64 (j : Nat) ∧ j ≤ crons.length ∧ Hid (∀ i, i < j → crons.getD i cr0 = crons'.getD i cr0) ∧ Hid (Below W.heap.size W wr)) (fun i _ => match i with | .int _ z => ((crons.length : Int) - z).toNat | _ => 0)
          case atStart => exact ⟨0, rfl, Nat.zero_le _, chid (fun i hi => by omega), HW2⟩
          case round =>
            obtain ⟨j, rfl, hj, HE3, HW3⟩ := hrel
            have Y0 := HY.out.1.next HW3.out
            have Y1 := HY.out.2.next HW3.out
            have p0 := Y0.cell 8 _ rfl
            have p1 := Y1.cell 8 _ rfl
            have pl := Y0.lt
            have ql := Y1.lt
            have s0 := Y0.cell 11 _ rfl
            have s1 := Y1.cell 11 _ rfl
            clear Y0 Y1
            by_cases hlt : j < crons.length
            · have hlt' : (j : Int) < (crons.length : Int) := by omega
              have hlt2 : j < crons'.length := by have := hLR.out; omega
              have hwj : IntKind.i64.wrap ((j : Int) + 1) = (j : Int) + 1 := by rw [IntKind.wrap_i64]; omega
              obtain ⟨b, off, cap, hv, -, -, hbl, hx⟩ := RowsK.open HR.out.1.cr (show 0 < crons.length by omega)
              obtain ⟨b', off', cap', hv', -, -, hbl', hx'⟩ := RowsK.open HR.out.2.cr (show 0 < crons'.length by omega)
              simp only [Value.slice.injEq] at hv hv'
              obtain ⟨rfl, -, rfl⟩ := hv
              obtain ⟨rfl, -, rfl⟩ := hv'
              have z0 := keepc HW3.out (hx j hlt 0 _ rfl)
              have t0 := keepc HW3.out (hx' j hlt2 0 _ rfl)
              have z1 := keepc HW3.out (hx j hlt 1 _ rfl)
              have t1 := keepc HW3.out (hx' j hlt2 1 _ rfl)
              have z2 := keepc HW3.out (hx j hlt 2 _ rfl)
              have t2 := keepc HW3.out (hx' j hlt2 2 _ rfl)
              have z3 := keepc HW3.out (hx j hlt 3 _ rfl)
              have t3 := keepc HW3.out (hx' j hlt2 3 _ rfl)
              have z4 := keepc HW3.out (hx j hlt 4 _ rfl)
              have t4 := keepc HW3.out (hx' j hlt2 4 _ rfl)
              have bl := Nat.lt_of_lt_of_le hbl HW3.out.size
              have bl' := Nat.lt_of_lt_of_le hbl' HW3.out.size
              rw [show off + j * 5 + 0 = off + j * 5 by omega] at z0
              rw [show off' + j * 5 + 0 = off' + j * 5 by omega] at t0
              clear hx hx' hbl hbl'
              obtain ⟨ea, hea⟩ : ∃ e, Hid (e = crons.getD j cr0) := ⟨_, chid rfl⟩
              obtain ⟨eb, heb⟩ : ∃ e, Hid (e = crons'.getD j cr0) := ⟨_, chid rfl⟩
              rw [← hea.out] at z0 z1 z2 z3 z4
              rw [← heb.out] at t0 t1 t2 t3 t4
              have HNE : Hid (ea ≠ eb → crons ≠ crons') := chid (fun hne he => hne (by rw [hea.out, heb.out, he]))
              obtain ⟨pa, pb, pc, pd, pe⟩ := ea
              obtain ⟨qa, qb, qc, qd, qe⟩ := eb
              simp only at z0 z1 z2 z3 z4 t0 t1 t2 t3 t4
              by_cases he0 : pa = qa
              case neg =>
                have hq : ((pa : Int) == (qa : Int)) = false := by rw [beq_eq_false_iff_ne]; omega
                have hq2 : ¬ ((pa : Int) = (qa : Int)) := by omega
                go_wp2_with fail
                go_quiet (fail)
                go_wp2_with fail
                exact HF.out _ (cbelow_on HB.out (cdrewN HW3.out _) HB.out.size) (fun e => HNE.out (fun h => by cases h; exact he0 rfl) (by cases e; rfl))
              subst he0
              by_cases he1 : pb = qb
              case neg =>
                have hq : ((pb : Int) == (qb : Int)) = false := by rw [beq_eq_false_iff_ne]; omega
                have hq2 : ¬ ((pb : Int) = (qb : Int)) := by omega
                go_wp2_with fail
                go_quiet (fail)
                go_wp2_with fail
                exact HF.out _ (cbelow_on HB.out (cdrewN HW3.out _) HB.out.size) (fun e => HNE.out (fun h => by cases h; exact he1 rfl) (by cases e; rfl))
              subst he1
              by_cases he2 : pc = qc
              case neg =>
                have hq : ((pc : Int) == (qc : Int)) = false := by rw [beq_eq_false_iff_ne]; omega
                have hq2 : ¬ ((pc : Int) = (qc : Int)) := by omega
                go_wp2_with fail
                go_quiet (fail)
                go_wp2_with fail
                exact HF.out _ (cbelow_on HB.out (cdrewN HW3.out _) HB.out.size) (fun e => HNE.out (fun h => by cases h; exact he2 rfl) (by cases e; rfl))
              subst he2
              by_cases he3 : pd = qd
              case neg =>
                have hq : ((pd : Int) == (qd : Int)) = false := by rw [beq_eq_false_iff_ne]; omega
                have hq2 : ¬ ((pd : Int) = (qd : Int)) := by omega
                go_wp2_with fail
                go_quiet (fail)
                go_wp2_with fail
                exact HF.out _ (cbelow_on HB.out (cdrewN HW3.out _) HB.out.size) (fun e => HNE.out (fun h => by cases h; exact he3 rfl) (by cases e; rfl))
              subst he3
              by_cases he4 : pe = qe
              case neg =>
                have hq : ((pe : Int) == (qe : Int)) = false := by rw [beq_eq_false_iff_ne]; omega
                have hq2 : ¬ ((pe : Int) = (qe : Int)) := by omega
                go_wp2_with fail
                go_quiet (fail)
                go_wp2_with fail
                exact HF.out _ (cbelow_on HB.out (cdrewN HW3.out _) HB.out.size) (fun e => HNE.out (fun h => by cases h; exact he4 rfl) (by cases e; rfl))
              subst he4
              go_wp2_with fail
              go_quiet (fail)
              go_wp2_with fail
              go_roundw
              case rel => exact ⟨j + 1, by go_num, by omega, chid (fun i hi => by
                by_cases h : i = j
                · subst h
                  rw [← hea.out, ← heb.out]
                · exact HE3.out i (by omega)), chid (cdrewN HW3.out _)⟩
              case measure => simp; omega
            · have hlt' : ¬ (j : Int) < (crons.length : Int) := by omega
              obtain rfl : j = crons.length := by omega
              have HL3 := chid (ext_getD cr0 hLR.out.symm HE3.out)
              clear HE3
              go_wp2_with fail
              go_loopw [8] (fun i wr => ∃ (j : Nat), i = .int .i64 (j : Nat) ∧ j ≤ C.length ∧ Hid (∀ i, i < j → C.getD i in0 = C'.getD i in0) ∧ Hid (Below W.heap.size W wr)) (fun i _ => match i with | .int _ z => ((C.length : Int) - z).toNat | _ => 0)
              case atStart => exact ⟨0, rfl, Nat.zero_le _, chid (fun i hi => by omega), HW3⟩
              case round =>
                obtain ⟨j, rfl, hj, HE4, HW4⟩ := hrel
                have Y0 := HY.out.1.next HW4.out
                have Y1 := HY.out.2.next HW4.out
                have p0 := Y0.cell 11 _ rfl
                have p1 := Y1.cell 11 _ rfl
                have pl := Y0.lt
                have ql := Y1.lt
                clear Y0 Y1
                by_cases hlt : j < C.length
                · have hlt' : (j : Int) < (C.length : Int) := by omega
                  have hlt2 : j < C'.length := by have := hLC.out; omega
                  have hwj : IntKind.i64.wrap ((j : Int) + 1) = (j : Int) + 1 := by rw [IntKind.wrap_i64]; omega
                  obtain ⟨b, off, cap, hv, -, -, hbl, hx⟩ := RowsK.open HR.out.1.c (show 0 < C.length by omega)
                  obtain ⟨b', off', cap', hv', -, -, hbl', hx'⟩ := RowsK.open HR.out.2.c (show 0 < C'.length by omega)
                  simp only [Value.slice.injEq] at hv hv'
                  obtain ⟨rfl, -, rfl⟩ := hv
                  obtain ⟨rfl, -, rfl⟩ := hv'
                  have z0 := keepc HW4.out (hx j hlt 0 _ rfl)
                  have t0 := keepc HW4.out (hx' j hlt2 0 _ rfl)
                  have z1 := keepc HW4.out (hx j hlt 1 _ rfl)
                  have t1 := keepc HW4.out (hx' j hlt2 1 _ rfl)
                  have bl := Nat.lt_of_lt_of_le hbl HW4.out.size
                  have bl' := Nat.lt_of_lt_of_le hbl' HW4.out.size
                  rw [show off + j * 2 + 0 = off + j * 2 by omega] at z0
                  rw [show off' + j * 2 + 0 = off' + j * 2 by omega] at t0
                  clear hx hx' hbl hbl'
                  obtain ⟨ea, hea⟩ : ∃ e, Hid (e = C.getD j in0) := ⟨_, chid rfl⟩
                  obtain ⟨eb, heb⟩ : ∃ e, Hid (e = C'.getD j in0) := ⟨_, chid rfl⟩
                  rw [← hea.out] at z0 z1
                  rw [← heb.out] at t0 t1
                  have HNE : Hid (ea ≠ eb → C ≠ C') := chid (fun hne he => hne (by rw [hea.out, heb.out, he]))
                  obtain ⟨pa, pb⟩ := ea
                  obtain ⟨qa, qb⟩ := eb
                  simp only at z0 z1 t0 t1
                  by_cases he0 : pa = qa
                  case neg =>
                    have hq : ((pa : Int) == (qa : Int)) = false := by rw [beq_eq_false_iff_ne]; omega
                    have hq2 : ¬ ((pa : Int) = (qa : Int)) := by omega
                    go_wp2_with fail
                    go_quiet (fail)
                    go_wp2_with fail
                    exact HF.out _ (cbelow_on HB.out (cdrewN HW4.out _) HB.out.size) (fun e => HNE.out (fun h => by cases h; exact he0 rfl) (by cases e; rfl))
                  subst he0
                  by_cases he1 : pb = qb
                  case neg =>
                    have hq : ((pb : Int) == (qb : Int)) = false := by rw [beq_eq_false_iff_ne]; omega
                    have hq2 : ¬ ((pb : Int) = (qb : Int)) := by omega
                    go_wp2_with fail
                    go_quiet (fail)
                    go_wp2_with fail
                    exact HF.out _ (cbelow_on HB.out (cdrewN HW4.out _) HB.out.size) (fun e => HNE.out (fun h => by cases h; exact he1 rfl) (by cases e; rfl))
                  subst he1
                  go_wp2_with fail
                  go_quiet (fail)
                  go_wp2_with fail
                  go_roundw
                  case rel => exact ⟨j + 1, by go_num, by omega, chid (fun i hi => by
                    by_cases h : i = j
                    · subst h
                      rw [← hea.out, ← heb.out]
                    · exact HE4.out i (by omega)), chid (cdrewN HW4.out _)⟩
                  case measure => simp; omega
                · have hlt' : ¬ (j : Int) < (C.length : Int) := by omega
                  obtain rfl : j = C.length := by omega
                  have HL4 := chid (ext_getD in0 hLC.out.symm HE4.out)
                  clear HE4
                  go_wp2_with fail
                  exact HT.out _ (cbelow_on HB.out HW4.out HB.out.size) (by rw [HL1.out, HL2.out, HL3.out, HL4.out])
end Go.Proofs.YthfnjlfhaibbeaaDoor
