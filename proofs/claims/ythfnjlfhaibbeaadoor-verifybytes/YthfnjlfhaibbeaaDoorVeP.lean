/- Package verify: the law VerifyKeeps walked. -/
import Derived.Test.YthfnjlfhaibbeaaDoorVeO
namespace Go.Proofs.YthfnjlfhaibbeaaDoor
open Go.RowKit

theorem PgRd.shapeV {g : PgP} {u : PgV} {w : World} (h : PgRd w g u) : ∃ a1 c1 a2 c2 a3 c3 a4 c4, u = ⟨.slice a1 g.K.length c1, .slice a2 g.wins.length c2, .slice a3 g.crons.length c3, .slice a4 g.C.length c4⟩ := by
  obtain ⟨a1, c1, e1, -⟩ := RowsK.shape h.k
  obtain ⟨a2, c2, e2, -⟩ := RowsK.shape h.wi
  obtain ⟨a3, c3, e3, -⟩ := RowsK.shape h.cr
  obtain ⟨a4, c4, e4, -⟩ := RowsK.shape h.c
  obtain ⟨uk, uw, ur, uc⟩ := u
  simp only at e1 e2 e3 e4
  exact ⟨a1, c1, a2, c2, a3, c3, a4, c4, by rw [e1, e2, e3, e4]⟩
abbrev inF (a : Int) : List Value := [.int .i64 a]
/-- What Heights answers, told. -/
def heF (g : PgP) : List Int × Int := match looksF cfB g with
  | (some pl, _) => (pl.map htO, 0)
  | (none, _) => ([], 41)
theorem he_all {g : PgP} {w : World} {e : Ending} {w' : World} (h : HeP g w e w') : Below w.heap.size w w' ∧ ∃ v, e = .returned (.tuple #[v, .int .i64 (heF g).2]) ∧ w'.ownsRow w.heap.size 3 1 v (heF g).1.length (flR inF (heF g).1) := by
  obtain ⟨hb, h⟩ := h
  refine ⟨hb, ?_⟩
  unfold heF
  cases hl : looksF cfB g with
  | mk q n =>
    rw [hl] at h
    cases q with
    | none => exact ⟨_, h, World.ownsRow_nil _ _ _ _⟩
    | some pl =>
      obtain ⟨v, h1, h2⟩ := h
      refine ⟨v, h1, ?_⟩
      simp only
      rw [List.length_map, ← hsL_fl]
      exact h2
theorem in_rows {w : World} {B : Nat} {v : Value} {hs : List Int} (h : w.ownsRow B 3 1 v hs.length (flR inF hs)) : RowsK w v hs.length 1 (fun i => [.int .i64 (hs.getD i 0)]) := OwR.rows (k := 1) (L := inF) (fun _ => rfl) h 0
theorem he_len (g : PgP) : (heF g).1.length ≤ 16384 := by
  unfold heF
  cases hl : looksF cfB g with
  | mk q n =>
    cases q with
    | none => simp
    | some pl =>
      have := looks_len hl
      simp only [List.length_map]
      omega
set_option maxHeartbeats 4000000 in
set_option maxRecDepth 20000 in
theorem verifyKeeps_c (g : PgP) (u : PgV) (w : World) (h : PgRd w g u) (ho : PgOk g) (hF : FldAt w) (hT : TabAt w) :
    Calls Tryd.prog 7 #[pgV g u] w fun e w' => e = .returned (.bool true) ∧ Below w.heap.size w w' := by
  obtain ⟨a1, c1, a2, c2, a3, c3, a4, c4, rfl⟩ := h.shapeV
  obtain ⟨Y0, YB⟩ := one_box w 31 (pgL g ⟨.slice a1 g.K.length c1, .slice a2 g.wins.length c2, .slice a3 g.crons.length c3, .slice a4 g.C.length c4⟩)
  have HA := chid (awake23_c _ (hF.later YB) (hT.next YB))
  have HHt := chid (fun W (hb : Below w.heap.size w W) => (heights_c g _ W (h.next hb) ho (hF.later hb) (hT.next hb)).mono fun e w' h => he_all h)
  have HY := chid Y0
  have HB := chid YB
  have hlen := he_len g
  generalize heF g = q at HHt hlen
  obtain ⟨hs, er⟩ := q
  dsimp only at HHt hlen
  clear h ho hF hT Y0 YB
  go_enter Tryd.func7, Tryd.ntmps7
  go_wp2_with fail
  refine Calls.mono HA.out ?_
  rintro e w1 ⟨rfl, b1⟩
  have B1 := chid (bel_to HB.out b1)
  have HY1 := chid (HY.out.next b1)
  clear b1 HA HB HY
  have z0 := HY1.out.cell 0 _ rfl
  have z1 := HY1.out.cell 1 _ rfl
  have z2 := HY1.out.cell 2 _ rfl
  have z3 := HY1.out.cell 3 _ rfl
  have z4 := HY1.out.cell 4 _ rfl
  have z5 := HY1.out.cell 5 _ rfl
  have z6 := HY1.out.cell 6 _ rfl
  have z7 := HY1.out.cell 7 _ rfl
  have z8 := HY1.out.cell 8 _ rfl
  have z9 := HY1.out.cell 9 _ rfl
  have z10 := HY1.out.cell 10 _ rfl
  have z11 := HY1.out.cell 11 _ rfl
  have zl := HY1.out.lt
  go_wp2_with fail
  refine Calls.mono (HHt.out w1 B1.out) ?_
  rintro e w2 ⟨b2, va, rfl, oa⟩
  have B2 := chid (bel_to B1.out b2)
  have HY2 := chid (HY1.out.next b2)
  have OA2 := chid oa
  obtain ⟨ra, ca, rfl⟩ := own_shape oa
  have HWk : Hid (w.heap.size < w1.heap.size) := chid HY1.out.lt
  have HYw : Hid (w1.heap.size ≤ w2.heap.size) := chid b2.size
  clear b2 oa HY1
  clear z0 z1 z2 z3 z4 z5 z6 z7 z8 z9 z10 z11 zl
  have z0 := HY2.out.cell 0 _ rfl
  have z1 := HY2.out.cell 1 _ rfl
  have z2 := HY2.out.cell 2 _ rfl
  have z3 := HY2.out.cell 3 _ rfl
  have z4 := HY2.out.cell 4 _ rfl
  have z5 := HY2.out.cell 5 _ rfl
  have z6 := HY2.out.cell 6 _ rfl
  have z7 := HY2.out.cell 7 _ rfl
  have z8 := HY2.out.cell 8 _ rfl
  have z9 := HY2.out.cell 9 _ rfl
  have z10 := HY2.out.cell 10 _ rfl
  have z11 := HY2.out.cell 11 _ rfl
  have zl := HY2.out.lt
  go_wp2_with fail
  refine Calls.mono (HHt.out w2 B2.out) ?_
  rintro e w3 ⟨b3, vb, rfl, ob⟩
  have B3 := chid (bel_to B2.out b3)
  have HY3 := chid (HY2.out.next b3)
  have OA3 := chid (own_turn OA2.out (S := []) (Turn.of_below b3) (fun _ _ hm => by cases hm))
  have RB3 := chid (in_rows ob)
  have HBk : Hid (∀ i, vb.ownBlock = some i → w2.heap.size ≤ i) := chid (fun i hi => (ob.lt i hi).1)
  have HAk : Hid (∀ i, (Value.slice ra hs.length ca).ownBlock = some i → i < w2.heap.size) := chid (fun i hi => (OA2.out.lt i hi).2)
  have HYk : Hid (w.heap.size < w2.heap.size) := chid HY2.out.lt
  have hW14 : Hid (w1.heap.size ≤ w3.heap.size) := chid (Nat.le_trans HYw.out b3.size)
  obtain ⟨rb, cb, rfl⟩ := own_shape ob
  obtain ⟨N, hN⟩ : ∃ N, Hid (N = hs.length) := ⟨_, chid rfl⟩
  rw [← hN.out] at hlen OA3 RB3 HBk HAk ⊢
  clear b3 ob OA2 HY2
  clear z0 z1 z2 z3 z4 z5 z6 z7 z8 z9 z10 z11 zl
  obtain ⟨xsA, hxA, hoA⟩ : ∃ xsA : List Value, xsA.length = N ∧ Hid (w3.ownsRow w1.heap.size 3 1 (.slice ra N ca) N xsA) := ⟨_, by have := OA3.out.1; omega, OA3⟩
  clear OA3
  go_wp2_with fail
  go_loopw [7] (fun z wr => ∃ (i : Nat) (xs : List Value), z = .int .i64 (i : Nat) ∧ i ≤ N ∧ Hid (xs.length = N) ∧ Hid (wr.ownsRow w1.heap.size 3 1 (.slice ra N ca) N xs) ∧ Hid (RowsK wr (.slice rb N cb) N 1 (fun i => [.int .i64 (hs.getD i 0)])) ∧ Hid (Box wr w.heap.size (pgL g (⟨.slice a1 g.K.length c1, .slice a2 g.wins.length c2, .slice a3 g.crons.length c3, .slice a4 g.C.length c4⟩ : PgV))) ∧ Hid (Below w.heap.size w wr) ∧ w3.heap.size ≤ wr.heap.size) (fun z _ => match z with | .int _ z => ((N : Int) - z).toNat | _ => 0)
  case atStart => exact ⟨0, xsA, rfl, by omega, chid hxA, hoA, RB3, HY3, B3, Nat.le_refl _⟩
  case round =>
    obtain ⟨i, xs, rfl, hi, HXl, HO, HRb, HYr, HBr, hsz⟩ := hrel
    clear RB3 HY3 B3 hoA
    by_cases hlt : i < N
    · have hlt' : (i : Int) < (N : Int) := by omega
      obtain ⟨ga, cap, hra, hgw⟩ : ∃ ga cap, Value.slice ra N ca = .slice (some ⟨ga, 0, none⟩) N cap ∧ w1.heap.size ≤ ga := by
        rcases HO.out.2 with ⟨h1, h2⟩ | ⟨ga, cap, cur, h1, h2, -⟩
        · omega
        · exact ⟨ga, cap, h1, h2⟩
      cases hra
      have k0 := HO.out.cellAt i (by omega)
      rw [List.getElem?_eq_getElem (by have := HXl.out; omega)] at k0
      have f0 := HO.out.frozenAt i
      have hgl := (HO.out.lt ga rfl).2
      have hga := HAk.out ga rfl
      have HSt : Hid ((wr.setCell ⟨ga, i, none⟩ (.int .i64 99)).ownsRow w1.heap.size 3 1 (.slice (some ⟨ga, 0, none⟩) N ca) N (xs.set i (.int .i64 99)) ∧ RowsK (wr.setCell ⟨ga, i, none⟩ (.int .i64 99)) (.slice rb N cb) N 1 (fun i => [.int .i64 (hs.getD i 0)]) ∧ Box (wr.setCell ⟨ga, i, none⟩ (.int .i64 99)) w.heap.size (pgL g (⟨.slice a1 g.K.length c1, .slice a2 g.wins.length c2, .slice a3 g.crons.length c3, .slice a4 g.C.length c4⟩ : PgV)) ∧ Below w.heap.size w (wr.setCell ⟨ga, i, none⟩ (.int .i64 99))) := chid
        ⟨(HO.out.stored i _).1, RowsK.turn HRb.out (cturn_set wr ga i _) (fun b hb => by have := HBk.out b hb; simp; omega), HYr.out.other (by have := HWk.out; omega), HBr.out.setCell (p := ⟨ga, i, none⟩) (by show w.heap.size ≤ ga; have := HWk.out; omega) _⟩
      clear HO HRb HYr HBr
      go_wp2_with fail
      refine ⟨⟨i + 1, _, by go_num, by omega, chid (by rw [List.length_set]; exact HXl.out), chid HSt.out.1, chid HSt.out.2.1, chid HSt.out.2.2.1, chid HSt.out.2.2.2, by simpa using hsz⟩, ?_⟩
      show ((N : Int) - ((i : Int) + 1)).toNat < ((N : Int) - (i : Int)).toNat
      omega
    · have hlt' : ¬ (i : Int) < (N : Int) := by omega
      obtain ⟨w4, rfl⟩ : ∃ x : World, x = wr := ⟨_, rfl⟩
      obtain ⟨i0, hi0, hz0, hz1, hz2⟩ := info_int'
      have al := bel_alloc w4 (.cells #[.int .i64 98] 3)
      have HO4 := chid (own_turn HO.out (S := []) (Turn.of_below al) (fun _ _ hm => by cases hm))
      have HNw : Hid (∀ (jj : Nat) (x : Value), [Value.int .i64 98][jj]? = some x → (w4.alloc (.cells #[.int .i64 98] 3)).cell? ((⟨w4.heap.size, 0, none⟩ : Addr).add jj) = some x) := chid (fun jj x hx => by
        have hadd : (⟨w4.heap.size, 0, none⟩ : Addr).add jj = ⟨w4.heap.size, jj, none⟩ := by unfold Addr.add; split <;> simp_all
        rw [hadd]
        exact (Box.new w4 [.int .i64 98] 3).cell jj x hx)
      have hps : w1.heap.size ≤ w4.heap.size := Nat.le_trans hW14.out hsz
      have HG : Hid (∀ g1 c1' w5, w5.ownsRow w1.heap.size 3 1 (.slice (some ⟨g1, 0, none⟩) (N + 1) c1') (N + 1) (xs ++ [.int .i64 98]) → (w4.alloc (.cells #[.int .i64 98] 3)).grownBy w5 (Value.slice ra N ca).ownBlock → RowsK w5 (.slice rb N cb) N 1 (fun i => [.int .i64 (hs.getD i 0)]) ∧ Box w5 w.heap.size (pgL g (⟨.slice a1 g.K.length c1, .slice a2 g.wins.length c2, .slice a3 g.crons.length c3, .slice a4 g.C.length c4⟩ : PgV)) ∧ Below w.heap.size w w5) := chid (fun g1 c1' w5 o5 k5 => by
        have T : Turn (blk (.slice ra N ca)) (w4.alloc (.cells #[.int .i64 98] 3)) w5 := ⟨k5.os, k5.tape, k5.output, k5.size, fun k hk hn => k5.block k hk (fun e => hn (blk_mem.2 e.symm))⟩
        have hba : ∀ b, b ∈ blk (.slice ra N ca) → w1.heap.size ≤ b ∧ b < w2.heap.size := fun b hb => ⟨(HO.out.lt b (blk_mem.1 hb)).1, HAk.out b (blk_mem.1 hb)⟩
        have HB4 := cbelow_on HBr.out al HBr.out.size
        exact ⟨RowsK.turn (RowsK.next HRb.out al) T (fun b hb hm => by have h1 := HBk.out b hb; have h2 := (hba b hm).2; omega), (HYr.out.next al).turn T (fun hm => by have := (hba _ hm).1; have := HWk.out; omega), HB4.trans (T.below (fun b hb => by have := (hba b hb).1; have := HWk.out; omega) HB4.size)⟩)
      clear al HO HRb HYr HBr
      go_wp2_with (at_builtin; refine wpList_append_lies _ rfl _ _ 42 rfl w1.heap.size 3 i0 (.int .i64 0) 1 8 Tryd.underlying42 hi0 hz0 hz1 hz2 rfl (by decide) (.slice ra N ca) N xs (by first | rfl | simp [Act.eval]) HO4.out ⟨w4.heap.size, 0, none⟩ 1 1 [.int .i64 98] (by first | rfl | simp [Act.eval]) rfl HNw.out (by intro u hu; simp only [List.mem_cons, List.not_mem_nil, or_false] at hu; subst hu; rfl) (by decide) (by unfold maxLen; omega) (by omega) (by simp; omega) _ rfl ?_; intro g1 c1' w5 o5 k5 a5 l5; have q5 := chid (HG.out g1 c1' w5 o5 k5); have y5 := q5.out.2.1; have z0 := y5.cell 0 _ rfl; have z1 := y5.cell 1 _ rfl; have z2 := y5.cell 2 _ rfl; have z3 := y5.cell 3 _ rfl; have z4 := y5.cell 4 _ rfl; have z5 := y5.cell 5 _ rfl; have z6 := y5.cell 6 _ rfl; have z7 := y5.cell 7 _ rfl; have z8 := y5.cell 8 _ rfl; have z9 := y5.cell 9 _ rfl; have z10 := y5.cell 10 _ rfl; have z11 := y5.cell 11 _ rfl; have zl := y5.lt; clear o5 k5 a5 l5 y5)
      refine Calls.mono (HHt.out w5 q5.out.2.2) ?_
      rintro e w6 ⟨b6, vc, rfl, oc⟩
      have HB6 := chid (bel_to q5.out.2.2 b6)
      have RB6 := chid (RowsK.next q5.out.1 b6)
      have RC6 := chid (in_rows oc)
      obtain ⟨rc, cc, rfl⟩ := own_shape oc
      rw [← hN.out] at RC6 ⊢
      clear b6 oc q5 HG HO4 HNw z0 z1 z2 z3 z4 z5 z6 z7 z8 z9 z10 z11 zl
      have hwN : IntKind.i64.wrap ((N : Int) + 1) = (N : Int) + 1 := by rw [IntKind.wrap_i64]; omega
      go_wp2_with fail
      have HN : Hid (∀ (W : World), Below w6.heap.size w6 W → Below w.heap.size w W) := chid (fun W hW => bel_to HB6.out hW)
      go_loopw [10] (fun z wr => ∃ k : Nat, z = .int .i64 (k : Nat) ∧ k ≤ N ∧ Hid (Below w6.heap.size w6 wr)) (fun z _ => match z with | .int _ z => ((N : Int) - z).toNat | _ => 0)
      case atStart => exact ⟨0, rfl, by omega, chid (Below.refl _ _)⟩
      case round =>
        obtain ⟨k, rfl, hk, HBq⟩ := hrel
        by_cases hkt : k < N
        · have hkt' : (k : Int) < (N : Int) := by omega
          obtain ⟨b1, o1, cap1, hv1, -, -, hbl1, hx1⟩ := RowsK.open (RowsK.next RB6.out HBq.out) (by omega)
          obtain ⟨b2, o2, cap2, hv2, -, -, hbl2, hx2⟩ := RowsK.open (RowsK.next RC6.out HBq.out) (by omega)
          cases hv1
          cases hv2
          have p1 := hx1 k hkt 0 _ rfl
          have p2 := hx2 k hkt 0 _ rfl
          rw [show o1 + k * 1 + 0 = o1 + k by omega] at p1
          rw [show o2 + k * 1 + 0 = o2 + k by omega] at p2
          generalize hs.getD k 0 = y at *
          have hyy : (y != y) = false := by simp
          clear hx1 hx2
          go_wp2_with fail
          go_quiet (fail)
          go_wp2_with fail
          refine ⟨⟨k + 1, by go_num, by omega, chid (cdrewN HBq.out _)⟩, ?_⟩
          show ((N : Int) - ((k : Int) + 1)).toNat < ((N : Int) - (k : Int)).toNat
          omega
        · have hkt' : ¬ (k : Int) < (N : Int) := by omega
          go_wp2_with fail
          go_ret
          exact ⟨rfl, HN.out _ HBq.out⟩
end Go.Proofs.YthfnjlfhaibbeaaDoor
