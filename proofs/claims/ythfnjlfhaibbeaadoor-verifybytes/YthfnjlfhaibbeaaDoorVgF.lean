/- Package verify: the law VerifyBytes walked. -/
import Derived.Test.YthfnjlfhaibbeaaDoorVgD
import Derived.Test.YthfnjlfhaibbeaaDoorDdC
namespace Go.Proofs.YthfnjlfhaibbeaaDoor
open Go.RowKit

/-- What is decoded of bytes. -/
def deG (l : List UInt8) : PgP × Int := if 1048576 < l.length then (pg0, 2) else match decF l with
  | none => (pg0, 40)
  | some g => (g, 0)
theorem deG_all {l : List UInt8} {w : World} {e : Ending} {w' : World} (h : DecP l w e w') : Below w.heap.size w w' ∧ ∃ u, e = .returned (.tuple #[pgV (deG l).1 u, .int .i64 (deG l).2]) ∧ PgRd w' (deG l).1 u := by
  have h0 : PgRd w' pg0 ⟨.slice none 0 0, .slice none 0 0, .slice none 0 0, .slice none 0 0⟩ := ⟨nil_rowsV _ _ _, nil_rowsV _ _ _, nil_rowsV _ _ _, nil_rowsV _ _ _⟩
  obtain ⟨hb, h⟩ := h
  refine ⟨hb, ?_⟩
  unfold deG
  by_cases hl : 1048576 < l.length
  · rw [if_pos hl] at h ⊢
    exact ⟨_, h, h0⟩
  · rw [if_neg hl] at h ⊢
    cases hd : decF l with
    | none =>
      rw [hd] at h
      exact ⟨_, h, h0⟩
    | some g =>
      rw [hd] at h
      obtain ⟨u, h1, h2⟩ := h
      exact ⟨u, h1, h2.rd⟩
theorem deG_ok {l : List UInt8} (h : (deG l).2 = 0) : PgOk (deG l).1 := by
  unfold deG at h ⊢
  by_cases hl : 1048576 < l.length
  · rw [if_pos hl] at h; cases h
  · rw [if_neg hl] at h ⊢
    cases hd : decF l with
    | none => rw [hd] at h; cases h
    | some g => exact (enc_dec hd).2.2
set_option maxHeartbeats 2000000 in
set_option maxRecDepth 20000 in
theorem verifyBytes_c (l : List UInt8) (v : Value) (w : World) (hv : ByAt w v l) (hF : FldAt w) (hT : TabAt w) :
    Calls Tryd.prog 5 #[v] w fun e w' => e = .returned (.bool true) ∧ Below w.heap.size w w' := by
  have HA := chid (awake23_c _ hF hT)
  have HR := chid (fun W (hb : Below w.heap.size w W) => (rDecode_c l v W (RowsK.next hv hb)).mono fun e w' h => deG_all h)
  have hok := @deG_ok l
  have HCk := chid (fun g u W (hb : Below w.heap.size w W) (hr : PgRd W g u) (ho : PgOk g) => check_c g u W hr ho (hF.later hb) (hT.next hb))
  obtain ⟨va, vc, rfl, hc1, hc2⟩ := RowsK.shape hv
  generalize deG l = q at HR hok
  obtain ⟨g, n⟩ := q
  dsimp only at HR hok
  clear hv hF hT
  go_enter Tryd.func5, Tryd.ntmps5
  go_wp2_with fail
  refine Calls.mono HA.out ?_
  rintro e w1 ⟨rfl, b1⟩
  have B1 := chid b1
  clear b1 HA
  go_wp2_with fail
  refine Calls.mono (HR.out w1 B1.out) ?_
  rintro e w2 ⟨b2, u, rfl, h2⟩
  obtain ⟨a1, c1, b1, d1, e1, f1, h1, k1, rfl⟩ := h2.shapeV
  obtain ⟨g1, hg1⟩ : ∃ x, Hid (x = w2.heap.size) := ⟨_, chid rfl⟩
  obtain ⟨w3, hw3⟩ : ∃ x, Hid (x = w2.alloc (.cells #[.int .i64 g.met, .int .i64 g.ru.mn, .int .i64 g.ru.mx, .int .i64 g.ru.st, .int .i64 g.ru.up, .int .i64 g.ru.dn, .slice a1 g.K.length c1, .slice b1 g.wins.length d1, .slice e1 g.crons.length f1, .int .i64 g.loc, .int .i64 g.h, .slice h1 g.C.length k1] 31)) := ⟨_, chid rfl⟩
  have al := bel_alloc w2 (.cells #[.int .i64 g.met, .int .i64 g.ru.mn, .int .i64 g.ru.mx, .int .i64 g.ru.st, .int .i64 g.ru.up, .int .i64 g.ru.dn, .slice a1 g.K.length c1, .slice b1 g.wins.length d1, .slice e1 g.crons.length f1, .int .i64 g.loc, .int .i64 g.h, .slice h1 g.C.length k1] 31)
  have Y1 := Box.new w2 (pgL g (⟨.slice a1 g.K.length c1, .slice b1 g.wins.length d1, .slice e1 g.crons.length f1, .slice h1 g.C.length k1⟩ : PgV)) 31
  have E3 : w3 = w2.alloc (.cells (pgL g (⟨.slice a1 g.K.length c1, .slice b1 g.wins.length d1, .slice e1 g.crons.length f1, .slice h1 g.C.length k1⟩ : PgV)).toArray 31) := hw3.out
  rw [← E3, ← hg1.out] at Y1
  rw [← hw3.out] at al
  have B3 := chid (bel_to (bel_to B1.out b2) al)
  have H3 := chid (h2.next al)
  have HY3 := chid Y1
  clear E3 al b2 h2 Y1 HR
  by_cases hn : n = 0
  · have HOk := chid (hok hn)
    subst hn
    clear hok
    go_wp2_with fail
    rw [← hw3.out, ← hg1.out]
    clear hw3
    have HC := chid (HCk.out g _ w3 B3.out H3.out HOk.out)
    have z0 := HY3.out.cell 0 _ rfl
    have z1 := HY3.out.cell 1 _ rfl
    have z2 := HY3.out.cell 2 _ rfl
    have z3 := HY3.out.cell 3 _ rfl
    have z4 := HY3.out.cell 4 _ rfl
    have z5 := HY3.out.cell 5 _ rfl
    have z6 := HY3.out.cell 6 _ rfl
    have z7 := HY3.out.cell 7 _ rfl
    have z8 := HY3.out.cell 8 _ rfl
    have z9 := HY3.out.cell 9 _ rfl
    have z10 := HY3.out.cell 10 _ rfl
    have z11 := HY3.out.cell 11 _ rfl
    have zl := HY3.out.lt
    generalize hck : ckF g = ck at HC
    have Hck := chid hck
    clear hck
    obtain ⟨c0, ce⟩ := ck
    dsimp only at HC
    go_wp2_with fail
    refine Calls.mono HC.out ?_
    rintro e w4 ⟨rfl, b4⟩
    have B4 := chid (bel_to B3.out b4)
    have HY4 := chid (HY3.out.next b4)
    have HC4 := chid (rCheck_c g _ w4 (H3.out.next b4) HOk.out)
    rw [Hck.out] at HC4
    dsimp only at HC4
    clear b4 HC HY3 H3 HCk Hck
    clear z0 z1 z2 z3 z4 z5 z6 z7 z8 z9 z10 z11 zl
    have z0 := HY4.out.cell 0 _ rfl
    have z1 := HY4.out.cell 1 _ rfl
    have z2 := HY4.out.cell 2 _ rfl
    have z3 := HY4.out.cell 3 _ rfl
    have z4 := HY4.out.cell 4 _ rfl
    have z5 := HY4.out.cell 5 _ rfl
    have z6 := HY4.out.cell 6 _ rfl
    have z7 := HY4.out.cell 7 _ rfl
    have z8 := HY4.out.cell 8 _ rfl
    have z9 := HY4.out.cell 9 _ rfl
    have z10 := HY4.out.cell 10 _ rfl
    have z11 := HY4.out.cell 11 _ rfl
    have zl := HY4.out.lt
    have n0 : (c0 == c0) = true := by simp
    have n1 : (ce == ce) = true := by simp
    go_wp2_with fail
    refine Calls.mono HC4.out ?_
    rintro e w5 ⟨rfl, b5⟩
    have B5 := chid (bel_to B4.out b5)
    clear b5 HC4
    clear z0 z1 z2 z3 z4 z5 z6 z7 z8 z9 z10 z11 zl
    go_wp2_with fail
    go_ret
    exact ⟨rfl, B5.out⟩
  · have hn1 : (n != 0) = true := by simpa using hn
    go_wp2_with fail
    rw [← hw3.out]
    go_ret
    exact ⟨rfl, B3.out⟩
end Go.Proofs.YthfnjlfhaibbeaaDoor
