/- The law CodeEmits walked. -/
import Derived.Test.YtigldebdljfnbaaGreatDoorCmNbM
import Derived.Test.YtigldebdljfnbaaGreatDoorCmCeF
import Derived.Test.YtigldebdljfnbaaGreatDoorCmNbS
import Derived.Test.YtigldebdljfnbaaGreatDoorCmMhZ
namespace Go.Proofs.YtigldebdljfnbaaGreatDoor
open Go.RowKit

theorem remit_all (q : Co → Co → Bool) (hq : ∀ a b, q a b = true ↔ a = b) (p : PlP) (v : PlV) (w : World) (hs : PlAt w p v) (hL : p.gs.length * 96 ≤ 140737488355328) (hm : C64 p.mets.length) : RemitC p (emitF q p) v w :=
  remit_c q p v w hs hm (fun W hW => rFormed_c q hq p v W (hs.next hW) hL)
set_option maxHeartbeats 4000000 in
set_option maxRecDepth 20000 in
theorem codeEmits_c (HEm : EmitC) (p : PlP) (v : PlV) (w : World) (hs : PlAt w p v) (hp : PWt p) (hF : FldAt w) (hP : PoAt w w.heap.size) (hm : p.wins.length * 32 ≤ 140737488355328 ∧ p.crons.length * 40 ≤ 140737488355328 ∧ C64 p.mets.length) :
    Calls Tryz.prog 3 #[plV p v] w fun r w' => r = .returned (.bool true) ∧ Below w.heap.size w w' := by
  classical
  obtain ⟨q, hq⟩ : ∃ q : Co → Co → Bool, ∀ a b, q a b = true ↔ a = b := ⟨fun a b => decide (a = b), fun a b => by simp⟩
  have hPW : ∀ W, Below w.heap.size w W → PoAt W W.heap.size := fun W hW => ⟨Nat.lt_of_lt_of_le hP.lt hW.size, Nat.lt_of_lt_of_le hP.lw hW.size, (hP.next hW).at'⟩
  have HAw := chid (fun W (hW : Below w.heap.size w W) => awake21_c HEm W (hF.later hW) (hPW W hW))
  have HFw := chid (fun W (hW : Below w.heap.size w W) => few21_c p v W (hs.next hW) hp.gs)
  have HPl := chid (fun W (hW : Below w.heap.size w W) => HEm q hq p v W (hs.next hW) (hF.later hW) (hPW W hW) hm.1 hm.2.1 hm.2.2)
  have HRm := chid (fun W (hW : Below w.heap.size w W) => remit_all q hq p v W (hs.next hW) hp.gs hm.2.2)
  obtain ⟨a1, c1, a2, c2, a3, c3, a4, c4, a5, c5, rfl, g1, g2, g3, g4⟩ := hs.shapes
  have B0 := chid (bel_alloc w (.cells (plL p ⟨.slice a1 p.mets.length c1, .slice a2 p.wins.length c2, .slice a3 p.crons.length c3, .slice a4 p.gs.length c4, .slice a5 p.fin.parts.length c5⟩).toArray 32))
  clear hs hF hp hP hm hq g1 g2 g3 g4 hPW HEm
  unfold RemitC at HRm
  obtain ⟨Q, er, hR⟩ : ∃ Q er, Hid (emitF q p = (Q, er)) := ⟨_, _, rfl⟩
  rw [hR.out] at HPl HRm
  dsimp only at HPl HRm
  go_enter Tryz.func3, Tryz.ntmps3
  have HY0 := chid (Box.new w (plL p ⟨.slice a1 p.mets.length c1, .slice a2 p.wins.length c2, .slice a3 p.crons.length c3, .slice a4 p.gs.length c4, .slice a5 p.fin.parts.length c5⟩) 32)
  go_wp2_with fail
  refine Calls.mono (HAw.out _ B0.out) ?_
  rintro e w1 ⟨rfl, b1⟩
  have B1 := chid (cbelow_on B0.out b1 B0.out.size)
  replace HY0 := chid (HY0.out.next b1)
  clear b1 B0
  have x0 := HY0.out.cell 0 _ rfl
  have x1 := HY0.out.cell 1 _ rfl
  have x2 := HY0.out.cell 2 _ rfl
  have x3 := HY0.out.cell 3 _ rfl
  have x4 := HY0.out.cell 4 _ rfl
  have x5 := HY0.out.cell 5 _ rfl
  have x6 := HY0.out.cell 6 _ rfl
  have x7 := HY0.out.cell 7 _ rfl
  have x8 := HY0.out.cell 8 _ rfl
  have x9 := HY0.out.cell 9 _ rfl
  have x10 := HY0.out.cell 10 _ rfl
  have x11 := HY0.out.cell 11 _ rfl
  have x12 := HY0.out.cell 12 _ rfl
  have x13 := HY0.out.cell 13 _ rfl
  have xl := HY0.out.lt
  go_wp2_with fail
  refine Calls.mono (HFw.out _ B1.out) ?_
  rintro e w2 ⟨rfl, b2⟩
  have B2 := chid (cbelow_on B1.out b2 B1.out.size)
  replace HY0 := chid (HY0.out.next b2)
  clear b2 B1 x0 x1 x2 x3 x4 x5 x6 x7 x8 x9 x10 x11 x12 x13 xl HFw
  cases hfw : fewL p with
  | false =>
    go_wp2_with fail
    refine Calls.mono (HAw.out _ B2.out) ?_
    rintro e w3 ⟨rfl, b3⟩
    have B3 := chid (cbelow_on B2.out b3 B2.out.size)
    clear b3
    go_wp2_with fail
    go_ret
    exact ⟨rfl, B3.out⟩
  | true =>
    clear HAw hfw
    have x0 := HY0.out.cell 0 _ rfl
    have x1 := HY0.out.cell 1 _ rfl
    have x2 := HY0.out.cell 2 _ rfl
    have x3 := HY0.out.cell 3 _ rfl
    have x4 := HY0.out.cell 4 _ rfl
    have x5 := HY0.out.cell 5 _ rfl
    have x6 := HY0.out.cell 6 _ rfl
    have x7 := HY0.out.cell 7 _ rfl
    have x8 := HY0.out.cell 8 _ rfl
    have x9 := HY0.out.cell 9 _ rfl
    have x10 := HY0.out.cell 10 _ rfl
    have x11 := HY0.out.cell 11 _ rfl
    have x12 := HY0.out.cell 12 _ rfl
    have x13 := HY0.out.cell 13 _ rfl
    have xl := HY0.out.lt
    go_wp2_with fail
    refine Calls.mono (HPl.out _ B2.out) ?_
    rintro r w3 ⟨u, rfl, pu, b3⟩
    have B3 := chid (cbelow_on B2.out b3 B2.out.size)
    obtain ⟨ak, ck, e1⟩ := own_shape pu.k
    obtain ⟨aw, cw, e2⟩ := own_shape pu.wi
    obtain ⟨ar, cr, e3⟩ := own_shape pu.cr
    obtain ⟨ac, cc, e4⟩ := own_shape pu.c
    obtain ⟨vk, vw, vr, vc⟩ := u
    simp only at e1 e2 e3 e4
    subst e1 e2 e3 e4
    have HPu := chid pu.rd
    replace HY0 := chid (HY0.out.next b3)
    clear pu b3 B2 x0 x1 x2 x3 x4 x5 x6 x7 x8 x9 x10 x11 x12 x13 xl HPl
    have x0 := HY0.out.cell 0 _ rfl
    have x1 := HY0.out.cell 1 _ rfl
    have x2 := HY0.out.cell 2 _ rfl
    have x3 := HY0.out.cell 3 _ rfl
    have x4 := HY0.out.cell 4 _ rfl
    have x5 := HY0.out.cell 5 _ rfl
    have x6 := HY0.out.cell 6 _ rfl
    have x7 := HY0.out.cell 7 _ rfl
    have x8 := HY0.out.cell 8 _ rfl
    have x9 := HY0.out.cell 9 _ rfl
    have x10 := HY0.out.cell 10 _ rfl
    have x11 := HY0.out.cell 11 _ rfl
    have x12 := HY0.out.cell 12 _ rfl
    have x13 := HY0.out.cell 13 _ rfl
    have xl := HY0.out.lt
    go_wp2_with fail
    have Bn := chid (bel_alloc w3 (.cells #[.int .i64 Q.met, .int .i64 Q.ru.mn, .int .i64 Q.ru.mx, .int .i64 Q.ru.st, .int .i64 Q.ru.up, .int .i64 Q.ru.dn, .slice ak Q.K.length ck, .slice aw Q.wins.length cw, .slice ar Q.crons.length cr, .int .i64 Q.loc, .int .i64 Q.h, .slice ac Q.C.length cc] 38))
    have HA3 := chid (Box.new w3 [.int .i64 Q.met, .int .i64 Q.ru.mn, .int .i64 Q.ru.mx, .int .i64 Q.ru.st, .int .i64 Q.ru.up, .int .i64 Q.ru.dn, .slice ak Q.K.length ck, .slice aw Q.wins.length cw, .slice ar Q.crons.length cr, .int .i64 Q.loc, .int .i64 Q.h, .slice ac Q.C.length cc] 38)
    have B4 := chid (cbelow_on B3.out Bn.out B3.out.size)
    replace HPu := chid (HPu.out.next Bn.out)
    obtain ⟨ga, hga⟩ : ∃ ga, Hid (ga = w3.heap.size) := ⟨_, chid rfl⟩
    rw [← hga.out] at HA3 ⊢
    generalize hX3 : (w3.alloc _) = X3 at *
    clear hX3 Bn
    refine Calls.mono (HRm.out _ B4.out) ?_
    rintro r w4 ⟨u, rfl, ru, b4⟩
    obtain ⟨bk, dk, e1, -, -⟩ := RowsK.shape ru.k
    obtain ⟨bw, dw, e2, -, -⟩ := RowsK.shape ru.wi
    obtain ⟨br, dr, e3, -, -⟩ := RowsK.shape ru.cr
    obtain ⟨bc, dc, e4, -, -⟩ := RowsK.shape ru.c
    obtain ⟨vk, vw, vr, vc⟩ := u
    simp only at e1 e2 e3 e4
    subst e1 e2 e3 e4
    have B5 := chid (cbelow_on B4.out b4 B4.out.size)
    replace HPu := chid (HPu.out.next b4)
    have HRu := chid ru
    replace HA3 := chid (HA3.out.next b4)
    clear b4 ru x0 x1 x2 x3 x4 x5 x6 x7 x8 x9 x10 x11 x12 x13 xl HRm HY0
    have e0 := HA3.out.cell 0 _ rfl
    have e1 := HA3.out.cell 1 _ rfl
    have e2 := HA3.out.cell 2 _ rfl
    have e3 := HA3.out.cell 3 _ rfl
    have e4 := HA3.out.cell 4 _ rfl
    have e5 := HA3.out.cell 5 _ rfl
    have e6 := HA3.out.cell 6 _ rfl
    have e7 := HA3.out.cell 7 _ rfl
    have e8 := HA3.out.cell 8 _ rfl
    have e9 := HA3.out.cell 9 _ rfl
    have e10 := HA3.out.cell 10 _ rfl
    have e11 := HA3.out.cell 11 _ rfl
    have el := HA3.out.lt
    go_wp2_with fail
    have Bn := chid (bel_alloc w4 (.cells #[.int .i64 Q.met, .int .i64 Q.ru.mn, .int .i64 Q.ru.mx, .int .i64 Q.ru.st, .int .i64 Q.ru.up, .int .i64 Q.ru.dn, .slice bk Q.K.length dk, .slice bw Q.wins.length dw, .slice br Q.crons.length dr, .int .i64 Q.loc, .int .i64 Q.h, .slice bc Q.C.length dc] 38))
    have B6 := chid (cbelow_on B5.out Bn.out B5.out.size)
    replace HPu := chid (HPu.out.next Bn.out)
    replace HRu := chid (HRu.out.next Bn.out)
    generalize hX4 : (w4.alloc _) = X4 at *
    clear hX4 Bn e0 e1 e2 e3 e4 e5 e6 e7 e8 e9 e10 e11 el
    refine Calls.mono (same21_c Q ⟨.slice ak Q.K.length ck, .slice aw Q.wins.length cw, .slice ar Q.crons.length cr, .slice ac Q.C.length cc⟩ ⟨.slice bk Q.K.length dk, .slice bw Q.wins.length dw, .slice br Q.crons.length dr, .slice bc Q.C.length dc⟩ X4 HPu.out HRu.out) ?_
    rintro r w5 ⟨rfl, b5⟩
    have B7 := chid (cbelow_on B6.out b5 B6.out.size)
    clear b5
    go_wp2_with fail
    go_ret
    exact ⟨rfl, B7.out⟩
end Go.Proofs.YtigldebdljfnbaaGreatDoor
