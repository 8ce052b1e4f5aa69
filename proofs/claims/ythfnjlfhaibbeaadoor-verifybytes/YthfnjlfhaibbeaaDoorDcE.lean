/- Package codec: Encode. -/
import Derived.Test.YthfnjlfhaibbeaaDoorDcD
import Derived.Lib.AppendStr
namespace Go.Proofs.YthfnjlfhaibbeaaDoor
open Go.RowKit Go.Lib

/-- The mark is laid: what the walk finds behind its append. -/
theorem mark_laid {w w1 w3 : World} {wb : Nat} {v' : Value} {xs : List Value} (h : Wr w wb [] (.slice none 0 0)) (hb : Below w.heap.size w w1) (hy : Box w1 w.heap.size xs) (ho : w3.ownsRow w1.heap.size 5 1 v' (0 + (⟨#[99, 112, 115, 49]⟩ : ByteArray).size) ([] ++ strCells ⟨#[99, 112, 115, 49]⟩)) (hg : w1.grownBy w3 none) :
    (Box w3 wb [.slice none 0 0] ∧ Wr (w3.setCell ⟨wb, 0, none⟩ v') wb [99, 112, 115, 49] v') ∧ (Turn (foot wb (.slice none 0 0)) w (w3.setCell ⟨wb, 0, none⟩ v') ∧ ∀ i, i ∈ foot wb v' → i ∈ foot wb (.slice none 0 0) ∨ w.heap.size ≤ i) ∧ w.heap.size ∉ foot wb v' ∧ Box (w3.setCell ⟨wb, 0, none⟩ v') w.heap.size xs := by
  have T0 : Turn [] w1 w3 := ⟨hg.os, hg.tape, hg.output, hg.size, fun k hk _ => hg.block k hk (by simp)⟩
  have T1 : Turn [] w w3 := (Turn.of_below hb).trans (S' := []) T0 (fun _ hm => by cases hm)
  have b3 : Box w3 wb [.slice none 0 0] := h.box.turn T1 (by simp)
  have T2 := cturn_set w3 wb 0 v'
  have b4 := b3.set 0 (by simp) v'
  have hwb := h.box.lt
  have hbs := hb.size
  have hyl := hy.lt
  have T : Turn (foot wb (.slice none 0 0)) w (w3.setCell ⟨wb, 0, none⟩ v') := ⟨T2.os.trans T1.os, T2.tape.trans T1.tape, T2.output.trans T1.output, Nat.le_trans T1.size T2.size, fun k hk hn => (T2.block k (Nat.lt_of_lt_of_le hk T1.size) (fun hm => hn (foot_mem.2 (.inl (List.mem_singleton.1 hm))))).trans (T1.block k hk (by simp))⟩
  refine ⟨⟨b3, b4, ?_⟩, ⟨T, fun i hi => ?_⟩, fun hm => ?_, (hy.turn T0 (by simp)).other (by omega)⟩
  · exact own_low _ (own_of_keep ho (fun b hb' => T2.block b (ho.lt b hb').2 (by have := (ho.lt b hb').1; simp; omega))) (by omega)
  · rcases foot_mem.1 hi with rfl | hi
    · exact .inl (foot_mem.2 (.inl rfl))
    · exact .inr (by have := (ho.lt i hi).1; omega)
  · rcases foot_mem.1 hm with hm | hm
    · omega
    · have := (ho.lt _ hm).1; omega
set_option maxHeartbeats 4000000 in
set_option maxRecDepth 20000 in
theorem wprog_c (wb : Nat) (g : PgP) (u : PgV) (w0 w : World) (h : Wr w wb [] (.slice none 0 0)) (hr : PgRd w0 g u) (hb : Below w0.heap.size w0 w) (hw : w0.heap.size ≤ wb) (ht : ToldP g) :
    Calls Tryd.prog 30 #[.pointer (some ⟨wb, 0, none⟩), pgV g u] w fun e w' => e = .returned (.tuple #[]) ∧ Wt wb (foot wb (.slice none 0 0)) w (encF g) w' := by
  obtain ⟨a1, c1, e1, -, -⟩ := RowsK.shape hr.k
  obtain ⟨a2, c2, e2, -, -⟩ := RowsK.shape hr.wi
  obtain ⟨a3, c3, e3, -, -⟩ := RowsK.shape hr.cr
  obtain ⟨a4, c4, e4, -, -⟩ := RowsK.shape hr.c
  obtain ⟨vk, vw, vr, vc⟩ := u
  simp only at e1 e2 e3 e4
  subst e1 e2 e3 e4
  generalize hu : (⟨.slice a1 g.K.length c1, .slice a2 g.wins.length c2, .slice a3 g.crons.length c3, .slice a4 g.C.length c4⟩ : PgV) = u at *
  obtain ⟨Y0, YB⟩ := one_box w 31 (pgL g u)
  have H0 := h.next YB
  have x0 := H0.box.cell 0 _ rfl
  have xf := H0.box.free 0 (by simp)
  have xl := H0.box.lt
  obtain ⟨i0, hi, hz0, hz1, hz2⟩ := info_u8'
  have HM : Hid (∀ v' w3, w3.ownsRow (w.alloc (.cells (pgL g u).toArray 31)).heap.size 5 1 v' (0 + (⟨#[99, 112, 115, 49]⟩ : ByteArray).size) ([] ++ strCells ⟨#[99, 112, 115, 49]⟩) → (w.alloc (.cells (pgL g u).toArray 31)).grownBy w3 none → (Box w3 wb [.slice none 0 0] ∧ Wr (w3.setCell ⟨wb, 0, none⟩ v') wb [99, 112, 115, 49] v') ∧ (Turn (foot wb (.slice none 0 0)) w (w3.setCell ⟨wb, 0, none⟩ v') ∧ ∀ i, i ∈ foot wb v' → i ∈ foot wb (.slice none 0 0) ∨ w.heap.size ≤ i) ∧ w.heap.size ∉ foot wb v' ∧ Box (w3.setCell ⟨wb, 0, none⟩ v') w.heap.size (pgL g u)) := chid (fun v' w3 ho hg => mark_laid h YB Y0 ho hg)
  have HR := chid hr
  have HB := chid hb
  have HF : Hid (∀ i, i ∈ foot wb (.slice none 0 0) → wb ≤ i ∧ i < w.heap.size) := chid h.ge
  have htk := ht.k
  have htw := ht.wi
  have htr := ht.cr
  have htc := ht.c
  clear h hr hb H0 Y0 YB
  go_enter Tryd.func30, Tryd.ntmps30
  go_wp2_with (at_builtin; refine wpList_append_own_string _ rfl _ _ 22 9 rfl (w.alloc (.cells (pgL g u).toArray 31)).heap.size 5 i0 Tryd.underlying22 Tryd.underlying9 hi hz0 hz1 hz2 (.slice none 0 0) 0 [] rfl (World.ownsRow_nil _ _ _ _) ⟨#[99, 112, 115, 49]⟩ rfl (by decide) (by decide) (Nat.le_refl _) ?_; intro v' w3 o3 k3 l3; have q1 := HM.out v' w3 o3 k3; have e3 := q1.1.1.free 0 (by simp); have f3 := q1.1.1.cell 0 _ rfl; have m3 := q1.1.1.lt; have q2 := chid q1.2.1; have q3 := chid q1.2.2.2; have q4 := chid q1.2.2.1; have q5 := chid q1.1.2; have o4 : ∃ a c, v' = .slice a 4 c := own_shape o3; obtain ⟨a9, c9, hv9⟩ := o4; subst hv9; have y0 := q3.out.cell 0 _ rfl; have y9 := q3.out.cell 9 _ rfl; have y10 := q3.out.cell 10 _ rfl; have yl := q3.out.lt; clear o3 k3 l3 q1)
  have hs : (w3.setCell ⟨wb, 0, none⟩ (.slice a9 4 c9)).heap.size = w3.heap.size := by simp [World.setCell]
  have HC := put_new wb 4 (by omega) [g.met, g.loc, g.h] _ _ _ 2 q5.out (by simp) (by simp)
  rw [hs] at HC
  have HC := chid HC
  clear y0 y9 y10 yl e3 f3 m3
  refine Calls.mono HC.out ?_
  rintro e w5 ⟨rfl, h5⟩
  have HW0 := chid (Wt.refl q5.out)
  have HT1 := chid h5
  have HB4 : Hid (Below w0.heap.size w0 (w3.setCell ⟨wb, 0, none⟩ (.slice a9 4 c9))) := chid (HB.out.trans (q2.out.1.below (fun i hi => by have := HF.out i hi; omega) HB.out.size))
  have HF4 : Hid (∀ i, i ∈ foot wb (.slice a9 4 c9) → w0.heap.size ≤ i) := chid (fun i hi => by
    have := HB.out.size
    rcases q2.out.2 i hi with h | h
    · have := HF.out i h; omega
    · omega)
  clear h5 HC hs
  generalize w3.setCell _ _ = w4 at *
  obtain ⟨v1, W1, t1, f1⟩ := HT1.out
  have Y1 := q3.out.turn t1 q4.out
  have y1_1 := Y1.cell 1 _ rfl
  have y1_2 := Y1.cell 2 _ rfl
  have y1_3 := Y1.cell 3 _ rfl
  have y1_4 := Y1.cell 4 _ rfl
  have y1_5 := Y1.cell 5 _ rfl
  have yl1 := Y1.lt
  have b1 : Below w0.heap.size w0 w5 := HB4.out.trans (t1.below HF4.out HB4.out.size)
  have HC1 := put_new wb 8 (by omega) [g.ru.mn, g.ru.mx, g.ru.st, g.ru.up, g.ru.dn] _ v1 w5 2 W1 (by simp [beN_len]) (by simp)
  rw [show (([99, 112, 115, 49] : List UInt8) ++ [g.met, g.loc, g.h].flatMap (beN 4)) ++ [g.ru.mn, g.ru.mx, g.ru.st, g.ru.up, g.ru.dn].flatMap (beN 8) = enH g by simp [enH, List.append_assoc]] at HC1
  have HC1 := chid HC1
  have HF1 := chid (And.intro t1 f1)
  clear W1 t1 f1 Y1 b1
  go_wp2_with fail
  refine Calls.mono HC1.out ?_
  rintro e w6 ⟨rfl, h1⟩
  have HT2 := chid (Wt.trans HF1.out.1 HF1.out.2 h1)
  clear h1 HF1 y1_1 y1_2 y1_3 y1_4 y1_5 yl1
  obtain ⟨v2, W2, t2, f2⟩ := HT2.out
  have Y2 := q3.out.turn t2 q4.out
  have y2_6 := Y2.cell 6 _ rfl
  have yl2 := Y2.lt
  have b2 : Below w0.heap.size w0 w6 := HB4.out.trans (t2.below HF4.out HB4.out.size)
  have HC2 := putAllK_c wb g.K u.k _ v2 w0 w6 W2 HR.out.k b2 hw (by rw [enH_len]; omega) (by omega)
  have HC2 := chid HC2
  have HF2 := chid (And.intro t2 f2)
  clear W2 t2 f2 Y2 b2
  go_wp2_with fail
  refine Calls.mono HC2.out ?_
  rintro e w7 ⟨rfl, h2⟩
  have HT3 := chid (Wt.trans HF2.out.1 HF2.out.2 h2)
  clear h2 HF2 y2_6 yl2
  obtain ⟨v3, W3, t3, f3⟩ := HT3.out
  have Y3 := q3.out.turn t3 q4.out
  have y3_7 := Y3.cell 7 _ rfl
  have yl3 := Y3.lt
  have b3 : Below w0.heap.size w0 w7 := HB4.out.trans (t3.below HF4.out HB4.out.size)
  have HC3 := putAllW_c wb g.wins u.wi _ v3 w0 w7 W3 HR.out.wi b3 hw (by simp only [List.length_append, enH_len, enL_len (beN_len 8)]; omega) (by omega)
  have HC3 := chid HC3
  have HF3 := chid (And.intro t3 f3)
  clear W3 t3 f3 Y3 b3
  go_wp2_with fail
  refine Calls.mono HC3.out ?_
  rintro e w8 ⟨rfl, h3⟩
  have HT4 := chid (Wt.trans HF3.out.1 HF3.out.2 h3)
  clear h3 HF3 y3_7 yl3
  obtain ⟨v4, W4, t4, f4⟩ := HT4.out
  have Y4 := q3.out.turn t4 q4.out
  have y4_8 := Y4.cell 8 _ rfl
  have yl4 := Y4.lt
  have b4 : Below w0.heap.size w0 w8 := HB4.out.trans (t4.below HF4.out HB4.out.size)
  have HC4 := putAllC_c wb g.crons u.cr _ v4 w0 w8 W4 HR.out.cr b4 hw (by simp only [List.length_append, enH_len, enL_len (beN_len 8), enL_len enW_len]; omega) (by omega)
  have HC4 := chid HC4
  have HF4 := chid (And.intro t4 f4)
  clear W4 t4 f4 Y4 b4
  go_wp2_with fail
  refine Calls.mono HC4.out ?_
  rintro e w9 ⟨rfl, h4⟩
  have HT5 := chid (Wt.trans HF4.out.1 HF4.out.2 h4)
  clear h4 HF4 y4_8 yl4
  obtain ⟨v5, W5, t5, f5⟩ := HT5.out
  have Y5 := q3.out.turn t5 q4.out
  have y5_11 := Y5.cell 11 _ rfl
  have yl5 := Y5.lt
  have b5 : Below w0.heap.size w0 w9 := HB4.out.trans (t5.below HF4.out HB4.out.size)
  have HC5 := putAllI_c wb g.C u.c _ v5 w0 w9 W5 HR.out.c b5 hw (by simp only [List.length_append, enH_len, enL_len (beN_len 8), enL_len enW_len, enL_len enC_len]; omega) (by omega)
  have HC5 := chid HC5
  have HF5 := chid (And.intro t5 f5)
  clear W5 t5 f5 Y5 b5
  go_wp2_with fail
  refine Calls.mono HC5.out ?_
  rintro e w10 ⟨rfl, h5⟩
  have HT6 := chid (Wt.trans HF5.out.1 HF5.out.2 h5)
  clear h5 HF5 y5_11 yl5
  go_wp2_with fail
  refine bodyPost_end (v := .tuple #[]) (by simp [results, Tryd.results30, go_sem, *]) rfl ?_
  exact ⟨rfl, Wt.trans q2.out.1 q2.out.2 HT6.out⟩
end Go.Proofs.YthfnjlfhaibbeaaDoor
