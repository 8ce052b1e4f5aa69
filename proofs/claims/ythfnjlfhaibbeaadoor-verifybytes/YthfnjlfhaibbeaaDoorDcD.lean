/- Package codec: lists are written. -/
import Derived.Test.YthfnjlfhaibbeaaDoorDcC
namespace Go.Proofs.YthfnjlfhaibbeaaDoor
open Go.RowKit

set_option maxHeartbeats 2000000 in
set_option maxRecDepth 20000 in
theorem putAllK_c (wb : Nat) (xs : List Int) (lv : Value) (l : List UInt8) (v : Value) (w0 w : World) (h : Wr w wb l v) (hr : KsAt w0 lv xs) (hb : Below w0.heap.size w0 w) (hw : w0.heap.size ≤ wb) (hl : l.length ≤ 400000) (hn : xs.length ≤ 20000) :
    Calls Tryd.prog 51 #[.pointer (some ⟨wb, 0, none⟩), lv, .func (.func 52) #[.pointer (some ⟨wb, 0, none⟩)] #[]] w fun e w' => e = .returned (.tuple #[]) ∧ Wt wb (foot wb v) w (l ++ enL (beN 8) xs) w' := by
  obtain ⟨ad, cap, hv, hle, hcap⟩ := RowsK.shape hr
  subst hv
  have HR := chid hr
  have hn1 : IntKind.i64.wrap ((xs.length : Nat) : Int) = (xs.length : Int) := by rw [IntKind.wrap_i64]; omega
  have HC := put_new wb 4 (by omega) [(xs.length : Int)] l v w 2 h (by omega) (by simp)
  rw [show l ++ [(xs.length : Int)].flatMap (beN 4) = l ++ beN 4 (xs.length : Nat) by simp] at HC
  have HC := chid HC
  have HF : Hid (∀ i, i ∈ foot wb v → wb ≤ i ∧ i < w.heap.size) := chid h.ge
  have HB := chid hb
  obtain ⟨N, hN⟩ : ∃ N, Hid (N = xs.length) := ⟨_, chid rfl⟩
  obtain ⟨Z, hZ⟩ : ∃ Z, Hid (Z = l ++ enL (beN 8) xs) := ⟨_, chid rfl⟩
  have HZl : Hid (Z.length ≤ 900000) := chid (by rw [hZ.out, List.length_append, enL_len (beN_len 8)]; omega)
  rw [← hZ.out]
  rw [← hN.out] at HC hn hn1 hle ⊢
  clear h hr hb
  go_enter Tryd.func51, Tryd.ntmps51
  go_wp2_with fail
  refine Calls.mono HC.out ?_
  rintro e w1 ⟨rfl, h1⟩
  have HT0 := chid h1
  clear h1
  go_wp2_with fail
  go_loopw [15] (fun i wr => ∃ (j : Nat), i = .int .i64 (j : Nat) ∧ j ≤ N ∧ ∃ X, Hid (X ++ (xs.drop j).flatMap (beN 8) = Z) ∧ Hid (Wt wb (foot wb v) w X wr)) (fun i _ => match i with | .int _ z => ((N : Int) - z).toNat | _ => 0)
  case atStart => exact ⟨0, rfl, by omega, _, by rw [List.drop_zero, hZ.out, enL, ← List.append_assoc]; rw [← hN.out]; exact chid rfl, HT0⟩
  case round =>
    obtain ⟨j, rfl, hj, X, HX, HT⟩ := hrel
    by_cases hlt : j < N
    · have hlt' : (j : Int) < (N : Int) := by omega
      have hjl : j < xs.length := by rw [← hN.out]; exact hlt
      have hy : xs.getD j 0 = xs[j] := by simp [List.getD, hjl]
      have hd : xs.drop j = xs.getD j 0 :: xs.drop (j + 1) := by rw [hy]; exact List.drop_eq_getElem_cons hjl
      rw [hd, List.flatMap_cons, ← List.append_assoc] at HX
      obtain ⟨v1, W1, t1, f1⟩ := HT.out
      have hb1 : Below w0.heap.size w0 wr := HB.out.trans (t1.below (fun i hi => by have := HF.out i hi; omega) HB.out.size)
      obtain ⟨b, off, cap', hv, -, -, hbl, hx⟩ := RowsK.open HR.out (show 0 < xs.length by omega)
      simp only [Value.slice.injEq] at hv
      obtain ⟨rfl, -, rfl⟩ := hv
      have hjx : j < xs.length := hjl
      have HB1 := chid hb1
      have z0 := keepc HB1.out (hx j hjx 0 _ rfl)
      rw [show off + j * 1 + 0 = off + j by omega] at z0
      have bl := Nat.lt_of_lt_of_le hbl hb1.size
      have hXl : X.length ≤ 900000 := by have h1 := HZl.out; rw [← HX.out] at h1; simp only [List.length_append] at h1; omega
      have HC2 := chid (constant_c wb (xs.getD j 0) X v1 wr W1 (by omega))
      have HT1 := chid (And.intro t1 f1)
      clear hx hbl hy hd hb1 W1 t1 f1
      generalize xs.getD j 0 = e at *
      go_wp2_with fail
      refine Calls.mono HC2.out ?_
      rintro e' w2 ⟨rfl, h2⟩
      have HT2 := chid (Wt.trans HT1.out.1 HT1.out.2 h2)
      clear h2
      go_wp2_with fail
      go_roundw
      case rel => exact ⟨j + 1, by go_num, by omega, _, HX, HT2⟩
      case measure => simp; omega
    · have hlt' : ¬ (j : Int) < (N : Int) := by omega
      have hj0 : j = N := by omega
      subst hj0
      have e : X = Z := by
        have := HX.out
        rw [hN.out, List.drop_length] at this
        simpa using this
      go_wp2_with fail
      refine bodyPost_end (v := .tuple #[]) (by simp [results, Tryd.results51, go_sem, *]) rfl ?_
      exact ⟨rfl, by rw [← e]; exact HT.out⟩

set_option maxHeartbeats 2000000 in
set_option maxRecDepth 20000 in
theorem putAllW_c (wb : Nat) (xs : List WiP) (lv : Value) (l : List UInt8) (v : Value) (w0 w : World) (h : Wr w wb l v) (hr : WisAt w0 lv xs) (hb : Below w0.heap.size w0 w) (hw : w0.heap.size ≤ wb) (hl : l.length ≤ 400000) (hn : xs.length ≤ 300) :
    Calls Tryd.prog 53 #[.pointer (some ⟨wb, 0, none⟩), lv, .func (.func 54) #[.pointer (some ⟨wb, 0, none⟩)] #[]] w fun e w' => e = .returned (.tuple #[]) ∧ Wt wb (foot wb v) w (l ++ enL enW xs) w' := by
  obtain ⟨ad, cap, hv, hle, hcap⟩ := RowsK.shape hr
  subst hv
  have HR := chid hr
  have hn1 : IntKind.i64.wrap ((xs.length : Nat) : Int) = (xs.length : Int) := by rw [IntKind.wrap_i64]; omega
  have HC := put_new wb 4 (by omega) [(xs.length : Int)] l v w 2 h (by omega) (by simp)
  rw [show l ++ [(xs.length : Int)].flatMap (beN 4) = l ++ beN 4 (xs.length : Nat) by simp] at HC
  have HC := chid HC
  have HF : Hid (∀ i, i ∈ foot wb v → wb ≤ i ∧ i < w.heap.size) := chid h.ge
  have HB := chid hb
  obtain ⟨N, hN⟩ : ∃ N, Hid (N = xs.length) := ⟨_, chid rfl⟩
  obtain ⟨Z, hZ⟩ : ∃ Z, Hid (Z = l ++ enL enW xs) := ⟨_, chid rfl⟩
  have HZl : Hid (Z.length ≤ 900000) := chid (by rw [hZ.out, List.length_append, enL_len (enW_len)]; omega)
  rw [← hZ.out]
  rw [← hN.out] at HC hn hn1 hle ⊢
  clear h hr hb
  go_enter Tryd.func53, Tryd.ntmps53
  go_wp2_with fail
  refine Calls.mono HC.out ?_
  rintro e w1 ⟨rfl, h1⟩
  have HT0 := chid h1
  clear h1
  go_wp2_with fail
  go_loopw [15] (fun i wr => ∃ (j : Nat), i = .int .i64 (j : Nat) ∧ j ≤ N ∧ ∃ X, Hid (X ++ (xs.drop j).flatMap enW = Z) ∧ Hid (Wt wb (foot wb v) w X wr)) (fun i _ => match i with | .int _ z => ((N : Int) - z).toNat | _ => 0)
  case atStart => exact ⟨0, rfl, by omega, _, by rw [List.drop_zero, hZ.out, enL, ← List.append_assoc]; rw [← hN.out]; exact chid rfl, HT0⟩
  case round =>
    obtain ⟨j, rfl, hj, X, HX, HT⟩ := hrel
    by_cases hlt : j < N
    · have hlt' : (j : Int) < (N : Int) := by omega
      have hjl : j < xs.length := by rw [← hN.out]; exact hlt
      have hy : xs.getD j wi0 = xs[j] := by simp [List.getD, hjl]
      have hd : xs.drop j = xs.getD j wi0 :: xs.drop (j + 1) := by rw [hy]; exact List.drop_eq_getElem_cons hjl
      rw [hd, List.flatMap_cons, ← List.append_assoc] at HX
      obtain ⟨v1, W1, t1, f1⟩ := HT.out
      have hb1 : Below w0.heap.size w0 wr := HB.out.trans (t1.below (fun i hi => by have := HF.out i hi; omega) HB.out.size)
      obtain ⟨b, off, cap', hv, -, -, hbl, hx⟩ := RowsK.open HR.out (show 0 < xs.length by omega)
      simp only [Value.slice.injEq] at hv
      obtain ⟨rfl, -, rfl⟩ := hv
      have hjx : j < xs.length := hjl
      have HB1 := chid hb1
      have z0 := keepc HB1.out (hx j hjx 0 _ rfl)
      have z1 := keepc HB1.out (hx j hjx 1 _ rfl)
      have z2 := keepc HB1.out (hx j hjx 2 _ rfl)
      have z3 := keepc HB1.out (hx j hjx 3 _ rfl)
      rw [show off + j * 4 + 0 = off + j * 4 by omega] at z0
      have bl := Nat.lt_of_lt_of_le hbl hb1.size
      have hXl : X.length ≤ 900000 := by have h1 := HZl.out; rw [← HX.out] at h1; simp only [List.length_append] at h1; omega
      have HC2 := chid (window_c wb (xs.getD j wi0) X v1 _ (W1.next (bel_alloc wr (.cells (wiL (xs.getD j wi0)).toArray 65))) (by omega))
      have HT1 := chid (And.intro t1 f1)
      clear hx hbl hy hd hb1 W1 t1 f1
      generalize xs.getD j wi0 = e at *
      go_wp2_with fail
      refine Calls.mono HC2.out ?_
      rintro e' w2 ⟨rfl, h2⟩
      have HT2 := chid (Wt.trans HT1.out.1 HT1.out.2 (Wt.before (bel_alloc wr _) h2))
      clear h2
      go_wp2_with fail
      go_roundw
      case rel => exact ⟨j + 1, by go_num, by omega, _, HX, HT2⟩
      case measure => simp; omega
    · have hlt' : ¬ (j : Int) < (N : Int) := by omega
      have hj0 : j = N := by omega
      subst hj0
      have e : X = Z := by
        have := HX.out
        rw [hN.out, List.drop_length] at this
        simpa using this
      go_wp2_with fail
      refine bodyPost_end (v := .tuple #[]) (by simp [results, Tryd.results53, go_sem, *]) rfl ?_
      exact ⟨rfl, by rw [← e]; exact HT.out⟩

set_option maxHeartbeats 2000000 in
set_option maxRecDepth 20000 in
theorem putAllC_c (wb : Nat) (xs : List Cr) (lv : Value) (l : List UInt8) (v : Value) (w0 w : World) (h : Wr w wb l v) (hr : CrsAt w0 lv xs) (hb : Below w0.heap.size w0 w) (hw : w0.heap.size ≤ wb) (hl : l.length ≤ 400000) (hn : xs.length ≤ 300) :
    Calls Tryd.prog 55 #[.pointer (some ⟨wb, 0, none⟩), lv, .func (.func 56) #[.pointer (some ⟨wb, 0, none⟩)] #[]] w fun e w' => e = .returned (.tuple #[]) ∧ Wt wb (foot wb v) w (l ++ enL enC xs) w' := by
  obtain ⟨ad, cap, hv, hle, hcap⟩ := RowsK.shape hr
  subst hv
  have HR := chid hr
  have hn1 : IntKind.i64.wrap ((xs.length : Nat) : Int) = (xs.length : Int) := by rw [IntKind.wrap_i64]; omega
  have HC := put_new wb 4 (by omega) [(xs.length : Int)] l v w 2 h (by omega) (by simp)
  rw [show l ++ [(xs.length : Int)].flatMap (beN 4) = l ++ beN 4 (xs.length : Nat) by simp] at HC
  have HC := chid HC
  have HF : Hid (∀ i, i ∈ foot wb v → wb ≤ i ∧ i < w.heap.size) := chid h.ge
  have HB := chid hb
  obtain ⟨N, hN⟩ : ∃ N, Hid (N = xs.length) := ⟨_, chid rfl⟩
  obtain ⟨Z, hZ⟩ : ∃ Z, Hid (Z = l ++ enL enC xs) := ⟨_, chid rfl⟩
  have HZl : Hid (Z.length ≤ 900000) := chid (by rw [hZ.out, List.length_append, enL_len (enC_len)]; omega)
  rw [← hZ.out]
  rw [← hN.out] at HC hn hn1 hle ⊢
  clear h hr hb
  go_enter Tryd.func55, Tryd.ntmps55
  go_wp2_with fail
  refine Calls.mono HC.out ?_
  rintro e w1 ⟨rfl, h1⟩
  have HT0 := chid h1
  clear h1
  go_wp2_with fail
  go_loopw [15] (fun i wr => ∃ (j : Nat), i = .int .i64 (j : Nat) ∧ j ≤ N ∧ ∃ X, Hid (X ++ (xs.drop j).flatMap enC = Z) ∧ Hid (Wt wb (foot wb v) w X wr)) (fun i _ => match i with | .int _ z => ((N : Int) - z).toNat | _ => 0)
  case atStart => exact ⟨0, rfl, by omega, _, by rw [List.drop_zero, hZ.out, enL, ← List.append_assoc]; rw [← hN.out]; exact chid rfl, HT0⟩
  case round =>
    obtain ⟨j, rfl, hj, X, HX, HT⟩ := hrel
    by_cases hlt : j < N
    · have hlt' : (j : Int) < (N : Int) := by omega
      have hjl : j < xs.length := by rw [← hN.out]; exact hlt
      have hy : xs.getD j cr0 = xs[j] := by simp [List.getD, hjl]
      have hd : xs.drop j = xs.getD j cr0 :: xs.drop (j + 1) := by rw [hy]; exact List.drop_eq_getElem_cons hjl
      rw [hd, List.flatMap_cons, ← List.append_assoc] at HX
      obtain ⟨v1, W1, t1, f1⟩ := HT.out
      have hb1 : Below w0.heap.size w0 wr := HB.out.trans (t1.below (fun i hi => by have := HF.out i hi; omega) HB.out.size)
      obtain ⟨b, off, cap', hv, -, -, hbl, hx⟩ := RowsK.open HR.out (show 0 < xs.length by omega)
      simp only [Value.slice.injEq] at hv
      obtain ⟨rfl, -, rfl⟩ := hv
      have hjx : j < xs.length := hjl
      have HB1 := chid hb1
      have z0 := keepc HB1.out (hx j hjx 0 _ rfl)
      have z1 := keepc HB1.out (hx j hjx 1 _ rfl)
      have z2 := keepc HB1.out (hx j hjx 2 _ rfl)
      have z3 := keepc HB1.out (hx j hjx 3 _ rfl)
      have z4 := keepc HB1.out (hx j hjx 4 _ rfl)
      rw [show off + j * 5 + 0 = off + j * 5 by omega] at z0
      have bl := Nat.lt_of_lt_of_le hbl hb1.size
      have hXl : X.length ≤ 900000 := by have h1 := HZl.out; rw [← HX.out] at h1; simp only [List.length_append] at h1; omega
      have HC2 := chid (schedule_c wb (xs.getD j cr0) X v1 _ (W1.next (bel_alloc wr (.cells (crL (xs.getD j cr0)).toArray 68))) (by omega))
      have HT1 := chid (And.intro t1 f1)
      clear hx hbl hy hd hb1 W1 t1 f1
      generalize xs.getD j cr0 = e at *
      go_wp2_with fail
      refine Calls.mono HC2.out ?_
      rintro e' w2 ⟨rfl, h2⟩
      have HT2 := chid (Wt.trans HT1.out.1 HT1.out.2 (Wt.before (bel_alloc wr _) h2))
      clear h2
      go_wp2_with fail
      go_roundw
      case rel => exact ⟨j + 1, by go_num, by omega, _, HX, HT2⟩
      case measure => simp; omega
    · have hlt' : ¬ (j : Int) < (N : Int) := by omega
      have hj0 : j = N := by omega
      subst hj0
      have e : X = Z := by
        have := HX.out
        rw [hN.out, List.drop_length] at this
        simpa using this
      go_wp2_with fail
      refine bodyPost_end (v := .tuple #[]) (by simp [results, Tryd.results55, go_sem, *]) rfl ?_
      exact ⟨rfl, by rw [← e]; exact HT.out⟩

set_option maxHeartbeats 2000000 in
set_option maxRecDepth 20000 in
theorem putAllI_c (wb : Nat) (xs : List Ins) (lv : Value) (l : List UInt8) (v : Value) (w0 w : World) (h : Wr w wb l v) (hr : InsAt w0 lv xs) (hb : Below w0.heap.size w0 w) (hw : w0.heap.size ≤ wb) (hl : l.length ≤ 400000) (hn : xs.length ≤ 20000) :
    Calls Tryd.prog 57 #[.pointer (some ⟨wb, 0, none⟩), lv, .func (.func 58) #[.pointer (some ⟨wb, 0, none⟩)] #[]] w fun e w' => e = .returned (.tuple #[]) ∧ Wt wb (foot wb v) w (l ++ enL enI xs) w' := by
  obtain ⟨ad, cap, hv, hle, hcap⟩ := RowsK.shape hr
  subst hv
  have HR := chid hr
  have hn1 : IntKind.i64.wrap ((xs.length : Nat) : Int) = (xs.length : Int) := by rw [IntKind.wrap_i64]; omega
  have HC := put_new wb 4 (by omega) [(xs.length : Int)] l v w 2 h (by omega) (by simp)
  rw [show l ++ [(xs.length : Int)].flatMap (beN 4) = l ++ beN 4 (xs.length : Nat) by simp] at HC
  have HC := chid HC
  have HF : Hid (∀ i, i ∈ foot wb v → wb ≤ i ∧ i < w.heap.size) := chid h.ge
  have HB := chid hb
  obtain ⟨N, hN⟩ : ∃ N, Hid (N = xs.length) := ⟨_, chid rfl⟩
  obtain ⟨Z, hZ⟩ : ∃ Z, Hid (Z = l ++ enL enI xs) := ⟨_, chid rfl⟩
  have HZl : Hid (Z.length ≤ 900000) := chid (by rw [hZ.out, List.length_append, enL_len (enI_len)]; omega)
  rw [← hZ.out]
  rw [← hN.out] at HC hn hn1 hle ⊢
  clear h hr hb
  go_enter Tryd.func57, Tryd.ntmps57
  go_wp2_with fail
  refine Calls.mono HC.out ?_
  rintro e w1 ⟨rfl, h1⟩
  have HT0 := chid h1
  clear h1
  go_wp2_with fail
  go_loopw [15] (fun i wr => ∃ (j : Nat), i = .int .i64 (j : Nat) ∧ j ≤ N ∧ ∃ X, Hid (X ++ (xs.drop j).flatMap enI = Z) ∧ Hid (Wt wb (foot wb v) w X wr)) (fun i _ => match i with | .int _ z => ((N : Int) - z).toNat | _ => 0)
  case atStart => exact ⟨0, rfl, by omega, _, by rw [List.drop_zero, hZ.out, enL, ← List.append_assoc]; rw [← hN.out]; exact chid rfl, HT0⟩
  case round =>
    obtain ⟨j, rfl, hj, X, HX, HT⟩ := hrel
    by_cases hlt : j < N
    · have hlt' : (j : Int) < (N : Int) := by omega
      have hjl : j < xs.length := by rw [← hN.out]; exact hlt
      have hy : xs.getD j in0 = xs[j] := by simp [List.getD, hjl]
      have hd : xs.drop j = xs.getD j in0 :: xs.drop (j + 1) := by rw [hy]; exact List.drop_eq_getElem_cons hjl
      rw [hd, List.flatMap_cons, ← List.append_assoc] at HX
      obtain ⟨v1, W1, t1, f1⟩ := HT.out
      have hb1 : Below w0.heap.size w0 wr := HB.out.trans (t1.below (fun i hi => by have := HF.out i hi; omega) HB.out.size)
      obtain ⟨b, off, cap', hv, -, -, hbl, hx⟩ := RowsK.open HR.out (show 0 < xs.length by omega)
      simp only [Value.slice.injEq] at hv
      obtain ⟨rfl, -, rfl⟩ := hv
      have hjx : j < xs.length := hjl
      have HB1 := chid hb1
      have z0 := keepc HB1.out (hx j hjx 0 _ rfl)
      have z1 := keepc HB1.out (hx j hjx 1 _ rfl)
      rw [show off + j * 2 + 0 = off + j * 2 by omega] at z0
      have bl := Nat.lt_of_lt_of_le hbl hb1.size
      have hXl : X.length ≤ 900000 := by have h1 := HZl.out; rw [← HX.out] at h1; simp only [List.length_append] at h1; omega
      have HC2 := chid (instruction_c wb (xs.getD j in0) X v1 _ (W1.next (bel_alloc wr (.cells (inL (xs.getD j in0)).toArray 51))) (by omega))
      have HT1 := chid (And.intro t1 f1)
      clear hx hbl hy hd hb1 W1 t1 f1
      generalize xs.getD j in0 = e at *
      go_wp2_with fail
      refine Calls.mono HC2.out ?_
      rintro e' w2 ⟨rfl, h2⟩
      have HT2 := chid (Wt.trans HT1.out.1 HT1.out.2 (Wt.before (bel_alloc wr _) h2))
      clear h2
      go_wp2_with fail
      go_roundw
      case rel => exact ⟨j + 1, by go_num, by omega, _, HX, HT2⟩
      case measure => simp; omega
    · have hlt' : ¬ (j : Int) < (N : Int) := by omega
      have hj0 : j = N := by omega
      subst hj0
      have e : X = Z := by
        have := HX.out
        rw [hN.out, List.drop_length] at this
        simpa using this
      go_wp2_with fail
      refine bodyPost_end (v := .tuple #[]) (by simp [results, Tryd.results57, go_sem, *]) rfl ?_
      exact ⟨rfl, by rw [← e]; exact HT.out⟩

end Go.Proofs.YthfnjlfhaibbeaaDoor

