/- Package codec: lists are read. -/
import Derived.Test.YthfnjlfhaibbeaaDoorDcK
namespace Go.Proofs.YthfnjlfhaibbeaaDoor
open Go.RowKit

/-- Rows of a list's elements, cell by cell. -/
def flR {α : Type} (L : α → List Value) (xs : List α) : List Value := (xs.map L).flatten
theorem flR_snoc {α : Type} (L : α → List Value) (xs : List α) (a : α) : flR L (xs ++ [a]) = flR L xs ++ L a := by simp [flR]
theorem flR_at {α : Type} {L : α → List Value} {k : Nat} (hL : ∀ a, (L a).length = k) : ∀ (xs : List α) (i j : Nat) (x : α) (u : Value), xs[i]? = some x → (L x)[j]? = some u → (flR L xs)[i * k + j]? = some u
  | [], _, _, _, _, h, _ => by cases h
  | y :: r, 0, j, x, u, h, hu => by
    cases h
    have hj := (List.getElem?_eq_some_iff.1 hu).1
    rw [Nat.zero_mul, Nat.zero_add]
    show (L y ++ flR L r)[j]? = some u
    rw [List.getElem?_append_left hj]
    exact hu
  | y :: r, i + 1, j, x, u, h, hu => by
    have := flR_at hL r i j x u h hu
    show (L y ++ flR L r)[(i + 1) * k + j]? = some u
    rw [List.getElem?_append_right (by rw [hL, Nat.succ_mul]; omega), hL, show (i + 1) * k + j - k = i * k + j by rw [Nat.succ_mul]; omega]
    exact this
/-- A row of one's own of a list's elements. -/
def OwR {α : Type} (e : TypeId) (k : Nat) (L : α → List Value) (B : Nat) (xs : List α) (x : Value) (w : World) : Prop := w.ownsRow B e k x xs.length (flR L xs)
theorem OwR.rows {α : Type} {e : TypeId} {k : Nat} {L : α → List Value} {B : Nat} {xs : List α} {x : Value} {w : World} (hL : ∀ a, (L a).length = k) (h : OwR e k L B xs x w) (d : α) : RowsK w x xs.length k (fun i => L (xs.getD i d)) :=
  rows_of_box h (fun i hi j u hu => flR_at hL xs i j (xs.getD i d) u (by simp [List.getD, hi]) hu)
theorem OwR.turn {α : Type} {e : TypeId} {k : Nat} {L : α → List Value} {B : Nat} {xs : List α} {x : Value} {w w' : World} {S : List Nat} (h : OwR e k L B xs x w) (t : Turn S w w') (hS : ∀ b, x.ownBlock = some b → b ∉ S) : OwR e k L B xs x w' := own_turn h t hS
theorem many_none {α : Type} {f : Rdr α} {q : Nat} {m : List UInt8} (h : f m = none) : rMany f (q + 1) m = none := bind_none h
theorem many_some {α : Type} {f : Rdr α} {q : Nat} {m m' : List UInt8} {a : α} (xs : List α) (h : f m = some (a, m')) : (rMany f (q + 1) m).map (fun p => (xs ++ p.1, p.2)) = (rMany f q m').map (fun p => ((xs ++ [a]) ++ p.1, p.2)) := by
  show (rBind f (fun a => rBind (rMany f q) fun r => rRet (a :: r)) m).map _ = _
  rw [bind_fwd h]
  unfold rBind rRet
  cases rMany f q m' with
  | none => rfl
  | some p => simp
/-- A row and the reader lie on while the other's work is done. -/
theorem own_rd {w w' : World} {rb B : Nat} {e : TypeId} {k n : Nat} {x : Value} {xs : List Value} (h : w.ownsRow B e k x n xs) (t : Turn [rb] w w') (hB : rb < B) : w'.ownsRow B e k x n xs :=
  own_turn h t (fun b hb => by have := (h.lt b hb).1; simp; omega)
theorem Rdp.grown {w w' : World} {rb : Nat} {l : List UInt8} {v x : Value} (h : Rdp w rb l v) (hg : w.grownBy w' x.ownBlock) (hx : ∀ b, x.ownBlock = some b → rb < b) : Rdp w' rb l v := by
  have T : Turn (blk x) w w' := ⟨hg.os, hg.tape, hg.output, hg.size, fun k hk hn => hg.block k hk (fun e => hn (blk_mem.2 e.symm))⟩
  exact ⟨h.box.turn T (fun hm => by have := hx _ (blk_mem.1 hm); omega), RowsK.turn0 h.rest T (fun h0 b hb hm => by have := h.own h0 b hb; have := hx _ (blk_mem.1 hm); omega), h.own, h.err.turn T (fun hm => by have := h.ne; have := hx _ (blk_mem.1 hm); omega), h.ne⟩
theorem turn_grown {w a b : World} {rb B : Nat} {e : TypeId} {k n : Nat} {x : Value} {xs : List Value} (t : Turn [rb] w a) (hg : a.grownBy b x.ownBlock) (h : a.ownsRow B e k x n xs) (hB : w.heap.size ≤ B) : Turn [rb] w b := by
  have T : Turn (blk x) a b := ⟨hg.os, hg.tape, hg.output, hg.size, fun k hk hn => hg.block k hk (fun e => hn (blk_mem.2 e.symm))⟩
  exact t.trans T (fun i hi => .inr (by have := (h.lt i (blk_mem.1 hi)).1; omega))

theorem info_K : (Tryd.prog.info? 2).map (fun i => (i.zero, i.size, i.bytes)) = some (some (.int .i64 0), 1, 8) := by kernel_rfl
theorem info_K' : ∃ i, Tryd.prog.info? 2 = some i ∧ i.zero = some (.int .i64 0) ∧ i.size = 1 ∧ i.bytes = 8 := by
  have h := info_K
  cases e : Tryd.prog.info? 2 with
  | none => rw [e] at h; cases h
  | some i =>
    rw [e] at h
    simp only [Option.map_some, Option.some.injEq, Prod.mk.injEq] at h
    exact ⟨i, rfl, h.1, h.2.1, h.2.2⟩
set_option maxHeartbeats 2000000 in
set_option maxRecDepth 20000 in
theorem listK_c (rb most : Nat) (hm : most ≤ 16384) (l : List UInt8) (v : Value) (w : World) (h : Rdp w rb l v) :
    Calls Tryd.prog 35 #[.pointer (some ⟨rb, 0, none⟩), .int .i64 (most : Nat), .func (.func 36) #[.pointer (some ⟨rb, 0, none⟩)] #[]] w (RdQ rb w (rList most rEight l) (OwR 2 1 (fun a : Int => [.int .i64 a]) w.heap.size)) := by
  have H0 := chid h
  have g0 : rb < w.heap.size := h.box.lt
  have HE : Hid (∀ e w', rList most rEight l = none → Thrown e → Turn [rb] w w' → RdQ rb w (rList most rEight l) (OwR 2 1 (fun a : Int => [.int .i64 a]) w.heap.size) e w') := chid (fun e w' hn he t => ⟨t, by rw [hn]; exact he⟩)
  have HO : Hid (∀ a l' x v' w', rList most rEight l = some (a, l') → OwR 2 1 (fun a : Int => [.int .i64 a]) w.heap.size a x w' → Rdp w' rb l' v' → Turn [rb] w w' → RdQ rb w (rList most rEight l) (OwR 2 1 (fun a : Int => [.int .i64 a]) w.heap.size) (.returned x) w') := chid (fun a l' x v' w' hn hx hr t => ⟨t, by rw [hn]; exact ⟨x, v', rfl, hx, hr⟩⟩)
  obtain ⟨i0, hi, hz0, hz1, hz2⟩ := info_K'
  clear h
  generalize RdQ rb w (rList most rEight l) (OwR 2 1 (fun a : Int => [.int .i64 a]) w.heap.size) = Post at *
  go_enter Tryd.func35, Tryd.ntmps35
  go_wp2_with fail
  have HC := chid (four_c rb l v w H0.out)
  refine Calls.mono HC.out ?_
  rintro e w1 ⟨t1, hh⟩
  cases hc : rFour l with
  | none =>
    rw [hc] at hh
    obtain ⟨u, pv, rfl⟩ := hh
    have hn : rList most rEight l = none := bind_none hc
    go_wp2_with fail
    exact ⟨rfl, HE.out _ _ hn ⟨u, pv, rfl⟩ t1⟩
  | some p =>
  obtain ⟨c, l1⟩ := p
  rw [hc] at hh
  obtain ⟨x, v1, rfl, rfl, h1⟩ := hh
  have hf := (four_reads.bwd _ _ _ hc).2
  have he1 : rList most rEight l = (if c ≤ (most : Int) then rMany rEight c.toNat else fun _ => none) l1 := bind_fwd hc
  by_cases hcm : c ≤ (most : Int)
  · rw [if_pos hcm] at he1
    obtain ⟨N, rfl⟩ : ∃ N : Nat, c = (N : Int) := ⟨c.toNat, by omega⟩
    have hNm : N ≤ 16384 := by omega
    have hW := chid (want_t w1)
    have HX0 : Hid (rList most rEight l = (rMany rEight (N - 0) l1).map (fun p => (([] : List Int) ++ p.1, p.2))) := chid (by
      rw [he1, show ((N : Int)).toNat = N by omega, Nat.sub_zero]
      cases rMany rEight N l1 with
      | none => rfl
      | some p => rfl)
    have H1 := chid h1
    have T1 := chid t1
    clear hc HC he1 h1 t1 hf
    go_wp2_with fail
    refine Calls.mono hW.out ?_
    rintro e w2 ⟨rfl, rfl⟩
    go_wp2_with fail
    go_loopw [8, 16] (fun r i wr => ∃ (j : Nat), i = .int .i64 (j : Nat) ∧ j ≤ N ∧ ∃ (xs : List Int) (m : List UInt8) (vm : Value) (ra : Option Addr) (rc : Nat), r = .slice ra xs.length rc ∧ xs.length = j ∧ Hid (rList most rEight l = (rMany rEight (N - j) m).map (fun p => (xs ++ p.1, p.2))) ∧ Hid (Rdp wr rb m vm) ∧ Hid (OwR 2 1 (fun a : Int => [.int .i64 a]) w.heap.size xs (.slice ra xs.length rc) wr) ∧ Hid (Turn [rb] w wr)) (fun _ i _ => match i with | .int _ z => ((N : Int) - z).toNat | _ => 0)
    case atStart => exact ⟨0, rfl, by omega, [], l1, v1, none, 0, rfl, rfl, HX0, H1, chid (World.ownsRow_nil _ _ _ _), T1⟩
    case round =>
      obtain ⟨j, rfl, hj, xs, m, vm, ra, rc, rfl, hxl, HX, HRd, HOw, HT⟩ := hrel
      clear HX0 H1 T1
      by_cases hlt : j < N
      · have hlt' : (j : Int) < (N : Int) := by omega
        have HC := chid (eight_c rb m vm wr HRd.out)
        go_wp2_with fail
        refine Calls.mono HC.out ?_
        rintro e w3 ⟨t3, hh⟩
        cases hc : rEight m with
        | none =>
          rw [hc] at hh
          obtain ⟨u, pv, rfl⟩ := hh
          have hn : rList most rEight l = none := by
            have := HX.out
            rw [show N - j = (N - j - 1) + 1 by omega, many_none hc] at this
            exact this
          have tF := tt HT.out t3
          go_wp2_with fail
          exact ⟨rfl, HE.out _ _ hn ⟨u, pv, rfl⟩ tF⟩
        | some p =>
        obtain ⟨y, m2⟩ := p
        rw [hc] at hh
        obtain ⟨x, v3, rfl, hx, h3⟩ := hh
        subst hx
        have HX2 : Hid (rList most rEight l = (rMany rEight (N - (j + 1)) m2).map (fun p => ((xs ++ [y]) ++ p.1, p.2))) := chid (by
          have := HX.out
          rw [show N - j = (N - (j + 1)) + 1 by omega, many_some xs hc] at this
          exact this)
        have HXL := chid hxl
        have hB : w.heap.size ≤ w3.heap.size := by have := HT.out.size; have := t3.size; omega
        have al := bel_alloc w3 (.cells ([.int .i64 y]).toArray 2)
        have O3 : (w3.alloc (.cells ([.int .i64 y]).toArray 2)).ownsRow w.heap.size 2 1 (.slice ra xs.length rc) xs.length (flR (fun a : Int => [.int .i64 a]) xs) := own_turn (own_rd HOw.out t3 g0) (S := []) (Turn.of_below al) (fun _ _ hm => by cases hm)
        have HO3 := chid O3
        have HNw : Hid (∀ jj u, ([.int .i64 y])[jj]? = some u → (w3.alloc (.cells ([.int .i64 y]).toArray 2)).cell? ((⟨w3.heap.size, 0, none⟩ : Addr).add jj) = some u) := chid (fun jj u hu => by
          have hadd : (⟨w3.heap.size, 0, none⟩ : Addr).add jj = ⟨w3.heap.size, jj, none⟩ := by unfold Addr.add; split <;> simp_all
          rw [hadd]
          exact (Box.new w3 ([.int .i64 y]) 2).cell jj u hu)
        have HG : Hid (∀ g1 c1 w5, w5.ownsRow w.heap.size 2 1 (.slice (some ⟨g1, 0, none⟩) (xs.length + 1) c1) (xs.length + 1) (flR (fun a : Int => [.int .i64 a]) xs ++ [.int .i64 y]) → (w3.alloc (.cells ([.int .i64 y]).toArray 2)).grownBy w5 (Value.slice ra xs.length rc).ownBlock → Hid (Rdp w5 rb m2 v3) ∧ Hid (OwR 2 1 (fun a : Int => [.int .i64 a]) w.heap.size (xs ++ [y]) (.slice (some ⟨g1, 0, none⟩) (xs ++ [y]).length c1) w5) ∧ Hid (Turn [rb] w w5)) := chid (fun g1 c1 w5 ho hg => by
          refine ⟨chid ((h3.next al).grown hg (fun b hb => by have := (O3.lt b hb).1; omega)), chid ?_, chid (turn_grown ((tt HT.out t3).andBelow al) hg O3 (Nat.le_refl _))⟩
          unfold OwR
          rw [flR_snoc, List.length_append]
          exact ho)
        have hxb : xs.length ≤ 16384 := by omega
        clear al O3 h3 t3 hc HC HX hxl
        go_wp2_with (at_builtin; refine wpList_append_lies _ rfl _ _ 26 rfl w.heap.size 2 i0 (.int .i64 0) 1 8 Tryd.underlying26 hi hz0 hz1 hz2 rfl (by decide) (.slice ra xs.length rc) xs.length (flR (fun a : Int => [.int .i64 a]) xs) rfl HO3.out ⟨w3.heap.size, 0, none⟩ 1 1 ([.int .i64 y]) rfl rfl HNw.out (by intro u hu; simp only [List.mem_cons, List.not_mem_nil, or_false] at hu; subst hu; rfl) (by decide) (by unfold maxLen; omega) (by omega) (by simp; omega) _ rfl ?_; intro g1 c1 w5 o5 k5 a5 l5; have q5 := HG.out g1 c1 w5 o5 k5; clear o5 k5 a5 l5)
        go_roundw
        case rel => exact ⟨j + 1, by go_num, by omega, xs ++ [y], m2, v3, _, _, by rw [List.length_append]; rfl, by rw [List.length_append, HXL.out]; rfl, HX2, q5.1, q5.2.1, q5.2.2⟩
        case measure => simp; omega
      · have hlt' : ¬ (j : Int) < (N : Int) := by omega
        obtain rfl : j = N := by omega
        have hn : rList most rEight l = some (xs, m) := by
          rw [HX.out, Nat.sub_self]
          simp [rMany, rRet]
        have HF := chid (HO.out _ _ _ _ _ hn HOw.out HRd.out HT.out)
        rw [hxl] at HF
        clear HX
        go_wp2_with fail
        exact HF.out
  · rw [if_neg hcm] at he1
    have hW := want_f w1 h1.err
    rw [show false = decide (c ≤ (most : Int)) by simp; omega] at hW
    have hW := chid hW
    clear h1 hc HC
    go_wp2_with fail
    refine Calls.mono hW.out ?_
    rintro e w2 ⟨⟨u, pv, rfl⟩, rfl⟩
    go_wp2_with fail
    exact ⟨rfl, HE.out _ _ he1 ⟨u, pv, rfl⟩ t1⟩

theorem info_W : (Tryd.prog.info? 65).map (fun i => (i.zero, i.size, i.bytes)) = some (some (.agg #[.int .i64 0, .int .i64 0, .int .i64 0, .int .i64 0]), 4, 32) := by kernel_rfl
theorem info_W' : ∃ i, Tryd.prog.info? 65 = some i ∧ i.zero = some (.agg #[.int .i64 0, .int .i64 0, .int .i64 0, .int .i64 0]) ∧ i.size = 4 ∧ i.bytes = 32 := by
  have h := info_W
  cases e : Tryd.prog.info? 65 with
  | none => rw [e] at h; cases h
  | some i =>
    rw [e] at h
    simp only [Option.map_some, Option.some.injEq, Prod.mk.injEq] at h
    exact ⟨i, rfl, h.1, h.2.1, h.2.2⟩
set_option maxHeartbeats 2000000 in
set_option maxRecDepth 20000 in
theorem listW_c (rb most : Nat) (hm : most ≤ 16384) (l : List UInt8) (v : Value) (w : World) (h : Rdp w rb l v) :
    Calls Tryd.prog 37 #[.pointer (some ⟨rb, 0, none⟩), .int .i64 (most : Nat), .func (.func 38) #[.pointer (some ⟨rb, 0, none⟩)] #[]] w (RdQ rb w (rList most rWin l) (OwR 65 4 (fun a : WiP => wiL a) w.heap.size)) := by
  have H0 := chid h
  have g0 : rb < w.heap.size := h.box.lt
  have HE : Hid (∀ e w', rList most rWin l = none → Thrown e → Turn [rb] w w' → RdQ rb w (rList most rWin l) (OwR 65 4 (fun a : WiP => wiL a) w.heap.size) e w') := chid (fun e w' hn he t => ⟨t, by rw [hn]; exact he⟩)
  have HO : Hid (∀ a l' x v' w', rList most rWin l = some (a, l') → OwR 65 4 (fun a : WiP => wiL a) w.heap.size a x w' → Rdp w' rb l' v' → Turn [rb] w w' → RdQ rb w (rList most rWin l) (OwR 65 4 (fun a : WiP => wiL a) w.heap.size) (.returned x) w') := chid (fun a l' x v' w' hn hx hr t => ⟨t, by rw [hn]; exact ⟨x, v', rfl, hx, hr⟩⟩)
  obtain ⟨i0, hi, hz0, hz1, hz2⟩ := info_W'
  clear h
  generalize RdQ rb w (rList most rWin l) (OwR 65 4 (fun a : WiP => wiL a) w.heap.size) = Post at *
  go_enter Tryd.func37, Tryd.ntmps37
  go_wp2_with fail
  have HC := chid (four_c rb l v w H0.out)
  refine Calls.mono HC.out ?_
  rintro e w1 ⟨t1, hh⟩
  cases hc : rFour l with
  | none =>
    rw [hc] at hh
    obtain ⟨u, pv, rfl⟩ := hh
    have hn : rList most rWin l = none := bind_none hc
    go_wp2_with fail
    exact ⟨rfl, HE.out _ _ hn ⟨u, pv, rfl⟩ t1⟩
  | some p =>
  obtain ⟨c, l1⟩ := p
  rw [hc] at hh
  obtain ⟨x, v1, rfl, rfl, h1⟩ := hh
  have hf := (four_reads.bwd _ _ _ hc).2
  have he1 : rList most rWin l = (if c ≤ (most : Int) then rMany rWin c.toNat else fun _ => none) l1 := bind_fwd hc
  by_cases hcm : c ≤ (most : Int)
  · rw [if_pos hcm] at he1
    obtain ⟨N, rfl⟩ : ∃ N : Nat, c = (N : Int) := ⟨c.toNat, by omega⟩
    have hNm : N ≤ 16384 := by omega
    have hW := chid (want_t w1)
    have HX0 : Hid (rList most rWin l = (rMany rWin (N - 0) l1).map (fun p => (([] : List WiP) ++ p.1, p.2))) := chid (by
      rw [he1, show ((N : Int)).toNat = N by omega, Nat.sub_zero]
      cases rMany rWin N l1 with
      | none => rfl
      | some p => rfl)
    have H1 := chid h1
    have T1 := chid t1
    clear hc HC he1 h1 t1 hf
    go_wp2_with fail
    refine Calls.mono hW.out ?_
    rintro e w2 ⟨rfl, rfl⟩
    go_wp2_with fail
    go_loopw [8, 16] (fun r i wr => ∃ (j : Nat), i = .int .i64 (j : Nat) ∧ j ≤ N ∧ ∃ (xs : List WiP) (m : List UInt8) (vm : Value) (ra : Option Addr) (rc : Nat), r = .slice ra xs.length rc ∧ xs.length = j ∧ Hid (rList most rWin l = (rMany rWin (N - j) m).map (fun p => (xs ++ p.1, p.2))) ∧ Hid (Rdp wr rb m vm) ∧ Hid (OwR 65 4 (fun a : WiP => wiL a) w.heap.size xs (.slice ra xs.length rc) wr) ∧ Hid (Turn [rb] w wr)) (fun _ i _ => match i with | .int _ z => ((N : Int) - z).toNat | _ => 0)
    case atStart => exact ⟨0, rfl, by omega, [], l1, v1, none, 0, rfl, rfl, HX0, H1, chid (World.ownsRow_nil _ _ _ _), T1⟩
    case round =>
      obtain ⟨j, rfl, hj, xs, m, vm, ra, rc, rfl, hxl, HX, HRd, HOw, HT⟩ := hrel
      clear HX0 H1 T1
      by_cases hlt : j < N
      · have hlt' : (j : Int) < (N : Int) := by omega
        have HC := chid (rwindow_c rb m vm wr HRd.out)
        go_wp2_with fail
        refine Calls.mono HC.out ?_
        rintro e w3 ⟨t3, hh⟩
        cases hc : rWin m with
        | none =>
          rw [hc] at hh
          obtain ⟨u, pv, rfl⟩ := hh
          have hn : rList most rWin l = none := by
            have := HX.out
            rw [show N - j = (N - j - 1) + 1 by omega, many_none hc] at this
            exact this
          have tF := tt HT.out t3
          go_wp2_with fail
          exact ⟨rfl, HE.out _ _ hn ⟨u, pv, rfl⟩ tF⟩
        | some p =>
        obtain ⟨y, m2⟩ := p
        rw [hc] at hh
        obtain ⟨x, v3, rfl, hx, h3⟩ := hh
        subst hx
        have HX2 : Hid (rList most rWin l = (rMany rWin (N - (j + 1)) m2).map (fun p => ((xs ++ [y]) ++ p.1, p.2))) := chid (by
          have := HX.out
          rw [show N - j = (N - (j + 1)) + 1 by omega, many_some xs hc] at this
          exact this)
        have HXL := chid hxl
        have hB : w.heap.size ≤ w3.heap.size := by have := HT.out.size; have := t3.size; omega
        have al := bel_alloc w3 (.cells (wiL y).toArray 65)
        have O3 : (w3.alloc (.cells (wiL y).toArray 65)).ownsRow w.heap.size 65 4 (.slice ra xs.length rc) xs.length (flR (fun a : WiP => wiL a) xs) := own_turn (own_rd HOw.out t3 g0) (S := []) (Turn.of_below al) (fun _ _ hm => by cases hm)
        have HO3 := chid O3
        have HNw : Hid (∀ jj u, (wiL y)[jj]? = some u → (w3.alloc (.cells (wiL y).toArray 65)).cell? ((⟨w3.heap.size, 0, none⟩ : Addr).add jj) = some u) := chid (fun jj u hu => by
          have hadd : (⟨w3.heap.size, 0, none⟩ : Addr).add jj = ⟨w3.heap.size, jj, none⟩ := by unfold Addr.add; split <;> simp_all
          rw [hadd]
          exact (Box.new w3 (wiL y) 65).cell jj u hu)
        have HG : Hid (∀ g1 c1 w5, w5.ownsRow w.heap.size 65 4 (.slice (some ⟨g1, 0, none⟩) (xs.length + 1) c1) (xs.length + 1) (flR (fun a : WiP => wiL a) xs ++ wiL y) → (w3.alloc (.cells (wiL y).toArray 65)).grownBy w5 (Value.slice ra xs.length rc).ownBlock → Hid (Rdp w5 rb m2 v3) ∧ Hid (OwR 65 4 (fun a : WiP => wiL a) w.heap.size (xs ++ [y]) (.slice (some ⟨g1, 0, none⟩) (xs ++ [y]).length c1) w5) ∧ Hid (Turn [rb] w w5)) := chid (fun g1 c1 w5 ho hg => by
          refine ⟨chid ((h3.next al).grown hg (fun b hb => by have := (O3.lt b hb).1; omega)), chid ?_, chid (turn_grown ((tt HT.out t3).andBelow al) hg O3 (Nat.le_refl _))⟩
          unfold OwR
          rw [flR_snoc, List.length_append]
          exact ho)
        have hxb : xs.length ≤ 16384 := by omega
        clear al O3 h3 t3 hc HC HX hxl
        go_wp2_with (at_builtin; refine wpList_append_lies _ rfl _ _ 27 rfl w.heap.size 65 i0 (.agg #[.int .i64 0, .int .i64 0, .int .i64 0, .int .i64 0]) 4 32 Tryd.underlying27 hi hz0 hz1 hz2 rfl (by decide) (.slice ra xs.length rc) xs.length (flR (fun a : WiP => wiL a) xs) rfl HO3.out ⟨w3.heap.size, 0, none⟩ 1 1 (wiL y) rfl rfl HNw.out (by intro u hu; simp only [List.mem_cons, List.not_mem_nil, or_false] at hu; rcases hu with rfl | rfl | rfl | rfl <;> rfl) (by decide) (by unfold maxLen; omega) (by omega) (by simp; omega) _ rfl ?_; intro g1 c1 w5 o5 k5 a5 l5; have q5 := HG.out g1 c1 w5 o5 k5; clear o5 k5 a5 l5)
        go_roundw
        case rel => exact ⟨j + 1, by go_num, by omega, xs ++ [y], m2, v3, _, _, by rw [List.length_append]; rfl, by rw [List.length_append, HXL.out]; rfl, HX2, q5.1, q5.2.1, q5.2.2⟩
        case measure => simp; omega
      · have hlt' : ¬ (j : Int) < (N : Int) := by omega
        obtain rfl : j = N := by omega
        have hn : rList most rWin l = some (xs, m) := by
          rw [HX.out, Nat.sub_self]
          simp [rMany, rRet]
        have HF := chid (HO.out _ _ _ _ _ hn HOw.out HRd.out HT.out)
        rw [hxl] at HF
        clear HX
        go_wp2_with fail
        exact HF.out
  · rw [if_neg hcm] at he1
    have hW := want_f w1 h1.err
    rw [show false = decide (c ≤ (most : Int)) by simp; omega] at hW
    have hW := chid hW
    clear h1 hc HC
    go_wp2_with fail
    refine Calls.mono hW.out ?_
    rintro e w2 ⟨⟨u, pv, rfl⟩, rfl⟩
    go_wp2_with fail
    exact ⟨rfl, HE.out _ _ he1 ⟨u, pv, rfl⟩ t1⟩

theorem info_C : (Tryd.prog.info? 68).map (fun i => (i.zero, i.size, i.bytes)) = some (some (.agg #[.int .u64 0, .int .u64 0, .int .u64 0, .int .u64 0, .int .u64 0]), 5, 40) := by kernel_rfl
theorem info_C' : ∃ i, Tryd.prog.info? 68 = some i ∧ i.zero = some (.agg #[.int .u64 0, .int .u64 0, .int .u64 0, .int .u64 0, .int .u64 0]) ∧ i.size = 5 ∧ i.bytes = 40 := by
  have h := info_C
  cases e : Tryd.prog.info? 68 with
  | none => rw [e] at h; cases h
  | some i =>
    rw [e] at h
    simp only [Option.map_some, Option.some.injEq, Prod.mk.injEq] at h
    exact ⟨i, rfl, h.1, h.2.1, h.2.2⟩
set_option maxHeartbeats 2000000 in
set_option maxRecDepth 20000 in
theorem listC_c (rb most : Nat) (hm : most ≤ 16384) (l : List UInt8) (v : Value) (w : World) (h : Rdp w rb l v) :
    Calls Tryd.prog 39 #[.pointer (some ⟨rb, 0, none⟩), .int .i64 (most : Nat), .func (.func 40) #[.pointer (some ⟨rb, 0, none⟩)] #[]] w (RdQ rb w (rList most rCron l) (OwR 68 5 (fun a : Cr => crL a) w.heap.size)) := by
  have H0 := chid h
  have g0 : rb < w.heap.size := h.box.lt
  have HE : Hid (∀ e w', rList most rCron l = none → Thrown e → Turn [rb] w w' → RdQ rb w (rList most rCron l) (OwR 68 5 (fun a : Cr => crL a) w.heap.size) e w') := chid (fun e w' hn he t => ⟨t, by rw [hn]; exact he⟩)
  have HO : Hid (∀ a l' x v' w', rList most rCron l = some (a, l') → OwR 68 5 (fun a : Cr => crL a) w.heap.size a x w' → Rdp w' rb l' v' → Turn [rb] w w' → RdQ rb w (rList most rCron l) (OwR 68 5 (fun a : Cr => crL a) w.heap.size) (.returned x) w') := chid (fun a l' x v' w' hn hx hr t => ⟨t, by rw [hn]; exact ⟨x, v', rfl, hx, hr⟩⟩)
  obtain ⟨i0, hi, hz0, hz1, hz2⟩ := info_C'
  clear h
  generalize RdQ rb w (rList most rCron l) (OwR 68 5 (fun a : Cr => crL a) w.heap.size) = Post at *
  go_enter Tryd.func39, Tryd.ntmps39
  go_wp2_with fail
  have HC := chid (four_c rb l v w H0.out)
  refine Calls.mono HC.out ?_
  rintro e w1 ⟨t1, hh⟩
  cases hc : rFour l with
  | none =>
    rw [hc] at hh
    obtain ⟨u, pv, rfl⟩ := hh
    have hn : rList most rCron l = none := bind_none hc
    go_wp2_with fail
    exact ⟨rfl, HE.out _ _ hn ⟨u, pv, rfl⟩ t1⟩
  | some p =>
  obtain ⟨c, l1⟩ := p
  rw [hc] at hh
  obtain ⟨x, v1, rfl, rfl, h1⟩ := hh
  have hf := (four_reads.bwd _ _ _ hc).2
  have he1 : rList most rCron l = (if c ≤ (most : Int) then rMany rCron c.toNat else fun _ => none) l1 := bind_fwd hc
  by_cases hcm : c ≤ (most : Int)
  · rw [if_pos hcm] at he1
    obtain ⟨N, rfl⟩ : ∃ N : Nat, c = (N : Int) := ⟨c.toNat, by omega⟩
    have hNm : N ≤ 16384 := by omega
    have hW := chid (want_t w1)
    have HX0 : Hid (rList most rCron l = (rMany rCron (N - 0) l1).map (fun p => (([] : List Cr) ++ p.1, p.2))) := chid (by
      rw [he1, show ((N : Int)).toNat = N by omega, Nat.sub_zero]
      cases rMany rCron N l1 with
      | none => rfl
      | some p => rfl)
    have H1 := chid h1
    have T1 := chid t1
    clear hc HC he1 h1 t1 hf
    go_wp2_with fail
    refine Calls.mono hW.out ?_
    rintro e w2 ⟨rfl, rfl⟩
    go_wp2_with fail
    go_loopw [8, 16] (fun r i wr => ∃ (j : Nat), i = .int .i64 (j : Nat) ∧ j ≤ N ∧ ∃ (xs : List Cr) (m : List UInt8) (vm : Value) (ra : Option Addr) (rc : Nat), r = .slice ra xs.length rc ∧ xs.length = j ∧ Hid (rList most rCron l = (rMany rCron (N - j) m).map (fun p => (xs ++ p.1, p.2))) ∧ Hid (Rdp wr rb m vm) ∧ Hid (OwR 68 5 (fun a : Cr => crL a) w.heap.size xs (.slice ra xs.length rc) wr) ∧ Hid (Turn [rb] w wr)) (fun _ i _ => match i with | .int _ z => ((N : Int) - z).toNat | _ => 0)
    case atStart => exact ⟨0, rfl, by omega, [], l1, v1, none, 0, rfl, rfl, HX0, H1, chid (World.ownsRow_nil _ _ _ _), T1⟩
    case round =>
      obtain ⟨j, rfl, hj, xs, m, vm, ra, rc, rfl, hxl, HX, HRd, HOw, HT⟩ := hrel
      clear HX0 H1 T1
      by_cases hlt : j < N
      · have hlt' : (j : Int) < (N : Int) := by omega
        have HC := chid (rsched_c rb m vm wr HRd.out)
        go_wp2_with fail
        refine Calls.mono HC.out ?_
        rintro e w3 ⟨t3, hh⟩
        cases hc : rCron m with
        | none =>
          rw [hc] at hh
          obtain ⟨u, pv, rfl⟩ := hh
          have hn : rList most rCron l = none := by
            have := HX.out
            rw [show N - j = (N - j - 1) + 1 by omega, many_none hc] at this
            exact this
          have tF := tt HT.out t3
          go_wp2_with fail
          exact ⟨rfl, HE.out _ _ hn ⟨u, pv, rfl⟩ tF⟩
        | some p =>
        obtain ⟨y, m2⟩ := p
        rw [hc] at hh
        obtain ⟨x, v3, rfl, hx, h3⟩ := hh
        subst hx
        have HX2 : Hid (rList most rCron l = (rMany rCron (N - (j + 1)) m2).map (fun p => ((xs ++ [y]) ++ p.1, p.2))) := chid (by
          have := HX.out
          rw [show N - j = (N - (j + 1)) + 1 by omega, many_some xs hc] at this
          exact this)
        have HXL := chid hxl
        have hB : w.heap.size ≤ w3.heap.size := by have := HT.out.size; have := t3.size; omega
        have al := bel_alloc w3 (.cells (crL y).toArray 68)
        have O3 : (w3.alloc (.cells (crL y).toArray 68)).ownsRow w.heap.size 68 5 (.slice ra xs.length rc) xs.length (flR (fun a : Cr => crL a) xs) := own_turn (own_rd HOw.out t3 g0) (S := []) (Turn.of_below al) (fun _ _ hm => by cases hm)
        have HO3 := chid O3
        have HNw : Hid (∀ jj u, (crL y)[jj]? = some u → (w3.alloc (.cells (crL y).toArray 68)).cell? ((⟨w3.heap.size, 0, none⟩ : Addr).add jj) = some u) := chid (fun jj u hu => by
          have hadd : (⟨w3.heap.size, 0, none⟩ : Addr).add jj = ⟨w3.heap.size, jj, none⟩ := by unfold Addr.add; split <;> simp_all
          rw [hadd]
          exact (Box.new w3 (crL y) 68).cell jj u hu)
        have HG : Hid (∀ g1 c1 w5, w5.ownsRow w.heap.size 68 5 (.slice (some ⟨g1, 0, none⟩) (xs.length + 1) c1) (xs.length + 1) (flR (fun a : Cr => crL a) xs ++ crL y) → (w3.alloc (.cells (crL y).toArray 68)).grownBy w5 (Value.slice ra xs.length rc).ownBlock → Hid (Rdp w5 rb m2 v3) ∧ Hid (OwR 68 5 (fun a : Cr => crL a) w.heap.size (xs ++ [y]) (.slice (some ⟨g1, 0, none⟩) (xs ++ [y]).length c1) w5) ∧ Hid (Turn [rb] w w5)) := chid (fun g1 c1 w5 ho hg => by
          refine ⟨chid ((h3.next al).grown hg (fun b hb => by have := (O3.lt b hb).1; omega)), chid ?_, chid (turn_grown ((tt HT.out t3).andBelow al) hg O3 (Nat.le_refl _))⟩
          unfold OwR
          rw [flR_snoc, List.length_append]
          exact ho)
        have hxb : xs.length ≤ 16384 := by omega
        clear al O3 h3 t3 hc HC HX hxl
        go_wp2_with (at_builtin; refine wpList_append_lies _ rfl _ _ 28 rfl w.heap.size 68 i0 (.agg #[.int .u64 0, .int .u64 0, .int .u64 0, .int .u64 0, .int .u64 0]) 5 40 Tryd.underlying28 hi hz0 hz1 hz2 rfl (by decide) (.slice ra xs.length rc) xs.length (flR (fun a : Cr => crL a) xs) rfl HO3.out ⟨w3.heap.size, 0, none⟩ 1 1 (crL y) rfl rfl HNw.out (by intro u hu; simp only [List.mem_cons, List.not_mem_nil, or_false] at hu; rcases hu with rfl | rfl | rfl | rfl | rfl <;> rfl) (by decide) (by unfold maxLen; omega) (by omega) (by simp; omega) _ rfl ?_; intro g1 c1 w5 o5 k5 a5 l5; have q5 := HG.out g1 c1 w5 o5 k5; clear o5 k5 a5 l5)
        go_roundw
        case rel => exact ⟨j + 1, by go_num, by omega, xs ++ [y], m2, v3, _, _, by rw [List.length_append]; rfl, by rw [List.length_append, HXL.out]; rfl, HX2, q5.1, q5.2.1, q5.2.2⟩
        case measure => simp; omega
      · have hlt' : ¬ (j : Int) < (N : Int) := by omega
        obtain rfl : j = N := by omega
        have hn : rList most rCron l = some (xs, m) := by
          rw [HX.out, Nat.sub_self]
          simp [rMany, rRet]
        have HF := chid (HO.out _ _ _ _ _ hn HOw.out HRd.out HT.out)
        rw [hxl] at HF
        clear HX
        go_wp2_with fail
        exact HF.out
  · rw [if_neg hcm] at he1
    have hW := want_f w1 h1.err
    rw [show false = decide (c ≤ (most : Int)) by simp; omega] at hW
    have hW := chid hW
    clear h1 hc HC
    go_wp2_with fail
    refine Calls.mono hW.out ?_
    rintro e w2 ⟨⟨u, pv, rfl⟩, rfl⟩
    go_wp2_with fail
    exact ⟨rfl, HE.out _ _ he1 ⟨u, pv, rfl⟩ t1⟩

theorem info_I : (Tryd.prog.info? 51).map (fun i => (i.zero, i.size, i.bytes)) = some (some (.agg #[.int .i64 0, .int .i64 0]), 2, 16) := by kernel_rfl
theorem info_I' : ∃ i, Tryd.prog.info? 51 = some i ∧ i.zero = some (.agg #[.int .i64 0, .int .i64 0]) ∧ i.size = 2 ∧ i.bytes = 16 := by
  have h := info_I
  cases e : Tryd.prog.info? 51 with
  | none => rw [e] at h; cases h
  | some i =>
    rw [e] at h
    simp only [Option.map_some, Option.some.injEq, Prod.mk.injEq] at h
    exact ⟨i, rfl, h.1, h.2.1, h.2.2⟩
set_option maxHeartbeats 2000000 in
set_option maxRecDepth 20000 in
theorem listI_c (rb most : Nat) (hm : most ≤ 16384) (l : List UInt8) (v : Value) (w : World) (h : Rdp w rb l v) :
    Calls Tryd.prog 41 #[.pointer (some ⟨rb, 0, none⟩), .int .i64 (most : Nat), .func (.func 42) #[.pointer (some ⟨rb, 0, none⟩)] #[]] w (RdQ rb w (rList most rIns l) (OwR 51 2 (fun a : Ins => inL a) w.heap.size)) := by
  have H0 := chid h
  have g0 : rb < w.heap.size := h.box.lt
  have HE : Hid (∀ e w', rList most rIns l = none → Thrown e → Turn [rb] w w' → RdQ rb w (rList most rIns l) (OwR 51 2 (fun a : Ins => inL a) w.heap.size) e w') := chid (fun e w' hn he t => ⟨t, by rw [hn]; exact he⟩)
  have HO : Hid (∀ a l' x v' w', rList most rIns l = some (a, l') → OwR 51 2 (fun a : Ins => inL a) w.heap.size a x w' → Rdp w' rb l' v' → Turn [rb] w w' → RdQ rb w (rList most rIns l) (OwR 51 2 (fun a : Ins => inL a) w.heap.size) (.returned x) w') := chid (fun a l' x v' w' hn hx hr t => ⟨t, by rw [hn]; exact ⟨x, v', rfl, hx, hr⟩⟩)
  obtain ⟨i0, hi, hz0, hz1, hz2⟩ := info_I'
  clear h
  generalize RdQ rb w (rList most rIns l) (OwR 51 2 (fun a : Ins => inL a) w.heap.size) = Post at *
  go_enter Tryd.func41, Tryd.ntmps41
  go_wp2_with fail
  have HC := chid (four_c rb l v w H0.out)
  refine Calls.mono HC.out ?_
  rintro e w1 ⟨t1, hh⟩
  cases hc : rFour l with
  | none =>
    rw [hc] at hh
    obtain ⟨u, pv, rfl⟩ := hh
    have hn : rList most rIns l = none := bind_none hc
    go_wp2_with fail
    exact ⟨rfl, HE.out _ _ hn ⟨u, pv, rfl⟩ t1⟩
  | some p =>
  obtain ⟨c, l1⟩ := p
  rw [hc] at hh
  obtain ⟨x, v1, rfl, rfl, h1⟩ := hh
  have hf := (four_reads.bwd _ _ _ hc).2
  have he1 : rList most rIns l = (if c ≤ (most : Int) then rMany rIns c.toNat else fun _ => none) l1 := bind_fwd hc
  by_cases hcm : c ≤ (most : Int)
  · rw [if_pos hcm] at he1
    obtain ⟨N, rfl⟩ : ∃ N : Nat, c = (N : Int) := ⟨c.toNat, by omega⟩
    have hNm : N ≤ 16384 := by omega
    have hW := chid (want_t w1)
    have HX0 : Hid (rList most rIns l = (rMany rIns (N - 0) l1).map (fun p => (([] : List Ins) ++ p.1, p.2))) := chid (by
      rw [he1, show ((N : Int)).toNat = N by omega, Nat.sub_zero]
      cases rMany rIns N l1 with
      | none => rfl
      | some p => rfl)
    have H1 := chid h1
    have T1 := chid t1
    clear hc HC he1 h1 t1 hf
    go_wp2_with fail
    refine Calls.mono hW.out ?_
    rintro e w2 ⟨rfl, rfl⟩
    go_wp2_with fail
    go_loopw [8, 16] (fun r i wr => ∃ (j : Nat), i = .int .i64 (j : Nat) ∧ j ≤ N ∧ ∃ (xs : List Ins) (m : List UInt8) (vm : Value) (ra : Option Addr) (rc : Nat), r = .slice ra xs.length rc ∧ xs.length = j ∧ Hid (rList most rIns l = (rMany rIns (N - j) m).map (fun p => (xs ++ p.1, p.2))) ∧ Hid (Rdp wr rb m vm) ∧ Hid (OwR 51 2 (fun a : Ins => inL a) w.heap.size xs (.slice ra xs.length rc) wr) ∧ Hid (Turn [rb] w wr)) (fun _ i _ => match i with | .int _ z => ((N : Int) - z).toNat | _ => 0)
    case atStart => exact ⟨0, rfl, by omega, [], l1, v1, none, 0, rfl, rfl, HX0, H1, chid (World.ownsRow_nil _ _ _ _), T1⟩
    case round =>
      obtain ⟨j, rfl, hj, xs, m, vm, ra, rc, rfl, hxl, HX, HRd, HOw, HT⟩ := hrel
      clear HX0 H1 T1
      by_cases hlt : j < N
      · have hlt' : (j : Int) < (N : Int) := by omega
        have HC := chid (rins_c rb m vm wr HRd.out)
        go_wp2_with fail
        refine Calls.mono HC.out ?_
        rintro e w3 ⟨t3, hh⟩
        cases hc : rIns m with
        | none =>
          rw [hc] at hh
          obtain ⟨u, pv, rfl⟩ := hh
          have hn : rList most rIns l = none := by
            have := HX.out
            rw [show N - j = (N - j - 1) + 1 by omega, many_none hc] at this
            exact this
          have tF := tt HT.out t3
          go_wp2_with fail
          exact ⟨rfl, HE.out _ _ hn ⟨u, pv, rfl⟩ tF⟩
        | some p =>
        obtain ⟨y, m2⟩ := p
        rw [hc] at hh
        obtain ⟨x, v3, rfl, hx, h3⟩ := hh
        subst hx
        have HX2 : Hid (rList most rIns l = (rMany rIns (N - (j + 1)) m2).map (fun p => ((xs ++ [y]) ++ p.1, p.2))) := chid (by
          have := HX.out
          rw [show N - j = (N - (j + 1)) + 1 by omega, many_some xs hc] at this
          exact this)
        have HXL := chid hxl
        have hB : w.heap.size ≤ w3.heap.size := by have := HT.out.size; have := t3.size; omega
        have al := bel_alloc w3 (.cells (inL y).toArray 51)
        have O3 : (w3.alloc (.cells (inL y).toArray 51)).ownsRow w.heap.size 51 2 (.slice ra xs.length rc) xs.length (flR (fun a : Ins => inL a) xs) := own_turn (own_rd HOw.out t3 g0) (S := []) (Turn.of_below al) (fun _ _ hm => by cases hm)
        have HO3 := chid O3
        have HNw : Hid (∀ jj u, (inL y)[jj]? = some u → (w3.alloc (.cells (inL y).toArray 51)).cell? ((⟨w3.heap.size, 0, none⟩ : Addr).add jj) = some u) := chid (fun jj u hu => by
          have hadd : (⟨w3.heap.size, 0, none⟩ : Addr).add jj = ⟨w3.heap.size, jj, none⟩ := by unfold Addr.add; split <;> simp_all
          rw [hadd]
          exact (Box.new w3 (inL y) 51).cell jj u hu)
        have HG : Hid (∀ g1 c1 w5, w5.ownsRow w.heap.size 51 2 (.slice (some ⟨g1, 0, none⟩) (xs.length + 1) c1) (xs.length + 1) (flR (fun a : Ins => inL a) xs ++ inL y) → (w3.alloc (.cells (inL y).toArray 51)).grownBy w5 (Value.slice ra xs.length rc).ownBlock → Hid (Rdp w5 rb m2 v3) ∧ Hid (OwR 51 2 (fun a : Ins => inL a) w.heap.size (xs ++ [y]) (.slice (some ⟨g1, 0, none⟩) (xs ++ [y]).length c1) w5) ∧ Hid (Turn [rb] w w5)) := chid (fun g1 c1 w5 ho hg => by
          refine ⟨chid ((h3.next al).grown hg (fun b hb => by have := (O3.lt b hb).1; omega)), chid ?_, chid (turn_grown ((tt HT.out t3).andBelow al) hg O3 (Nat.le_refl _))⟩
          unfold OwR
          rw [flR_snoc, List.length_append]
          exact ho)
        have hxb : xs.length ≤ 16384 := by omega
        clear al O3 h3 t3 hc HC HX hxl
        go_wp2_with (at_builtin; refine wpList_append_lies _ rfl _ _ 29 rfl w.heap.size 51 i0 (.agg #[.int .i64 0, .int .i64 0]) 2 16 Tryd.underlying29 hi hz0 hz1 hz2 rfl (by decide) (.slice ra xs.length rc) xs.length (flR (fun a : Ins => inL a) xs) rfl HO3.out ⟨w3.heap.size, 0, none⟩ 1 1 (inL y) rfl rfl HNw.out (by intro u hu; simp only [List.mem_cons, List.not_mem_nil, or_false] at hu; rcases hu with rfl | rfl <;> rfl) (by decide) (by unfold maxLen; omega) (by omega) (by simp; omega) _ rfl ?_; intro g1 c1 w5 o5 k5 a5 l5; have q5 := HG.out g1 c1 w5 o5 k5; clear o5 k5 a5 l5)
        go_roundw
        case rel => exact ⟨j + 1, by go_num, by omega, xs ++ [y], m2, v3, _, _, by rw [List.length_append]; rfl, by rw [List.length_append, HXL.out]; rfl, HX2, q5.1, q5.2.1, q5.2.2⟩
        case measure => simp; omega
      · have hlt' : ¬ (j : Int) < (N : Int) := by omega
        obtain rfl : j = N := by omega
        have hn : rList most rIns l = some (xs, m) := by
          rw [HX.out, Nat.sub_self]
          simp [rMany, rRet]
        have HF := chid (HO.out _ _ _ _ _ hn HOw.out HRd.out HT.out)
        rw [hxl] at HF
        clear HX
        go_wp2_with fail
        exact HF.out
  · rw [if_neg hcm] at he1
    have hW := want_f w1 h1.err
    rw [show false = decide (c ≤ (most : Int)) by simp; omega] at hW
    have hW := chid hW
    clear h1 hc HC
    go_wp2_with fail
    refine Calls.mono hW.out ?_
    rintro e w2 ⟨⟨u, pv, rfl⟩, rfl⟩
    go_wp2_with fail
    exact ⟨rfl, HE.out _ _ he1 ⟨u, pv, rfl⟩ t1⟩

end Go.Proofs.YthfnjlfhaibbeaaDoor
