/- Package codec: Decode. -/
import Derived.Test.YthfnjlfhaibbeaaDoorDcN
namespace Go.Proofs.YthfnjlfhaibbeaaDoor
open Go.RowKit

/-- What Decode answers. -/
def DecP (l : List UInt8) (w : World) (e : Ending) (w' : World) : Prop := Below w.heap.size w w' ∧
  if 1048576 < l.length then e = .returned (.tuple #[pgV pg0 ⟨.slice none 0 0, .slice none 0 0, .slice none 0 0, .slice none 0 0⟩, .int .i64 2])
  else match decF l with
    | none => e = .returned (.tuple #[pgV pg0 ⟨.slice none 0 0, .slice none 0 0, .slice none 0 0, .slice none 0 0⟩, .int .i64 40])
    | some g => ∃ u, e = .returned (.tuple #[pgV g u, .int .i64 0]) ∧ PgNew w.heap.size g u w'
set_option maxHeartbeats 1000000 in
set_option maxRecDepth 20000 in
theorem dcatch_p (pb qb : Nat) (hne : pb ≠ qb) (x0 x1 x2 x3 x4 x5 x6 x7 x8 x9 x10 x11 : Value) (y : Value) (u : TypeId) (pv : Value) (older : List PanicEntry) (w : World) (hp : Box w pb [x0, x1, x2, x3, x4, x5, x6, x7, x8, x9, x10, x11]) (hq : Box w qb [y]) :
    CallsD Tryd.prog 20 #[.pointer (some ⟨pb, 0, none⟩), .pointer (some ⟨qb, 0, none⟩)] (.panicking ({ v := .iface u pv, recovered := false } :: older)) w fun e u' w' =>
      e = .returned (.tuple #[]) ∧ u' = .panicking ({ v := .iface u pv, recovered := true } :: older) ∧ Turn [pb, qb] w w' ∧ Box w' pb zcL ∧ Box w' qb [.int .i64 40] := by
  refine callsD_of_wpS Tryd.func20 rfl fun c₀ cs hu => ?_
  apply wpS_seq
  apply wpS_region
  simp [wpOpsS, go_sem, recoverD, hu, Tryd.ntmps20, Exit.thenS]
  refine wpS_cond (t := true) (by simp [Act.eval, Array.replicate]) ?_
  simp only [if_true]
  have BP := ((((((((((((hp.set 0 (by simp) (.int .i64 0)).set 1 (by simp) (.int .i64 0)).set 2 (by simp) (.int .i64 0)).set 3 (by simp) (.int .i64 0)).set 4 (by simp) (.int .i64 0)).set 5 (by simp) (.int .i64 0)).set 6 (by simp) (.slice none 0 0)).set 7 (by simp) (.slice none 0 0)).set 8 (by simp) (.slice none 0 0)).set 9 (by simp) (.int .i64 0)).set 10 (by simp) (.int .i64 0)).set 11 (by simp) (.slice none 0 0))
  have BQ : Box ((((((((((((w.setCell ⟨pb, 0, none⟩ (.int .i64 0)).setCell ⟨pb, 1, none⟩ (.int .i64 0)).setCell ⟨pb, 2, none⟩ (.int .i64 0)).setCell ⟨pb, 3, none⟩ (.int .i64 0)).setCell ⟨pb, 4, none⟩ (.int .i64 0)).setCell ⟨pb, 5, none⟩ (.int .i64 0)).setCell ⟨pb, 6, none⟩ (.slice none 0 0)).setCell ⟨pb, 7, none⟩ (.slice none 0 0)).setCell ⟨pb, 8, none⟩ (.slice none 0 0)).setCell ⟨pb, 9, none⟩ (.int .i64 0)).setCell ⟨pb, 10, none⟩ (.int .i64 0)).setCell ⟨pb, 11, none⟩ (.slice none 0 0)) qb [y] := (Box.other (Box.other (Box.other (Box.other (Box.other (Box.other (Box.other (Box.other (Box.other (Box.other (Box.other (Box.other hq (q := pb) (j := 0) (v := .int .i64 0) (by omega)) (q := pb) (j := 1) (v := .int .i64 0) (by omega)) (q := pb) (j := 2) (v := .int .i64 0) (by omega)) (q := pb) (j := 3) (v := .int .i64 0) (by omega)) (q := pb) (j := 4) (v := .int .i64 0) (by omega)) (q := pb) (j := 5) (v := .int .i64 0) (by omega)) (q := pb) (j := 6) (v := .slice none 0 0) (by omega)) (q := pb) (j := 7) (v := .slice none 0 0) (by omega)) (q := pb) (j := 8) (v := .slice none 0 0) (by omega)) (q := pb) (j := 9) (v := .int .i64 0) (by omega)) (q := pb) (j := 10) (v := .int .i64 0) (by omega)) (q := pb) (j := 11) (v := .slice none 0 0) (by omega))
  have TG : Turn [pb, qb] w ((((((((((((w.setCell ⟨pb, 0, none⟩ (.int .i64 0)).setCell ⟨pb, 1, none⟩ (.int .i64 0)).setCell ⟨pb, 2, none⟩ (.int .i64 0)).setCell ⟨pb, 3, none⟩ (.int .i64 0)).setCell ⟨pb, 4, none⟩ (.int .i64 0)).setCell ⟨pb, 5, none⟩ (.int .i64 0)).setCell ⟨pb, 6, none⟩ (.slice none 0 0)).setCell ⟨pb, 7, none⟩ (.slice none 0 0)).setCell ⟨pb, 8, none⟩ (.slice none 0 0)).setCell ⟨pb, 9, none⟩ (.int .i64 0)).setCell ⟨pb, 10, none⟩ (.int .i64 0)).setCell ⟨pb, 11, none⟩ (.slice none 0 0)) := (Turn.andSet (Turn.andSet (Turn.andSet (Turn.andSet (Turn.andSet (Turn.andSet (Turn.andSet (Turn.andSet (Turn.andSet (Turn.andSet (Turn.andSet (Turn.andSet (Turn.refl [pb, qb] w) ⟨pb, 0, none⟩ (.int .i64 0) (.inl (by simp))) ⟨pb, 1, none⟩ (.int .i64 0) (.inl (by simp))) ⟨pb, 2, none⟩ (.int .i64 0) (.inl (by simp))) ⟨pb, 3, none⟩ (.int .i64 0) (.inl (by simp))) ⟨pb, 4, none⟩ (.int .i64 0) (.inl (by simp))) ⟨pb, 5, none⟩ (.int .i64 0) (.inl (by simp))) ⟨pb, 6, none⟩ (.slice none 0 0) (.inl (by simp))) ⟨pb, 7, none⟩ (.slice none 0 0) (.inl (by simp))) ⟨pb, 8, none⟩ (.slice none 0 0) (.inl (by simp))) ⟨pb, 9, none⟩ (.int .i64 0) (.inl (by simp))) ⟨pb, 10, none⟩ (.int .i64 0) (.inl (by simp))) ⟨pb, 11, none⟩ (.slice none 0 0) (.inl (by simp)))
  obtain ⟨Q, hQ1, hQ2⟩ : ∃ Q : Exit → Act → World → Prop, Hid (∀ (a' : Act), a'.defers = [] → Q .normal a' (((((((((((((w.setCell ⟨pb, 0, none⟩ (.int .i64 0)).setCell ⟨pb, 1, none⟩ (.int .i64 0)).setCell ⟨pb, 2, none⟩ (.int .i64 0)).setCell ⟨pb, 3, none⟩ (.int .i64 0)).setCell ⟨pb, 4, none⟩ (.int .i64 0)).setCell ⟨pb, 5, none⟩ (.int .i64 0)).setCell ⟨pb, 6, none⟩ (.slice none 0 0)).setCell ⟨pb, 7, none⟩ (.slice none 0 0)).setCell ⟨pb, 8, none⟩ (.slice none 0 0)).setCell ⟨pb, 9, none⟩ (.int .i64 0)).setCell ⟨pb, 10, none⟩ (.int .i64 0)).setCell ⟨pb, 11, none⟩ (.slice none 0 0)).setCell ⟨qb, 0, none⟩ (.int .i64 40))) ∧ Hid (∀ e a' w', Q e a' w' → e = .normal ∧ a'.defers = [] ∧ Turn [pb, qb] w w' ∧ Box w' pb zcL ∧ Box w' qb [.int .i64 40]) :=
    ⟨fun e a' w' => e = .normal ∧ a'.defers = [] ∧ Turn [pb, qb] w w' ∧ Box w' pb zcL ∧ Box w' qb [.int .i64 40], fun a' hd => ⟨rfl, hd, Turn.andSet TG ⟨qb, 0, none⟩ _ (.inl (by simp)), Box.other BP (by omega), BQ.set 0 (by simp) _⟩, fun e a' w' h => h⟩
  refine wpS_of_wp (wp_mono (Q := Q) ?_ ?_)
  · clear hQ2 hu
    have z0 := hp.cell 0 _ rfl
    have y0 := hp.free 0 (by simp)
    have z1 := hp.cell 1 _ rfl
    have y1 := hp.free 1 (by simp)
    have z2 := hp.cell 2 _ rfl
    have y2 := hp.free 2 (by simp)
    have z3 := hp.cell 3 _ rfl
    have y3 := hp.free 3 (by simp)
    have z4 := hp.cell 4 _ rfl
    have y4 := hp.free 4 (by simp)
    have z5 := hp.cell 5 _ rfl
    have y5 := hp.free 5 (by simp)
    have z6 := hp.cell 6 _ rfl
    have y6 := hp.free 6 (by simp)
    have z7 := hp.cell 7 _ rfl
    have y7 := hp.free 7 (by simp)
    have z8 := hp.cell 8 _ rfl
    have y8 := hp.free 8 (by simp)
    have z9 := hp.cell 9 _ rfl
    have y9 := hp.free 9 (by simp)
    have z10 := hp.cell 10 _ rfl
    have y10 := hp.free 10 (by simp)
    have z11 := hp.cell 11 _ rfl
    have y11 := hp.free 11 (by simp)
    have pl := hp.lt
    have ql := BQ.lt
    have q0 := BQ.cell 0 _ rfl
    have qf := BQ.free 0 (by simp)
    have ea : (#[.pointer (some ⟨pb, 0, none⟩), .pointer (some ⟨qb, 0, none⟩)] ++ ((Array.replicate 3 undef).setIfInBounds 0 (.iface u pv)).setIfInBounds 1 (.bool true) : Array Value) = #[.pointer (some ⟨pb, 0, none⟩), .pointer (some ⟨qb, 0, none⟩), .iface u pv, .bool true, undef] := by kernel_rfl
    rw [ea]
    clear ea hp hq BP BQ TG
    go_wp2_with fail
    exact hQ1.out _ rfl
  · rintro e a' w' hh
    obtain ⟨rfl, hd, h1, h2, h3⟩ := hQ2.out _ _ _ hh
    simp [bodyPostS, results, Tryd.results20]
    exact ⟨hd, h1, h2, h3⟩
theorem dcatch_idle (p q : Addr) (w : World) :
    CallsD Tryd.prog 20 #[.pointer (some p), .pointer (some q)] .returning w fun e u' w' => e = .returned (.tuple #[]) ∧ u' = .returning ∧ w' = w := by
  refine callsD_of_wpS Tryd.func20 rfl fun c₀ cs hu => ?_
  apply wpS_seq
  apply wpS_region
  simp [wpOpsS, go_sem, recoverD, hu, Tryd.ntmps20, Exit.thenS]
  refine wpS_cond (t := false) (by simp [Act.eval, Array.replicate]) ?_
  simp only [Bool.false_eq_true, if_false]
  refine wpS_of_wp (wp_skip ?_)
  cases c₀
  simp_all [bodyPostS, results, Tryd.results20]
theorem pgv0 : pgV pg0 ⟨.slice none 0 0, .slice none 0 0, .slice none 0 0, .slice none 0 0⟩ = .agg zcL.toArray := rfl
set_option maxHeartbeats 1000000 in
set_option maxRecDepth 20000 in
theorem cDecode_c (l : List UInt8) (v : Value) (w : World) (hv : ByAt w v l) (hg : ErrG w) :
    Calls Tryd.prog 9 #[v] w (DecP l w) := by
  have hmf : ∀ (fn : Fn) (first cap : Array Value) (w : World), (Instr.makeFunc fn first cap).run Tryd.prog w = .ok (.func fn first cap) w := fun _ _ _ _ => rfl
  obtain ⟨ad, cap, e, hc1, hc2⟩ := RowsK.shape hv
  subst e
  by_cases hl : 1048576 < l.length
  · have hl' : (1048576 : Int) < (l.length : Int) := by omega
    have HE : Hid (∀ w', Below w.heap.size w w' → DecP l w (.returned (.tuple #[.agg zcL.toArray, .int .i64 2])) w') := chid (fun w' hb => ⟨hb, by rw [if_pos hl, pgv0]⟩)
    clear hv hg
    generalize DecP l w = Post at *
    go_enter_defers Tryd.func9, Tryd.ntmps9
    go_wp2_with fail
    simp [bodyPostD, Leaves, results, Tryd.results9, go_sem, *]
    exact HE.out _ (((Below.refl _ _).alloc (Nat.le_refl _) _).alloc (by simp) _)
  · have hl' : ¬ (1048576 : Int) < (l.length : Int) := by omega
    have X0 := Box.new w zcL 31
    have XA := bel_alloc (w.alloc (.cells zcL.toArray 31)) (.cells #[.int .i64 0] 32)
    have XB := bel_alloc ((w.alloc (.cells zcL.toArray 31)).alloc (.cells #[.int .i64 0] 32)) (.cells #[.slice ad l.length cap] 56)
    have X1 := Box.new (w.alloc (.cells zcL.toArray 31)) [.int .i64 0] 32
    have X2 := Box.new ((w.alloc (.cells zcL.toArray 31)).alloc (.cells #[.int .i64 0] 32)) [.slice ad l.length cap] 56
    have Y0 := (X0.next XA).next XB
    have Y1 := X1.next XB
    simp only [World.size_alloc] at Y0 Y1 X2 XA XB
    have B3 : Below w.heap.size w (((w.alloc (.cells zcL.toArray 31)).alloc (.cells #[.int .i64 0] 32)).alloc (.cells #[.slice ad l.length cap] 56)) := ((Below.refl _ _).alloc (Nat.le_refl _) _).alloc (by simp) _ |>.alloc (by simp; omega) _
    have hgl : 0 < w.heap.size := by
      obtain ⟨ty, pv, hc⟩ := hg
      exact World.block_lt_of_cell? w _ hc
    have R0 : Rdp (((w.alloc (.cells zcL.toArray 31)).alloc (.cells #[.int .i64 0] 32)).alloc (.cells #[.slice ad l.length cap] 56)) (w.heap.size + 1 + 1) l (.slice ad l.length cap) := by
      refine ⟨X2, RowsK.next hv B3, fun h0 b hb => ?_, hg.turn (S := []) (Turn.of_below B3) (by simp), by omega⟩
      obtain ⟨b', off, cap', e, -, -, hbl, -⟩ := RowsK.open hv h0
      cases e
      cases hb
      show b' < w.heap.size + 1 + 1
      omega
    have HC := chid (rprog_c _ l _ _ R0)
    have HB3 := chid B3
    have HY0 := chid Y0
    have HY1 := chid Y1
    clear X0 X1 X2 XA XB Y0 Y1 B3 R0 hv hg
    cases hd : decF l with
    | none =>
      have HE : Hid (∀ w', Below w.heap.size w w' → DecP l w (.returned (.tuple #[.agg zcL.toArray, .int .i64 40])) w') := chid (fun w' hb => ⟨hb, by rw [if_neg hl, hd, pgv0]⟩)
      have hp : rProg l = none := by
        unfold decF at hd
        cases h : rProg l with
        | none => rfl
        | some p => rw [h] at hd; cases hd
      rw [hp] at HC
      generalize DecP l w = Post at *
      go_enter_defers Tryd.func9, Tryd.ntmps9
      go_wp2_with fail
      refine Calls.mono HC.out ?_
      rintro e w1 ⟨t1, u, pv, rfl⟩
      have Y0 := HY0.out.turn t1 (by simp; omega)
      have Y1 := HY1.out.turn t1 (by simp)
      have T1 : Below w.heap.size w w1 := HB3.out.trans (t1.below (by simp; omega) HB3.out.size)
      refine leaves_cons (f := 20) (args := #[.pointer (some ⟨w.heap.size, 0, none⟩), .pointer (some ⟨w.heap.size + 1, 0, none⟩)]) (by simp) (by simp [go_sem]) ?_
      refine (dcatch_p w.heap.size (w.heap.size + 1) (by omega) _ _ _ _ _ _ _ _ _ _ _ _ _ u pv [] w1 Y0 Y1).mono ?_
      rintro e u' w'' ⟨rfl, rfl, t2, Z0, Z1⟩
      have T2 := T1.trans (t2.below (by simp) T1.size)
      have HF := chid (HE.out _ T2)
      have a0 := Z0.cell 0 _ rfl
      have a1 := Z0.cell 1 _ rfl
      have a2 := Z0.cell 2 _ rfl
      have a3 := Z0.cell 3 _ rfl
      have a4 := Z0.cell 4 _ rfl
      have a5 := Z0.cell 5 _ rfl
      have a6 := Z0.cell 6 _ rfl
      have a7 := Z0.cell 7 _ rfl
      have a8 := Z0.cell 8 _ rfl
      have a9 := Z0.cell 9 _ rfl
      have a10 := Z0.cell 10 _ rfl
      have a11 := Z0.cell 11 _ rfl
      have b0 := Z1.cell 0 _ rfl
      clear Z0 Z1 T2 T1 t1 t2 Y0 Y1
      simp [Leaves, settle, results, Tryd.results9, go_sem, *]
      exact HF.out
    | some g =>
      have HE : Hid (∀ u w', Below w.heap.size w w' → PgNew w.heap.size g u w' → DecP l w (.returned (.tuple #[pgV g u, .int .i64 0])) w') := chid (fun u w' hb hn => ⟨hb, by rw [if_neg hl, hd]; exact ⟨u, rfl, hn⟩⟩)
      have hp : ∃ r, rProg l = some (g, r) := by
        unfold decF at hd
        cases h : rProg l with
        | none => rw [h] at hd; cases hd
        | some p =>
          rw [h] at hd
          obtain ⟨a, r⟩ := p
          simp only [Option.map_some, Option.some.injEq] at hd
          exact ⟨r, by rw [hd]⟩
      obtain ⟨r, hp⟩ := hp
      rw [hp] at HC
      generalize DecP l w = Post at *
      go_enter_defers Tryd.func9, Tryd.ntmps9
      go_wp2_with fail
      refine Calls.mono HC.out ?_
      rintro e w1 ⟨t1, x, v1, rfl, ⟨u, hx, hn⟩, -⟩
      subst hx
      simp only [World.size_alloc] at hn
      obtain ⟨b1, d1, e1⟩ := own_shape hn.k
      obtain ⟨b2, d2, e2⟩ := own_shape hn.wi
      obtain ⟨b3, d3, e3⟩ := own_shape hn.cr
      obtain ⟨b4, d4, e4⟩ := own_shape hn.c
      obtain ⟨uk, uw, ur, uc⟩ := u
      simp only at e1 e2 e3 e4
      subst e1 e2 e3 e4
      have Y0 := HY0.out.turn t1 (by simp; omega)
      have Y1 := HY1.out.turn t1 (by simp)
      have T1 := (Turn.of_below (S := []) HB3.out).trans t1 (fun i hi => .inr (by simp at hi; omega))
      have TG : Turn [w.heap.size, w.heap.size + 1] w1 (((((((((((((w1.setCell ⟨w.heap.size, 0, none⟩ (.int .i64 g.met)).setCell ⟨w.heap.size, 1, none⟩ (.int .i64 g.ru.mn)).setCell ⟨w.heap.size, 2, none⟩ (.int .i64 g.ru.mx)).setCell ⟨w.heap.size, 3, none⟩ (.int .i64 g.ru.st)).setCell ⟨w.heap.size, 4, none⟩ (.int .i64 g.ru.up)).setCell ⟨w.heap.size, 5, none⟩ (.int .i64 g.ru.dn)).setCell ⟨w.heap.size, 6, none⟩ (.slice b1 g.K.length d1)).setCell ⟨w.heap.size, 7, none⟩ (.slice b2 g.wins.length d2)).setCell ⟨w.heap.size, 8, none⟩ (.slice b3 g.crons.length d3)).setCell ⟨w.heap.size, 9, none⟩ (.int .i64 g.loc)).setCell ⟨w.heap.size, 10, none⟩ (.int .i64 g.h)).setCell ⟨w.heap.size, 11, none⟩ (.slice b4 g.C.length d4)).setCell ⟨w.heap.size + 1, 0, none⟩ (.int .i64 0)) := (Turn.andSet (Turn.andSet (Turn.andSet (Turn.andSet (Turn.andSet (Turn.andSet (Turn.andSet (Turn.andSet (Turn.andSet (Turn.andSet (Turn.andSet (Turn.andSet (Turn.andSet (Turn.refl [w.heap.size, w.heap.size + 1] w1) ⟨w.heap.size, 0, none⟩ (.int .i64 g.met) (.inl (by simp))) ⟨w.heap.size, 1, none⟩ (.int .i64 g.ru.mn) (.inl (by simp))) ⟨w.heap.size, 2, none⟩ (.int .i64 g.ru.mx) (.inl (by simp))) ⟨w.heap.size, 3, none⟩ (.int .i64 g.ru.st) (.inl (by simp))) ⟨w.heap.size, 4, none⟩ (.int .i64 g.ru.up) (.inl (by simp))) ⟨w.heap.size, 5, none⟩ (.int .i64 g.ru.dn) (.inl (by simp))) ⟨w.heap.size, 6, none⟩ (.slice b1 g.K.length d1) (.inl (by simp))) ⟨w.heap.size, 7, none⟩ (.slice b2 g.wins.length d2) (.inl (by simp))) ⟨w.heap.size, 8, none⟩ (.slice b3 g.crons.length d3) (.inl (by simp))) ⟨w.heap.size, 9, none⟩ (.int .i64 g.loc) (.inl (by simp))) ⟨w.heap.size, 10, none⟩ (.int .i64 g.h) (.inl (by simp))) ⟨w.heap.size, 11, none⟩ (.slice b4 g.C.length d4) (.inl (by simp))) ⟨w.heap.size + 1, 0, none⟩ (.int .i64 0) (.inl (by simp)))
      have TW : Turn [] w (((((((((((((w1.setCell ⟨w.heap.size, 0, none⟩ (.int .i64 g.met)).setCell ⟨w.heap.size, 1, none⟩ (.int .i64 g.ru.mn)).setCell ⟨w.heap.size, 2, none⟩ (.int .i64 g.ru.mx)).setCell ⟨w.heap.size, 3, none⟩ (.int .i64 g.ru.st)).setCell ⟨w.heap.size, 4, none⟩ (.int .i64 g.ru.up)).setCell ⟨w.heap.size, 5, none⟩ (.int .i64 g.ru.dn)).setCell ⟨w.heap.size, 6, none⟩ (.slice b1 g.K.length d1)).setCell ⟨w.heap.size, 7, none⟩ (.slice b2 g.wins.length d2)).setCell ⟨w.heap.size, 8, none⟩ (.slice b3 g.crons.length d3)).setCell ⟨w.heap.size, 9, none⟩ (.int .i64 g.loc)).setCell ⟨w.heap.size, 10, none⟩ (.int .i64 g.h)).setCell ⟨w.heap.size, 11, none⟩ (.slice b4 g.C.length d4)).setCell ⟨w.heap.size + 1, 0, none⟩ (.int .i64 0)) := (Turn.andSet (Turn.andSet (Turn.andSet (Turn.andSet (Turn.andSet (Turn.andSet (Turn.andSet (Turn.andSet (Turn.andSet (Turn.andSet (Turn.andSet (Turn.andSet (Turn.andSet T1 ⟨w.heap.size, 0, none⟩ (.int .i64 g.met) (.inr (Nat.le_refl _))) ⟨w.heap.size, 1, none⟩ (.int .i64 g.ru.mn) (.inr (Nat.le_refl _))) ⟨w.heap.size, 2, none⟩ (.int .i64 g.ru.mx) (.inr (Nat.le_refl _))) ⟨w.heap.size, 3, none⟩ (.int .i64 g.ru.st) (.inr (Nat.le_refl _))) ⟨w.heap.size, 4, none⟩ (.int .i64 g.ru.up) (.inr (Nat.le_refl _))) ⟨w.heap.size, 5, none⟩ (.int .i64 g.ru.dn) (.inr (Nat.le_refl _))) ⟨w.heap.size, 6, none⟩ (.slice b1 g.K.length d1) (.inr (Nat.le_refl _))) ⟨w.heap.size, 7, none⟩ (.slice b2 g.wins.length d2) (.inr (Nat.le_refl _))) ⟨w.heap.size, 8, none⟩ (.slice b3 g.crons.length d3) (.inr (Nat.le_refl _))) ⟨w.heap.size, 9, none⟩ (.int .i64 g.loc) (.inr (Nat.le_refl _))) ⟨w.heap.size, 10, none⟩ (.int .i64 g.h) (.inr (Nat.le_refl _))) ⟨w.heap.size, 11, none⟩ (.slice b4 g.C.length d4) (.inr (Nat.le_refl _))) ⟨w.heap.size + 1, 0, none⟩ (.int .i64 0) (.inr (Nat.le_succ _)))
      have Z0 : Box (((((((((((((w1.setCell ⟨w.heap.size, 0, none⟩ (.int .i64 g.met)).setCell ⟨w.heap.size, 1, none⟩ (.int .i64 g.ru.mn)).setCell ⟨w.heap.size, 2, none⟩ (.int .i64 g.ru.mx)).setCell ⟨w.heap.size, 3, none⟩ (.int .i64 g.ru.st)).setCell ⟨w.heap.size, 4, none⟩ (.int .i64 g.ru.up)).setCell ⟨w.heap.size, 5, none⟩ (.int .i64 g.ru.dn)).setCell ⟨w.heap.size, 6, none⟩ (.slice b1 g.K.length d1)).setCell ⟨w.heap.size, 7, none⟩ (.slice b2 g.wins.length d2)).setCell ⟨w.heap.size, 8, none⟩ (.slice b3 g.crons.length d3)).setCell ⟨w.heap.size, 9, none⟩ (.int .i64 g.loc)).setCell ⟨w.heap.size, 10, none⟩ (.int .i64 g.h)).setCell ⟨w.heap.size, 11, none⟩ (.slice b4 g.C.length d4)).setCell ⟨w.heap.size + 1, 0, none⟩ (.int .i64 0)) w.heap.size [.int .i64 g.met, .int .i64 g.ru.mn, .int .i64 g.ru.mx, .int .i64 g.ru.st, .int .i64 g.ru.up, .int .i64 g.ru.dn, .slice b1 g.K.length d1, .slice b2 g.wins.length d2, .slice b3 g.crons.length d3, .int .i64 g.loc, .int .i64 g.h, .slice b4 g.C.length d4] := (Box.other ((((((((((((Y0.set 0 (by simp) (.int .i64 g.met)).set 1 (by simp) (.int .i64 g.ru.mn)).set 2 (by simp) (.int .i64 g.ru.mx)).set 3 (by simp) (.int .i64 g.ru.st)).set 4 (by simp) (.int .i64 g.ru.up)).set 5 (by simp) (.int .i64 g.ru.dn)).set 6 (by simp) (.slice b1 g.K.length d1)).set 7 (by simp) (.slice b2 g.wins.length d2)).set 8 (by simp) (.slice b3 g.crons.length d3)).set 9 (by simp) (.int .i64 g.loc)).set 10 (by simp) (.int .i64 g.h)).set 11 (by simp) (.slice b4 g.C.length d4)) (q := w.heap.size + 1) (j := 0) (v := .int .i64 0) (by omega))
      have Z1 : Box (((((((((((((w1.setCell ⟨w.heap.size, 0, none⟩ (.int .i64 g.met)).setCell ⟨w.heap.size, 1, none⟩ (.int .i64 g.ru.mn)).setCell ⟨w.heap.size, 2, none⟩ (.int .i64 g.ru.mx)).setCell ⟨w.heap.size, 3, none⟩ (.int .i64 g.ru.st)).setCell ⟨w.heap.size, 4, none⟩ (.int .i64 g.ru.up)).setCell ⟨w.heap.size, 5, none⟩ (.int .i64 g.ru.dn)).setCell ⟨w.heap.size, 6, none⟩ (.slice b1 g.K.length d1)).setCell ⟨w.heap.size, 7, none⟩ (.slice b2 g.wins.length d2)).setCell ⟨w.heap.size, 8, none⟩ (.slice b3 g.crons.length d3)).setCell ⟨w.heap.size, 9, none⟩ (.int .i64 g.loc)).setCell ⟨w.heap.size, 10, none⟩ (.int .i64 g.h)).setCell ⟨w.heap.size, 11, none⟩ (.slice b4 g.C.length d4)).setCell ⟨w.heap.size + 1, 0, none⟩ (.int .i64 0)) (w.heap.size + 1) [.int .i64 0] := ((Box.other (Box.other (Box.other (Box.other (Box.other (Box.other (Box.other (Box.other (Box.other (Box.other (Box.other (Box.other Y1 (q := w.heap.size) (j := 0) (v := .int .i64 g.met) (by omega)) (q := w.heap.size) (j := 1) (v := .int .i64 g.ru.mn) (by omega)) (q := w.heap.size) (j := 2) (v := .int .i64 g.ru.mx) (by omega)) (q := w.heap.size) (j := 3) (v := .int .i64 g.ru.st) (by omega)) (q := w.heap.size) (j := 4) (v := .int .i64 g.ru.up) (by omega)) (q := w.heap.size) (j := 5) (v := .int .i64 g.ru.dn) (by omega)) (q := w.heap.size) (j := 6) (v := .slice b1 g.K.length d1) (by omega)) (q := w.heap.size) (j := 7) (v := .slice b2 g.wins.length d2) (by omega)) (q := w.heap.size) (j := 8) (v := .slice b3 g.crons.length d3) (by omega)) (q := w.heap.size) (j := 9) (v := .int .i64 g.loc) (by omega)) (q := w.heap.size) (j := 10) (v := .int .i64 g.h) (by omega)) (q := w.heap.size) (j := 11) (v := .slice b4 g.C.length d4) (by omega)).set 0 (by simp) (.int .i64 0))
      have HF := chid (HE.out ⟨.slice b1 g.K.length d1, .slice b2 g.wins.length d2, .slice b3 g.crons.length d3, .slice b4 g.C.length d4⟩ _ (TW.below (fun k hk => by cases hk) (Nat.le_refl _)) ⟨own_low _ (own_turn hn.k TG (fun b hb => by have := (hn.k.lt b hb).1; simp; omega)) (by omega), own_low _ (own_turn hn.wi TG (fun b hb => by have := (hn.wi.lt b hb).1; simp; omega)) (by omega), own_low _ (own_turn hn.cr TG (fun b hb => by have := (hn.cr.lt b hb).1; simp; omega)) (by omega), own_low _ (own_turn hn.c TG (fun b hb => by have := (hn.c.lt b hb).1; simp; omega)) (by omega)⟩)
      have HZ := chid (And.intro Z0 Z1)
      have z0 := Y0.cell 0 _ rfl
      have z1 := Y0.cell 1 _ rfl
      have z2 := Y0.cell 2 _ rfl
      have z3 := Y0.cell 3 _ rfl
      have z4 := Y0.cell 4 _ rfl
      have z5 := Y0.cell 5 _ rfl
      have z6 := Y0.cell 6 _ rfl
      have z7 := Y0.cell 7 _ rfl
      have z8 := Y0.cell 8 _ rfl
      have z9 := Y0.cell 9 _ rfl
      have z10 := Y0.cell 10 _ rfl
      have z11 := Y0.cell 11 _ rfl
      have y0 := Y0.free 0 (by simp)
      have y1 := Y0.free 1 (by simp)
      have y2 := Y0.free 2 (by simp)
      have y3 := Y0.free 3 (by simp)
      have y4 := Y0.free 4 (by simp)
      have y5 := Y0.free 5 (by simp)
      have y6 := Y0.free 6 (by simp)
      have y7 := Y0.free 7 (by simp)
      have y8 := Y0.free 8 (by simp)
      have y9 := Y0.free 9 (by simp)
      have y10 := Y0.free 10 (by simp)
      have y11 := Y0.free 11 (by simp)
      have zl := Y0.lt
      have q0 := Y1.cell 0 _ rfl
      have qf := Y1.free 0 (by simp)
      have ql := Y1.lt
      clear TG TW T1 t1 Z0 Z1 Y0 Y1 hn
      go_wp2_with fail
      refine leaves_cons (f := 20) (args := #[.pointer (some ⟨w.heap.size, 0, none⟩), .pointer (some ⟨w.heap.size + 1, 0, none⟩)]) (by simp) (by simp [go_sem]) ?_
      refine (dcatch_idle ⟨w.heap.size, 0, none⟩ ⟨w.heap.size + 1, 0, none⟩ _).mono ?_
      rintro e u' w'' ⟨rfl, rfl, rfl⟩
      clear z0 y0 z1 y1 z2 y2 z3 y3 z4 y4 z5 y5 z6 y6 z7 y7 z8 y8 z9 y9 z10 y10 z11 y11 q0 qf ql zl
      generalize (((((((((((((w1.setCell _ _).setCell _ _).setCell _ _).setCell _ _).setCell _ _).setCell _ _).setCell _ _).setCell _ _).setCell _ _).setCell _ _).setCell _ _).setCell _ _).setCell _ _) = WF at *
      have k1 := HZ.out.1.cell 0 _ rfl
      have k2 := HZ.out.1.cell 1 _ rfl
      have k3 := HZ.out.1.cell 2 _ rfl
      have k4 := HZ.out.1.cell 3 _ rfl
      have k5 := HZ.out.1.cell 4 _ rfl
      have k6 := HZ.out.1.cell 5 _ rfl
      have k7 := HZ.out.1.cell 6 _ rfl
      have k8 := HZ.out.1.cell 7 _ rfl
      have k9 := HZ.out.1.cell 8 _ rfl
      have k10 := HZ.out.1.cell 9 _ rfl
      have k11 := HZ.out.1.cell 10 _ rfl
      have k12 := HZ.out.1.cell 11 _ rfl
      have k0 := HZ.out.2.cell 0 _ rfl
      clear HZ
      simp [Leaves, settle, results, Tryd.results9, go_sem, *]
      exact HF.out
end Go.Proofs.YthfnjlfhaibbeaaDoor
