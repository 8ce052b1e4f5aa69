/- Package codec: the document's Decode: its program while it is read. -/
import Derived.Test.YthfnjlfhaibbeaaDoorDdB
import Derived.Deep.Cut
import Derived.Deep.CutRange
import Derived.Deep.DeepCutAuto
namespace Go.Proofs.YthfnjlfhaibbeaaDoor
open Go.RowKit

/-- One stretch of Decode: what it touches, the program's box, the reader. -/
structure Ph (w0 w : World) (rb pb : Nat) (L : List UInt8) (v : Value) (xs : List Value) (s : Option (List UInt8)) : Prop where
  tr : Turn [rb, pb] w0 w
  box : Box w pb xs
  rd : Rr w rb L v s
  lt : rb < pb
theorem Ph.base {w0 w : World} {rb pb : Nat} {L : List UInt8} {v : Value} {xs : List Value} {s : Option (List UInt8)} (h : Ph w0 w rb pb L v xs s) : Ph w w rb pb L v xs s := ⟨Turn.refl _ _, h.box, h.rd, h.lt⟩
theorem Ph.next {w0 w w' : World} {rb pb : Nat} {L : List UInt8} {v : Value} {xs : List Value} {s : Option (List UInt8)} (h : Ph w0 w rb pb L v xs s) (k : Below w.heap.size w w') : Ph w0 w' rb pb L v xs s :=
  ⟨h.tr.andBelow k, h.box.next k, h.rd.next k, h.lt⟩
theorem Ph.call {w0 w w' : World} {rb pb : Nat} {L : List UInt8} {v : Value} {xs : List Value} {s s' : Option (List UInt8)} (h : Ph w0 w rb pb L v xs s) (t : Turn [rb] w w') (k : Rr w' rb L v s') : Ph w0 w' rb pb L v xs s' :=
  ⟨h.tr.trans t (fun i hi => .inl (by simp at hi; simp [hi])), h.box.turn t (by have := h.lt; simp; omega), k, h.lt⟩
theorem Ph.set {w0 w : World} {rb pb : Nat} {L : List UInt8} {v : Value} {xs : List Value} {s : Option (List UInt8)} (h : Ph w0 w rb pb L v xs s) (j : Nat) (hj : j < xs.length) (x : Value) : Ph w0 (w.setCell ⟨pb, j, none⟩ x) rb pb L v (xs.set j x) s := by
  have T := cturn_set w pb j x
  exact ⟨h.tr.trans T (fun i hi => .inl (by simp at hi; simp [hi])), h.box.set j hj x, h.rd.turn T (fun b hb => by have := h.lt; simp; omega), h.lt⟩
theorem Ph.grown {w0 w w' : World} {rb pb B : Nat} {L : List UInt8} {v : Value} {xs : List Value} {s : Option (List UInt8)} {e : TypeId} {k n : Nat} {x : Value} {ys : List Value} (h : Ph w0 w rb pb L v xs s) (ho : w.ownsRow B e k x n ys) (hg : w.grownBy w' x.ownBlock) (hB : w0.heap.size ≤ B) (hp : pb < B) : Ph w0 w' rb pb L v xs s := by
  have T : Turn (blk x) w w' := ⟨hg.os, hg.tape, hg.output, hg.size, fun k hk hn => hg.block k hk (fun e => hn (blk_mem.2 e.symm))⟩
  have hb : ∀ i, i ∈ blk x → B ≤ i := fun i hi => (ho.lt i (blk_mem.1 hi)).1
  exact ⟨h.tr.trans T (fun i hi => .inr (Nat.le_trans hB (hb i hi))), h.box.turn T (fun hm => by have := hb _ hm; omega), h.rd.turn T (fun b hb' hm => by have := hb _ hm; have := h.lt; omega), h.lt⟩
/-- A row that stands since before the stretch. -/
theorem Ph.row {w0 w : World} {rb pb B : Nat} {L : List UInt8} {v : Value} {xs : List Value} {s : Option (List UInt8)} (h : Ph w0 w rb pb L v xs s) {e : TypeId} {k n : Nat} {x : Value} {ys : List Value} (ho : w0.ownsRow B e k x n ys) (hB : pb < B) : w.ownsRow B e k x n ys :=
  own_turn ho h.tr (fun b hb => by have := (ho.lt b hb).1; have := h.lt; simp; omega)
theorem mark_on (L : List UInt8) : ((oN (rNum 4) 0 (some L)).1 = 1668313905 → rProg L = (oN (rNum 4) 0 (some L)).2.bind cH) ∧ ((oN (rNum 4) 0 (some L)).1 ≠ 1668313905 → rProg L = none) := by
  have hp : rProg L = (rMark L).bind (fun p => cH p.2) := by rw [rProg_split]; rfl
  rw [mark_num] at hp
  cases h : rNum 4 L with
  | none =>
    have hq : (some L).bind (rNum 4) = none := h
    rw [h] at hp
    rw [oN_none hq]
    exact ⟨fun _ => hp, fun _ => hp⟩
  | some p =>
    obtain ⟨n, r⟩ := p
    have hq : (some L).bind (rNum 4) = some (n, r) := h
    rw [h] at hp
    rw [oN_some hq]
    simp only [Option.bind_some] at hp ⊢
    refine ⟨fun e => ?_, fun e => ?_⟩
    · rw [if_pos e] at hp
      exact hp
    · rw [if_neg e] at hp
      exact hp
/-- Twelve cells of a block written over. -/
abbrev ch12 (w : World) (g : Nat) (x0 x1 x2 x3 x4 x5 x6 x7 x8 x9 x10 x11 : Value) : World := (((((((((((w.setCell ⟨g, 0, none⟩ x0).setCell ⟨g, 1, none⟩ x1).setCell ⟨g, 2, none⟩ x2).setCell ⟨g, 3, none⟩ x3).setCell ⟨g, 4, none⟩ x4).setCell ⟨g, 5, none⟩ x5).setCell ⟨g, 6, none⟩ x6).setCell ⟨g, 7, none⟩ x7).setCell ⟨g, 8, none⟩ x8).setCell ⟨g, 9, none⟩ x9).setCell ⟨g, 10, none⟩ x10).setCell ⟨g, 11, none⟩ x11
theorem ch12_ok {w : World} {g : Nat} {y0 y1 y2 y3 y4 y5 y6 y7 y8 y9 y10 y11 x0 x1 x2 x3 x4 x5 x6 x7 x8 x9 x10 x11 : Value} (h : Box w g [y0, y1, y2, y3, y4, y5, y6, y7, y8, y9, y10, y11]) : Box (ch12 w g x0 x1 x2 x3 x4 x5 x6 x7 x8 x9 x10 x11) g [x0, x1, x2, x3, x4, x5, x6, x7, x8, x9, x10, x11] ∧ Turn [g] w (ch12 w g x0 x1 x2 x3 x4 x5 x6 x7 x8 x9 x10 x11) :=
  ⟨((((((((((((h.set 0 (by simp) x0).set 1 (by simp) x1).set 2 (by simp) x2).set 3 (by simp) x3).set 4 (by simp) x4).set 5 (by simp) x5).set 6 (by simp) x6).set 7 (by simp) x7).set 8 (by simp) x8).set 9 (by simp) x9).set 10 (by simp) x10).set 11 (by simp) x11), (Turn.andSet ((Turn.andSet ((Turn.andSet ((Turn.andSet ((Turn.andSet ((Turn.andSet ((Turn.andSet ((Turn.andSet ((Turn.andSet ((Turn.andSet ((Turn.andSet ((Turn.andSet (Turn.refl [g] w) ⟨g, 0, none⟩ x0 (.inl (by simp)))) ⟨g, 1, none⟩ x1 (.inl (by simp)))) ⟨g, 2, none⟩ x2 (.inl (by simp)))) ⟨g, 3, none⟩ x3 (.inl (by simp)))) ⟨g, 4, none⟩ x4 (.inl (by simp)))) ⟨g, 5, none⟩ x5 (.inl (by simp)))) ⟨g, 6, none⟩ x6 (.inl (by simp)))) ⟨g, 7, none⟩ x7 (.inl (by simp)))) ⟨g, 8, none⟩ x8 (.inl (by simp)))) ⟨g, 9, none⟩ x9 (.inl (by simp)))) ⟨g, 10, none⟩ x10 (.inl (by simp)))) ⟨g, 11, none⟩ x11 (.inl (by simp)))⟩
/-- What stands since before: the results' box, all of old. -/
structure Fr (w wr : World) (rs : Nat) : Prop where
  box : Box wr rs zcL
  bel : Below w.heap.size w wr
  at0 : rs = w.heap.size
theorem Fr.ph {w w0 wr : World} {rs rb pb : Nat} {L : List UInt8} {v : Value} {xs : List Value} {s : Option (List UInt8)} (h : Fr w w0 rs) (k : Ph w0 wr rb pb L v xs s) (hr : rs < rb) : Fr w wr rs :=
  ⟨h.box.turn k.tr (by have := k.lt; simp; omega), h.bel.trans (k.tr.below (by have := k.lt; have := h.at0; simp; omega) h.bel.size), h.at0⟩
theorem Fr.next {w w0 wr : World} {rs : Nat} (h : Fr w w0 rs) (k : Below w0.heap.size w0 wr) : Fr w wr rs := ⟨h.box.next k, cbelow_on h.bel k h.bel.size, h.at0⟩
theorem Ph.other {w0 w : World} {rb pb g : Nat} {L : List UInt8} {v : Value} {xs : List Value} {s : Option (List UInt8)} (h : Ph w0 w rb pb L v xs s) (hg : w0.heap.size ≤ g) (hp : pb < g) (j : Nat) (x : Value) : Ph w0 (w.setCell ⟨g, j, none⟩ x) rb pb L v xs s := by
  have T := cturn_set w g j x
  exact ⟨h.tr.trans T (fun i hi => .inr (by simp at hi; omega)), h.box.turn T (by simp; omega), h.rd.turn T (fun b hb => by have := h.lt; simp; omega), h.lt⟩
def cQ (a b c : Int) (r : List Int) : Rdr PgP := cR a b c ⟨r.getD 0 0, r.getD 1 0, r.getD 2 0, r.getD 3 0, r.getD 4 0⟩
theorem rules_start (a b c : Int) : rBind rRules (cR a b c) = rBind (rMany rEight 5) (fun r => cQ a b c ([] ++ r)) := by
  rw [rules_many, rb_assoc]
  rfl
theorem many_step {α : Type} (f : Rdr α) (d : α) (N j : Nat) (hj : j < N) (xs : List α) (g : List α → Rdr PgP) {L : List UInt8} {s : Option (List UInt8)} (h : rProg L = s.bind (rBind (rMany f (N - j)) (fun r => g (xs ++ r)))) : rProg L = (oN f d s).2.bind (rBind (rMany f (N - (j + 1))) (fun r => g ((xs ++ [(oN f d s).1]) ++ r))) := by
  rw [h, show N - j = (N - (j + 1)) + 1 by omega, step_many, oN_bind f d]
theorem many_end {α : Type} (f : Rdr α) (N : Nat) (xs : List α) (g : List α → Rdr PgP) {L : List UInt8} {s : Option (List UInt8)} (h : rProg L = s.bind (rBind (rMany f (N - N)) (fun r => g (xs ++ r)))) : rProg L = s.bind (g xs) := by
  rw [h, Nat.sub_self, end_many]
theorem many_out {α : Type} (f : Rdr α) (N j : Nat) (xs ys : List α) (g : List α → Rdr PgP) {L : List UInt8} (h : rProg L = (none : Option (List UInt8)).bind (rBind (rMany f (N - j)) (fun r => g (xs ++ r)))) : rProg L = (none : Option (List UInt8)).bind (g ys) := h
/-- A list of numbers, so many of them not told yet. -/
def kL (k : IntKind) (xs : List Int) (n : Nat) : List Value := (xs ++ List.replicate n 0).map (fun i => .int k i)
theorem kL_len (k : IntKind) (xs : List Int) (n : Nat) : (kL k xs n).length = xs.length + n := by simp [kL]
theorem kL_set (k : IntKind) (xs : List Int) (n : Nat) (x : Int) : (kL k xs (n + 1)).set xs.length (.int k x) = kL k (xs ++ [x]) n := by
  unfold kL
  rw [List.replicate_succ, List.map_append, List.set_append_right _ _ (by simp)]
  simp
theorem kL_at (k : IntKind) (xs : List Int) (n : Nat) (hn : 0 < n) : (kL k xs n)[xs.length]? = some (.int k 0) := by
  obtain ⟨m, rfl⟩ : ∃ m, n = m + 1 := ⟨n - 1, by omega⟩
  unfold kL
  rw [List.replicate_succ, List.map_append, List.getElem?_append_right (by simp)]
  simp
theorem five_of {α : Type} {xs : List α} (h : xs.length = 5) : ∃ a b c d e, xs = [a, b, c, d, e] := by
  match xs, h with
  | [a, b, c, d, e], _ => exact ⟨a, b, c, d, e, rfl⟩
/-- An element more is laid to a row of the stretch. -/
theorem lay_row {α : Type} {e : TypeId} {k : Nat} {Lf : α → List Value} {w0 w9 : World} {rb pb : Nat} {L : List UInt8} {v : Value} {xs : List Value} {s : Option (List UInt8)} {ys : List α} {ra : Option Addr} {rc : Nat} (h : Ph w0 w9 rb pb L v xs s) (ho : w9.ownsRow w0.heap.size e k (.slice ra ys.length rc) ys.length (flR Lf ys)) (hb : pb < w0.heap.size) (a : α) (c : Array Value) (hc : c = (Lf a).toArray) {H : Nat} (hH : w9.heap.size = H) :
    (w9.alloc (.cells c e)).ownsRow w0.heap.size e k (.slice ra ys.length rc) ys.length (flR Lf ys) ∧ (∀ (jj : Nat) (u : Value), (Lf a)[jj]? = some u → (w9.alloc (.cells c e)).cell? ((⟨H, 0, none⟩ : Addr).add jj) = some u) ∧
    ∀ g1 c1 w5, w5.ownsRow w0.heap.size e k (.slice (some ⟨g1, 0, none⟩) (ys.length + 1) c1) (ys.length + 1) (flR Lf ys ++ Lf a) → (w9.alloc (.cells c e)).grownBy w5 (Value.slice ra ys.length rc).ownBlock → Ph w0 w5 rb pb L v xs s ∧ ∀ (j : Nat) (x : Value), (w5.setCell ⟨pb, j, none⟩ x).ownsRow w0.heap.size e k (.slice (some ⟨g1, 0, none⟩) (ys ++ [a]).length c1) (ys ++ [a]).length (flR Lf (ys ++ [a])) := by
  subst hc
  subst hH
  have al := bel_alloc w9 (.cells (Lf a).toArray e)
  have O3 : (w9.alloc (.cells (Lf a).toArray e)).ownsRow w0.heap.size e k (.slice ra ys.length rc) ys.length (flR Lf ys) := own_turn ho (S := []) (Turn.of_below al) (fun _ _ hm => by cases hm)
  refine ⟨O3, fun jj u hu => ?_, fun g1 c1 w5 o5 k5 => ⟨(h.next al).grown O3 k5 (Nat.le_refl _) hb, fun j x => ?_⟩⟩
  · have hadd : (⟨w9.heap.size, 0, none⟩ : Addr).add jj = ⟨w9.heap.size, jj, none⟩ := by unfold Addr.add; split <;> simp_all
    rw [hadd]
    exact (Box.new w9 (Lf a) e).cell jj u hu
  · rw [flR_snoc, List.length_append]
    exact own_turn o5 (cturn_set w5 pb j x) (fun b hb' => by have := (o5.lt b hb').1; simp; omega)
theorem rtake8_d (rb : Nat) (L : List UInt8) (v : Value) (s : Option (List UInt8)) (w : World) (h : Rr w rb L v s) :
    Calls Tryd.prog 22 #[.pointer (some ⟨rb, 0, none⟩), .int .i64 8] w (fun e w' => ∃ u, e = .returned u ∧ ∃ n : Nat, u = .int .u64 (n : Nat) ∧ IntKind.i64.wrap (n : Int) = (oN rEight 0 s).1 ∧ Turn [rb] w w' ∧ Rr w' rb L v (oN rEight 0 s).2) :=
  (rtake8_c rb L v s w h).mono fun _ _ ⟨n, h1, h2⟩ => ⟨_, h1, n, rfl, h2⟩
def kN (xs : List Nat) (n : Nat) : List Value := (xs ++ List.replicate n 0).map (fun i : Nat => .int .u64 (i : Nat))
theorem kN_len (xs : List Nat) (n : Nat) : (kN xs n).length = xs.length + n := by simp [kN]
theorem kN_set (xs : List Nat) (n : Nat) (x : Nat) : (kN xs (n + 1)).set xs.length (.int .u64 (x : Nat)) = kN (xs ++ [x]) n := by
  unfold kN
  rw [List.replicate_succ, List.map_append, List.set_append_right _ _ (by simp)]
  simp
theorem kN_at (xs : List Nat) (n : Nat) (hn : 0 < n) : (kN xs n)[xs.length]? = some (.int .u64 0) := by
  obtain ⟨m, rfl⟩ : ∃ m, n = m + 1 := ⟨n - 1, by omega⟩
  unfold kN
  rw [List.replicate_succ, List.map_append, List.getElem?_append_right (by simp)]
  simp
theorem win_split (g : WiP → Rdr PgP) : rBind rWin g = rBind rFour fun a => rBind rFour fun b => rBind rEight fun c => rBind rEight fun d => g ⟨a, b, c, d⟩ := by
  unfold rWin
  simp only [rb_assoc, rb_ret]
theorem ins_split (g : Ins → Rdr PgP) : rBind rIns g = rBind (rNum 1) fun a => rBind rEight fun b => g ((a : Int), b) := by
  unfold rIns
  simp only [rb_assoc, rb_ret]
def crG (g : Cr → Rdr PgP) (r : List Nat) : Rdr PgP := g ⟨r.getD 0 0, r.getD 1 0, r.getD 2 0, r.getD 3 0, r.getD 4 0⟩
theorem cron_split (g : Cr → Rdr PgP) : rBind rCron g = rBind (rMany (rNum 8) 5) (fun r => crG g ([] ++ r)) := by
  rw [cron_many, rb_assoc]
  rfl
theorem many_next {α : Type} (f : Rdr α) (N j : Nat) (hj : j < N) (xs : List α) (g : List α → Rdr PgP) {L : List UInt8} {s : Option (List UInt8)} (h : rProg L = s.bind (rBind (rMany f (N - j)) (fun r => g (xs ++ r)))) : rProg L = s.bind (rBind f (fun a => rBind (rMany f (N - (j + 1))) (fun r => g ((xs ++ [a]) ++ r)))) := by
  rw [h, show N - j = (N - (j + 1)) + 1 by omega, step_many]
theorem oN_one (s : Option (List UInt8)) : (oN (rNum 1) 0 s).1 < 256 := oN_lt 1 s
theorem Ph.trans {w0 w1 w : World} {rb pb : Nat} {L : List UInt8} {v : Value} {xs ys : List Value} {s s' : Option (List UInt8)} (h : Ph w0 w1 rb pb L v xs s) (k : Ph w1 w rb pb L v ys s') : Ph w0 w rb pb L v ys s' :=
  ⟨h.tr.trans k.tr (fun _ hi => .inl hi), k.box, k.rd, k.lt⟩
theorem step_fn {ops : Array Oper} {o : Oper} {a : Act} {w : World} {K : Act → World → Prop} {Q : Exit → Act → World → Prop} {E : Prop} (hgd : o.guard = none) {f : Nat} {args : Array Value} {R : Value → World → Prop}
    (hc : Calls Tryd.prog f args w fun e w' => ∃ u, e = .returned u ∧ R u w') (he : (execOp a.eval o).run Tryd.prog w = .ok (.enter f args) w) (hK : ∀ u w', R u w' → K (a.put o.dst u) w') :
    if Region.wanted o (yielded ops a.tmps) = true then Oper.wp Tryd.prog o a w K Q else E := by
  have hwd : Region.wanted o (yielded ops a.tmps) = true := by simp [Region.wanted, hgd]
  rw [if_pos hwd]
  unfold Oper.wp
  rw [he, Oper.upon_enter]
  refine hc.mono fun e w' h => ?_
  obtain ⟨u, rfl, h1⟩ := h
  exact hK u w' h1
end Go.Proofs.YthfnjlfhaibbeaaDoor
