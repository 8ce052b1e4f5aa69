/- Package core: makes, ofOne, ofTwo; rows. -/
import Derived.Test.YtigldebdljfnbaaGreatDoorCqMgB
import Derived.Deep.RegionHeld3
namespace Go.Proofs.YtigldebdljfnbaaGreatDoor
open Go.RowKit

abbrev mkV (p q : Nat) : Value := .func (.func 124) #[] #[.pointer (some ⟨p, 0, none⟩), .pointer (some ⟨q, 0, none⟩)]
abbrev oneV (p : Nat) : Value := .func (.func 131) #[] #[.pointer (some ⟨p, 0, none⟩)]
abbrev twoV (p : Nat) : Value := .func (.func 134) #[] #[.pointer (some ⟨p, 0, none⟩)]
def On (B : Nat) (w : World) (P : World → Prop) : Prop := ∀ w'', w.heap.size ≤ w''.heap.size → (∀ k, B ≤ k → k < w.heap.size → w''.heap[k]? = w.heap[k]?) → P w''
theorem On.next {B : Nat} {w w' : World} {P : World → Prop} (h : On B w P) (hb : Below w.heap.size w w') : On B w' P := fun w'' hs hk =>
  h w'' (Nat.le_trans hb.size hs) (fun k h1 h2 => (hk k h1 (Nat.lt_of_lt_of_le h2 hb.size)).trans (hb.block k h2))
theorem On.at {B : Nat} {w : World} {P : World → Prop} (h : On B w P) : P w := h w (Nat.le_refl _) (fun _ _ _ => rfl)
theorem on_cell {B : Nat} {w w'' : World} (hk : ∀ k, B ≤ k → k < w.heap.size → w''.heap[k]? = w.heap[k]?) {p : Addr} {v : Value} (hc : w.cell? p = some v) (hp : B ≤ p.block) : w''.cell? p = some v :=
  (World.cell?_of_block (w := w) (hk p.block hp (World.block_lt_of_cell? w p hc))).trans hc
def IntsAt (w : World) (v : Value) (ts : List Int) : Prop := ∃ ad cap, v = .slice ad ts.length cap ∧ (ts = [] ∨ ∃ b off, ad = some ⟨b, off, none⟩ ∧ b < w.heap.size ∧ ∀ i (h : i < ts.length), w.cell? ⟨b, off + i, none⟩ = some (.int .i64 ts[i]))
theorem IntsAt.next {w w' : World} {v : Value} {ts : List Int} (h : IntsAt w v ts) (k : Below w.heap.size w w') : IntsAt w' v ts := by
  obtain ⟨ad, cap, hv, h⟩ := h
  refine ⟨ad, cap, hv, ?_⟩
  rcases h with h | ⟨b, off, ha, hb, hc⟩
  · exact .inl h
  · exact .inr ⟨b, off, ha, Nat.lt_of_lt_of_le hb k.size, fun i hi => (k.cell (p := ⟨b, off + i, none⟩) hb).trans (hc i hi)⟩
structure MkF (w : World) (p q : Nat) (k : Int) (ts : List Int) : Prop where
  lp : p < w.heap.size
  lq : q < w.heap.size
  kk : w.cell? ⟨q, 0, none⟩ = some (.int .i64 k)
  tt : ∃ v, w.cell? ⟨p, 0, none⟩ = some v ∧ IntsAt w v ts
theorem MkF.next {w w' : World} {p q : Nat} {k : Int} {ts : List Int} (h : MkF w p q k ts) (hb : Below w.heap.size w w') : MkF w' p q k ts := by
  obtain ⟨v, h1, h2⟩ := h.tt
  exact ⟨Nat.lt_of_lt_of_le h.lp hb.size, Nat.lt_of_lt_of_le h.lq hb.size, (hb.cell (p := ⟨q, 0, none⟩) h.lq).trans h.kk, v, (hb.cell (p := ⟨p, 0, none⟩) h.lp).trans h1, h2.next hb⟩
set_option maxHeartbeats 1000000 in
theorem cmakes_c (B : Nat) (k : Int) (ts : List Int) (v : Value) (w : World) (hB : B ≤ w.heap.size) (hv : On B w (fun w => IntsAt w v ts)) : Calls Tryz.prog 72 #[.int .i64 k, v] w fun e w' => ∃ p q, e = .returned (mkV p q) ∧ On B w' (fun w => MkF w p q k ts) ∧ Below w.heap.size w w' := by
  have HV := chid hv
  obtain ⟨ad, cap, rfl, -⟩ := hv.at
  obtain ⟨X0, X1, XB⟩ := two_boxes w 3 125 [.int .i64 k] [.slice ad ts.length cap]
  have hP : Hid (∃ p q, Ending.returned (mkV (w.heap.size + 1) w.heap.size) = .returned (mkV p q) ∧ On B ((w.alloc (.cells #[.int .i64 k] 3)).alloc (.cells #[.slice ad ts.length cap] 125)) (fun w => MkF w p q k ts) ∧ Below w.heap.size w ((w.alloc (.cells #[.int .i64 k] 3)).alloc (.cells #[.slice ad ts.length cap] 125))) := ⟨_, _, rfl, fun w'' hs hk => ⟨Nat.lt_of_lt_of_le X1.lt hs, Nat.lt_of_lt_of_le X0.lt hs, on_cell hk (X0.cell 0 _ rfl) hB, _, on_cell hk (X1.cell 0 _ rfl) (by show B ≤ w.heap.size + 1; omega), HV.out w'' (Nat.le_trans XB.size hs) (fun j h1 h2 => (hk j h1 (Nat.lt_of_lt_of_le h2 XB.size)).trans (XB.block j h2))⟩, XB⟩
  clear X0 X1 XB
  go_enter Tryz.func72, Tryz.ntmps72
  go_wp2_with fail
  go_ret
  exact hP.out
structure FnF (w : World) (p : Nat) (f : Value) : Prop where
  lp : p < w.heap.size
  ff : w.cell? ⟨p, 0, none⟩ = some f
theorem FnF.next {w w' : World} {p : Nat} {f : Value} (h : FnF w p f) (hb : Below w.heap.size w w') : FnF w' p f := ⟨Nat.lt_of_lt_of_le h.lp hb.size, (hb.cell (p := ⟨p, 0, none⟩) h.lp).trans h.ff⟩
set_option maxHeartbeats 1000000 in
theorem cofOne_c (B : Nat) (n : Nat) (w : World) (hB : B ≤ w.heap.size) : Calls Tryz.prog 88 #[.func (.func n) #[] #[]] w fun e w' => ∃ p, e = .returned (oneV p) ∧ On B w' (fun w => FnF w p (.func (.func n) #[] #[])) ∧ Below w.heap.size w w' := by
  obtain ⟨X0, XB⟩ := one_box w 123 [.func (.func n) #[] #[]]
  have hP : Hid (∃ p, Ending.returned (oneV w.heap.size) = .returned (oneV p) ∧ On B (w.alloc (.cells #[.func (.func n) #[] #[]] 123)) (fun w => FnF w p (.func (.func n) #[] #[])) ∧ Below w.heap.size w (w.alloc (.cells #[.func (.func n) #[] #[]] 123))) := ⟨_, rfl, fun w'' hs hk => ⟨Nat.lt_of_lt_of_le X0.lt hs, on_cell hk (X0.cell 0 _ rfl) hB⟩, XB⟩
  clear X0 XB
  go_enter Tryz.func88, Tryz.ntmps88
  go_wp2_with fail
  go_ret
  exact hP.out
set_option maxHeartbeats 1000000 in
theorem cofTwo_c (B : Nat) (n : Nat) (w : World) (hB : B ≤ w.heap.size) : Calls Tryz.prog 96 #[.func (.func n) #[] #[]] w fun e w' => ∃ p, e = .returned (twoV p) ∧ On B w' (fun w => FnF w p (.func (.func n) #[] #[])) ∧ Below w.heap.size w w' := by
  obtain ⟨X0, XB⟩ := one_box w 80 [.func (.func n) #[] #[]]
  have hP : Hid (∃ p, Ending.returned (twoV w.heap.size) = .returned (twoV p) ∧ On B (w.alloc (.cells #[.func (.func n) #[] #[]] 80)) (fun w => FnF w p (.func (.func n) #[] #[])) ∧ Below w.heap.size w (w.alloc (.cells #[.func (.func n) #[] #[]] 80))) := ⟨_, rfl, fun w'' hs hk => ⟨Nat.lt_of_lt_of_le X0.lt hs, on_cell hk (X0.cell 0 _ rfl) hB⟩, XB⟩
  clear X0 XB
  go_enter Tryz.func96, Tryz.ntmps96
  go_wp2_with fail
  go_ret
  exact hP.out
theorem ints_none (w : World) : IntsAt w (.slice none 0 0) [] := ⟨none, 0, rfl, .inl rfl⟩
theorem ints_noneB (B : Nat) (w : World) : On B w (fun w => IntsAt w (.slice none 0 0) []) := fun w'' _ _ => ints_none w''
theorem ints_newB (B : Nat) (w : World) (ts : List Int) (t : TypeId) (hB : B ≤ w.heap.size) : On B (w.alloc (.cells (ts.map fun x => Value.int .i64 x).toArray t)) (fun w' => IntsAt w' (.slice (some ⟨w.heap.size, 0, none⟩) ts.length ts.length) ts) := fun w'' hs hk => by
  refine ⟨_, _, rfl, .inr ⟨w.heap.size, 0, rfl, Nat.lt_of_lt_of_le (by simp) hs, fun i hi => ?_⟩⟩
  have h1 := (Box.new w (ts.map fun x => Value.int .i64 x) t).cell i (.int .i64 ts[i]) (by simp [hi])
  rw [Nat.zero_add]
  exact on_cell hk h1 hB
def fitsT : List Nat := [0, 73, 75, 76, 78, 80, 82, 85, 76, 76, 76, 76, 76, 94, 76, 76, 76, 76, 76, 76, 76, 76, 76, 76, 76, 76, 76, 76, 76, 76, 76, 76, 76]
def mkT : List (Option (Int × List Int)) := [none, some (1, []), some (2, []), some (1, []), some (1, []), some (2, []), none, none, some (1, [1]), some (2, [2]), some (1, [1]), some (1, [1]), some (1, [1]), some (1, [1]), some (1, [1, 1]), some (1, [1, 1]), some (1, [1, 1]), some (1, [1, 1]), some (2, [1, 1]), some (2, [1, 1]), some (2, [1, 1]), some (2, [1, 1]), some (2, [1, 1]), some (1, [1, 1]), some (1, [1, 1]), some (2, [2, 2]), some (2, [2, 2]), none, none, some (3, []), some (3, [1]), some (3, [1]), none]
def soT : List Nat := [0, 0, 0, 0, 0, 0, 83, 86, 0, 0, 0, 0, 0, 0, 0, 0, 0, 0, 0, 0, 0, 0, 0, 0, 0, 0, 0, 110, 112, 0, 0, 0, 117]
def woT : List (Nat × Nat) := [(0, 0), (0, 74), (0, 74), (0, 77), (0, 79), (0, 81), (0, 84), (0, 87), (1, 89), (1, 90), (1, 91), (1, 92), (1, 93), (0, 95), (2, 97), (2, 98), (2, 99), (0, 100), (2, 101), (2, 102), (2, 103), (2, 104), (2, 105), (2, 106), (2, 107), (0, 108), (0, 109), (0, 111), (0, 113), (0, 114), (0, 115), (0, 116), (0, 118)]
def SoF (w : World) (op : Nat) (fs : Value) : Prop := match mkT.getD op none with
  | some x => ∃ p q, fs = mkV p q ∧ MkF w p q x.1 x.2
  | none => fs = .func (.func (soT.getD op 0)) #[] #[]
def WoF (w : World) (op : Nat) (fw : Value) : Prop := match (woT.getD op (0, 0)).1 with
  | 0 => fw = .func (.func (woT.getD op (0, 0)).2) #[] #[]
  | 1 => ∃ p, fw = oneV p ∧ FnF w p (.func (.func (woT.getD op (0, 0)).2) #[] #[])
  | _ => ∃ p, fw = twoV p ∧ FnF w p (.func (.func (woT.getD op (0, 0)).2) #[] #[])
theorem SoF.next {w w' : World} {op : Nat} {fs : Value} (h : SoF w op fs) (hb : Below w.heap.size w w') : SoF w' op fs := by
  unfold SoF at h ⊢
  cases hm : mkT.getD op none with
  | none => rw [hm] at h; exact h
  | some x =>
    rw [hm] at h
    obtain ⟨p, q, h1, h2⟩ := h
    exact ⟨p, q, h1, h2.next hb⟩
theorem WoF.next {w w' : World} {op : Nat} {fw : Value} (h : WoF w op fw) (hb : Below w.heap.size w w') : WoF w' op fw := by
  unfold WoF at h ⊢
  generalize woT.getD op (0, 0) = x at *
  obtain ⟨a, b⟩ := x
  match a, h with
  | 0, h => exact h
  | 1, ⟨p, h1, h2⟩ => exact ⟨p, h1, h2.next hb⟩
  | _ + 2, ⟨p, h1, h2⟩ => exact ⟨p, h1, h2.next hb⟩
def RowA (w : World) (b op : Nat) : Prop := ∃ fs fw, w.cell? ⟨b, op * 3, none⟩ = some (.func (.func (fitsT.getD op 0)) #[] #[]) ∧ w.cell? ⟨b, op * 3 + 1, none⟩ = some fs ∧ w.cell? ⟨b, op * 3 + 2, none⟩ = some fw ∧ SoF w op fs ∧ WoF w op fw
structure RowsAt (w : World) (b : Nat) : Prop where
  lt : b < w.heap.size
  row : ∀ op, 1 ≤ op → op ≤ 32 → RowA w b op
theorem RowsAt.next {w w' : World} {b : Nat} (h : RowsAt w b) (hb : Below w.heap.size w w') : RowsAt w' b := by
  refine ⟨Nat.lt_of_lt_of_le h.lt hb.size, fun op h1 h2 => ?_⟩
  obtain ⟨fs, fw, g1, g2, g3, g4, g5⟩ := h.row op h1 h2
  exact ⟨fs, fw, (hb.cell (p := ⟨b, _, none⟩) h.lt).trans g1, (hb.cell (p := ⟨b, _, none⟩) h.lt).trans g2, (hb.cell (p := ⟨b, _, none⟩) h.lt).trans g3, g4.next hb, g5.next hb⟩
theorem op_cases {p : Nat → Prop} (h1 : p 1) (h2 : p 2) (h3 : p 3) (h4 : p 4) (h5 : p 5) (h6 : p 6) (h7 : p 7) (h8 : p 8) (h9 : p 9) (h10 : p 10) (h11 : p 11) (h12 : p 12) (h13 : p 13) (h14 : p 14) (h15 : p 15) (h16 : p 16) (h17 : p 17) (h18 : p 18) (h19 : p 19) (h20 : p 20) (h21 : p 21) (h22 : p 22) (h23 : p 23) (h24 : p 24) (h25 : p 25) (h26 : p 26) (h27 : p 27) (h28 : p 28) (h29 : p 29) (h30 : p 30) (h31 : p 31) (h32 : p 32) : ∀ op, 1 ≤ op → op ≤ 32 → p op
  | 1, _, _ => h1
  | 2, _, _ => h2
  | 3, _, _ => h3
  | 4, _, _ => h4
  | 5, _, _ => h5
  | 6, _, _ => h6
  | 7, _, _ => h7
  | 8, _, _ => h8
  | 9, _, _ => h9
  | 10, _, _ => h10
  | 11, _, _ => h11
  | 12, _, _ => h12
  | 13, _, _ => h13
  | 14, _, _ => h14
  | 15, _, _ => h15
  | 16, _, _ => h16
  | 17, _, _ => h17
  | 18, _, _ => h18
  | 19, _, _ => h19
  | 20, _, _ => h20
  | 21, _, _ => h21
  | 22, _, _ => h22
  | 23, _, _ => h23
  | 24, _, _ => h24
  | 25, _, _ => h25
  | 26, _, _ => h26
  | 27, _, _ => h27
  | 28, _, _ => h28
  | 29, _, _ => h29
  | 30, _, _ => h30
  | 31, _, _ => h31
  | 32, _, _ => h32
  | 0, h, _ => absurd h (by omega)
  | _ + 33, _, h => absurd h (by omega)
set_option maxHeartbeats 16000000 in
set_option maxRecDepth 20000 in
theorem crowsB_c (w : World) : Calls Tryz.prog 45 #[] w fun e w' => ∃ b, e = .returned (.slice (some ⟨b, 0, none⟩) 33 33) ∧ On w.heap.size w' (fun w => RowsAt w b) ∧ Below w.heap.size w w' := by
  go_enter Tryz.func45, Tryz.ntmps45
  go_wp2_with fail
  refine Calls.mono (cmakes_c w.heap.size 1 [1] _ _ (by simp) (ints_newB w.heap.size w [1] 3 (Nat.le_refl _))) ?_
  rintro e w1 ⟨p1, q1, rfl, m1, b⟩
  have hb : Below w.heap.size w w1 := cbelow_on ((Below.refl _ w).alloc (Nat.le_refl _) _) b (by simp)
  have B1 := chid hb
  have M1 := chid m1
  clear m1 b hb
  go_wp2_with fail
  refine Calls.mono (cmakes_c w.heap.size 1 [1, 1] _ _ (Nat.le_trans B1.out.size (by simp)) (ints_newB w.heap.size w1 [1, 1] 3 B1.out.size)) ?_
  rintro e w2 ⟨p2, q2, rfl, m2, b⟩
  have hb : Below w1.heap.size w1 w2 := cbelow_on ((Below.refl _ w1).alloc (Nat.le_refl _) _) b (by simp)
  have B2 := chid (cbelow_on B1.out hb B1.out.size)
  replace M1 := chid (M1.out.next hb)
  have M2 := chid m2
  clear m2 b hb B1
  go_wp2_with fail
  refine Calls.mono (cmakes_c w.heap.size 2 [1, 1] _ _ (Nat.le_trans B2.out.size (by simp)) (ints_newB w.heap.size w2 [1, 1] 3 B2.out.size)) ?_
  rintro e w3 ⟨p3, q3, rfl, m3, b⟩
  have hb : Below w2.heap.size w2 w3 := cbelow_on ((Below.refl _ w2).alloc (Nat.le_refl _) _) b (by simp)
  have B3 := chid (cbelow_on B2.out hb B2.out.size)
  replace M1 := chid (M1.out.next hb)
  replace M2 := chid (M2.out.next hb)
  have M3 := chid m3
  clear m3 b hb B2
  go_wp2_with fail
  refine Calls.mono (cmakes_c w.heap.size 2 [2, 2] _ _ (Nat.le_trans B3.out.size (by simp)) (ints_newB w.heap.size w3 [2, 2] 3 B3.out.size)) ?_
  rintro e w4 ⟨p4, q4, rfl, m4, b⟩
  have hb : Below w3.heap.size w3 w4 := cbelow_on ((Below.refl _ w3).alloc (Nat.le_refl _) _) b (by simp)
  have B4 := chid (cbelow_on B3.out hb B3.out.size)
  replace M1 := chid (M1.out.next hb)
  replace M2 := chid (M2.out.next hb)
  replace M3 := chid (M3.out.next hb)
  have M4 := chid m4
  clear m4 b hb B3
  go_wp2_with fail
  refine Calls.mono (cmakes_c w.heap.size 1 [] _ _ B4.out.size (ints_noneB _ _)) ?_
  rintro e w5 ⟨p5, q5, rfl, m5, b⟩
  have hb : Below w4.heap.size w4 w5 := b
  have B5 := chid (cbelow_on B4.out hb B4.out.size)
  replace M1 := chid (M1.out.next hb)
  replace M2 := chid (M2.out.next hb)
  replace M3 := chid (M3.out.next hb)
  replace M4 := chid (M4.out.next hb)
  have M5 := chid m5
  clear m5 b hb B4
  go_wp2_with fail
  refine Calls.mono (cmakes_c w.heap.size 2 [] _ _ B5.out.size (ints_noneB _ _)) ?_
  rintro e w6 ⟨p6, q6, rfl, m6, b⟩
  have hb : Below w5.heap.size w5 w6 := b
  have B6 := chid (cbelow_on B5.out hb B5.out.size)
  replace M1 := chid (M1.out.next hb)
  replace M2 := chid (M2.out.next hb)
  replace M3 := chid (M3.out.next hb)
  replace M4 := chid (M4.out.next hb)
  replace M5 := chid (M5.out.next hb)
  have M6 := chid m6
  clear m6 b hb B5
  go_wp2_with fail
  refine Calls.mono (cmakes_c w.heap.size 1 [] _ _ B6.out.size (ints_noneB _ _)) ?_
  rintro e w7 ⟨p7, q7, rfl, m7, b⟩
  have hb : Below w6.heap.size w6 w7 := b
  have B7 := chid (cbelow_on B6.out hb B6.out.size)
  replace M1 := chid (M1.out.next hb)
  replace M2 := chid (M2.out.next hb)
  replace M3 := chid (M3.out.next hb)
  replace M4 := chid (M4.out.next hb)
  replace M5 := chid (M5.out.next hb)
  replace M6 := chid (M6.out.next hb)
  have M7 := chid m7
  clear m7 b hb B6
  go_wp2_with fail
  refine Calls.mono (cmakes_c w.heap.size 1 [] _ _ B7.out.size (ints_noneB _ _)) ?_
  rintro e w8 ⟨p8, q8, rfl, m8, b⟩
  have hb : Below w7.heap.size w7 w8 := b
  have B8 := chid (cbelow_on B7.out hb B7.out.size)
  replace M1 := chid (M1.out.next hb)
  replace M2 := chid (M2.out.next hb)
  replace M3 := chid (M3.out.next hb)
  replace M4 := chid (M4.out.next hb)
  replace M5 := chid (M5.out.next hb)
  replace M6 := chid (M6.out.next hb)
  replace M7 := chid (M7.out.next hb)
  have M8 := chid m8
  clear m8 b hb B7
  go_wp2_with fail
  refine Calls.mono (cmakes_c w.heap.size 2 [] _ _ B8.out.size (ints_noneB _ _)) ?_
  rintro e w9 ⟨p9, q9, rfl, m9, b⟩
  have hb : Below w8.heap.size w8 w9 := b
  have B9 := chid (cbelow_on B8.out hb B8.out.size)
  replace M1 := chid (M1.out.next hb)
  replace M2 := chid (M2.out.next hb)
  replace M3 := chid (M3.out.next hb)
  replace M4 := chid (M4.out.next hb)
  replace M5 := chid (M5.out.next hb)
  replace M6 := chid (M6.out.next hb)
  replace M7 := chid (M7.out.next hb)
  replace M8 := chid (M8.out.next hb)
  have M9 := chid m9
  clear m9 b hb B8
  go_wp2_with fail
  refine Calls.mono (cofOne_c w.heap.size 89 _ B9.out.size) ?_
  rintro e w10 ⟨p10, rfl, m10, b⟩
  have hb : Below w9.heap.size w9 w10 := b
  have B10 := chid (cbelow_on B9.out hb B9.out.size)
  replace M1 := chid (M1.out.next hb)
  replace M2 := chid (M2.out.next hb)
  replace M3 := chid (M3.out.next hb)
  replace M4 := chid (M4.out.next hb)
  replace M5 := chid (M5.out.next hb)
  replace M6 := chid (M6.out.next hb)
  replace M7 := chid (M7.out.next hb)
  replace M8 := chid (M8.out.next hb)
  replace M9 := chid (M9.out.next hb)
  have M10 := chid m10
  clear m10 b hb B9
  go_wp2_with fail
  refine Calls.mono (cmakes_c w.heap.size 2 [2] _ _ (Nat.le_trans B10.out.size (by simp)) (ints_newB w.heap.size w10 [2] 3 B10.out.size)) ?_
  rintro e w11 ⟨p11, q11, rfl, m11, b⟩
  have hb : Below w10.heap.size w10 w11 := cbelow_on ((Below.refl _ w10).alloc (Nat.le_refl _) _) b (by simp)
  have B11 := chid (cbelow_on B10.out hb B10.out.size)
  replace M1 := chid (M1.out.next hb)
  replace M2 := chid (M2.out.next hb)
  replace M3 := chid (M3.out.next hb)
  replace M4 := chid (M4.out.next hb)
  replace M5 := chid (M5.out.next hb)
  replace M6 := chid (M6.out.next hb)
  replace M7 := chid (M7.out.next hb)
  replace M8 := chid (M8.out.next hb)
  replace M9 := chid (M9.out.next hb)
  replace M10 := chid (M10.out.next hb)
  have M11 := chid m11
  clear m11 b hb B10
  go_wp2_with fail
  refine Calls.mono (cofOne_c w.heap.size 90 _ B11.out.size) ?_
  rintro e w12 ⟨p12, rfl, m12, b⟩
  have hb : Below w11.heap.size w11 w12 := b
  have B12 := chid (cbelow_on B11.out hb B11.out.size)
  replace M1 := chid (M1.out.next hb)
  replace M2 := chid (M2.out.next hb)
  replace M3 := chid (M3.out.next hb)
  replace M4 := chid (M4.out.next hb)
  replace M5 := chid (M5.out.next hb)
  replace M6 := chid (M6.out.next hb)
  replace M7 := chid (M7.out.next hb)
  replace M8 := chid (M8.out.next hb)
  replace M9 := chid (M9.out.next hb)
  replace M10 := chid (M10.out.next hb)
  replace M11 := chid (M11.out.next hb)
  have M12 := chid m12
  clear m12 b hb B11
  go_wp2_with fail
  refine Calls.mono (cofOne_c w.heap.size 91 _ B12.out.size) ?_
  rintro e w13 ⟨p13, rfl, m13, b⟩
  have hb : Below w12.heap.size w12 w13 := b
  have B13 := chid (cbelow_on B12.out hb B12.out.size)
  replace M1 := chid (M1.out.next hb)
  replace M2 := chid (M2.out.next hb)
  replace M3 := chid (M3.out.next hb)
  replace M4 := chid (M4.out.next hb)
  replace M5 := chid (M5.out.next hb)
  replace M6 := chid (M6.out.next hb)
  replace M7 := chid (M7.out.next hb)
  replace M8 := chid (M8.out.next hb)
  replace M9 := chid (M9.out.next hb)
  replace M10 := chid (M10.out.next hb)
  replace M11 := chid (M11.out.next hb)
  replace M12 := chid (M12.out.next hb)
  have M13 := chid m13
  clear m13 b hb B12
  go_wp2_with fail
  refine Calls.mono (cofOne_c w.heap.size 92 _ B13.out.size) ?_
  rintro e w14 ⟨p14, rfl, m14, b⟩
  have hb : Below w13.heap.size w13 w14 := b
  have B14 := chid (cbelow_on B13.out hb B13.out.size)
  replace M1 := chid (M1.out.next hb)
  replace M2 := chid (M2.out.next hb)
  replace M3 := chid (M3.out.next hb)
  replace M4 := chid (M4.out.next hb)
  replace M5 := chid (M5.out.next hb)
  replace M6 := chid (M6.out.next hb)
  replace M7 := chid (M7.out.next hb)
  replace M8 := chid (M8.out.next hb)
  replace M9 := chid (M9.out.next hb)
  replace M10 := chid (M10.out.next hb)
  replace M11 := chid (M11.out.next hb)
  replace M12 := chid (M12.out.next hb)
  replace M13 := chid (M13.out.next hb)
  have M14 := chid m14
  clear m14 b hb B13
  go_wp2_with fail
  refine Calls.mono (cofOne_c w.heap.size 93 _ B14.out.size) ?_
  rintro e w15 ⟨p15, rfl, m15, b⟩
  have hb : Below w14.heap.size w14 w15 := b
  have B15 := chid (cbelow_on B14.out hb B14.out.size)
  replace M1 := chid (M1.out.next hb)
  replace M2 := chid (M2.out.next hb)
  replace M3 := chid (M3.out.next hb)
  replace M4 := chid (M4.out.next hb)
  replace M5 := chid (M5.out.next hb)
  replace M6 := chid (M6.out.next hb)
  replace M7 := chid (M7.out.next hb)
  replace M8 := chid (M8.out.next hb)
  replace M9 := chid (M9.out.next hb)
  replace M10 := chid (M10.out.next hb)
  replace M11 := chid (M11.out.next hb)
  replace M12 := chid (M12.out.next hb)
  replace M13 := chid (M13.out.next hb)
  replace M14 := chid (M14.out.next hb)
  have M15 := chid m15
  clear m15 b hb B14
  go_wp2_with fail
  refine Calls.mono (cofTwo_c w.heap.size 97 _ B15.out.size) ?_
  rintro e w16 ⟨p16, rfl, m16, b⟩
  have hb : Below w15.heap.size w15 w16 := b
  have B16 := chid (cbelow_on B15.out hb B15.out.size)
  replace M1 := chid (M1.out.next hb)
  replace M2 := chid (M2.out.next hb)
  replace M3 := chid (M3.out.next hb)
  replace M4 := chid (M4.out.next hb)
  replace M5 := chid (M5.out.next hb)
  replace M6 := chid (M6.out.next hb)
  replace M7 := chid (M7.out.next hb)
  replace M8 := chid (M8.out.next hb)
  replace M9 := chid (M9.out.next hb)
  replace M10 := chid (M10.out.next hb)
  replace M11 := chid (M11.out.next hb)
  replace M12 := chid (M12.out.next hb)
  replace M13 := chid (M13.out.next hb)
  replace M14 := chid (M14.out.next hb)
  replace M15 := chid (M15.out.next hb)
  have M16 := chid m16
  clear m16 b hb B15
  go_wp2_with fail
  refine Calls.mono (cofTwo_c w.heap.size 98 _ B16.out.size) ?_
  rintro e w17 ⟨p17, rfl, m17, b⟩
  have hb : Below w16.heap.size w16 w17 := b
  have B17 := chid (cbelow_on B16.out hb B16.out.size)
  replace M1 := chid (M1.out.next hb)
  replace M2 := chid (M2.out.next hb)
  replace M3 := chid (M3.out.next hb)
  replace M4 := chid (M4.out.next hb)
  replace M5 := chid (M5.out.next hb)
  replace M6 := chid (M6.out.next hb)
  replace M7 := chid (M7.out.next hb)
  replace M8 := chid (M8.out.next hb)
  replace M9 := chid (M9.out.next hb)
  replace M10 := chid (M10.out.next hb)
  replace M11 := chid (M11.out.next hb)
  replace M12 := chid (M12.out.next hb)
  replace M13 := chid (M13.out.next hb)
  replace M14 := chid (M14.out.next hb)
  replace M15 := chid (M15.out.next hb)
  replace M16 := chid (M16.out.next hb)
  have M17 := chid m17
  clear m17 b hb B16
  go_wp2_with fail
  refine Calls.mono (cofTwo_c w.heap.size 99 _ B17.out.size) ?_
  rintro e w18 ⟨p18, rfl, m18, b⟩
  have hb : Below w17.heap.size w17 w18 := b
  have B18 := chid (cbelow_on B17.out hb B17.out.size)
  replace M1 := chid (M1.out.next hb)
  replace M2 := chid (M2.out.next hb)
  replace M3 := chid (M3.out.next hb)
  replace M4 := chid (M4.out.next hb)
  replace M5 := chid (M5.out.next hb)
  replace M6 := chid (M6.out.next hb)
  replace M7 := chid (M7.out.next hb)
  replace M8 := chid (M8.out.next hb)
  replace M9 := chid (M9.out.next hb)
  replace M10 := chid (M10.out.next hb)
  replace M11 := chid (M11.out.next hb)
  replace M12 := chid (M12.out.next hb)
  replace M13 := chid (M13.out.next hb)
  replace M14 := chid (M14.out.next hb)
  replace M15 := chid (M15.out.next hb)
  replace M16 := chid (M16.out.next hb)
  replace M17 := chid (M17.out.next hb)
  have M18 := chid m18
  clear m18 b hb B17
  go_wp2_with fail
  refine Calls.mono (cofTwo_c w.heap.size 101 _ B18.out.size) ?_
  rintro e w19 ⟨p19, rfl, m19, b⟩
  have hb : Below w18.heap.size w18 w19 := b
  have B19 := chid (cbelow_on B18.out hb B18.out.size)
  replace M1 := chid (M1.out.next hb)
  replace M2 := chid (M2.out.next hb)
  replace M3 := chid (M3.out.next hb)
  replace M4 := chid (M4.out.next hb)
  replace M5 := chid (M5.out.next hb)
  replace M6 := chid (M6.out.next hb)
  replace M7 := chid (M7.out.next hb)
  replace M8 := chid (M8.out.next hb)
  replace M9 := chid (M9.out.next hb)
  replace M10 := chid (M10.out.next hb)
  replace M11 := chid (M11.out.next hb)
  replace M12 := chid (M12.out.next hb)
  replace M13 := chid (M13.out.next hb)
  replace M14 := chid (M14.out.next hb)
  replace M15 := chid (M15.out.next hb)
  replace M16 := chid (M16.out.next hb)
  replace M17 := chid (M17.out.next hb)
  replace M18 := chid (M18.out.next hb)
  have M19 := chid m19
  clear m19 b hb B18
  go_wp2_with fail
  refine Calls.mono (cofTwo_c w.heap.size 102 _ B19.out.size) ?_
  rintro e w20 ⟨p20, rfl, m20, b⟩
  have hb : Below w19.heap.size w19 w20 := b
  have B20 := chid (cbelow_on B19.out hb B19.out.size)
  replace M1 := chid (M1.out.next hb)
  replace M2 := chid (M2.out.next hb)
  replace M3 := chid (M3.out.next hb)
  replace M4 := chid (M4.out.next hb)
  replace M5 := chid (M5.out.next hb)
  replace M6 := chid (M6.out.next hb)
  replace M7 := chid (M7.out.next hb)
  replace M8 := chid (M8.out.next hb)
  replace M9 := chid (M9.out.next hb)
  replace M10 := chid (M10.out.next hb)
  replace M11 := chid (M11.out.next hb)
  replace M12 := chid (M12.out.next hb)
  replace M13 := chid (M13.out.next hb)
  replace M14 := chid (M14.out.next hb)
  replace M15 := chid (M15.out.next hb)
  replace M16 := chid (M16.out.next hb)
  replace M17 := chid (M17.out.next hb)
  replace M18 := chid (M18.out.next hb)
  replace M19 := chid (M19.out.next hb)
  have M20 := chid m20
  clear m20 b hb B19
  go_wp2_with fail
  refine Calls.mono (cofTwo_c w.heap.size 103 _ B20.out.size) ?_
  rintro e w21 ⟨p21, rfl, m21, b⟩
  have hb : Below w20.heap.size w20 w21 := b
  have B21 := chid (cbelow_on B20.out hb B20.out.size)
  replace M1 := chid (M1.out.next hb)
  replace M2 := chid (M2.out.next hb)
  replace M3 := chid (M3.out.next hb)
  replace M4 := chid (M4.out.next hb)
  replace M5 := chid (M5.out.next hb)
  replace M6 := chid (M6.out.next hb)
  replace M7 := chid (M7.out.next hb)
  replace M8 := chid (M8.out.next hb)
  replace M9 := chid (M9.out.next hb)
  replace M10 := chid (M10.out.next hb)
  replace M11 := chid (M11.out.next hb)
  replace M12 := chid (M12.out.next hb)
  replace M13 := chid (M13.out.next hb)
  replace M14 := chid (M14.out.next hb)
  replace M15 := chid (M15.out.next hb)
  replace M16 := chid (M16.out.next hb)
  replace M17 := chid (M17.out.next hb)
  replace M18 := chid (M18.out.next hb)
  replace M19 := chid (M19.out.next hb)
  replace M20 := chid (M20.out.next hb)
  have M21 := chid m21
  clear m21 b hb B20
  go_wp2_with fail
  refine Calls.mono (cofTwo_c w.heap.size 104 _ B21.out.size) ?_
  rintro e w22 ⟨p22, rfl, m22, b⟩
  have hb : Below w21.heap.size w21 w22 := b
  have B22 := chid (cbelow_on B21.out hb B21.out.size)
  replace M1 := chid (M1.out.next hb)
  replace M2 := chid (M2.out.next hb)
  replace M3 := chid (M3.out.next hb)
  replace M4 := chid (M4.out.next hb)
  replace M5 := chid (M5.out.next hb)
  replace M6 := chid (M6.out.next hb)
  replace M7 := chid (M7.out.next hb)
  replace M8 := chid (M8.out.next hb)
  replace M9 := chid (M9.out.next hb)
  replace M10 := chid (M10.out.next hb)
  replace M11 := chid (M11.out.next hb)
  replace M12 := chid (M12.out.next hb)
  replace M13 := chid (M13.out.next hb)
  replace M14 := chid (M14.out.next hb)
  replace M15 := chid (M15.out.next hb)
  replace M16 := chid (M16.out.next hb)
  replace M17 := chid (M17.out.next hb)
  replace M18 := chid (M18.out.next hb)
  replace M19 := chid (M19.out.next hb)
  replace M20 := chid (M20.out.next hb)
  replace M21 := chid (M21.out.next hb)
  have M22 := chid m22
  clear m22 b hb B21
  go_wp2_with fail
  refine Calls.mono (cofTwo_c w.heap.size 105 _ B22.out.size) ?_
  rintro e w23 ⟨p23, rfl, m23, b⟩
  have hb : Below w22.heap.size w22 w23 := b
  have B23 := chid (cbelow_on B22.out hb B22.out.size)
  replace M1 := chid (M1.out.next hb)
  replace M2 := chid (M2.out.next hb)
  replace M3 := chid (M3.out.next hb)
  replace M4 := chid (M4.out.next hb)
  replace M5 := chid (M5.out.next hb)
  replace M6 := chid (M6.out.next hb)
  replace M7 := chid (M7.out.next hb)
  replace M8 := chid (M8.out.next hb)
  replace M9 := chid (M9.out.next hb)
  replace M10 := chid (M10.out.next hb)
  replace M11 := chid (M11.out.next hb)
  replace M12 := chid (M12.out.next hb)
  replace M13 := chid (M13.out.next hb)
  replace M14 := chid (M14.out.next hb)
  replace M15 := chid (M15.out.next hb)
  replace M16 := chid (M16.out.next hb)
  replace M17 := chid (M17.out.next hb)
  replace M18 := chid (M18.out.next hb)
  replace M19 := chid (M19.out.next hb)
  replace M20 := chid (M20.out.next hb)
  replace M21 := chid (M21.out.next hb)
  replace M22 := chid (M22.out.next hb)
  have M23 := chid m23
  clear m23 b hb B22
  go_wp2_with fail
  refine Calls.mono (cofTwo_c w.heap.size 106 _ B23.out.size) ?_
  rintro e w24 ⟨p24, rfl, m24, b⟩
  have hb : Below w23.heap.size w23 w24 := b
  have B24 := chid (cbelow_on B23.out hb B23.out.size)
  replace M1 := chid (M1.out.next hb)
  replace M2 := chid (M2.out.next hb)
  replace M3 := chid (M3.out.next hb)
  replace M4 := chid (M4.out.next hb)
  replace M5 := chid (M5.out.next hb)
  replace M6 := chid (M6.out.next hb)
  replace M7 := chid (M7.out.next hb)
  replace M8 := chid (M8.out.next hb)
  replace M9 := chid (M9.out.next hb)
  replace M10 := chid (M10.out.next hb)
  replace M11 := chid (M11.out.next hb)
  replace M12 := chid (M12.out.next hb)
  replace M13 := chid (M13.out.next hb)
  replace M14 := chid (M14.out.next hb)
  replace M15 := chid (M15.out.next hb)
  replace M16 := chid (M16.out.next hb)
  replace M17 := chid (M17.out.next hb)
  replace M18 := chid (M18.out.next hb)
  replace M19 := chid (M19.out.next hb)
  replace M20 := chid (M20.out.next hb)
  replace M21 := chid (M21.out.next hb)
  replace M22 := chid (M22.out.next hb)
  replace M23 := chid (M23.out.next hb)
  have M24 := chid m24
  clear m24 b hb B23
  go_wp2_with fail
  refine Calls.mono (cofTwo_c w.heap.size 107 _ B24.out.size) ?_
  rintro e w25 ⟨p25, rfl, m25, b⟩
  have hb : Below w24.heap.size w24 w25 := b
  have B25 := chid (cbelow_on B24.out hb B24.out.size)
  replace M1 := chid (M1.out.next hb)
  replace M2 := chid (M2.out.next hb)
  replace M3 := chid (M3.out.next hb)
  replace M4 := chid (M4.out.next hb)
  replace M5 := chid (M5.out.next hb)
  replace M6 := chid (M6.out.next hb)
  replace M7 := chid (M7.out.next hb)
  replace M8 := chid (M8.out.next hb)
  replace M9 := chid (M9.out.next hb)
  replace M10 := chid (M10.out.next hb)
  replace M11 := chid (M11.out.next hb)
  replace M12 := chid (M12.out.next hb)
  replace M13 := chid (M13.out.next hb)
  replace M14 := chid (M14.out.next hb)
  replace M15 := chid (M15.out.next hb)
  replace M16 := chid (M16.out.next hb)
  replace M17 := chid (M17.out.next hb)
  replace M18 := chid (M18.out.next hb)
  replace M19 := chid (M19.out.next hb)
  replace M20 := chid (M20.out.next hb)
  replace M21 := chid (M21.out.next hb)
  replace M22 := chid (M22.out.next hb)
  replace M23 := chid (M23.out.next hb)
  replace M24 := chid (M24.out.next hb)
  have M25 := chid m25
  clear m25 b hb B24
  go_wp2_with fail
  refine Calls.mono (cmakes_c w.heap.size 3 [] _ _ B25.out.size (ints_noneB _ _)) ?_
  rintro e w26 ⟨p26, q26, rfl, m26, b⟩
  have hb : Below w25.heap.size w25 w26 := b
  have B26 := chid (cbelow_on B25.out hb B25.out.size)
  replace M1 := chid (M1.out.next hb)
  replace M2 := chid (M2.out.next hb)
  replace M3 := chid (M3.out.next hb)
  replace M4 := chid (M4.out.next hb)
  replace M5 := chid (M5.out.next hb)
  replace M6 := chid (M6.out.next hb)
  replace M7 := chid (M7.out.next hb)
  replace M8 := chid (M8.out.next hb)
  replace M9 := chid (M9.out.next hb)
  replace M10 := chid (M10.out.next hb)
  replace M11 := chid (M11.out.next hb)
  replace M12 := chid (M12.out.next hb)
  replace M13 := chid (M13.out.next hb)
  replace M14 := chid (M14.out.next hb)
  replace M15 := chid (M15.out.next hb)
  replace M16 := chid (M16.out.next hb)
  replace M17 := chid (M17.out.next hb)
  replace M18 := chid (M18.out.next hb)
  replace M19 := chid (M19.out.next hb)
  replace M20 := chid (M20.out.next hb)
  replace M21 := chid (M21.out.next hb)
  replace M22 := chid (M22.out.next hb)
  replace M23 := chid (M23.out.next hb)
  replace M24 := chid (M24.out.next hb)
  replace M25 := chid (M25.out.next hb)
  have M26 := chid m26
  clear m26 b hb B25
  go_wp2_with fail
  refine Calls.mono (cmakes_c w.heap.size 3 [1] _ _ (Nat.le_trans B26.out.size (by simp)) (ints_newB w.heap.size w26 [1] 3 B26.out.size)) ?_
  rintro e w27 ⟨p27, q27, rfl, m27, b⟩
  have hb : Below w26.heap.size w26 w27 := cbelow_on ((Below.refl _ w26).alloc (Nat.le_refl _) _) b (by simp)
  have B27 := chid (cbelow_on B26.out hb B26.out.size)
  replace M1 := chid (M1.out.next hb)
  replace M2 := chid (M2.out.next hb)
  replace M3 := chid (M3.out.next hb)
  replace M4 := chid (M4.out.next hb)
  replace M5 := chid (M5.out.next hb)
  replace M6 := chid (M6.out.next hb)
  replace M7 := chid (M7.out.next hb)
  replace M8 := chid (M8.out.next hb)
  replace M9 := chid (M9.out.next hb)
  replace M10 := chid (M10.out.next hb)
  replace M11 := chid (M11.out.next hb)
  replace M12 := chid (M12.out.next hb)
  replace M13 := chid (M13.out.next hb)
  replace M14 := chid (M14.out.next hb)
  replace M15 := chid (M15.out.next hb)
  replace M16 := chid (M16.out.next hb)
  replace M17 := chid (M17.out.next hb)
  replace M18 := chid (M18.out.next hb)
  replace M19 := chid (M19.out.next hb)
  replace M20 := chid (M20.out.next hb)
  replace M21 := chid (M21.out.next hb)
  replace M22 := chid (M22.out.next hb)
  replace M23 := chid (M23.out.next hb)
  replace M24 := chid (M24.out.next hb)
  replace M25 := chid (M25.out.next hb)
  replace M26 := chid (M26.out.next hb)
  have M27 := chid m27
  clear m27 b hb B26
  go_wp2_with fail
  refine Calls.mono (cmakes_c w.heap.size 3 [1] _ _ (Nat.le_trans B27.out.size (by simp)) (ints_newB w.heap.size w27 [1] 3 B27.out.size)) ?_
  rintro e w28 ⟨p28, q28, rfl, m28, b⟩
  have hb : Below w27.heap.size w27 w28 := cbelow_on ((Below.refl _ w27).alloc (Nat.le_refl _) _) b (by simp)
  have B28 := chid (cbelow_on B27.out hb B27.out.size)
  replace M1 := chid (M1.out.next hb)
  replace M2 := chid (M2.out.next hb)
  replace M3 := chid (M3.out.next hb)
  replace M4 := chid (M4.out.next hb)
  replace M5 := chid (M5.out.next hb)
  replace M6 := chid (M6.out.next hb)
  replace M7 := chid (M7.out.next hb)
  replace M8 := chid (M8.out.next hb)
  replace M9 := chid (M9.out.next hb)
  replace M10 := chid (M10.out.next hb)
  replace M11 := chid (M11.out.next hb)
  replace M12 := chid (M12.out.next hb)
  replace M13 := chid (M13.out.next hb)
  replace M14 := chid (M14.out.next hb)
  replace M15 := chid (M15.out.next hb)
  replace M16 := chid (M16.out.next hb)
  replace M17 := chid (M17.out.next hb)
  replace M18 := chid (M18.out.next hb)
  replace M19 := chid (M19.out.next hb)
  replace M20 := chid (M20.out.next hb)
  replace M21 := chid (M21.out.next hb)
  replace M22 := chid (M22.out.next hb)
  replace M23 := chid (M23.out.next hb)
  replace M24 := chid (M24.out.next hb)
  replace M25 := chid (M25.out.next hb)
  replace M26 := chid (M26.out.next hb)
  replace M27 := chid (M27.out.next hb)
  have M28 := chid m28
  clear m28 b hb B27
  have X := Box.new w28 ([.nilFunc, .nilFunc, .nilFunc, .func (.func 73) #[] #[], mkV p5 q5, .func (.func 74) #[] #[], .func (.func 75) #[] #[], mkV p6 q6, .func (.func 74) #[] #[], .func (.func 76) #[] #[], mkV p7 q7, .func (.func 77) #[] #[], .func (.func 78) #[] #[], mkV p8 q8, .func (.func 79) #[] #[], .func (.func 80) #[] #[], mkV p9 q9, .func (.func 81) #[] #[], .func (.func 82) #[] #[], .func (.func 83) #[] #[], .func (.func 84) #[] #[], .func (.func 85) #[] #[], .func (.func 86) #[] #[], .func (.func 87) #[] #[], .func (.func 76) #[] #[], mkV p1 q1, oneV p10, .func (.func 76) #[] #[], mkV p11 q11, oneV p12, .func (.func 76) #[] #[], mkV p1 q1, oneV p13, .func (.func 76) #[] #[], mkV p1 q1, oneV p14, .func (.func 76) #[] #[], mkV p1 q1, oneV p15, .func (.func 94) #[] #[], mkV p1 q1, .func (.func 95) #[] #[], .func (.func 76) #[] #[], mkV p2 q2, twoV p16, .func (.func 76) #[] #[], mkV p2 q2, twoV p17, .func (.func 76) #[] #[], mkV p2 q2, twoV p18, .func (.func 76) #[] #[], mkV p2 q2, .func (.func 100) #[] #[], .func (.func 76) #[] #[], mkV p3 q3, twoV p19, .func (.func 76) #[] #[], mkV p3 q3, twoV p20, .func (.func 76) #[] #[], mkV p3 q3, twoV p21, .func (.func 76) #[] #[], mkV p3 q3, twoV p22, .func (.func 76) #[] #[], mkV p3 q3, twoV p23, .func (.func 76) #[] #[], mkV p2 q2, twoV p24, .func (.func 76) #[] #[], mkV p2 q2, twoV p25, .func (.func 76) #[] #[], mkV p4 q4, .func (.func 108) #[] #[], .func (.func 76) #[] #[], mkV p4 q4, .func (.func 109) #[] #[], .func (.func 76) #[] #[], .func (.func 110) #[] #[], .func (.func 111) #[] #[], .func (.func 76) #[] #[], .func (.func 112) #[] #[], .func (.func 113) #[] #[], .func (.func 76) #[] #[], mkV p26 q26, .func (.func 114) #[] #[], .func (.func 76) #[] #[], mkV p27 q27, .func (.func 115) #[] #[], .func (.func 76) #[] #[], mkV p28 q28, .func (.func 116) #[] #[], .func (.func 76) #[] #[], .func (.func 117) #[] #[], .func (.func 118) #[] #[]] : List Value) 120
  have ka := (Below.refl w28.heap.size w28).alloc (Nat.le_refl _) (.cells ([.nilFunc, .nilFunc, .nilFunc, .func (.func 73) #[] #[], mkV p5 q5, .func (.func 74) #[] #[], .func (.func 75) #[] #[], mkV p6 q6, .func (.func 74) #[] #[], .func (.func 76) #[] #[], mkV p7 q7, .func (.func 77) #[] #[], .func (.func 78) #[] #[], mkV p8 q8, .func (.func 79) #[] #[], .func (.func 80) #[] #[], mkV p9 q9, .func (.func 81) #[] #[], .func (.func 82) #[] #[], .func (.func 83) #[] #[], .func (.func 84) #[] #[], .func (.func 85) #[] #[], .func (.func 86) #[] #[], .func (.func 87) #[] #[], .func (.func 76) #[] #[], mkV p1 q1, oneV p10, .func (.func 76) #[] #[], mkV p11 q11, oneV p12, .func (.func 76) #[] #[], mkV p1 q1, oneV p13, .func (.func 76) #[] #[], mkV p1 q1, oneV p14, .func (.func 76) #[] #[], mkV p1 q1, oneV p15, .func (.func 94) #[] #[], mkV p1 q1, .func (.func 95) #[] #[], .func (.func 76) #[] #[], mkV p2 q2, twoV p16, .func (.func 76) #[] #[], mkV p2 q2, twoV p17, .func (.func 76) #[] #[], mkV p2 q2, twoV p18, .func (.func 76) #[] #[], mkV p2 q2, .func (.func 100) #[] #[], .func (.func 76) #[] #[], mkV p3 q3, twoV p19, .func (.func 76) #[] #[], mkV p3 q3, twoV p20, .func (.func 76) #[] #[], mkV p3 q3, twoV p21, .func (.func 76) #[] #[], mkV p3 q3, twoV p22, .func (.func 76) #[] #[], mkV p3 q3, twoV p23, .func (.func 76) #[] #[], mkV p2 q2, twoV p24, .func (.func 76) #[] #[], mkV p2 q2, twoV p25, .func (.func 76) #[] #[], mkV p4 q4, .func (.func 108) #[] #[], .func (.func 76) #[] #[], mkV p4 q4, .func (.func 109) #[] #[], .func (.func 76) #[] #[], .func (.func 110) #[] #[], .func (.func 111) #[] #[], .func (.func 76) #[] #[], .func (.func 112) #[] #[], .func (.func 113) #[] #[], .func (.func 76) #[] #[], mkV p26 q26, .func (.func 114) #[] #[], .func (.func 76) #[] #[], mkV p27 q27, .func (.func 115) #[] #[], .func (.func 76) #[] #[], mkV p28 q28, .func (.func 116) #[] #[], .func (.func 76) #[] #[], .func (.func 117) #[] #[], .func (.func 118) #[] #[]] : List Value).toArray 120)
  replace M1 := chid (M1.out.next ka)
  replace M2 := chid (M2.out.next ka)
  replace M3 := chid (M3.out.next ka)
  replace M4 := chid (M4.out.next ka)
  replace M5 := chid (M5.out.next ka)
  replace M6 := chid (M6.out.next ka)
  replace M7 := chid (M7.out.next ka)
  replace M8 := chid (M8.out.next ka)
  replace M9 := chid (M9.out.next ka)
  replace M10 := chid (M10.out.next ka)
  replace M11 := chid (M11.out.next ka)
  replace M12 := chid (M12.out.next ka)
  replace M13 := chid (M13.out.next ka)
  replace M14 := chid (M14.out.next ka)
  replace M15 := chid (M15.out.next ka)
  replace M16 := chid (M16.out.next ka)
  replace M17 := chid (M17.out.next ka)
  replace M18 := chid (M18.out.next ka)
  replace M19 := chid (M19.out.next ka)
  replace M20 := chid (M20.out.next ka)
  replace M21 := chid (M21.out.next ka)
  replace M22 := chid (M22.out.next ka)
  replace M23 := chid (M23.out.next ka)
  replace M24 := chid (M24.out.next ka)
  replace M25 := chid (M25.out.next ka)
  replace M26 := chid (M26.out.next ka)
  replace M27 := chid (M27.out.next ka)
  replace M28 := chid (M28.out.next ka)
  have HR : Hid (On w.heap.size (w28.alloc (.cells ([.nilFunc, .nilFunc, .nilFunc, .func (.func 73) #[] #[], mkV p5 q5, .func (.func 74) #[] #[], .func (.func 75) #[] #[], mkV p6 q6, .func (.func 74) #[] #[], .func (.func 76) #[] #[], mkV p7 q7, .func (.func 77) #[] #[], .func (.func 78) #[] #[], mkV p8 q8, .func (.func 79) #[] #[], .func (.func 80) #[] #[], mkV p9 q9, .func (.func 81) #[] #[], .func (.func 82) #[] #[], .func (.func 83) #[] #[], .func (.func 84) #[] #[], .func (.func 85) #[] #[], .func (.func 86) #[] #[], .func (.func 87) #[] #[], .func (.func 76) #[] #[], mkV p1 q1, oneV p10, .func (.func 76) #[] #[], mkV p11 q11, oneV p12, .func (.func 76) #[] #[], mkV p1 q1, oneV p13, .func (.func 76) #[] #[], mkV p1 q1, oneV p14, .func (.func 76) #[] #[], mkV p1 q1, oneV p15, .func (.func 94) #[] #[], mkV p1 q1, .func (.func 95) #[] #[], .func (.func 76) #[] #[], mkV p2 q2, twoV p16, .func (.func 76) #[] #[], mkV p2 q2, twoV p17, .func (.func 76) #[] #[], mkV p2 q2, twoV p18, .func (.func 76) #[] #[], mkV p2 q2, .func (.func 100) #[] #[], .func (.func 76) #[] #[], mkV p3 q3, twoV p19, .func (.func 76) #[] #[], mkV p3 q3, twoV p20, .func (.func 76) #[] #[], mkV p3 q3, twoV p21, .func (.func 76) #[] #[], mkV p3 q3, twoV p22, .func (.func 76) #[] #[], mkV p3 q3, twoV p23, .func (.func 76) #[] #[], mkV p2 q2, twoV p24, .func (.func 76) #[] #[], mkV p2 q2, twoV p25, .func (.func 76) #[] #[], mkV p4 q4, .func (.func 108) #[] #[], .func (.func 76) #[] #[], mkV p4 q4, .func (.func 109) #[] #[], .func (.func 76) #[] #[], .func (.func 110) #[] #[], .func (.func 111) #[] #[], .func (.func 76) #[] #[], .func (.func 112) #[] #[], .func (.func 113) #[] #[], .func (.func 76) #[] #[], mkV p26 q26, .func (.func 114) #[] #[], .func (.func 76) #[] #[], mkV p27 q27, .func (.func 115) #[] #[], .func (.func 76) #[] #[], mkV p28 q28, .func (.func 116) #[] #[], .func (.func 76) #[] #[], .func (.func 117) #[] #[], .func (.func 118) #[] #[]] : List Value).toArray 120)) (fun w => RowsAt w w28.heap.size)) := fun w'' hs hk => by
    have XC : ∀ j v, _ → w''.cell? ⟨w28.heap.size, j, none⟩ = some v := fun j v h => on_cell hk (X.cell j v h) (by show w.heap.size ≤ w28.heap.size; exact B28.out.size)
    exact ⟨(Nat.lt_of_lt_of_le X.lt hs), op_cases (show RowA _ _ 1 from ⟨_, _, XC 3 _ rfl, XC 4 _ rfl, XC 5 _ rfl, ⟨_, _, rfl, (M5.out w'' hs hk)⟩, rfl⟩) (show RowA _ _ 2 from ⟨_, _, XC 6 _ rfl, XC 7 _ rfl, XC 8 _ rfl, ⟨_, _, rfl, (M6.out w'' hs hk)⟩, rfl⟩) (show RowA _ _ 3 from ⟨_, _, XC 9 _ rfl, XC 10 _ rfl, XC 11 _ rfl, ⟨_, _, rfl, (M7.out w'' hs hk)⟩, rfl⟩) (show RowA _ _ 4 from ⟨_, _, XC 12 _ rfl, XC 13 _ rfl, XC 14 _ rfl, ⟨_, _, rfl, (M8.out w'' hs hk)⟩, rfl⟩) (show RowA _ _ 5 from ⟨_, _, XC 15 _ rfl, XC 16 _ rfl, XC 17 _ rfl, ⟨_, _, rfl, (M9.out w'' hs hk)⟩, rfl⟩) (show RowA _ _ 6 from ⟨_, _, XC 18 _ rfl, XC 19 _ rfl, XC 20 _ rfl, rfl, rfl⟩) (show RowA _ _ 7 from ⟨_, _, XC 21 _ rfl, XC 22 _ rfl, XC 23 _ rfl, rfl, rfl⟩) (show RowA _ _ 8 from ⟨_, _, XC 24 _ rfl, XC 25 _ rfl, XC 26 _ rfl, ⟨_, _, rfl, (M1.out w'' hs hk)⟩, ⟨_, rfl, (M10.out w'' hs hk)⟩⟩) (show RowA _ _ 9 from ⟨_, _, XC 27 _ rfl, XC 28 _ rfl, XC 29 _ rfl, ⟨_, _, rfl, (M11.out w'' hs hk)⟩, ⟨_, rfl, (M12.out w'' hs hk)⟩⟩) (show RowA _ _ 10 from ⟨_, _, XC 30 _ rfl, XC 31 _ rfl, XC 32 _ rfl, ⟨_, _, rfl, (M1.out w'' hs hk)⟩, ⟨_, rfl, (M13.out w'' hs hk)⟩⟩) (show RowA _ _ 11 from ⟨_, _, XC 33 _ rfl, XC 34 _ rfl, XC 35 _ rfl, ⟨_, _, rfl, (M1.out w'' hs hk)⟩, ⟨_, rfl, (M14.out w'' hs hk)⟩⟩) (show RowA _ _ 12 from ⟨_, _, XC 36 _ rfl, XC 37 _ rfl, XC 38 _ rfl, ⟨_, _, rfl, (M1.out w'' hs hk)⟩, ⟨_, rfl, (M15.out w'' hs hk)⟩⟩) (show RowA _ _ 13 from ⟨_, _, XC 39 _ rfl, XC 40 _ rfl, XC 41 _ rfl, ⟨_, _, rfl, (M1.out w'' hs hk)⟩, rfl⟩) (show RowA _ _ 14 from ⟨_, _, XC 42 _ rfl, XC 43 _ rfl, XC 44 _ rfl, ⟨_, _, rfl, (M2.out w'' hs hk)⟩, ⟨_, rfl, (M16.out w'' hs hk)⟩⟩) (show RowA _ _ 15 from ⟨_, _, XC 45 _ rfl, XC 46 _ rfl, XC 47 _ rfl, ⟨_, _, rfl, (M2.out w'' hs hk)⟩, ⟨_, rfl, (M17.out w'' hs hk)⟩⟩) (show RowA _ _ 16 from ⟨_, _, XC 48 _ rfl, XC 49 _ rfl, XC 50 _ rfl, ⟨_, _, rfl, (M2.out w'' hs hk)⟩, ⟨_, rfl, (M18.out w'' hs hk)⟩⟩) (show RowA _ _ 17 from ⟨_, _, XC 51 _ rfl, XC 52 _ rfl, XC 53 _ rfl, ⟨_, _, rfl, (M2.out w'' hs hk)⟩, rfl⟩) (show RowA _ _ 18 from ⟨_, _, XC 54 _ rfl, XC 55 _ rfl, XC 56 _ rfl, ⟨_, _, rfl, (M3.out w'' hs hk)⟩, ⟨_, rfl, (M19.out w'' hs hk)⟩⟩) (show RowA _ _ 19 from ⟨_, _, XC 57 _ rfl, XC 58 _ rfl, XC 59 _ rfl, ⟨_, _, rfl, (M3.out w'' hs hk)⟩, ⟨_, rfl, (M20.out w'' hs hk)⟩⟩) (show RowA _ _ 20 from ⟨_, _, XC 60 _ rfl, XC 61 _ rfl, XC 62 _ rfl, ⟨_, _, rfl, (M3.out w'' hs hk)⟩, ⟨_, rfl, (M21.out w'' hs hk)⟩⟩) (show RowA _ _ 21 from ⟨_, _, XC 63 _ rfl, XC 64 _ rfl, XC 65 _ rfl, ⟨_, _, rfl, (M3.out w'' hs hk)⟩, ⟨_, rfl, (M22.out w'' hs hk)⟩⟩) (show RowA _ _ 22 from ⟨_, _, XC 66 _ rfl, XC 67 _ rfl, XC 68 _ rfl, ⟨_, _, rfl, (M3.out w'' hs hk)⟩, ⟨_, rfl, (M23.out w'' hs hk)⟩⟩) (show RowA _ _ 23 from ⟨_, _, XC 69 _ rfl, XC 70 _ rfl, XC 71 _ rfl, ⟨_, _, rfl, (M2.out w'' hs hk)⟩, ⟨_, rfl, (M24.out w'' hs hk)⟩⟩) (show RowA _ _ 24 from ⟨_, _, XC 72 _ rfl, XC 73 _ rfl, XC 74 _ rfl, ⟨_, _, rfl, (M2.out w'' hs hk)⟩, ⟨_, rfl, (M25.out w'' hs hk)⟩⟩) (show RowA _ _ 25 from ⟨_, _, XC 75 _ rfl, XC 76 _ rfl, XC 77 _ rfl, ⟨_, _, rfl, (M4.out w'' hs hk)⟩, rfl⟩) (show RowA _ _ 26 from ⟨_, _, XC 78 _ rfl, XC 79 _ rfl, XC 80 _ rfl, ⟨_, _, rfl, (M4.out w'' hs hk)⟩, rfl⟩) (show RowA _ _ 27 from ⟨_, _, XC 81 _ rfl, XC 82 _ rfl, XC 83 _ rfl, rfl, rfl⟩) (show RowA _ _ 28 from ⟨_, _, XC 84 _ rfl, XC 85 _ rfl, XC 86 _ rfl, rfl, rfl⟩) (show RowA _ _ 29 from ⟨_, _, XC 87 _ rfl, XC 88 _ rfl, XC 89 _ rfl, ⟨_, _, rfl, (M26.out w'' hs hk)⟩, rfl⟩) (show RowA _ _ 30 from ⟨_, _, XC 90 _ rfl, XC 91 _ rfl, XC 92 _ rfl, ⟨_, _, rfl, (M27.out w'' hs hk)⟩, rfl⟩) (show RowA _ _ 31 from ⟨_, _, XC 93 _ rfl, XC 94 _ rfl, XC 95 _ rfl, ⟨_, _, rfl, (M28.out w'' hs hk)⟩, rfl⟩) (show RowA _ _ 32 from ⟨_, _, XC 96 _ rfl, XC 97 _ rfl, XC 98 _ rfl, rfl, rfl⟩)⟩
  have HB := chid (cbelow_on B28.out ka B28.out.size)
  clear X ka M1 M2 M3 M4 M5 M6 M7 M8 M9 M10 M11 M12 M13 M14 M15 M16 M17 M18 M19 M20 M21 M22 M23 M24 M25 M26 M27 M28 B28
  go_wp2_with fail
  go_ret
  exact ⟨_, rfl, HR.out, HB.out⟩
end Go.Proofs.YtigldebdljfnbaaGreatDoor
