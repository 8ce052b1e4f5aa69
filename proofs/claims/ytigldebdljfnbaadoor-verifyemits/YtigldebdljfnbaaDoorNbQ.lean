import Derived.Test.YtigldebdljfnbaaDoorMjB
import Derived.Test.YtigldebdljfnbaaDoorMhL
import Derived.Test.YtigldebdljfnbaaDoorMhN
namespace Go.Proofs.YtigldebdljfnbaaDoor
open Go.RowKit

theorem plord_cores (p : PlP) : plord p = ((coresP p).map cpord).flatten := by
  unfold plord coresP
  rw [List.map_append, List.flatten_append]
  congr 1
  · generalize p.gs = gs
    induction gs with
    | nil => rfl
    | cons g r ih => simp only [List.map_cons, List.flatten_cons, List.map_append, List.flatten_append, ih]; simp [twoOf, gord]
  · simp
theorem twos_len (gs : List (Co × Co)) : ((gs.map twoOf).flatten).length = 2 * gs.length := by
  induction gs with
  | nil => rfl
  | cons g r ih => simp only [List.map_cons, List.flatten_cons, List.length_append, List.length_cons, ih]; simp [twoOf]; omega
theorem cores_len (p : PlP) : (coresP p).length = 2 * p.gs.length + 1 := by
  unfold coresP
  rw [List.length_append, twos_len]
  rfl
def wantN (L i : Nat) : Int := if i % 2 = 0 ∧ i + 1 < L then 2 else 3
theorem two_at : ∀ (gs : List (Co × Co)) (rest : List Co) (j : Nat) (hj : j < gs.length), (((gs.map twoOf).flatten ++ rest)[2 * j]? = some gs[j].1) ∧ (((gs.map twoOf).flatten ++ rest)[2 * j + 1]? = some gs[j].2)
  | g :: r, rest, 0, _ => ⟨rfl, rfl⟩
  | g :: r, rest, j + 1, h => by
    have := two_at r rest j (by simpa using h)
    exact ⟨by rw [show 2 * (j + 1) = 2 * j + 1 + 1 by omega]; exact this.1, by rw [show 2 * (j + 1) + 1 = 2 * j + 1 + 1 + 1 by omega]; exact this.2⟩
theorem sorts_iff (p : PlP) : sortsB p = true ↔ ∀ i (h : i < (coresP p).length), soP p (coresP p)[i] = wantN (coresP p).length i := by
  have hl := cores_len p
  have hfin : (coresP p)[2 * p.gs.length]? = some p.fin := by
    unfold coresP
    rw [List.getElem?_append_right (by rw [twos_len]; omega), twos_len]
    simp
  have at2 := fun j hj => two_at p.gs [p.fin] j hj
  unfold sortsB
  rw [Bool.and_eq_true, List.all_eq_true]
  constructor
  · rintro ⟨hg, hf⟩ i hi
    rw [hl] at hi
    have hf2 := of_decide_eq_true hf
    by_cases hi2 : i = 2 * p.gs.length
    · subst hi2
      have e : (coresP p)[2 * p.gs.length] = p.fin := by
        rw [List.getElem?_eq_getElem (by omega)] at hfin
        exact Option.some.inj hfin
      rw [e, hf2, hl, wantN, if_neg (by omega)]
    · have hj : i / 2 < p.gs.length := by omega
      obtain ⟨a1, a2⟩ := at2 (i / 2) hj
      have hgg := hg _ (List.getElem_mem hj)
      rw [Bool.and_eq_true] at hgg
      have h1 := of_decide_eq_true hgg.1
      have h2 := of_decide_eq_true hgg.2
      rcases Nat.mod_two_eq_zero_or_one i with hm | hm
      · have ei : 2 * (i / 2) = i := by omega
        rw [ei] at a1
        have e : (coresP p)[i] = p.gs[i / 2].1 := by
          have a1' : (coresP p)[i]? = some p.gs[i / 2].1 := a1
          rw [List.getElem?_eq_getElem (by omega)] at a1'
          exact Option.some.inj a1'
        rw [e, h1, hl, wantN, if_pos (by omega)]
      · have ei : 2 * (i / 2) + 1 = i := by omega
        rw [ei] at a2
        have e : (coresP p)[i] = p.gs[i / 2].2 := by
          have a2' : (coresP p)[i]? = some p.gs[i / 2].2 := a2
          rw [List.getElem?_eq_getElem (by omega)] at a2'
          exact Option.some.inj a2'
        rw [e, h2, wantN, if_neg (by omega)]
  · intro h
    refine ⟨fun g hgm => ?_, ?_⟩
    · obtain ⟨j, hj, rfl⟩ := List.getElem_of_mem hgm
      obtain ⟨a1, a2⟩ := at2 j hj
      have h1 := h (2 * j) (by omega)
      have h2 := h (2 * j + 1) (by omega)
      have e1 : (coresP p)[2 * j] = p.gs[j].1 := by
        have a1' : (coresP p)[2 * j]? = some p.gs[j].1 := a1
        rw [List.getElem?_eq_getElem (by omega)] at a1'
        exact Option.some.inj a1'
      have e2 : (coresP p)[2 * j + 1] = p.gs[j].2 := by
        have a2' : (coresP p)[2 * j + 1]? = some p.gs[j].2 := a2
        rw [List.getElem?_eq_getElem (by omega)] at a2'
        exact Option.some.inj a2'
      rw [e1, hl, wantN, if_pos (by omega)] at h1
      rw [e2, wantN, if_neg (by omega)] at h2
      rw [Bool.and_eq_true]
      exact ⟨decide_eq_true h1, decide_eq_true h2⟩
    · have h1 := h (2 * p.gs.length) (by omega)
      have e : (coresP p)[2 * p.gs.length] = p.fin := by
        rw [List.getElem?_eq_getElem (by omega)] at hfin
        exact Option.some.inj hfin
      rw [e, hl, wantN, if_neg (by omega)] at h1
      exact decide_eq_true h1

theorem flC_setM : ∀ (xs : List (Co × Value)) (n : Nat) (_ : n < xs.length) (y : Co × Value), flC (xs.set n y) = ((((flC xs).set (n * 4) (.int .i64 y.1.op)).set (n * 4 + 1) (.int .i64 y.1.n)).set (n * 4 + 2) (.int .i64 y.1.m)).set (n * 4 + 3) y.2
  | x :: r, 0, _, y => by simp [flC]
  | x :: r, n + 1, h, y => by
    have ih := flC_setM r n (by simpa using h) y
    simp only [flC, List.set_cons_succ, List.map_cons, List.flatten_cons] at ih ⊢
    rw [ih]
    have e : ∀ (a : List Value) (b : List Value) (j : Nat) (v : Value), (a ++ b).set (a.length + j) v = a ++ b.set j v := fun a b j v => by
      rw [List.set_append_right _ _ (by omega)]; congr 2; omega
    have l4 : (coL x.1 x.2).length = 4 := rfl
    rw [show (n + 1) * 4 = (coL x.1 x.2).length + n * 4 by rw [l4]; omega, e, Nat.add_assoc, e, Nat.add_assoc, e, Nat.add_assoc, e]
def HeldMs (W w : World) (g : Nat) (s : List (Int × Co)) : Prop := ∃ xs : List (Co × Value), xs.length = 256 ∧ Box w g (flC xs) ∧ (∀ x, x ∈ xs → CSits W x.1 x.2) ∧
  ∀ n (h : n < xs.length), (s.lookup (n : Int) = none → xs[n].1.op = 0) ∧ ∀ c, s.lookup (n : Int) = some c → xs[n].1 = c ∧ c.op ≠ 0
theorem HeldMs.next {W w w' : World} {g : Nat} {s : List (Int × Co)} (h : HeldMs W w g s) (hb : Below w.heap.size w w') : HeldMs W w' g s := by
  obtain ⟨xs, h1, h2, h3, h4⟩ := h
  exact ⟨xs, h1, h2.next hb, h3, h4⟩
theorem HeldMs.lt {W w : World} {g : Nat} {s : List (Int × Co)} (h : HeldMs W w g s) : g < w.heap.size := by
  obtain ⟨xs, h1, h2, h3, h4⟩ := h
  exact h2.lt
def RMem (q : Co → Co → Bool) (W : World) (g : Nat) (l : List Co) (s : List (Int × Co)) (w : World) (e : Ending) (w' : World) : Prop :=
  e = .returned (.bool (crunV (memV q) l s).2) ∧ ((crunV (memV q) l s).2 = true → HeldMs W w' g (crunV (memV q) l s).1) ∧ Turn [g] w w'
def RMemC (q : Co → Co → Bool) (W : World) (g : Nat) (t : Co) : Prop := ∀ (s : List (Int × Co)) (v : Value) (w : World), HeldMs W w g s → Below W.heap.size W w → W.heap.size ≤ g → CSits W t v →
  Calls Tryd.prog 21 #[coV t v, .slice (some ⟨g, 0, none⟩) 256 256] w (RMem q W g (cpord t) s w)
set_option maxHeartbeats 4000000 in
set_option maxRecDepth 20000 in
theorem rmem_step (q : Co → Co → Bool) (hq : ∀ a b, q a b = true ↔ a = b) (W : World) (g : Nat) (t : Co) (hD : MemD t) (ih : ∀ x, x ∈ t.parts → RMemC q W g x) : RMemC q W g t := by
  intro s v w hH hb hg hs
  obtain ⟨op, tn, tm, ps⟩ := t
  have HH := chid hH
  have HBw := chid hb
  have HS := chid hs
  have HPa := chid (show CAt W v ps from hs.parts)
  obtain ⟨ad, cap, rfl, hc1, hc2⟩ := HPa.out.shape
  have HI := chid (show ∀ x, x ∈ ps → RMemC q W g x from ih)
  have gl := hH.lt
  obtain ⟨N, hN⟩ : ∃ N, Hid (N = ps.length) := ⟨_, rfl⟩
  rw [← hN.out] at hc1 HPa HS ⊢
  have A : ∀ o, Below w.heap.size w (w.alloc o) := fun o => (Below.refl _ _).alloc (Nat.le_refl _) _
  have Y0 := chid (Box.new w [.int .i64 op, .int .i64 tn, .int .i64 tm, .slice ad N cap] 30)
  have HA := chid A
  clear A hH hb hs ih
  show Calls Tryd.prog 21 #[.agg #[.int .i64 op, .int .i64 tn, .int .i64 tm, .slice ad N cap], .slice (some ⟨g, 0, none⟩) 256 256] w _
  by_cases h7 : op = 7
  · obtain ⟨hr, x, hps, hx0⟩ := hD h7
    dsimp only at h7 hr hps
    subst h7
    obtain ⟨xs, hxl, hbx, hcs, hlk⟩ := HH.out
    obtain ⟨n, rfl⟩ : ∃ n : Nat, tn = (n : Int) := ⟨tn.toNat, by omega⟩
    have hn : n < xs.length := by omega
    have hcell := fun j u h => hbx.cell (n * 4 + j) u (flC_at xs n hn j u h)
    obtain ⟨k1, k2⟩ := hlk n hn
    have hsx := hcs _ (List.getElem_mem hn)
    have HXS := chid (And.intro hxl (And.intro hbx (And.intro hcs hlk)))
    clear hlk hbx hcs
    generalize hxn : xs[n] = X at *
    obtain ⟨c, uv⟩ := X
    dsimp only at *
    obtain ⟨ca, cc, rfl, -, -⟩ := hsx.parts.shape
    subst hps
    obtain ⟨b, off, cap', hv, -, -, hbl, hx⟩ := HPa.out.open (by simp)
    simp only [Value.slice.injEq] at hv
    obtain ⟨rfl, -, rfl⟩ := hv
    obtain ⟨u, h6, hu⟩ := hx 0 (by simp)
    obtain ⟨au, cu, rfl, -, -⟩ := hu.parts.shape
    dsimp only [List.getElem_cons_zero] at h6 hu
    have HU := chid hu
    have HC := chid hsx
    have r0 : w.cell? ⟨g, n * 4, none⟩ = _ := hcell 0 _ rfl
    have r1 := hcell 1 _ rfl
    have r2 := hcell 2 _ rfl
    have r3 := hcell 3 _ rfl
    have y0 : w.cell? ⟨b, off, none⟩ = some (.int .i64 x.op) := by simpa using keepc HBw.out h6.c0
    have y1 : w.cell? ⟨b, off + 1, none⟩ = some (.int .i64 x.n) := by simpa using keepc HBw.out h6.c1
    have y2 : w.cell? ⟨b, off + 2, none⟩ = some (.int .i64 x.m) := by simpa using keepc HBw.out h6.c2
    have y3 : w.cell? ⟨b, off + 3, none⟩ = some (.slice au x.parts.length cu) := by simpa using keepc HBw.out h6.c3
    have bl : b < w.heap.size := Nat.lt_of_lt_of_le hbl HBw.out.size
    have HSm := chid (fun w' (hw' : Below w.heap.size w w') => crSame_c c x (.slice ca c.parts.length cc) (.slice au x.parts.length cu) w' (q c x) (hq c x) (CSits.next (CSits.next HC.out HBw.out) hw') (CSits.next (CSits.next HU.out HBw.out) hw'))
    have n1 : (n : Int) < 256 := by omega
    clear hcell hx h6 hu hsx hD
    obtain ⟨w4, hw4⟩ : ∃ w4, Hid (w4 = w.alloc (.cells #[.int .i64 7, .int .i64 (n : Int), .int .i64 tm, .slice (some ⟨b, off, none⟩) N cap] 30)) := ⟨_, rfl⟩
    have B4 : Hid (Below w.heap.size w w4) := by rw [hw4.out]; exact HA.out _
    have Y4 : Hid (Box w4 w.heap.size [.int .i64 7, .int .i64 (n : Int), .int .i64 tm, .slice (some ⟨b, off, none⟩) N cap]) := by rw [hw4.out]; exact Y0.out
    replace r0 := keepc B4.out r0
    replace r1 := keepc B4.out r1
    replace r2 := keepc B4.out r2
    replace r3 := keepc B4.out r3
    replace y0 := keepc B4.out y0
    replace y1 := keepc B4.out y1
    replace y2 := keepc B4.out y2
    replace y3 := keepc B4.out y3
    have p1 := Y4.out.cell 1 _ rfl
    have p3 := Y4.out.cell 3 _ rfl
    have hN1 : N = 1 := hN.out
    subst hN1
    obtain ⟨f, hf1, hf2⟩ := calm w4
    have HF1 := chid hf1
    have HF2 := chid hf2
    have p1' := fun n => keepc (hf1 n) p1
    have p3' := fun n => keepc (hf1 n) p3
    have r0' := fun n => keepc (hf1 n) r0
    have r1' := fun n => keepc (hf1 n) r1
    have r2' := fun n => keepc (hf1 n) r2
    have r3' := fun n => keepc (hf1 n) r3
    have y0' := fun n => keepc (hf1 n) y0
    have y1' := fun n => keepc (hf1 n) y1
    have y2' := fun n => keepc (hf1 n) y2
    have y3' := fun n => keepc (hf1 n) y3
    clear hf1 hf2 HH Y0
    -- what follows where the part is put into the list
    have PUT : Hid (∀ w6, Below w.heap.size w w6 → Box w6 w.heap.size [.int .i64 7, .int .i64 (n : Int), .int .i64 tm, .slice (some ⟨b, off, none⟩) 1 cap] → ((s.lookup (n : Int) = none) ∨ s.lookup (n : Int) = some x) → True) := fun _ _ _ _ => trivial
    clear PUT
    have hput : Hid (∀ w6, Below w.heap.size w w6 → (s.lookup (n : Int) = none ∨ s.lookup (n : Int) = some x) → HeldMs W ((((w6.setCell ⟨g, n * 4, none⟩ (.int .i64 x.op)).setCell ⟨g, n * 4 + 1, none⟩ (.int .i64 x.n)).setCell ⟨g, n * 4 + 2, none⟩ (.int .i64 x.m)).setCell ⟨g, n * 4 + 3, none⟩ (.slice au x.parts.length cu)) g (memV q s ⟨7, (n : Int), tm, [x]⟩).1) := fun w6 h6 hl => by
      obtain ⟨hxl, hbx, hcs, hlk⟩ := HXS.out
      have hlen := flC_len xs
      refine ⟨xs.set n (x, .slice au x.parts.length cu), by simpa using hxl, ?_, fun y hy => ?_, fun m hm => ?_⟩
      · rw [flC_setM xs n hn]
        exact ((((hbx.next h6).set (n * 4) (by omega) _).set (n * 4 + 1) (by simp; omega) _).set (n * 4 + 2) (by simp; omega) _).set (n * 4 + 3) (by simp; omega) _
      · rcases List.mem_or_eq_of_mem_set hy with h | h
        · exact hcs y h
        · rw [h]; exact HU.out
      · have hm' : m < xs.length := by simpa using hm
        have e3 : (memV q s ⟨7, (n : Int), tm, [x]⟩).1 = (match s.lookup (n : Int) with | none => (((n : Int), x) :: s) | some _ => s) := by
          unfold memV
          rw [if_pos rfl, if_pos hr]
          cases s.lookup (n : Int) <;> rfl
        rw [e3]
        by_cases hmn : m = n
        · subst hmn
          have e4 : (xs.set m (x, Value.slice au x.parts.length cu))[m] = (x, Value.slice au x.parts.length cu) := by simp
          rw [e4]
          rcases hl with hl | hl
          · rw [hl]
            refine ⟨fun h => ?_, fun c h => ?_⟩
            · simp [List.lookup] at h
            · simp [List.lookup] at h; subst h; exact ⟨rfl, hx0⟩
          · rw [hl]
            refine ⟨fun h => ?_, fun c h => ?_⟩
            · rw [hl] at h; cases h
            · rw [hl] at h; cases h; exact ⟨rfl, hx0⟩
        · have e4 : (xs.set n (x, Value.slice au x.parts.length cu))[m] = xs[m] := by rw [List.getElem_set_ne (fun e => hmn e.symm)]
          rw [e4]
          have hb : ((m : Int) == (n : Int)) = false := by simp; omega
          have hkm := hlk m hm'
          rcases hl with hl | hl
          · rw [hl]
            simpa [List.lookup, hb] using hkm
          · rw [hl]
            exact hkm
    by_cases hc0 : c.op = 0
    · have hc0' : (c.op != 0) = false := by simpa using hc0
      go_enter Tryd.func21, Tryd.ntmps21
      go_wp2_with fail
      rw [← hw4.out]
      clear hw4
      refine wp_region_calm f (by kernel_rfl) (by kernel_rfl) (HF2.out _ (Below.refl _ _).drew) ?_
      repeat (go_big_quiet_step (first | (go_at_call 35; with_reducible refine Calls.mono (HSm.out _ (cbelow_on B4.out (HF1.out _) B4.out.size)) ?_; rintro e W1 ⟨rfl, b5⟩; exact ⟨rfl, HF2.out _ (cbelow_on (HF1.out _) b5 (HF1.out _).size)⟩)))
      refine wpQuiet_nil ?_
      intro w6 hw6
      obtain ⟨n6, rfl⟩ := hw6
      have B46 := chid (HF1.out n6)
      have B6 := chid (cbelow_on B4.out (HF1.out n6) B4.out.size)
      have Y6 := chid (Y4.out.next B46.out)
      clear p1' p3' r0' r1' r2' r3' y0' y1' y2' y3'
      generalize f n6 = w6 at *
      have Z6 := Y6.out
      replace p1 := Z6.cell 1 _ rfl
      replace p3 := Z6.cell 3 _ rfl
      have z6l := Z6.lt
      have v0 := keepc B46.out y0
      have v1 := keepc B46.out y1
      have v2 := keepc B46.out y2
      have v3 := keepc B46.out y3
      have G6 := HXS.out.2.1.next B6.out
      have g6l := G6.lt
      have hxl6 : (flC xs).length = 1024 := by rw [flC_len]; have := HXS.out.1; omega
      have q0 := G6.free (n * 4) (by omega)
      have q1 := G6.free (n * 4 + 1) (by omega)
      have q2 := G6.free (n * 4 + 2) (by omega)
      have q3 := G6.free (n * 4 + 3) (by omega)
      have t0 := keepc B46.out r0
      have t1 := keepc B46.out r1
      have t2 := keepc B46.out r2
      have t3 := keepc B46.out r3
      have bl6 : b < w6.heap.size := Nat.lt_of_lt_of_le bl B6.out.size
      clear Z6 G6 hxl6
      have hl : Hid (s.lookup (n : Int) = none ∨ s.lookup (n : Int) = some x) := by
        cases hl : s.lookup (n : Int) with
        | none => exact .inl rfl
        | some d => exact absurd ((k2 d hl).1 ▸ hc0) (k2 d hl).2
      have hv2 : Hid ((memV q s ⟨7, (n : Int), tm, [x]⟩).2 = true) := by
        show _ = _
        unfold memV
        rw [if_pos rfl, if_pos hr]
        rcases hl.out with h | h
        · rw [h]
        · rw [h]; exact (hq x x).2 rfl
      go_wp2_with fail
      go_region
      have HE : Hid (crunV (memV q) (cpord ⟨7, (n : Int), tm, [x]⟩) s = crunV (memV q) ([x].map cpord).flatten (memV q s ⟨7, (n : Int), tm, [x]⟩).1) := by
        show _ = _
        rw [cpord_eq, crunV, if_pos hv2.out]
      have HH1 := chid ((hput.out w6 B6.out hl.out).next (Below.refl _ _).drew)
      have TT : Turn [g] w6 (((((w6.setCell ⟨g, n * 4, none⟩ (.int .i64 x.op)).setCell ⟨g, n * 4 + 1, none⟩ (.int .i64 x.n)).setCell ⟨g, n * 4 + 2, none⟩ (.int .i64 x.m)).setCell ⟨g, n * 4 + 3, none⟩ (.slice au x.parts.length cu)).drew) := (cturn_one (cturn_one (cturn_one (cturn_set _ _ _ _) (cturn_set _ _ _ _)) (cturn_set _ _ _ _)) (cturn_set _ _ _ _)).andBelow (Below.refl _ _).drew
      have HT1 := chid ((Turn.of_below (S := [g]) B6.out).trans TT (fun _ hi => .inl hi))
      have Y1 := chid (Y6.out.turn TT (by simp; omega))
      clear TT hput HSm hl hv2 p1 p3 v0 v1 v2 v3 q0 q1 q2 q3 t0 t1 t2 t3 r0 r1 r2 r3 y0 y1 y2 y3 Y6 Y4 B46 B6 z6l g6l bl6 k1 k2 HF1 HF2 HXS
      generalize ((((w6.setCell _ _).setCell _ _).setCell _ _).setCell _ _).drew = W1 at *
      generalize (memV q s ⟨7, (n : Int), tm, [x]⟩).1 = s1 at *
      go_wp2_with fail
      -- HT1 : Turn [g] w W1, HH1 : HeldMs W W1 g s1, Y1 : Box W1 w.heap.size ..
      go_loopw [5] (fun i wr => ∃ k : Nat, i = .int .i64 (k : Nat) ∧ k ≤ 1 ∧ Hid ((crunV (memV q) (([x].take k).map cpord).flatten s1).2 = true) ∧ Hid (HeldMs W wr g (crunV (memV q) (([x].take k).map cpord).flatten s1).1) ∧ Hid (Turn [g] W1 wr)) (fun i _ => match i with | .int _ p => ((1 : Int) - p).toNat | _ => 0)
      case atStart => exact ⟨0, rfl, by omega, chid rfl, HH1.out, Turn.refl _ _⟩
      case round =>
        obtain ⟨k, rfl, hk, HK, HHk, HTk⟩ := hrel
        have HTw := chid (cturn_one HT1.out HTk.out)
        have Yk := Y1.out.turn HTk.out (by simp; omega)
        have z3 := Yk.cell 3 _ rfl
        have zl := Yk.lt
        have HBr := chid (cbelow_turn HBw.out HTw.out (fun b hm => by simp at hm; omega))
        by_cases hlt : k < 1
        · have hlt' : (k : Int) < 1 := by omega
          have hl1 : k < [x].length := by simpa using hlt
          obtain ⟨b, off, cap', hv, -, -, hbl, hx⟩ := HPa.out.open (by omega)
          simp only [Value.slice.injEq, Option.some.injEq, Addr.mk.injEq, and_true] at hv
          obtain ⟨⟨rfl, rfl⟩, -, rfl⟩ := hv
          obtain ⟨u, h6, hu⟩ := hx k hl1
          have y0 := keepc HBr.out h6.c0
          have y1 := keepc HBr.out h6.c1
          have y2 := keepc HBr.out h6.c2
          have y3 := keepc HBr.out h6.c3
          have lbr : b < wr.heap.size := Nat.lt_of_lt_of_le hbl HBr.out.size
          have HS2 : Hid (crunV (memV q) (([x].take (k + 1)).map cpord).flatten s1 = crunV (memV q) (cpord [x][k]) (crunV (memV q) (([x].take k).map cpord).flatten s1).1) := by
            show _ = _
            rw [cflat_take [x] k hl1, crunV_append, if_pos HK.out]
          have HQ2 : Hid ((crunV (memV q) (cpord [x][k]) (crunV (memV q) (([x].take k).map cpord).flatten s1).1).2 = false → (crunV (memV q) ([x].map cpord).flatten s1).2 = false) := fun h => by
            rw [cflat_split [x] k hl1, crunV_append, if_pos HK.out, crunV_append, if_neg (by rw [h]; simp)]
          have HCl := chid (HI.out _ (List.getElem_mem hl1) (crunV (memV q) (([x].take k).map cpord).flatten s1).1 u)
          obtain ⟨au, cu, rfl, -, -⟩ := hu.parts.shape
          have HU := chid hu
          clear hx h6 hu
          generalize ([x] : List Co)[k] = xx at *
          clear hl1
          obtain ⟨xk, xn, xm, xps⟩ := xx
          dsimp only at *
          generalize xps.length = L at *
          unfold RMem at HCl
          generalize crunV (memV q) (cpord ⟨xk, xn, xm, xps⟩) (crunV (memV q) (([x].take k).map cpord).flatten s1).1 = qq at *
          go_wp2_with fail
          refine Calls.mono (HCl.out wr HHk.out HBr.out hg HU.out) ?_
          rintro e w1 ⟨rfl, hh, t2⟩
          have HT2 := chid (cturn_one HTk.out t2)
          have HT2w := chid (cturn_one HTw.out t2)
          have Hh := chid hh
          clear hh t2 y0 y1 y2 y3 z3 zl Yk HCl
          obtain ⟨qs, qb⟩ := qq
          cases qb with
          | false =>
            have hP : Hid (RMem q W g (cpord ⟨7, (n : Int), tm, [x]⟩) s w (.returned (.bool false)) w1) := by
              have e2 : (crunV (memV q) (cpord ⟨7, (n : Int), tm, [x]⟩) s).2 = false := by rw [HE.out]; exact HQ2.out rfl
              refine ⟨by rw [e2], fun h => ?_, HT2w.out⟩
              rw [e2] at h
              cases h
            clear HQ2 HS2
            simp only []
            go_wp2_with fail
            go_ret
            exact hP.out
          | true =>
            have H3 : Hid ((crunV (memV q) (([x].take (k + 1)).map cpord).flatten s1).2 = true) := by show _ = _; rw [HS2.out]
            have H4 : Hid (HeldMs W w1 g (crunV (memV q) (([x].take (k + 1)).map cpord).flatten s1).1) := by rw [HS2.out]; exact Hh.out rfl
            clear HQ2 HS2 Hh
            simp only []
            go_wp2_with fail
            go_roundw
            case rel => exact ⟨k + 1, by go_num, by omega, H3.out, H4.out, HT2.out⟩
            case measure => simp; omega
        · have hlt' : ¬ (k : Int) < 1 := by omega
          have hkN : k = 1 := by omega
          have e1 : [x].take k = [x] := by rw [hkN]; rfl
          rw [e1] at HK HHk
          have hP : Hid (RMem q W g (cpord ⟨7, (n : Int), tm, [x]⟩) s w (.returned (.bool true)) wr) := by
            have e2 : crunV (memV q) (cpord ⟨7, (n : Int), tm, [x]⟩) s = crunV (memV q) ([x].map cpord).flatten s1 := HE.out
            refine ⟨by rw [e2, HK.out], fun _ => by rw [e2]; exact HHk.out, HTw.out⟩
          go_wp2_with fail
          go_ret
          exact hP.out
    · have hc0' : (c.op != 0) = true := by simpa using hc0
      have hls : s.lookup (n : Int) = some c := by
        cases hl : s.lookup (n : Int) with
        | none => exact absurd (k1 hl) hc0
        | some d => rw [(k2 d hl).1]
      go_enter Tryd.func21, Tryd.ntmps21
      go_wp2_with fail
      rw [← hw4.out]
      clear hw4
      refine wp_region_calm f (by kernel_rfl) (by kernel_rfl) (HF2.out _ (Below.refl _ _).drew) ?_
      repeat (go_big_quiet_step (first | (go_at_call 35; with_reducible refine Calls.mono (HSm.out _ (cbelow_on B4.out (HF1.out _) B4.out.size)) ?_; rintro e W1 ⟨rfl, b5⟩; exact ⟨rfl, HF2.out _ (cbelow_on (HF1.out _) b5 (HF1.out _).size)⟩)))
      refine wpQuiet_nil ?_
      intro w6 hw6
      obtain ⟨n6, rfl⟩ := hw6
      have B46 := chid (HF1.out n6)
      have B6 := chid (cbelow_on B4.out (HF1.out n6) B4.out.size)
      have Y6 := chid (Y4.out.next B46.out)
      clear p1' p3' r0' r1' r2' r3' y0' y1' y2' y3'
      generalize f n6 = w6 at *
      cases hqx : q c x with
      | false =>
        have hP : Hid (RMem q W g (cpord ⟨7, (n : Int), tm, [x]⟩) s w (.returned (.bool false)) w6) := by
          have e0 : (memV q s ⟨7, (n : Int), tm, [x]⟩).2 = false := by
            unfold memV
            rw [if_pos rfl, if_pos hr, hls]
            exact hqx
          have e2 : (crunV (memV q) (cpord ⟨7, (n : Int), tm, [x]⟩) s).2 = false := by
            rw [cpord_eq, crunV, if_neg (by rw [e0]; simp)]
          refine ⟨by rw [e2], fun h => ?_, Turn.of_below B6.out⟩
          rw [e2] at h
          cases h
        go_wp2_with fail
        go_ret
        exact hP.out
      | true =>
        have hcx : c = x := (hq c x).1 hqx
        have Z6 := Y6.out
        replace p1 := Z6.cell 1 _ rfl
        replace p3 := Z6.cell 3 _ rfl
        have z6l := Z6.lt
        have v0 := keepc B46.out y0
        have v1 := keepc B46.out y1
        have v2 := keepc B46.out y2
        have v3 := keepc B46.out y3
        have G6 := HXS.out.2.1.next B6.out
        have g6l := G6.lt
        have hxl6 : (flC xs).length = 1024 := by rw [flC_len]; have := HXS.out.1; omega
        have q0 := G6.free (n * 4) (by omega)
        have q1 := G6.free (n * 4 + 1) (by omega)
        have q2 := G6.free (n * 4 + 2) (by omega)
        have q3 := G6.free (n * 4 + 3) (by omega)
        have t0 := keepc B46.out r0
        have t1 := keepc B46.out r1
        have t2 := keepc B46.out r2
        have t3 := keepc B46.out r3
        have bl6 : b < w6.heap.size := Nat.lt_of_lt_of_le bl B6.out.size
        clear Z6 G6 hxl6
        have hl : Hid (s.lookup (n : Int) = none ∨ s.lookup (n : Int) = some x) := .inr (by rw [hls, hcx])
        have hv2 : Hid ((memV q s ⟨7, (n : Int), tm, [x]⟩).2 = true) := by
          show _ = _
          unfold memV
          rw [if_pos rfl, if_pos hr, hls]
          exact hqx
        clear hcx hqx hls hc0 hc0'
        go_wp2_with fail
        go_region
        have HE : Hid (crunV (memV q) (cpord ⟨7, (n : Int), tm, [x]⟩) s = crunV (memV q) ([x].map cpord).flatten (memV q s ⟨7, (n : Int), tm, [x]⟩).1) := by
          show _ = _
          rw [cpord_eq, crunV, if_pos hv2.out]
        have HH1 := chid ((hput.out w6 B6.out hl.out).next (Below.refl _ _).drew)
        have TT : Turn [g] w6 (((((w6.setCell ⟨g, n * 4, none⟩ (.int .i64 x.op)).setCell ⟨g, n * 4 + 1, none⟩ (.int .i64 x.n)).setCell ⟨g, n * 4 + 2, none⟩ (.int .i64 x.m)).setCell ⟨g, n * 4 + 3, none⟩ (.slice au x.parts.length cu)).drew) := (cturn_one (cturn_one (cturn_one (cturn_set _ _ _ _) (cturn_set _ _ _ _)) (cturn_set _ _ _ _)) (cturn_set _ _ _ _)).andBelow (Below.refl _ _).drew
        have HT1 := chid ((Turn.of_below (S := [g]) B6.out).trans TT (fun _ hi => .inl hi))
        have Y1 := chid (Y6.out.turn TT (by simp; omega))
        clear TT hput HSm hl hv2 p1 p3 v0 v1 v2 v3 q0 q1 q2 q3 t0 t1 t2 t3 r0 r1 r2 r3 y0 y1 y2 y3 Y6 Y4 B46 B6 z6l g6l bl6 k1 k2 HF1 HF2 HXS
        generalize ((((w6.setCell _ _).setCell _ _).setCell _ _).setCell _ _).drew = W1 at *
        generalize (memV q s ⟨7, (n : Int), tm, [x]⟩).1 = s1 at *
        go_wp2_with fail
        -- HT1 : Turn [g] w W1, HH1 : HeldMs W W1 g s1, Y1 : Box W1 w.heap.size ..
        go_loopw [5] (fun i wr => ∃ k : Nat, i = .int .i64 (k : Nat) ∧ k ≤ 1 ∧ Hid ((crunV (memV q) (([x].take k).map cpord).flatten s1).2 = true) ∧ Hid (HeldMs W wr g (crunV (memV q) (([x].take k).map cpord).flatten s1).1) ∧ Hid (Turn [g] W1 wr)) (fun i _ => match i with | .int _ p => ((1 : Int) - p).toNat | _ => 0)
        case atStart => exact ⟨0, rfl, by omega, chid rfl, HH1.out, Turn.refl _ _⟩
        case round =>
          obtain ⟨k, rfl, hk, HK, HHk, HTk⟩ := hrel
          have HTw := chid (cturn_one HT1.out HTk.out)
          have Yk := Y1.out.turn HTk.out (by simp; omega)
          have z3 := Yk.cell 3 _ rfl
          have zl := Yk.lt
          have HBr := chid (cbelow_turn HBw.out HTw.out (fun b hm => by simp at hm; omega))
          by_cases hlt : k < 1
          · have hlt' : (k : Int) < 1 := by omega
            have hl1 : k < [x].length := by simpa using hlt
            obtain ⟨b, off, cap', hv, -, -, hbl, hx⟩ := HPa.out.open (by omega)
            simp only [Value.slice.injEq, Option.some.injEq, Addr.mk.injEq, and_true] at hv
            obtain ⟨⟨rfl, rfl⟩, -, rfl⟩ := hv
            obtain ⟨u, h6, hu⟩ := hx k hl1
            have y0 := keepc HBr.out h6.c0
            have y1 := keepc HBr.out h6.c1
            have y2 := keepc HBr.out h6.c2
            have y3 := keepc HBr.out h6.c3
            have lbr : b < wr.heap.size := Nat.lt_of_lt_of_le hbl HBr.out.size
            have HS2 : Hid (crunV (memV q) (([x].take (k + 1)).map cpord).flatten s1 = crunV (memV q) (cpord [x][k]) (crunV (memV q) (([x].take k).map cpord).flatten s1).1) := by
              show _ = _
              rw [cflat_take [x] k hl1, crunV_append, if_pos HK.out]
            have HQ2 : Hid ((crunV (memV q) (cpord [x][k]) (crunV (memV q) (([x].take k).map cpord).flatten s1).1).2 = false → (crunV (memV q) ([x].map cpord).flatten s1).2 = false) := fun h => by
              rw [cflat_split [x] k hl1, crunV_append, if_pos HK.out, crunV_append, if_neg (by rw [h]; simp)]
            have HCl := chid (HI.out _ (List.getElem_mem hl1) (crunV (memV q) (([x].take k).map cpord).flatten s1).1 u)
            obtain ⟨au, cu, rfl, -, -⟩ := hu.parts.shape
            have HU := chid hu
            clear hx h6 hu
            generalize ([x] : List Co)[k] = xx at *
            clear hl1
            obtain ⟨xk, xn, xm, xps⟩ := xx
            dsimp only at *
            generalize xps.length = L at *
            unfold RMem at HCl
            generalize crunV (memV q) (cpord ⟨xk, xn, xm, xps⟩) (crunV (memV q) (([x].take k).map cpord).flatten s1).1 = qq at *
            go_wp2_with fail
            refine Calls.mono (HCl.out wr HHk.out HBr.out hg HU.out) ?_
            rintro e w1 ⟨rfl, hh, t2⟩
            have HT2 := chid (cturn_one HTk.out t2)
            have HT2w := chid (cturn_one HTw.out t2)
            have Hh := chid hh
            clear hh t2 y0 y1 y2 y3 z3 zl Yk HCl
            obtain ⟨qs, qb⟩ := qq
            cases qb with
            | false =>
              have hP : Hid (RMem q W g (cpord ⟨7, (n : Int), tm, [x]⟩) s w (.returned (.bool false)) w1) := by
                have e2 : (crunV (memV q) (cpord ⟨7, (n : Int), tm, [x]⟩) s).2 = false := by rw [HE.out]; exact HQ2.out rfl
                refine ⟨by rw [e2], fun h => ?_, HT2w.out⟩
                rw [e2] at h
                cases h
              clear HQ2 HS2
              simp only []
              go_wp2_with fail
              go_ret
              exact hP.out
            | true =>
              have H3 : Hid ((crunV (memV q) (([x].take (k + 1)).map cpord).flatten s1).2 = true) := by show _ = _; rw [HS2.out]
              have H4 : Hid (HeldMs W w1 g (crunV (memV q) (([x].take (k + 1)).map cpord).flatten s1).1) := by rw [HS2.out]; exact Hh.out rfl
              clear HQ2 HS2 Hh
              simp only []
              go_wp2_with fail
              go_roundw
              case rel => exact ⟨k + 1, by go_num, by omega, H3.out, H4.out, HT2.out⟩
              case measure => simp; omega
          · have hlt' : ¬ (k : Int) < 1 := by omega
            have hkN : k = 1 := by omega
            have e1 : [x].take k = [x] := by rw [hkN]; rfl
            rw [e1] at HK HHk
            have hP : Hid (RMem q W g (cpord ⟨7, (n : Int), tm, [x]⟩) s w (.returned (.bool true)) wr) := by
              have e2 : crunV (memV q) (cpord ⟨7, (n : Int), tm, [x]⟩) s = crunV (memV q) ([x].map cpord).flatten s1 := HE.out
              refine ⟨by rw [e2, HK.out], fun _ => by rw [e2]; exact HHk.out, HTw.out⟩
            go_wp2_with fail
            go_ret
            exact hP.out
  · have h7' : (op == 7) = false := by simpa using h7
    clear hD
    go_enter Tryd.func21, Tryd.ntmps21
    go_wp2_with fail
    obtain ⟨s1, hs1⟩ : ∃ s1, Hid (s1 = s) := ⟨_, rfl⟩
    have HE : Hid (crunV (memV q) (cpord ⟨op, tn, tm, ps⟩) s = crunV (memV q) (ps.map cpord).flatten s1) := by
      show _ = _
      rw [cpord_eq, crunV]
      have e0 : memV q s ⟨op, tn, tm, ps⟩ = (s, true) := if_neg h7
      rw [e0, if_pos rfl, hs1.out]
    have HH1 : Hid (HeldMs W (w.alloc (.cells #[.int .i64 op, .int .i64 tn, .int .i64 tm, .slice ad N cap] 30)) g s1) := by rw [hs1.out]; exact HH.out.next (HA.out _)
    have HT1 : Hid (Turn [g] w (w.alloc (.cells #[.int .i64 op, .int .i64 tn, .int .i64 tm, .slice ad N cap] 30))) := Turn.of_below (HA.out _)
    have Y1 := Y0
    clear Y0 hs1 h7 h7'
    generalize w.alloc _ = W1 at *
    -- HT1 : Turn [g] w W1, HH1 : HeldMs W W1 g s1, Y1 : Box W1 w.heap.size ..
    go_loopw [5] (fun i wr => ∃ k : Nat, i = .int .i64 (k : Nat) ∧ k ≤ N ∧ Hid ((crunV (memV q) ((ps.take k).map cpord).flatten s1).2 = true) ∧ Hid (HeldMs W wr g (crunV (memV q) ((ps.take k).map cpord).flatten s1).1) ∧ Hid (Turn [g] W1 wr)) (fun i _ => match i with | .int _ p => ((N : Int) - p).toNat | _ => 0)
    case atStart => exact ⟨0, rfl, by omega, chid rfl, HH1.out, Turn.refl _ _⟩
    case round =>
      obtain ⟨k, rfl, hk, HK, HHk, HTk⟩ := hrel
      have HTw := chid (cturn_one HT1.out HTk.out)
      have Yk := Y1.out.turn HTk.out (by simp; omega)
      have z3 := Yk.cell 3 _ rfl
      have zl := Yk.lt
      have HBr := chid (cbelow_turn HBw.out HTw.out (fun b hm => by simp at hm; omega))
      by_cases hlt : k < N
      · have hlt' : (k : Int) < (N : Int) := by omega
        have hl1 : k < ps.length := by rw [← hN.out]; exact hlt
        obtain ⟨b, off, cap', hv, -, -, hbl, hx⟩ := HPa.out.open (by omega)
        simp only [Value.slice.injEq] at hv
        obtain ⟨rfl, -, rfl⟩ := hv
        obtain ⟨u, h6, hu⟩ := hx k hl1
        have y0 := keepc HBr.out h6.c0
        have y1 := keepc HBr.out h6.c1
        have y2 := keepc HBr.out h6.c2
        have y3 := keepc HBr.out h6.c3
        have lbr : b < wr.heap.size := Nat.lt_of_lt_of_le hbl HBr.out.size
        have HS2 : Hid (crunV (memV q) ((ps.take (k + 1)).map cpord).flatten s1 = crunV (memV q) (cpord ps[k]) (crunV (memV q) ((ps.take k).map cpord).flatten s1).1) := by
          show _ = _
          rw [cflat_take ps k hl1, crunV_append, if_pos HK.out]
        have HQ2 : Hid ((crunV (memV q) (cpord ps[k]) (crunV (memV q) ((ps.take k).map cpord).flatten s1).1).2 = false → (crunV (memV q) (ps.map cpord).flatten s1).2 = false) := fun h => by
          rw [cflat_split ps k hl1, crunV_append, if_pos HK.out, crunV_append, if_neg (by rw [h]; simp)]
        have HCl := chid (HI.out _ (List.getElem_mem hl1) (crunV (memV q) ((ps.take k).map cpord).flatten s1).1 u)
        obtain ⟨au, cu, rfl, -, -⟩ := hu.parts.shape
        have HU := chid hu
        clear hx h6 hu
        generalize ps[k] = x at *
        clear hl1
        obtain ⟨xk, xn, xm, xps⟩ := x
        dsimp only at *
        generalize xps.length = L at *
        unfold RMem at HCl
        generalize crunV (memV q) (cpord ⟨xk, xn, xm, xps⟩) (crunV (memV q) ((ps.take k).map cpord).flatten s1).1 = qq at *
        go_wp2_with fail
        refine Calls.mono (HCl.out wr HHk.out HBr.out hg HU.out) ?_
        rintro e w1 ⟨rfl, hh, t2⟩
        have HT2 := chid (cturn_one HTk.out t2)
        have HT2w := chid (cturn_one HTw.out t2)
        have Hh := chid hh
        clear hh t2 y0 y1 y2 y3 z3 zl Yk HCl
        obtain ⟨qs, qb⟩ := qq
        cases qb with
        | false =>
          have hP : Hid (RMem q W g (cpord ⟨op, tn, tm, ps⟩) s w (.returned (.bool false)) w1) := by
            have e2 : (crunV (memV q) (cpord ⟨op, tn, tm, ps⟩) s).2 = false := by rw [HE.out]; exact HQ2.out rfl
            refine ⟨by rw [e2], fun h => ?_, HT2w.out⟩
            rw [e2] at h
            cases h
          clear HQ2 HS2
          simp only []
          go_wp2_with fail
          go_ret
          exact hP.out
        | true =>
          have H3 : Hid ((crunV (memV q) ((ps.take (k + 1)).map cpord).flatten s1).2 = true) := by show _ = _; rw [HS2.out]
          have H4 : Hid (HeldMs W w1 g (crunV (memV q) ((ps.take (k + 1)).map cpord).flatten s1).1) := by rw [HS2.out]; exact Hh.out rfl
          clear HQ2 HS2 Hh
          simp only []
          go_wp2_with fail
          go_roundw
          case rel => exact ⟨k + 1, by go_num, by omega, H3.out, H4.out, HT2.out⟩
          case measure => simp; omega
      · have hlt' : ¬ (k : Int) < (N : Int) := by omega
        have hkN : k = N := by omega
        have e1 : ps.take k = ps := by rw [hkN, hN.out]; exact List.take_length
        rw [e1] at HK HHk
        have hP : Hid (RMem q W g (cpord ⟨op, tn, tm, ps⟩) s w (.returned (.bool true)) wr) := by
          have e2 : crunV (memV q) (cpord ⟨op, tn, tm, ps⟩) s = crunV (memV q) (ps.map cpord).flatten s1 := HE.out
          refine ⟨by rw [e2, HK.out], fun _ => by rw [e2]; exact HHk.out, HTw.out⟩
        go_wp2_with fail
        go_ret
        exact hP.out
theorem rmem_c (q : Co → Co → Bool) (hq : ∀ a b, q a b = true ↔ a = b) (W : World) (g : Nat) (t : Co) : (∀ x, x ∈ cpord t → MemD x) → RMemC q W g t := by
  induction t using Co.ind with
  | h t ih => exact fun hD => rmem_step q hq W g t (hD t (cpord_self t)) (fun x hx => ih x hx (fun y hy => hD y (cpord_part hx hy)))

end Go.Proofs.YtigldebdljfnbaaDoor
