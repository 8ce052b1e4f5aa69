import Derived.Test.YtaombbbblgfgdaaGreatDoorMgM
import Derived.Test.YtaombbbblgfgdaaGreatDoorCoH
import Derived.Test.YtaombbbblgfgdaaGreatDoorMgT
import Derived.Test.YtaombbbblgfgdaaGreatDoorMgZ
namespace Go.Proofs.YtaombbbblgfgdaaGreatDoor
open Go.RowKit

theorem ccnt_snd : ∀ (l : List Co) (s : Nat), s ≤ 4096 → (crunV ccntV l s).2 = decide (s + l.length ≤ 4096)
  | [], s, h => by simp [crunV, h]
  | t :: r, s, h => by
    rw [crunV]
    by_cases hs : s + 1 ≤ 4096
    · rw [if_pos (by simp [ccntV, hs])]
      have := ccnt_snd r (s + 1) hs
      show (crunV ccntV r (s + 1)).2 = _
      rw [this, List.length_cons]; congr 2; omega
    · rw [if_neg (by simp [ccntV, hs])]
      show false = _
      rw [List.length_cons]; exact (decide_eq_false (by omega)).symm
/-- What is left. -/
def FewR (W : World) (g : Nat) (s : Nat) (F : List Nat) (w : World) : Prop := F = [g] ∧ Box w g [.int .i64 (4096 - (s : Int))] ∧ W.heap.size ≤ g
theorem few_call (W : World) (g s : Nat) (F : List Nat) (t : Co) (v : Value) (w : World) (hG : s ≤ 4096) (hR : FewR W g s F w) (hs : CSits W t v) : Calls Tryz.prog 123 (#[coV t v] ++ #[.pointer (some ⟨g, 0, none⟩)]) w (CVPost (FewR W g) (ccntV s t) F w) := by
  obtain ⟨rfl, hb, hW⟩ := hR
  obtain ⟨ad, cap, rfl, -, -⟩ := hs.parts.shape
  have c0 := hb.cell 0 _ rfl
  have f0 := hb.free 0 (by simp)
  have l0 := hb.lt
  have HB := chid hb
  obtain ⟨S, hS⟩ : ∃ S : Int, Hid (S = 4096 - (s : Int)) := ⟨_, rfl⟩
  rw [← hS.out] at c0
  have ng : g ≠ w.heap.size := by omega
  have hi1 : 0 ≤ S := by have := hS.out; omega
  have hi2 : S ≤ 4096 := by have := hS.out; omega
  clear hs hb
  have hP : Hid (∀ o, CVPost (FewR W g) (ccntV s t) [g] w (.returned (.bool (decide (1 ≤ S)))) ((w.setCell ⟨g, 0, none⟩ (.int .i64 (S - 1))).alloc o)) := fun o => by
    have hd : decide (1 ≤ S) = decide (s + 1 ≤ 4096) := decide_eq_decide.2 (by have := hS.out; omega)
    refine ⟨by rw [hd]; rfl, [g], ⟨rfl, ?_, hW⟩, ?_, fun b hm => .inl hm⟩
    · have := (HB.out.set 0 (by simp) (.int .i64 (S - 1))).next ((Below.refl _ _).alloc (Nat.le_refl _) o)
      have e1 : (4096 - ((ccntV s t).1 : Int)) = S - 1 := by show (4096 - ((s + 1 : Nat) : Int)) = _; have := hS.out; omega
      rw [e1]
      exact this
    · exact (Turn.set w ⟨g, 0, none⟩ _ (by simp)).andBelow ((Below.refl _ _).alloc (Nat.le_refl _) o)
  clear hG
  show Calls Tryz.prog 123 #[coV t (.slice ad t.parts.length cap), .pointer (some ⟨g, 0, none⟩)] w _
  go_enter Tryz.func123, Tryz.ntmps123
  go_wp2_with fail
  go_ret
  exact hP.out _
theorem few_vis (W : World) (g : Nat) : GVis W (FewR W g) ccntV (fun s => s ≤ 4096) (fun _ => True) 123 #[.pointer (some ⟨g, 0, none⟩)] where
  next := fun s F w w' ⟨a, b, c⟩ hb => ⟨a, b.next hb, c⟩
  lt := fun s F w ⟨a, b, c⟩ k hk => by
    subst a
    simp at hk
    subst hk
    exact ⟨c, b.lt⟩
  good := fun s t hs hb => by simp [ccntV] at hb; simpa [ccntV] using hb
  call := fun s F t v w _ hG hR _ hs => few_call W g s F t v w hG hR hs
theorem ent_few : Ent 123 := by intro args W; kernel_rfl
/-- The shapes of a plan's lists. -/
theorem PlAt.shapes {w : World} {p : PlP} {v : PlV} (h : PlAt w p v) : ∃ a1 c1 a2 c2 a3 c3 a4 c4 a5 c5, v = ⟨.slice a1 p.mets.length c1, .slice a2 p.wins.length c2, .slice a3 p.crons.length c3, .slice a4 p.gs.length c4, .slice a5 p.fin.parts.length c5⟩ ∧ p.mets.length ≤ 9223372036854775807 ∧ p.wins.length ≤ 9223372036854775807 ∧ p.crons.length ≤ 9223372036854775807 ∧ p.gs.length ≤ 9223372036854775807 := by
  obtain ⟨a1, c1, e1, u1, t1⟩ := RowsK.shape h.me
  obtain ⟨a2, c2, e2, u2, t2⟩ := RowsK.shape h.wi
  obtain ⟨a3, c3, e3, u3, t3⟩ := RowsK.shape h.cr
  obtain ⟨a4, c4, e4, u4, t4⟩ := h.gs.shape
  obtain ⟨a5, c5, e5, u5, t5⟩ := h.fi.parts.shape
  obtain ⟨me, wi, cr, gs, fi⟩ := v
  dsimp only at *
  exact ⟨a1, c1, a2, c2, a3, c3, a4, c4, a5, c5, by rw [e1, e2, e3, e4, e5], by omega, by omega, by omega, by omega⟩
set_option maxHeartbeats 1000000 in
theorem fewNodes_c (p : PlP) (v : PlV) (w : World) (hs : PlAt w p v) : Calls Tryz.prog 48 #[plV p v] w fun e w' => e = .returned (.bool (fewB p)) ∧ Below w.heap.size w w' := by
  have A : ∀ o o', Below w.heap.size w ((w.alloc o).alloc o') := fun o o' => ((Below.refl _ _).alloc (Nat.le_refl _) _).alloc (by simp) _
  have HW := chid (fun (o : Obj) (ty : TypeId) => gplan_c ent_few (few_vis w (w.heap.size + 1)) p v (fun _ _ => trivial) 0 [w.heap.size + 1] ((w.alloc o).alloc (.cells #[.int .i64 4096] ty)) (by omega) ⟨rfl, by simpa using Box.new (w.alloc o) [.int .i64 4096] ty, by omega⟩ (A _ _) hs)
  obtain ⟨a1, c1, a2, c2, a3, c3, a4, c4, a5, c5, rfl, -⟩ := hs.shapes
  have HE : Hid ((crunV ccntV (plord p) 0).2 = fewB p) := by
    show _ = _
    rw [ccnt_snd _ 0 (by omega), Nat.zero_add]
    rfl
  have HA := chid A
  clear hs A
  generalize fewB p = B at *
  go_enter Tryz.func48, Tryz.ntmps48
  go_wp2_with fail
  refine Calls.mono (HW.out _ _) ?_
  rintro e w1 ⟨he, F', -, t1, -⟩
  rw [HE.out] at he
  subst he
  have B1 : Hid (Below w.heap.size w w1) := (HA.out _ _).trans (t1.below (fun k hk => by simp at hk; omega) (by simp; omega))
  clear t1 HW
  go_wp2_with fail
  go_ret
  exact ⟨rfl, B1.out⟩

/-- Distinct numbers below n are at most n. -/
theorem nodup_len : ∀ (n : Nat) (l : List Int), l.Nodup → (∀ x, x ∈ l → 0 ≤ x ∧ x < (n : Int)) → l.length ≤ n
  | 0, [], _, _ => Nat.le_refl _
  | 0, x :: _, _, h => by have := h x (by simp); omega
  | n + 1, l, hd, h => by
    by_cases hm : (n : Int) ∈ l
    · have h1 := nodup_len n (l.erase (n : Int)) (hd.erase _) (fun x hx => by
        have hx2 := (hd.mem_erase_iff).1 hx
        have := h x hx2.2
        have hne := hx2.1
        omega)
      have h2 := List.length_erase_of_mem hm
      omega
    · have h1 := nodup_len n l hd (fun x hx => by
        have := h x hx
        have hne : x ≠ (n : Int) := fun e => hm (e ▸ hx)
        omega)
      omega
/-- What is held has distinct numbers below 256. -/
def MemG (s : List (Int × Co)) : Prop := (s.map (·.1)).Nodup ∧ ∀ x, x ∈ s → 0 ≤ x.1 ∧ x.1 < 256
theorem MemG.len {s : List (Int × Co)} (h : MemG s) : s.length ≤ 256 := by
  have := nodup_len 256 (s.map (·.1)) h.1 (fun x hx => by
    obtain ⟨y, hy, rfl⟩ := List.mem_map.1 hx
    exact h.2 y hy)
  simpa using this
theorem lookup_none_mem {s : List (Int × Co)} {n : Int} (h : s.lookup n = none) : n ∉ s.map (·.1) := by
  induction s with
  | nil => simp
  | cons x r ih =>
    obtain ⟨k, c⟩ := x
    simp only [List.lookup] at h
    cases hb : n == k with
    | true => rw [hb] at h; cases h
    | false =>
      rw [hb] at h
      have hne : n ≠ k := by simpa using hb
      simp only [List.map_cons, List.mem_cons, not_or]
      exact ⟨hne, ih h⟩
theorem memG_good (q : Co → Co → Bool) (s : List (Int × Co)) (t : Co) (h : MemG s) (_ : (memV q s t).2 = true) : MemG (memV q s t).1 := by
  unfold memV
  by_cases h7 : t.op = 7
  · rw [if_pos h7]
    by_cases hr : 0 ≤ t.n ∧ t.n < 256
    · rw [if_pos hr]
      cases hl : s.lookup t.n with
      | none =>
        refine ⟨?_, fun x hx => ?_⟩
        · show ((t.n, _) :: s |>.map (·.1)).Nodup
          rw [List.map_cons]
          exact List.nodup_cons.2 ⟨lookup_none_mem hl, h.1⟩
        · rcases List.mem_cons.1 hx with rfl | hx
          · exact hr
          · exact h.2 x hx
      | some c => exact h
    · rw [if_neg hr]; exact h
  · rw [if_neg h7]; exact h
/-- What a node must be like that a plan's memos are looked at. -/
def MemD (t : Co) : Prop := t.op = 7 → (0 ≤ t.n ∧ t.n < 256) ∧ ∃ x, t.parts = [x] ∧ x.op ≠ 0
/-- The map of the memos' parts. -/
def MemR (W : World) (g mb : Nat) (s : List (Int × Co)) (F : List Nat) (w : World) : Prop :=
  F = [mb] ∧ Box w g [.map (some mb)] ∧ W.heap.size ≤ mb ∧ g ≠ mb ∧ ∃ l : List (Int × Co × Value), s = l.map (fun x => (x.1, x.2.1)) ∧ MpAt 2 w mb (l.map (fun x => (x.1, coV x.2.1 x.2.2))) ∧ ∀ x, x ∈ l → CSits W x.2.1 x.2.2
theorem lookup_map {α β γ : Type} [BEq γ] (f : α → β) (l : List (γ × α)) (n : γ) : (l.map (fun x => (x.1, f x.2))).lookup n = (l.lookup n).map f := by
  induction l with
  | nil => rfl
  | cons x r ih =>
    obtain ⟨k, c⟩ := x
    simp only [List.map_cons, List.lookup]
    cases n == k <;> simp [ih]
theorem lookup_mem {α γ : Type} [BEq γ] [LawfulBEq γ] {l : List (γ × α)} {n : γ} {a : α} (h : l.lookup n = some a) : (n, a) ∈ l := by
  induction l with
  | nil => cases h
  | cons x r ih =>
    obtain ⟨k, c⟩ := x
    simp only [List.lookup] at h
    cases hb : n == k with
    | true => rw [hb] at h; cases h; rw [eq_of_beq hb]; simp
    | false => rw [hb] at h; exact List.mem_cons_of_mem _ (ih h)
theorem mp_zero (w : World) : (zeroValue 30).run Tryz.prog w = .ok (coV ⟨0, 0, 0, []⟩ (.slice none 0 0)) w := by kernel_rfl
set_option maxHeartbeats 1000000 in
theorem mem_call (q : Co → Co → Bool) (hq : ∀ a b, q a b = true ↔ a = b) (W : World) (g mb : Nat) (s : List (Int × Co)) (F : List Nat) (t : Co) (v : Value) (w : World) (hD : MemD t) (hG : MemG s) (hR : MemR W g mb s F w) (hb : Below W.heap.size W w) (hs : CSits W t v) : Calls Tryz.prog 55 (#[coV t v] ++ #[.pointer (some ⟨g, 0, none⟩)]) w (CVPost (MemR W g mb) (memV q s t) F w) := by
  obtain ⟨rfl, hbx, hW, hgm, l, hl, hm, hls⟩ := hR
  have A : ∀ o, Below w.heap.size w (w.alloc o) := fun o => (Below.refl _ _).alloc (Nat.le_refl _) _
  obtain ⟨op, tn, tm, ps⟩ := t
  have hfit := hs.fit
  have HPa := chid (show CAt W v ps from hs.parts)
  obtain ⟨ad, cap, rfl, hc1, hc2⟩ := HPa.out.shape
  have c0 := hbx.cell 0 _ rfl
  have l0 := hbx.lt
  have HBx := chid hbx
  have HM := chid hm
  have HLS := chid hls
  show Calls Tryz.prog 55 #[.agg #[.int .i64 op, .int .i64 tn, .int .i64 tm, .slice ad ps.length cap], .pointer (some ⟨g, 0, none⟩)] w _
  by_cases h7 : op = 7
  case neg =>
    have e1 : memV q s ⟨op, tn, tm, ps⟩ = (s, true) := if_neg h7
    rw [e1]
    have hP : Hid (∀ o, CVPost (MemR W g mb) (s, true) [mb] w (.returned (.bool true)) (w.alloc o)) := fun o => ⟨rfl, [mb], ⟨rfl, HBx.out.next (A o), hW, hgm, l, hl, HM.out.next (A o), HLS.out⟩, Turn.of_below (A o), fun b hm => .inl hm⟩
    have h7' : (op != 7) = true := by simpa using h7
    clear hbx hm hls hs hD hG hb A e1 hfit
    generalize ps.length = L at *
    go_enter Tryz.func55, Tryz.ntmps55
    go_wp2_with fail
    go_ret
    exact hP.out _
  obtain ⟨hr, x, hps, hx0⟩ := hD h7
  dsimp only at h7 hr hps
  subst h7 hps
  obtain ⟨b, off, cap', hv, -, -, hbl, hx⟩ := HPa.out.open (by simp)
  simp only [Value.slice.injEq] at hv
  obtain ⟨rfl, -, rfl⟩ := hv
  obtain ⟨u, h4, hu⟩ := hx 0 (by simp)
  have e2 : memV q s ⟨7, tn, tm, [x]⟩ = (match s.lookup tn with | none => ((tn, x) :: s, true) | some c => (s, q c x)) := by
    unfold memV; rw [if_pos rfl, if_pos hr]; rfl
  have h4' := h4.keep (w' := w) (fun j => hb.cell (p := ⟨b, j, none⟩) hbl)
  have hbl' : b < w.heap.size := Nat.lt_of_lt_of_le hbl hb.size
  obtain ⟨d0, d1, d2, d3⟩ := h4'
  dsimp only [List.getElem_cons_zero, Nat.zero_mul, Nat.add_zero] at d0 d1 d2 d3 hu
  have hlk : s.lookup tn = (l.lookup tn).map (·.1) := by rw [hl]; exact lookup_map (fun y : Co × Value => y.1) l tn
  have hlm : (l.map (fun x => (x.1, coV x.2.1 x.2.2))).lookup tn = (l.lookup tn).map (fun y => coV y.1 y.2) := lookup_map (fun y : Co × Value => coV y.1 y.2) l tn
  have LK := fun w' (hb' : Below w.heap.size w w') => (HM.out.next hb').look (t := 98) Tryz.underlying2 Tryz.underlying98 (mp_zero w') hfit.n
  rw [hlm] at LK
  rw [e2, hlk]
  have LK1 := fun o => LK (w.alloc o) (A o)
  have HA := chid A
  have hxv := hu.parts.shape
  obtain ⟨ux, cx, rfl, -, -⟩ := hxv
  have HU := chid hu
  clear LK hlm hlk e2 HPa hbx hm hls hs hD hx h4 A hu
  have A2 : ∀ o o', Below w.heap.size w ((w.alloc o).alloc o') := fun o o' => ((Below.refl _ _).alloc (Nat.le_refl _) _).alloc (by simp) _
  have HA2 := chid A2
  clear A2
  replace d0 : w.cell? ⟨b, off, none⟩ = some (.int .i64 x.op) := by simpa using d0
  replace d1 : w.cell? ⟨b, off + 1, none⟩ = some (.int .i64 x.n) := by simpa using d1
  replace d2 : w.cell? ⟨b, off + 2, none⟩ = some (.int .i64 x.m) := by simpa using d2
  replace d3 : w.cell? ⟨b, off + 3, none⟩ = some (.slice ux x.parts.length cx) := by simpa using d3
  cases hq1 : l.lookup tn with
  | none =>
    rw [hq1] at LK1
    dsimp only [Option.map_none, Option.getD_none, Option.isSome_none] at LK1 ⊢
    have hlen : l.length ≤ 256 := by have := hG.len; rw [hl] at this; simpa using this
    obtain ⟨W5, h5r, h5m, h5t⟩ := (HM.out.next (HA2.out (.cells #[.int .i64 7, .int .i64 tn, .int .i64 tm, .slice (some ⟨b, off, none⟩) 1 cap] 30) (.cells #[.int .i64 0, .int .i64 0, .int .i64 0, .slice none 0 0] 30)).drew).store (t := 98) Tryz.underlying2 Tryz.underlying98 (by simp; omega) hfit.n (coV x (.slice ux x.parts.length cx))
    have HM5 := chid h5m
    have HT5 := chid h5t
    clear h5m h5t hlen hG hq1 hfit
    go_enter Tryz.func55, Tryz.ntmps55
    go_wp2_with fail
    go_region
    go_wp2_with fail
    go_ret
    have B2 := (HA2.out (.cells #[.int .i64 7, .int .i64 tn, .int .i64 tm, .slice (some ⟨b, off, none⟩) 1 cap] 30) (.cells #[.int .i64 0, .int .i64 0, .int .i64 0, .slice none 0 0] 30)).drew
    refine ⟨rfl, [mb], ⟨rfl, (HBx.out.next B2).turn HT5.out (by simp [hgm]), hW, hgm, (tn, x, .slice ux x.parts.length cx) :: l, by simp [hl], HM5.out, fun y hy => ?_⟩, (Turn.of_below (S := [mb]) B2).trans HT5.out (fun _ hi => .inl hi), fun b hm => .inl hm⟩
    rcases List.mem_cons.1 hy with rfl | hy
    · exact HU.out
    · exact HLS.out y hy
  | some y =>
    obtain ⟨c, yv⟩ := y
    rw [hq1] at LK1
    dsimp only [Option.map_some, Option.getD_some, Option.isSome_some] at LK1 ⊢
    have hy : CSits W c yv := HLS.out _ (lookup_mem hq1)
    obtain ⟨ya, yc, rfl, -, -⟩ := hy.parts.shape
    have HSm := chid (fun w' (hw' : Below w.heap.size w w') => cSame_c c x (.slice ya c.parts.length yc) (.slice ux x.parts.length cx) w' (q c x) (hq c x) (CSits.next (CSits.next hy hb) hw') (CSits.next (CSits.next HU.out hb) hw'))
    have hP : Hid (∀ w', Below w.heap.size w w' → CVPost (MemR W g mb) (s, q c x) [mb] w (.returned (.bool (q c x))) w') := fun w' hw' => ⟨rfl, [mb], ⟨rfl, HBx.out.next hw', hW, hgm, l, hl, HM.out.next hw', HLS.out⟩, Turn.of_below hw', fun b hm => .inl hm⟩
    generalize q c x = R at *
    clear hy hq1 hfit hG hq
    obtain ⟨yk, yn, ym, yps⟩ := c
    dsimp only at *
    generalize yps.length = L1 at *
    generalize hLx : x.parts.length = L2 at *
    go_enter Tryz.func55, Tryz.ntmps55
    go_wp2_with fail
    obtain ⟨Y0, Y1, Y2⟩ := two_boxes w 30 30 [.int .i64 7, .int .i64 tn, .int .i64 tm, .slice (some ⟨b, off, none⟩) 1 cap] [.int .i64 yk, .int .i64 yn, .int .i64 ym, .slice ya L1 yc]
    have B4 := chid Y2
    have p3 := Y0.cell 3 _ rfl
    have q0 := Y1.cell 0 _ rfl
    have q1 := Y1.cell 1 _ rfl
    have q2 := Y1.cell 2 _ rfl
    have q3 := Y1.cell 3 _ rfl
    replace d0 := keepc Y2 d0
    replace d1 := keepc Y2 d1
    replace d2 := keepc Y2 d2
    replace d3 := keepc Y2 d3
    clear Y0 Y1 Y2 LK1 c0 l0
    generalize hW4 : (w.alloc _).alloc _ = w4 at *
    clear hW4
    obtain ⟨f, hf1, hf2⟩ := calm w4
    have HF1 := chid hf1
    have HF2 := chid hf2
    have p3' := fun n => keepc (hf1 n) p3
    have q0' := fun n => keepc (hf1 n) q0
    have q1' := fun n => keepc (hf1 n) q1
    have q2' := fun n => keepc (hf1 n) q2
    have q3' := fun n => keepc (hf1 n) q3
    have d0' := fun n => keepc (hf1 n) d0
    have d1' := fun n => keepc (hf1 n) d1
    have d2' := fun n => keepc (hf1 n) d2
    have d3' := fun n => keepc (hf1 n) d3
    clear hf1 hf2 p3 q0 q1 q2 q3 d0 d1 d2 d3
    refine wp_region_calm f (by kernel_rfl) (by kernel_rfl) (HF2.out _ (Below.refl _ _).drew) ?_
    repeat (go_big_quiet_step (first | (go_at_call 56; with_reducible refine Calls.mono (HSm.out _ (cbelow_on B4.out (HF1.out _) B4.out.size)) ?_; rintro e W1 ⟨rfl, b5⟩; exact ⟨rfl, HF2.out _ (cbelow_on (HF1.out _) b5 (HF1.out _).size)⟩)))
    refine wpQuiet_nil ?_
    intro w6 hw6
    obtain ⟨n6, rfl⟩ := hw6
    have B6 := chid (cbelow_on B4.out (HF1.out n6) B4.out.size)
    clear p3' q0' q1' q2' q3' d0' d1' d2' d3'
    generalize f n6 = w6 at *
    go_wp2_with fail
    go_ret
    exact hP.out _ B6.out
theorem mem_vis (q : Co → Co → Bool) (hq : ∀ a b, q a b = true ↔ a = b) (W : World) (g mb : Nat) : GVis W (MemR W g mb) (memV q) MemG MemD 55 #[.pointer (some ⟨g, 0, none⟩)] where
  next := fun s F w w' ⟨a, b, c, d, l, e1, e2, e3⟩ hb => ⟨a, b.next hb, c, d, l, e1, e2.next hb, e3⟩
  lt := fun s F w ⟨a, b, c, d, l, e1, e2, e3⟩ k hk => by
    subst a
    simp at hk
    subst hk
    exact ⟨c, e2.lt⟩
  good := fun s t hs hb => memG_good q s t hs hb
  call := fun s F t v w hD hG hR hb hs => mem_call q hq W g mb s F t v w hD hG hR hb hs
theorem ent_mem : Ent 55 := by intro args W; kernel_rfl
set_option maxHeartbeats 1000000 in
theorem likeMemos_c (q : Co → Co → Bool) (hq : ∀ a b, q a b = true ↔ a = b) (p : PlP) (v : PlV) (w : World) (hD : ∀ x, x ∈ plord p → MemD x) (hs : PlAt w p v) : Calls Tryz.prog 27 #[plV p v] w fun e w' => e = .returned (.bool (alikeB q p)) ∧ Below w.heap.size w w' := by
  have HW := chid (fun g mb F w' hR hb => gplan_c ent_mem (mem_vis q hq w g mb) p v hD [] F w' ⟨by simp, fun x hx => by cases hx⟩ hR hb hs)
  obtain ⟨a1, c1, a2, c2, a3, c3, a4, c4, a5, c5, rfl, -⟩ := hs.shapes
  have HE : Hid ((crunV (memV q) (plord p) []).2 = alikeB q p) := chid rfl
  have hmk : ∀ W : World, (Instr.makeMap 98 none).run Tryz.prog W = .ok (.map (some W.heap.size)) (W.alloc (.map #[] 0)) := fun W => by kernel_rfl
  have A3 : ∀ o o' o'', Below w.heap.size w (((w.alloc o).alloc o').alloc o'') := fun o o' o'' => (((Below.refl _ _).alloc (Nat.le_refl _) _).alloc (by simp) _).alloc (by simp; omega) _
  have HR3 : Hid (∀ o, MemR w (w.heap.size + 1 + 1) (w.heap.size + 1) [] [w.heap.size + 1] (((w.alloc o).alloc (.map #[] 0)).alloc (.cells #[.map (some (w.heap.size + 1))] 98))) := fun o =>
    ⟨rfl, by simpa using Box.new ((w.alloc o).alloc (.map #[] 0)) [.map (some (w.heap.size + 1))] 98, by omega, by omega, [], rfl, (show MpAt 2 ((w.alloc o).alloc (.map #[] 0)) (w.heap.size + 1) [] by simpa using MpAt.made 2 (w.alloc o)).next ((Below.refl _ _).alloc (Nat.le_refl _) _), fun x hx => by cases hx⟩
  have HA3 := chid A3
  clear hs hD A3
  generalize alikeB q p = B at *
  go_enter Tryz.func27, Tryz.ntmps27
  go_wp2_with fail
  refine Calls.mono (HW.out _ _ _ _ (HR3.out _) (HA3.out _ _ _)) ?_
  rintro e w1 ⟨he, F', -, t1, -⟩
  rw [HE.out] at he
  subst he
  have B1 : Hid (Below w.heap.size w w1) := (HA3.out _ _ _).trans (t1.below (fun k hk => by simp at hk; omega) (by simp; omega))
  clear t1 HW
  go_wp2_with fail
  go_ret
  exact ⟨rfl, B1.out⟩
end Go.Proofs.YtaombbbblgfgdaaGreatDoor
