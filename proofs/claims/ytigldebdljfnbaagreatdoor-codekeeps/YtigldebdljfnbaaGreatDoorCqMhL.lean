import Derived.Test.YtigldebdljfnbaaGreatDoorCqMgM
import Derived.Test.YtigldebdljfnbaaGreatDoorCqMhN
import Derived.Test.YtigldebdljfnbaaGreatDoorCqMgP
import Derived.Test.YtigldebdljfnbaaGreatDoorCqMgC
import Derived.Test.YtigldebdljfnbaaGreatDoorCqMhB
namespace Go.Proofs.YtigldebdljfnbaaGreatDoor
open Go.RowKit

theorem nodup_len : ∀ (n : Nat) (l : List Int), l.Nodup → (∀ x, x ∈ l → 0 ≤ x ∧ x < (n : Int)) → l.length ≤ n
  | 0, [], _, _ => Nat.le_refl _
  | 0, x :: _, _, h => by have := h x (by simp); omega
  | n + 1, l, hd, h => by
    by_cases hm : (n : Int) ∈ l
    · have h1 := nodup_len n (l.erase (n : Int)) (hd.erase _) (fun x hx => by
        have hx2 := (hd.mem_erase_iff).1 hx
        have := h x hx2.2
        have hne := hx2.1
        omega)
      have h2 := List.length_erase_of_mem hm
      omega
    · have h1 := nodup_len n l hd (fun x hx => by
        have := h x hx
        have hne : x ≠ (n : Int) := fun e => hm (e ▸ hx)
        omega)
      omega
def MemG (s : List (Int × Co)) : Prop := (s.map (·.1)).Nodup ∧ ∀ x, x ∈ s → 0 ≤ x.1 ∧ x.1 < 256
theorem MemG.len {s : List (Int × Co)} (h : MemG s) : s.length ≤ 256 := by
  have := nodup_len 256 (s.map (·.1)) h.1 (fun x hx => by
    obtain ⟨y, hy, rfl⟩ := List.mem_map.1 hx
    exact h.2 y hy)
  simpa using this
theorem lookup_none_mem {s : List (Int × Co)} {n : Int} (h : s.lookup n = none) : n ∉ s.map (·.1) := by
  induction s with
  | nil => simp
  | cons x r ih =>
    obtain ⟨k, c⟩ := x
    simp only [List.lookup] at h
    cases hb : n == k with
    | true => rw [hb] at h; cases h
    | false =>
      rw [hb] at h
      have hne : n ≠ k := by simpa using hb
      simp only [List.map_cons, List.mem_cons, not_or]
      exact ⟨hne, ih h⟩
theorem memG_good (q : Co → Co → Bool) (s : List (Int × Co)) (t : Co) (h : MemG s) (_ : (memV q s t).2 = true) : MemG (memV q s t).1 := by
  unfold memV
  by_cases h7 : t.op = 7
  · rw [if_pos h7]
    by_cases hr : 0 ≤ t.n ∧ t.n < 256
    · rw [if_pos hr]
      cases hl : s.lookup t.n with
      | none =>
        refine ⟨?_, fun x hx => ?_⟩
        · show ((t.n, _) :: s |>.map (·.1)).Nodup
          rw [List.map_cons]
          exact List.nodup_cons.2 ⟨lookup_none_mem hl, h.1⟩
        · rcases List.mem_cons.1 hx with rfl | hx
          · exact hr
          · exact h.2 x hx
      | some c => exact h
    · rw [if_neg hr]; exact h
  · rw [if_neg h7]; exact h
def MemD (t : Co) : Prop := t.op = 7 → (0 ≤ t.n ∧ t.n < 256) ∧ ∃ x, t.parts = [x] ∧ x.op ≠ 0
def MemR (W : World) (g mb : Nat) (s : List (Int × Co)) (F : List Nat) (w : World) : Prop :=
  F = [mb] ∧ Box w g [.map (some mb)] ∧ W.heap.size ≤ mb ∧ g ≠ mb ∧ ∃ l : List (Int × Co × Value), s = l.map (fun x => (x.1, x.2.1)) ∧ MpAt 2 w mb (l.map (fun x => (x.1, coV x.2.1 x.2.2))) ∧ ∀ x, x ∈ l → CSits W x.2.1 x.2.2
theorem lookup_map {α β γ : Type} [BEq γ] (f : α → β) (l : List (γ × α)) (n : γ) : (l.map (fun x => (x.1, f x.2))).lookup n = (l.lookup n).map f := by
  induction l with
  | nil => rfl
  | cons x r ih =>
    obtain ⟨k, c⟩ := x
    simp only [List.map_cons, List.lookup]
    cases n == k <;> simp [ih]
theorem lookup_mem {α γ : Type} [BEq γ] [LawfulBEq γ] {l : List (γ × α)} {n : γ} {a : α} (h : l.lookup n = some a) : (n, a) ∈ l := by
  induction l with
  | nil => cases h
  | cons x r ih =>
    obtain ⟨k, c⟩ := x
    simp only [List.lookup] at h
    cases hb : n == k with
    | true => rw [hb] at h; cases h; rw [eq_of_beq hb]; simp
    | false => rw [hb] at h; exact List.mem_cons_of_mem _ (ih h)
theorem mp_zero (w : World) : (zeroValue 30).run Tryz.prog w = .ok (coV ⟨0, 0, 0, []⟩ (.slice none 0 0)) w := by kernel_rfl
set_option maxHeartbeats 1000000 in
theorem mem_call (q : Co → Co → Bool) (hq : ∀ a b, q a b = true ↔ a = b) (W : World) (g mb : Nat) (s : List (Int × Co)) (F : List Nat) (t : Co) (v : Value) (w : World) (hD : MemD t) (hG : MemG s) (hR : MemR W g mb s F w) (hb : Below W.heap.size W w) (hs : CSits W t v) : Calls Tryz.prog 50 (#[coV t v] ++ #[.pointer (some ⟨g, 0, none⟩)]) w (CVPost (MemR W g mb) (memV q s t) F w) := by
  obtain ⟨rfl, hbx, hW, hgm, l, hl, hm, hls⟩ := hR
  have A : ∀ o, Below w.heap.size w (w.alloc o) := fun o => (Below.refl _ _).alloc (Nat.le_refl _) _
  obtain ⟨op, tn, tm, ps⟩ := t
  have hfit := hs.fit
  have HPa := chid (show CAt W v ps from hs.parts)
  obtain ⟨ad, cap, rfl, hc1, hc2⟩ := HPa.out.shape
  have c0 := hbx.cell 0 _ rfl
  have l0 := hbx.lt
  have HBx := chid hbx
  have HM := chid hm
  have HLS := chid hls
  show Calls Tryz.prog 50 #[.agg #[.int .i64 op, .int .i64 tn, .int .i64 tm, .slice ad ps.length cap], .pointer (some ⟨g, 0, none⟩)] w _
  by_cases h7 : op = 7
  case neg =>
    have e1 : memV q s ⟨op, tn, tm, ps⟩ = (s, true) := if_neg h7
    rw [e1]
    have hP : Hid (∀ o, CVPost (MemR W g mb) (s, true) [mb] w (.returned (.bool true)) (w.alloc o)) := fun o => ⟨rfl, [mb], ⟨rfl, HBx.out.next (A o), hW, hgm, l, hl, HM.out.next (A o), HLS.out⟩, Turn.of_below (A o), fun b hm => .inl hm⟩
    have h7' : (op != 7) = true := by simpa using h7
    clear hbx hm hls hs hD hG hb A e1 hfit
    generalize ps.length = L at *
    go_enter Tryz.func50, Tryz.ntmps50
    go_wp2_with fail
    go_ret
    exact hP.out _
  obtain ⟨hr, x, hps, hx0⟩ := hD h7
  dsimp only at h7 hr hps
  subst h7 hps
  obtain ⟨b, off, cap', hv, -, -, hbl, hx⟩ := HPa.out.open (by simp)
  simp only [Value.slice.injEq] at hv
  obtain ⟨rfl, -, rfl⟩ := hv
  obtain ⟨u, h4, hu⟩ := hx 0 (by simp)
  have e2 : memV q s ⟨7, tn, tm, [x]⟩ = (match s.lookup tn with | none => ((tn, x) :: s, true) | some c => (s, q c x)) := by
    unfold memV; rw [if_pos rfl, if_pos hr]; rfl
  have h4' := h4.keep (w' := w) (fun j => hb.cell (p := ⟨b, j, none⟩) hbl)
  have hbl' : b < w.heap.size := Nat.lt_of_lt_of_le hbl hb.size
  obtain ⟨d0, d1, d2, d3⟩ := h4'
  dsimp only [List.getElem_cons_zero, Nat.zero_mul, Nat.add_zero] at d0 d1 d2 d3 hu
  have hlk : s.lookup tn = (l.lookup tn).map (·.1) := by rw [hl]; exact lookup_map (fun y : Co × Value => y.1) l tn
  have hlm : (l.map (fun x => (x.1, coV x.2.1 x.2.2))).lookup tn = (l.lookup tn).map (fun y => coV y.1 y.2) := lookup_map (fun y : Co × Value => coV y.1 y.2) l tn
  have LK := fun w' (hb' : Below w.heap.size w w') => (HM.out.next hb').look (t := 90) Tryz.underlying2 Tryz.underlying90 (mp_zero w') hfit.n
  rw [hlm] at LK
  rw [e2, hlk]
  have LK1 := fun o => LK (w.alloc o) (A o)
  have HA := chid A
  have hxv := hu.parts.shape
  obtain ⟨ux, cx, rfl, -, -⟩ := hxv
  have HU := chid hu
  clear LK hlm hlk e2 HPa hbx hm hls hs hD hx h4 A hu
  have A2 : ∀ o o', Below w.heap.size w ((w.alloc o).alloc o') := fun o o' => ((Below.refl _ _).alloc (Nat.le_refl _) _).alloc (by simp) _
  have HA2 := chid A2
  clear A2
  replace d0 : w.cell? ⟨b, off, none⟩ = some (.int .i64 x.op) := by simpa using d0
  replace d1 : w.cell? ⟨b, off + 1, none⟩ = some (.int .i64 x.n) := by simpa using d1
  replace d2 : w.cell? ⟨b, off + 2, none⟩ = some (.int .i64 x.m) := by simpa using d2
  replace d3 : w.cell? ⟨b, off + 3, none⟩ = some (.slice ux x.parts.length cx) := by simpa using d3
  cases hq1 : l.lookup tn with
  | none =>
    rw [hq1] at LK1
    dsimp only [Option.map_none, Option.getD_none, Option.isSome_none] at LK1 ⊢
    have hlen : l.length ≤ 256 := by have := hG.len; rw [hl] at this; simpa using this
    obtain ⟨W5, h5r, h5m, h5t⟩ := (HM.out.next (HA2.out (.cells #[.int .i64 7, .int .i64 tn, .int .i64 tm, .slice (some ⟨b, off, none⟩) 1 cap] 30) (.cells #[.int .i64 0, .int .i64 0, .int .i64 0, .slice none 0 0] 30)).drew).store (t := 90) Tryz.underlying2 Tryz.underlying90 (by simp; omega) hfit.n (coV x (.slice ux x.parts.length cx))
    have HM5 := chid h5m
    have HT5 := chid h5t
    clear h5m h5t hlen hG hq1 hfit
    go_enter Tryz.func50, Tryz.ntmps50
    go_wp2_with fail
    go_region
    go_wp2_with fail
    go_ret
    have B2 := (HA2.out (.cells #[.int .i64 7, .int .i64 tn, .int .i64 tm, .slice (some ⟨b, off, none⟩) 1 cap] 30) (.cells #[.int .i64 0, .int .i64 0, .int .i64 0, .slice none 0 0] 30)).drew
    refine ⟨rfl, [mb], ⟨rfl, (HBx.out.next B2).turn HT5.out (by simp [hgm]), hW, hgm, (tn, x, .slice ux x.parts.length cx) :: l, by simp [hl], HM5.out, fun y hy => ?_⟩, (Turn.of_below (S := [mb]) B2).trans HT5.out (fun _ hi => .inl hi), fun b hm => .inl hm⟩
    rcases List.mem_cons.1 hy with rfl | hy
    · exact HU.out
    · exact HLS.out y hy
  | some y =>
    obtain ⟨c, yv⟩ := y
    rw [hq1] at LK1
    dsimp only [Option.map_some, Option.getD_some, Option.isSome_some] at LK1 ⊢
    have hy : CSits W c yv := HLS.out _ (lookup_mem hq1)
    obtain ⟨ya, yc, rfl, -, -⟩ := hy.parts.shape
    have HSm := chid (fun w' (hw' : Below w.heap.size w w') => cSame_c c x (.slice ya c.parts.length yc) (.slice ux x.parts.length cx) w' (q c x) (hq c x) (CSits.next (CSits.next hy hb) hw') (CSits.next (CSits.next HU.out hb) hw'))
    have hP : Hid (∀ w', Below w.heap.size w w' → CVPost (MemR W g mb) (s, q c x) [mb] w (.returned (.bool (q c x))) w') := fun w' hw' => ⟨rfl, [mb], ⟨rfl, HBx.out.next hw', hW, hgm, l, hl, HM.out.next hw', HLS.out⟩, Turn.of_below hw', fun b hm => .inl hm⟩
    generalize q c x = R at *
    clear hy hq1 hfit hG hq
    obtain ⟨yk, yn, ym, yps⟩ := c
    dsimp only at *
    generalize yps.length = L1 at *
    generalize hLx : x.parts.length = L2 at *
    go_enter Tryz.func50, Tryz.ntmps50
    go_wp2_with fail
    obtain ⟨Y0, Y1, Y2⟩ := two_boxes w 30 30 [.int .i64 7, .int .i64 tn, .int .i64 tm, .slice (some ⟨b, off, none⟩) 1 cap] [.int .i64 yk, .int .i64 yn, .int .i64 ym, .slice ya L1 yc]
    have B4 := chid Y2
    have p3 := Y0.cell 3 _ rfl
    have q0 := Y1.cell 0 _ rfl
    have q1 := Y1.cell 1 _ rfl
    have q2 := Y1.cell 2 _ rfl
    have q3 := Y1.cell 3 _ rfl
    replace d0 := keepc Y2 d0
    replace d1 := keepc Y2 d1
    replace d2 := keepc Y2 d2
    replace d3 := keepc Y2 d3
    clear Y0 Y1 Y2 LK1 c0 l0
    generalize hW4 : (w.alloc _).alloc _ = w4 at *
    clear hW4
    obtain ⟨f, hf1, hf2⟩ := calm w4
    have HF1 := chid hf1
    have HF2 := chid hf2
    have p3' := fun n => keepc (hf1 n) p3
    have q0' := fun n => keepc (hf1 n) q0
    have q1' := fun n => keepc (hf1 n) q1
    have q2' := fun n => keepc (hf1 n) q2
    have q3' := fun n => keepc (hf1 n) q3
    have d0' := fun n => keepc (hf1 n) d0
    have d1' := fun n => keepc (hf1 n) d1
    have d2' := fun n => keepc (hf1 n) d2
    have d3' := fun n => keepc (hf1 n) d3
    clear hf1 hf2 p3 q0 q1 q2 q3 d0 d1 d2 d3
    refine wp_region_calm f (by kernel_rfl) (by kernel_rfl) (HF2.out _ (Below.refl _ _).drew) ?_
    repeat (go_big_quiet_step (first | (go_at_call 51; with_reducible refine Calls.mono (HSm.out _ (cbelow_on B4.out (HF1.out _) B4.out.size)) ?_; rintro e W1 ⟨rfl, b5⟩; exact ⟨rfl, HF2.out _ (cbelow_on (HF1.out _) b5 (HF1.out _).size)⟩)))
    refine wpQuiet_nil ?_
    intro w6 hw6
    obtain ⟨n6, rfl⟩ := hw6
    have B6 := chid (cbelow_on B4.out (HF1.out n6) B4.out.size)
    clear p3' q0' q1' q2' q3' d0' d1' d2' d3'
    generalize f n6 = w6 at *
    go_wp2_with fail
    go_ret
    exact hP.out _ B6.out
theorem mem_vis (q : Co → Co → Bool) (hq : ∀ a b, q a b = true ↔ a = b) (W : World) (g mb : Nat) : GVis W (MemR W g mb) (memV q) MemG MemD 50 #[.pointer (some ⟨g, 0, none⟩)] where
  next := fun s F w w' ⟨a, b, c, d, l, e1, e2, e3⟩ hb => ⟨a, b.next hb, c, d, l, e1, e2.next hb, e3⟩
  lt := fun s F w ⟨a, b, c, d, l, e1, e2, e3⟩ k hk => by
    subst a
    simp at hk
    subst hk
    exact ⟨c, e2.lt⟩
  good := fun s t hs hb => memG_good q s t hs hb
  call := fun s F t v w hD hG hR hb hs => mem_call q hq W g mb s F t v w hD hG hR hb hs
theorem ent_mem : Ent 50 := by intro args W; kernel_rfl
set_option maxHeartbeats 1000000 in
theorem likeMemos_c (q : Co → Co → Bool) (hq : ∀ a b, q a b = true ↔ a = b) (p : PlP) (v : PlV) (w : World) (hD : ∀ x, x ∈ plord p → MemD x) (hs : PlAt w p v) : Calls Tryz.prog 27 #[plV p v] w fun e w' => e = .returned (.bool (alikeB q p)) ∧ Below w.heap.size w w' := by
  have HW := chid (fun g mb F w' hR hb => gplan_c ent_mem (mem_vis q hq w g mb) p v hD [] F w' ⟨by simp, fun x hx => by cases hx⟩ hR hb hs)
  obtain ⟨a1, c1, a2, c2, a3, c3, a4, c4, a5, c5, rfl, -⟩ := hs.shapes
  have HE : Hid ((crunV (memV q) (plord p) []).2 = alikeB q p) := chid rfl
  have hmk : ∀ W : World, (Instr.makeMap 90 none).run Tryz.prog W = .ok (.map (some W.heap.size)) (W.alloc (.map #[] 0)) := fun W => by kernel_rfl
  have A3 : ∀ o o' o'', Below w.heap.size w (((w.alloc o).alloc o').alloc o'') := fun o o' o'' => (((Below.refl _ _).alloc (Nat.le_refl _) _).alloc (by simp) _).alloc (by simp; omega) _
  have HR3 : Hid (∀ o, MemR w (w.heap.size + 1 + 1) (w.heap.size + 1) [] [w.heap.size + 1] (((w.alloc o).alloc (.map #[] 0)).alloc (.cells #[.map (some (w.heap.size + 1))] 90))) := fun o =>
    ⟨rfl, by simpa using Box.new ((w.alloc o).alloc (.map #[] 0)) [.map (some (w.heap.size + 1))] 90, by omega, by omega, [], rfl, (show MpAt 2 ((w.alloc o).alloc (.map #[] 0)) (w.heap.size + 1) [] by simpa using MpAt.made 2 (w.alloc o)).next ((Below.refl _ _).alloc (Nat.le_refl _) _), fun x hx => by cases hx⟩
  have HA3 := chid A3
  clear hs hD A3
  generalize alikeB q p = B at *
  go_enter Tryz.func27, Tryz.ntmps27
  go_wp2_with fail
  refine Calls.mono (HW.out _ _ _ _ (HR3.out _) (HA3.out _ _ _)) ?_
  rintro e w1 ⟨he, F', -, t1, -⟩
  rw [HE.out] at he
  subst he
  have B1 : Hid (Below w.heap.size w w1) := (HA3.out _ _ _).trans (t1.below (fun k hk => by simp at hk; omega) (by simp; omega))
  clear t1 HW
  go_wp2_with fail
  go_ret
  exact ⟨rfl, B1.out⟩

abbrev ruV (r : RuP) : Value := .agg #[.int .i64 r.mn, .int .i64 r.mx, .int .i64 r.st, .int .i64 r.up, .int .i64 r.dn]
def coolB (s : Int) : Bool := decide (0 ≤ s ∧ s ≤ 604800)
theorem cool_c (s : Int) (w : World) : Calls Tryz.prog 41 #[.int .i64 s] w fun e w' => e = .returned (.bool (coolB s)) ∧ w = w' := by
  by_cases h1 : 0 ≤ s
  · by_cases h2 : s ≤ 604800
    · have hb : coolB s = true := decide_eq_true ⟨h1, h2⟩
      rw [hb]
      go_enter Tryz.func41, Tryz.ntmps41
      go_wp2_with fail
      go_ret
      exact ⟨rfl, rfl⟩
    · have hb : coolB s = false := decide_eq_false fun h => h2 h.2
      rw [hb]
      go_enter Tryz.func41, Tryz.ntmps41
      go_wp2_with fail
      go_ret
      exact ⟨rfl, rfl⟩
  · have hb : coolB s = false := decide_eq_false fun h => h1 h.1
    rw [hb]
    go_enter Tryz.func41, Tryz.ntmps41
    go_wp2_with fail
    go_ret
    exact ⟨rfl, rfl⟩
def rulesB (a b c d e : Int) : Bool := decide (0 ≤ a ∧ a ≤ b ∧ 1 ≤ b ∧ b ≤ 1000000 ∧ 1 ≤ c ∧ c ≤ 1000000 ∧ 0 ≤ d ∧ d ≤ 604800 ∧ 0 ≤ e ∧ e ≤ 604800)
set_option maxHeartbeats 2000000 in
set_option maxRecDepth 20000 in
theorem rRight5 (a b c d e : Int) (w : World) : Calls Tryz.prog 31 #[.agg #[.int .i64 a, .int .i64 b, .int .i64 c, .int .i64 d, .int .i64 e]] w fun x w' => x = .returned (.bool (rulesB a b c d e)) ∧ Below w.heap.size w w' := by
  have HB := chid ((Below.refl w.heap.size w).alloc (Nat.le_refl _) (.cells #[.int .i64 a, .int .i64 b, .int .i64 c, .int .i64 d, .int .i64 e] 24))
  generalize hx : rulesB a b c d e = x
  have HX := chid hx
  clear hx
  by_cases h0 : 0 ≤ a
  case neg =>
    have e1 : x = false := by rw [← HX.out]; exact decide_eq_false (fun hh => h0 (by omega))
    subst e1
    go_enter Tryz.func31, Tryz.ntmps31
    go_wp2_with fail
    go_ret
    exact ⟨rfl, HB.out⟩
  by_cases h1 : a ≤ b
  case neg =>
    have e1 : x = false := by rw [← HX.out]; exact decide_eq_false (fun hh => h1 (by omega))
    subst e1
    go_enter Tryz.func31, Tryz.ntmps31
    go_wp2_with fail
    go_ret
    exact ⟨rfl, HB.out⟩
  by_cases h2 : 1 ≤ b
  case neg =>
    have e1 : x = false := by rw [← HX.out]; exact decide_eq_false (fun hh => h2 (by omega))
    subst e1
    go_enter Tryz.func31, Tryz.ntmps31
    go_wp2_with fail
    go_ret
    exact ⟨rfl, HB.out⟩
  by_cases h3 : b ≤ 1000000
  case neg =>
    have e1 : x = false := by rw [← HX.out]; exact decide_eq_false (fun hh => h3 (by omega))
    subst e1
    go_enter Tryz.func31, Tryz.ntmps31
    go_wp2_with fail
    go_ret
    exact ⟨rfl, HB.out⟩
  by_cases h4 : 1 ≤ c
  case neg =>
    have e1 : x = false := by rw [← HX.out]; exact decide_eq_false (fun hh => h4 (by omega))
    subst e1
    go_enter Tryz.func31, Tryz.ntmps31
    go_wp2_with fail
    go_ret
    exact ⟨rfl, HB.out⟩
  by_cases h5 : c ≤ 1000000
  case neg =>
    have e1 : x = false := by rw [← HX.out]; exact decide_eq_false (fun hh => h5 (by omega))
    subst e1
    go_enter Tryz.func31, Tryz.ntmps31
    go_wp2_with fail
    go_ret
    exact ⟨rfl, HB.out⟩
  by_cases h6 : 0 ≤ d
  case neg =>
    have e1 : x = false := by rw [← HX.out]; exact decide_eq_false (fun hh => h6 (by omega))
    subst e1
    go_enter Tryz.func31, Tryz.ntmps31
    go_wp2_with fail
    go_ret
    exact ⟨rfl, HB.out⟩
  by_cases h7 : d ≤ 604800
  case neg =>
    have e1 : x = false := by rw [← HX.out]; exact decide_eq_false (fun hh => h7 (by omega))
    subst e1
    go_enter Tryz.func31, Tryz.ntmps31
    go_wp2_with fail
    go_ret
    exact ⟨rfl, HB.out⟩
  by_cases h8 : 0 ≤ e
  case neg =>
    have e1 : x = false := by rw [← HX.out]; exact decide_eq_false (fun hh => h8 (by omega))
    subst e1
    go_enter Tryz.func31, Tryz.ntmps31
    go_wp2_with fail
    go_ret
    exact ⟨rfl, HB.out⟩
  by_cases h9 : e ≤ 604800
  case neg =>
    have e1 : x = false := by rw [← HX.out]; exact decide_eq_false (fun hh => h9 (by omega))
    subst e1
    go_enter Tryz.func31, Tryz.ntmps31
    go_wp2_with fail
    go_ret
    exact ⟨rfl, HB.out⟩
  have e1 : x = true := by rw [← HX.out]; exact decide_eq_true ⟨h0, h1, h2, h3, h4, h5, h6, h7, h8, h9⟩
  subst e1
  go_enter Tryz.func31, Tryz.ntmps31
  go_wp2_with fail
  go_ret
  exact ⟨rfl, HB.out⟩
theorem rRight_c (r : RuP) (w : World) : Calls Tryz.prog 31 #[ruV r] w fun x w' => x = .returned (.bool (ruB r)) ∧ Below w.heap.size w w' := rRight5 r.mn r.mx r.st r.up r.dn w
set_option maxHeartbeats 2000000 in
set_option maxRecDepth 20000 in
theorem cRight5 (a b c d e : Int) (w : World) : Calls Tryz.prog 24 #[.agg #[.int .i64 a, .int .i64 b, .int .i64 c, .int .i64 d, .int .i64 e]] w fun x w' => x = .returned (.bool (rulesB a b c d e)) ∧ Below w.heap.size w w' := by
  have HB := chid ((Below.refl w.heap.size w).alloc (Nat.le_refl _) (.cells #[.int .i64 a, .int .i64 b, .int .i64 c, .int .i64 d, .int .i64 e] 24))
  have HC1 := chid (fun W => cool_c d W)
  have HC2 := chid (fun W => cool_c e W)
  generalize hx : rulesB a b c d e = x
  have HX := chid hx
  clear hx
  by_cases h0 : 0 ≤ a
  case neg =>
    by_cases h4 : 1 ≤ c
    · by_cases h5 : c ≤ 1000000
      · skip
        have e1 : x = false := by rw [← HX.out]; exact decide_eq_false (fun hh => h0 (by omega))
        subst e1
        go_enter Tryz.func24, Tryz.ntmps24
        go_wp2_with fail
        go_ret
        exact ⟨rfl, HB.out⟩
      · skip
        have e1 : x = false := by rw [← HX.out]; exact decide_eq_false (fun hh => h0 (by omega))
        subst e1
        go_enter Tryz.func24, Tryz.ntmps24
        go_wp2_with fail
        go_ret
        exact ⟨rfl, HB.out⟩
    · skip
      have e1 : x = false := by rw [← HX.out]; exact decide_eq_false (fun hh => h0 (by omega))
      subst e1
      go_enter Tryz.func24, Tryz.ntmps24
      go_wp2_with fail
      go_ret
      exact ⟨rfl, HB.out⟩
  by_cases h1 : a ≤ b
  case neg =>
    by_cases h4 : 1 ≤ c
    · by_cases h5 : c ≤ 1000000
      · skip
        have e1 : x = false := by rw [← HX.out]; exact decide_eq_false (fun hh => h1 (by omega))
        subst e1
        go_enter Tryz.func24, Tryz.ntmps24
        go_wp2_with fail
        go_ret
        exact ⟨rfl, HB.out⟩
      · skip
        have e1 : x = false := by rw [← HX.out]; exact decide_eq_false (fun hh => h1 (by omega))
        subst e1
        go_enter Tryz.func24, Tryz.ntmps24
        go_wp2_with fail
        go_ret
        exact ⟨rfl, HB.out⟩
    · skip
      have e1 : x = false := by rw [← HX.out]; exact decide_eq_false (fun hh => h1 (by omega))
      subst e1
      go_enter Tryz.func24, Tryz.ntmps24
      go_wp2_with fail
      go_ret
      exact ⟨rfl, HB.out⟩
  by_cases h2 : 1 ≤ b
  case neg =>
    by_cases h4 : 1 ≤ c
    · by_cases h5 : c ≤ 1000000
      · skip
        have e1 : x = false := by rw [← HX.out]; exact decide_eq_false (fun hh => h2 (by omega))
        subst e1
        go_enter Tryz.func24, Tryz.ntmps24
        go_wp2_with fail
        go_ret
        exact ⟨rfl, HB.out⟩
      · skip
        have e1 : x = false := by rw [← HX.out]; exact decide_eq_false (fun hh => h2 (by omega))
        subst e1
        go_enter Tryz.func24, Tryz.ntmps24
        go_wp2_with fail
        go_ret
        exact ⟨rfl, HB.out⟩
    · skip
      have e1 : x = false := by rw [← HX.out]; exact decide_eq_false (fun hh => h2 (by omega))
      subst e1
      go_enter Tryz.func24, Tryz.ntmps24
      go_wp2_with fail
      go_ret
      exact ⟨rfl, HB.out⟩
  by_cases h3 : b ≤ 1000000
  case neg =>
    by_cases h4 : 1 ≤ c
    · by_cases h5 : c ≤ 1000000
      · skip
        have e1 : x = false := by rw [← HX.out]; exact decide_eq_false (fun hh => h3 (by omega))
        subst e1
        go_enter Tryz.func24, Tryz.ntmps24
        go_wp2_with fail
        go_ret
        exact ⟨rfl, HB.out⟩
      · skip
        have e1 : x = false := by rw [← HX.out]; exact decide_eq_false (fun hh => h3 (by omega))
        subst e1
        go_enter Tryz.func24, Tryz.ntmps24
        go_wp2_with fail
        go_ret
        exact ⟨rfl, HB.out⟩
    · skip
      have e1 : x = false := by rw [← HX.out]; exact decide_eq_false (fun hh => h3 (by omega))
      subst e1
      go_enter Tryz.func24, Tryz.ntmps24
      go_wp2_with fail
      go_ret
      exact ⟨rfl, HB.out⟩
  by_cases h4 : 1 ≤ c
  case neg =>
    have e1 : x = false := by rw [← HX.out]; exact decide_eq_false (fun hh => h4 (by omega))
    subst e1
    go_enter Tryz.func24, Tryz.ntmps24
    go_wp2_with fail
    go_ret
    exact ⟨rfl, HB.out⟩
  by_cases h5 : c ≤ 1000000
  case neg =>
    have e1 : x = false := by rw [← HX.out]; exact decide_eq_false (fun hh => h5 (by omega))
    subst e1
    go_enter Tryz.func24, Tryz.ntmps24
    go_wp2_with fail
    go_ret
    exact ⟨rfl, HB.out⟩
  have e1 : x = (coolB d && coolB e) := by
    rw [← HX.out]
    unfold rulesB coolB
    rw [← Bool.decide_and]
    exact decide_eq_decide.2 ⟨fun h => by omega, fun h => by omega⟩
  subst e1
  generalize coolB d = y1 at *
  generalize coolB e = y2 at *
  clear HX
  cases y1 with
  | false =>
    go_enter Tryz.func24, Tryz.ntmps24
    go_wp2_with fail
    refine Calls.mono (HC1.out _) ?_
    rintro e w1 ⟨rfl, rfl⟩
    go_wp2_with fail
    go_ret
    exact ⟨rfl, HB.out⟩
  | true =>
    go_enter Tryz.func24, Tryz.ntmps24
    go_wp2_with fail
    refine Calls.mono (HC1.out _) ?_
    rintro e w1 ⟨rfl, rfl⟩
    go_wp2_with fail
    refine Calls.mono (HC2.out _) ?_
    rintro e w1 ⟨rfl, rfl⟩
    go_wp2_with fail
    go_ret
    exact ⟨rfl, HB.out⟩
theorem cRight_c (r : RuP) (w : World) : Calls Tryz.prog 24 #[ruV r] w fun x w' => x = .returned (.bool (ruB r)) ∧ Below w.heap.size w w' := cRight5 r.mn r.mx r.st r.up r.dn w

theorem all_take {α : Type} {f : α → Bool} {l : List α} {k : Nat} (h : k < l.length) : (l.take (k + 1)).all f = ((l.take k).all f && f l[k]) := by
  rw [List.take_succ_eq_append_getElem h, List.all_append]; simp only [List.all_cons, List.all_nil, Bool.and_true]
theorem all_no {α : Type} {f : α → Bool} {l : List α} {k : Nat} (h : k < l.length) (hf : f l[k] = false) : l.all f = false := by
  rw [List.all_eq_false]
  exact ⟨l[k], List.getElem_mem h, by simp [hf]⟩
theorem cgetD {α : Type} {l : List α} {k : Nat} {d : α} (h : k < l.length) : l.getD k d = l[k] := by simp [List.getD, h]
set_option maxHeartbeats 1000000 in
theorem allCron_c (l : List Cr) (v : Value) (w : World) (hF : FldAt w) (hok : ∀ x, x ∈ l → x.Fits) (hs : CrsAt w v l) :
    Calls Tryz.prog 43 #[v, .func (.func 44) #[] #[]] w fun e w' => e = .returned (.bool (l.all cfB)) ∧ Below w.heap.size w w' := by
  by_cases hn : l = []
  · subst hn
    obtain ⟨ad, cap, rfl, -, -⟩ := RowsK.shape hs
    clear hF hok hs
    go_enter Tryz.func43, Tryz.ntmps43
    go_wp2_with fail
    refine wp_loop_rounds 1 ?_
    rw [rounds_succ]
    go_wp2_with fail
    go_ret
    exact ⟨rfl, Below.refl _ _⟩
  · obtain ⟨b, off, cap, rfl, hle, hc, hbl, hx⟩ := RowsK.open hs (List.length_pos_iff.2 hn)
    have HX := chid hx
    have HF := chid hF
    have HOk := chid hok
    obtain ⟨N, hN⟩ : ∃ N, Hid (N = l.length) := ⟨_, rfl⟩
    have hpos : 0 < N := by rw [hN.out]; exact List.length_pos_iff.2 hn
    rw [← hN.out] at hle ⊢
    obtain ⟨Q, hQ⟩ : ∃ Q, Hid (Q = l.all cfB) := ⟨_, rfl⟩
    rw [← hQ.out]
    clear hF hok hs hn hx
    go_enter Tryz.func43, Tryz.ntmps43
    go_wp2_with fail
    go_loopw [9] (fun i wr => ∃ k : Nat, i = .int .i64 (k : Nat) ∧ k ≤ N ∧ Hid ((l.take k).all cfB = true) ∧ Hid (Below w.heap.size w wr)) (fun i _ => match i with | .int _ p => ((N : Int) - p).toNat | _ => 0)
    case atStart => exact ⟨0, rfl, by omega, chid rfl, Below.refl _ _⟩
    case round =>
      obtain ⟨k, rfl, hk, HK, HB⟩ := hrel
      by_cases hlt : k < N
      · have hlt' : (k : Int) < (N : Int) := by omega
        have hl1 : k < l.length := by rw [← hN.out]; exact hlt
        have hxk := HX.out k hl1
        rw [cgetD hl1] at hxk
        have c0 : wr.cell? ⟨b, off + k * 5, none⟩ = _ := keepc HB.out (hxk 0 _ rfl)
        have c1 := keepc HB.out (hxk 1 _ rfl)
        have c2 := keepc HB.out (hxk 2 _ rfl)
        have c3 := keepc HB.out (hxk 3 _ rfl)
        have c4 := keepc HB.out (hxk 4 _ rfl)
        have lbr : b < wr.heap.size := Nat.lt_of_lt_of_le hbl HB.out.size
        have A : ∀ o, Below wr.heap.size wr (wr.alloc o) := fun o => (Below.refl _ _).alloc (Nat.le_refl _) _
        have HA := chid A
        have HC := chid (fun o => Formed_any l[k] (HOk.out _ (List.getElem_mem hl1)) (wr.alloc o) ((HF.out.later HB.out).later (A o)))
        have HT := chid (all_take (f := cfB) hl1)
        have HNo := chid (fun h => all_no (f := cfB) hl1 h)
        clear hxk A
        generalize l[k] = x at *
        clear hl1
        obtain ⟨y, hy⟩ : ∃ y, Hid (cfB x = y) := ⟨_, rfl⟩
        unfold FormedPost at HC
        rw [hy.out] at HC HT HNo
        go_wp2_with fail
        refine Calls.mono (HC.out _) ?_
        rintro e w1 ⟨rfl, b1⟩
        have B1 := chid (cbelow_on HB.out (cbelow_on (HA.out _) b1 (by simp)) HB.out.size)
        clear b1 c0 c1 c2 c3 c4
        cases y with
        | false =>
          have hq0 : Hid (Q = false) := chid (by rw [hQ.out]; exact HNo.out rfl)
          go_wp2_with fail
          go_ret
          exact ⟨by rw [hq0.out]; rfl, B1.out⟩
        | true =>
          have H3 : Hid ((l.take (k + 1)).all cfB = true) := chid (by rw [HT.out, HK.out]; rfl)
          go_wp2_with fail
          go_roundw
          case rel => exact ⟨k + 1, by go_num, by omega, H3.out, B1.out⟩
          case measure => simp; omega
      · have hlt' : ¬ (k : Int) < (N : Int) := by omega
        have hkN : k = N := by omega
        subst hkN
        have e1 : l.take k = l := by rw [hN.out]; exact List.take_length
        rw [e1, ← hQ.out] at HK
        go_wp2_with fail
        go_ret
        exact ⟨by rw [HK.out]; rfl, HB.out⟩
set_option maxHeartbeats 1000000 in
theorem rightLists_c (p : PlP) (v : PlV) (w : World) (hF : FldAt w) (hs : PlAt w p v) : Calls Tryz.prog 25 #[plV p v] w fun e w' => e = .returned (.bool (listsB p)) ∧ Below w.heap.size w w' := by
  have HS := chid hs
  have HFl := chid hF
  have HAl := chid (fun W (hW : Below w.heap.size w W) => allCron_c p.crons v.cr W (HFl.out.later hW) HS.out.cok (RowsK.next HS.out.cr hW))
  have HWo := chid hs.wok
  have HWi := chid hs.wi
  obtain ⟨a1, c1, a2, c2, a3, c3, a4, c4, a5, c5, rfl, g1, g2, g3, g4⟩ := hs.shapes
  dsimp only at HAl HWi
  obtain ⟨Q, hQ⟩ : ∃ Q, Hid (Q = listsB p) := ⟨_, rfl⟩
  rw [← hQ.out]
  have hQ2 : Hid (Q = (p.wins.all (wiB p.mets.length) && p.crons.all cfB)) := hQ
  obtain ⟨N, hN⟩ : ∃ N, Hid (N = p.wins.length) := ⟨_, rfl⟩
  obtain ⟨M, hM⟩ : ∃ M, Hid (M = p.mets.length) := ⟨_, rfl⟩
  rw [← hM.out] at hQ2
  clear hs hF
  have Y0 := chid (Box.new w (plL p ⟨.slice a1 p.mets.length c1, .slice a2 p.wins.length c2, .slice a3 p.crons.length c3, .slice a4 p.gs.length c4, .slice a5 p.fin.parts.length c5⟩) 32)
  have B0 := chid ((Below.refl w.heap.size w).alloc (Nat.le_refl _) (.cells (plL p ⟨.slice a1 p.mets.length c1, .slice a2 p.wins.length c2, .slice a3 p.crons.length c3, .slice a4 p.gs.length c4, .slice a5 p.fin.parts.length c5⟩).toArray 32))
  rw [← hM.out, ← hN.out] at Y0 B0 ⊢
  rw [← hN.out] at g2
  rw [← hM.out] at g1
  generalize p.wins = wins at *
  go_enter Tryz.func25, Tryz.ntmps25
  go_wp2_with fail
  generalize hw0 : w.alloc _ = w0 at *
  clear hw0
  go_loopw [8] (fun i wr => ∃ k : Nat, i = .int .i64 (k : Nat) ∧ k ≤ N ∧ Hid ((wins.take k).all (wiB M) = true) ∧ Hid (Below w0.heap.size w0 wr)) (fun i _ => match i with | .int _ p => ((N : Int) - p).toNat | _ => 0)
  case atStart => exact ⟨0, rfl, by omega, chid rfl, Below.refl _ _⟩
  case round =>
    obtain ⟨k, rfl, hk, HK, HB⟩ := hrel
    have HBw := chid (cbelow_on B0.out HB.out B0.out.size)
    have X := Y0.out.next HB.out
    have x0 := X.cell 0 _ rfl
    have x7 := X.cell 7 _ rfl
    have xl := X.lt
    by_cases hlt : k < N
    · have hlt' : (k : Int) < (N : Int) := by omega
      have hl1 : k < wins.length := by rw [← hN.out]; exact hlt
      obtain ⟨b, off, cap', hv, hle, -, hbl, hx⟩ := RowsK.open HWi.out (by omega)
      simp only [Value.slice.injEq] at hv
      obtain ⟨rfl, -, rfl⟩ := hv
      have hxk := hx k hl1
      rw [cgetD hl1] at hxk
      have y0 : wr.cell? ⟨b, off + k * 4, none⟩ = _ := keepc HBw.out (hxk 0 _ rfl)
      have y1 := keepc HBw.out (hxk 1 _ rfl)
      have y2 := keepc HBw.out (hxk 2 _ rfl)
      have y3 := keepc HBw.out (hxk 3 _ rfl)
      have lbr : b < wr.heap.size := Nat.lt_of_lt_of_le hbl HBw.out.size
      have HA : Hid (∀ o, Below wr.heap.size wr (wr.alloc o)) := fun o => (Below.refl _ _).alloc (Nat.le_refl _) _
      have HC := chid (fun W => wRight wins[k].m wins[k].a wins[k].s wins[k].p W)
      have HT := chid (all_take (f := wiB M) hl1)
      have HNo := chid (fun h => all_no (f := wiB M) hl1 h)
      have hM2 := HWo.out _ (List.getElem_mem hl1)
      clear hxk hx hle
      generalize wins[k] = x at *
      clear hl1
      obtain ⟨m, a, s, q⟩ := x
      dsimp only at *
      have hm1 := hM2.m
      obtain ⟨y, hy⟩ : ∃ y, Hid (rightB m a s q = y) := ⟨_, rfl⟩
      unfold tv at HC
      rw [hy.out] at HC
      have hwi : Hid (wiB M ⟨m, a, s, q⟩ = (y && decide (m < (M : Int)))) := by show (rightB m a s q && _) = _; rw [hy.out]
      rw [hwi.out] at HT HNo
      clear hwi hM2
      go_wp2_with fail
      refine Calls.mono (HC.out _) ?_
      rintro e w1 ⟨rfl, b1⟩
      have B1 := chid (cbelow_on HB.out (cbelow_on (HA.out _) b1 (by simp)) HB.out.size)
      have B1w := chid (cbelow_on B0.out B1.out B0.out.size)
      have Z := (Box.new wr [.int .i64 m, .int .i64 a, .int .i64 s, .int .i64 q] 46).next b1
      have z0 := Z.cell 0 _ rfl
      have zl := Z.lt
      have X1 := Y0.out.next B1.out
      replace x0 := X1.cell 0 _ rfl
      replace xl := X1.lt
      clear b1 Z X1 x7 y0 y1 y2 y3 X
      cases y with
      | false =>
        have hq0 : Hid (Q = false) := chid (by rw [hQ2.out, HNo.out rfl]; rfl)
        go_wp2_with fail
        go_ret
        exact ⟨by rw [hq0.out]; rfl, B1w.out⟩
      | true =>
        by_cases hmM : m < (M : Int)
        · have H3 : Hid ((wins.take (k + 1)).all (wiB M) = true) := chid (by rw [HT.out, HK.out, decide_eq_true hmM]; rfl)
          clear HT HNo
          have hm2 : ¬ (M : Int) ≤ m := by omega
          go_wp2_with fail
          go_roundw
          case rel => exact ⟨k + 1, by go_num, by omega, H3.out, B1.out⟩
          case measure => simp; omega
        · have hq0 : Hid (Q = false) := chid (by rw [hQ2.out, HNo.out (by rw [decide_eq_false hmM]; rfl)]; rfl)
          clear HT HNo
          have hm2 : (M : Int) ≤ m := by omega
          go_wp2_with fail
          go_ret
          exact ⟨by rw [hq0.out]; rfl, B1w.out⟩
    · have hlt' : ¬ (k : Int) < (N : Int) := by omega
      have hkN : k = N := by omega
      have e1 : wins.take k = wins := by rw [hkN, hN.out]; exact List.take_length
      rw [e1] at HK
      have hq3 : Hid (Q = p.crons.all cfB) := chid (by rw [hQ2.out, HK.out]; rfl)
      rw [← hq3.out] at HAl
      clear hq3 hQ2 hQ HK e1
      go_wp2_with fail
      refine Calls.mono (HAl.out _ HBw.out) ?_
      rintro e w1 ⟨rfl, b1⟩
      have B1 := chid (cbelow_on HBw.out b1 HBw.out.size)
      clear b1 x0 x7
      go_wp2_with fail
      go_ret
      exact ⟨rfl, B1.out⟩

set_option maxHeartbeats 1000000 in
theorem gallB (f : Nat) (q : Array Value) (hE : Ent f) (B : Co × Co → Bool) (l : List (Co × Co)) (v : Value) (w : World) (hs : GsAt w v l)
    (hC : ∀ g, g ∈ l → ∀ u1 u2 w', Below w.heap.size w w' → CSits w' g.1 u1 → CSits w' g.2 u2 → Calls Tryz.prog f (#[guV g u1 u2] ++ q) w' fun e w'' => e = .returned (.bool (B g)) ∧ Below w'.heap.size w' w'') :
    Calls Tryz.prog 46 #[v, .func (.func f) #[] q] w fun e w' => e = .returned (.bool (l.all B)) ∧ Below w.heap.size w w' := by
  by_cases hn : l = []
  · subst hn
    obtain ⟨ad, cap, rfl, -, -⟩ := hs.shape
    clear hC hs
    go_enter Tryz.func46, Tryz.ntmps46
    go_wp2_with fail
    refine wp_loop_rounds 1 ?_
    rw [rounds_succ]
    go_wp2_with fail
    go_ret
    exact ⟨rfl, Below.refl _ _⟩
  · obtain ⟨b, off, cap, rfl, hle, hc, hbl, hx⟩ := hs.open (List.length_pos_iff.2 hn)
    have HX := chid hx
    have HCc := chid hC
    obtain ⟨N, hN⟩ : ∃ N, Hid (N = l.length) := ⟨_, rfl⟩
    have hpos : 0 < N := by rw [hN.out]; exact List.length_pos_iff.2 hn
    rw [← hN.out] at hle ⊢
    obtain ⟨Q, hQ⟩ : ∃ Q, Hid (Q = l.all B) := ⟨_, rfl⟩
    rw [← hQ.out]
    unfold Ent at hE
    clear hC hs hn hx
    go_enter Tryz.func46, Tryz.ntmps46
    go_wp2_with fail
    go_loopw [9] (fun i wr => ∃ k : Nat, i = .int .i64 (k : Nat) ∧ k ≤ N ∧ Hid ((l.take k).all B = true) ∧ Hid (Below w.heap.size w wr)) (fun i _ => match i with | .int _ p => ((N : Int) - p).toNat | _ => 0)
    case atStart => exact ⟨0, rfl, by omega, chid rfl, Below.refl _ _⟩
    case round =>
      obtain ⟨k, rfl, hk, HK, HB⟩ := hrel
      by_cases hlt : k < N
      · have hlt' : (k : Int) < (N : Int) := by omega
        have hl1 : k < l.length := by rw [← hN.out]; exact hlt
        obtain ⟨u1, u2, h6, h7, hu1, hu2⟩ := HX.out k hl1
        have c0 := keepc HB.out h6.c0
        have c1 := keepc HB.out h6.c1
        have c2 := keepc HB.out h6.c2
        have c3 := keepc HB.out h6.c3
        have c4 := keepc HB.out h7.c0
        have c5 : wr.cell? ⟨b, off + k * 8 + 5, none⟩ = _ := keepc HB.out h7.c1
        have c6 : wr.cell? ⟨b, off + k * 8 + 6, none⟩ = _ := keepc HB.out h7.c2
        have c7 : wr.cell? ⟨b, off + k * 8 + 7, none⟩ = _ := keepc HB.out h7.c3
        have lbr : b < wr.heap.size := Nat.lt_of_lt_of_le hbl HB.out.size
        have A : ∀ o, Below wr.heap.size wr (wr.alloc o) := fun o => (Below.refl _ _).alloc (Nat.le_refl _) _
        have HA := chid A
        have HW := chid (fun o => HCc.out l[k] (List.getElem_mem hl1) u1 u2 (wr.alloc o) (cbelow_on HB.out (A o) HB.out.size) ((hu1.next HB.out).next (A o)) ((hu2.next HB.out).next (A o)))
        have HT := chid (all_take (f := B) hl1)
        have HNo := chid (fun h => all_no (f := B) hl1 h)
        obtain ⟨au, cu, rfl, -, -⟩ := hu1.parts.shape
        obtain ⟨av, cv, rfl, -, -⟩ := hu2.parts.shape
        clear h6 h7 hu1 hu2 HX A HCc
        generalize l[k] = x at *
        clear hl1
        obtain ⟨⟨k1, n1, m1, ps1⟩, ⟨k2, n2, m2, ps2⟩⟩ := x
        dsimp only at *
        generalize ps1.length = L1 at *
        generalize ps2.length = L2 at *
        generalize B (⟨k1, n1, m1, ps1⟩, ⟨k2, n2, m2, ps2⟩) = y at *
        go_wp2_with fail
        refine Calls.mono (HW.out _) ?_
        rintro e w1 ⟨rfl, b1⟩
        have B1 := chid (cbelow_on HB.out (cbelow_on (HA.out _) b1 (by simp)) HB.out.size)
        clear b1 c0 c1 c2 c3 c4 c5 c6 c7
        cases y with
        | false =>
          have hq0 : Hid (Q = false) := chid (by rw [hQ.out]; exact HNo.out rfl)
          go_wp2_with fail
          go_ret
          exact ⟨by rw [hq0.out]; rfl, B1.out⟩
        | true =>
          have H3 : Hid ((l.take (k + 1)).all B = true) := chid (by rw [HT.out, HK.out]; rfl)
          go_wp2_with fail
          go_roundw
          case rel => exact ⟨k + 1, by go_num, by omega, H3.out, B1.out⟩
          case measure => simp; omega
      · have hlt' : ¬ (k : Int) < (N : Int) := by omega
        have hkN : k = N := by omega
        subst hkN
        have e1 : l.take k = l := by rw [hN.out]; exact List.take_length
        rw [e1, ← hQ.out] at HK
        go_wp2_with fail
        go_ret
        exact ⟨by rw [HK.out]; rfl, HB.out⟩
set_option maxHeartbeats 1000000 in
theorem sorts1 (wn cn ln : Int) (h64 : C64 wn ∧ C64 cn ∧ C64 ln) (g : Co × Co) (u1 u2 : Value) (b sb : Nat) (w : World) (h1 : CSits w g.1 u1) (h2 : CSits w g.2 u2) (n1 : cnodes g.1 ≤ 4096) (n2 : cnodes g.2 ≤ 4096) (hb : Box w sb (soL b wn cn ln)) (hr : RowsAt w b) :
    Calls Tryz.prog 47 (#[guV g u1 u2] ++ #[.pointer (some ⟨sb, 0, none⟩)]) w fun e w' => e = .returned (.bool (decide (csort ladF wn cn ln g.1 = 2) && decide (csort ladF wn cn ln g.2 = 3))) ∧ Below w.heap.size w w' := by
  have HA : Hid (∀ o, Below w.heap.size w (w.alloc o)) := fun o => (Below.refl _ _).alloc (Nat.le_refl _) _
  have HS1 := chid (fun W (hW : Below w.heap.size w W) => csort_c wn cn ln h64 g.1 u1 b sb W (h1.next hW) (by omega) (hb.next hW) (hr.next hW))
  have HS2 := chid (fun W (hW : Below w.heap.size w W) => csort_c wn cn ln h64 g.2 u2 b sb W (h2.next hW) (by omega) (hb.next hW) (hr.next hW))
  obtain ⟨a1, c1, rfl, -, -⟩ := h1.parts.shape
  obtain ⟨a2, c2, rfl, -, -⟩ := h2.parts.shape
  clear h1 h2 n1 n2 hb hr
  obtain ⟨⟨k1, o1, m1, ps1⟩, ⟨k2, o2, m2, ps2⟩⟩ := g
  dsimp only at *
  generalize ps1.length = L1 at *
  generalize ps2.length = L2 at *
  generalize csort ladF wn cn ln ⟨k1, o1, m1, ps1⟩ = s1 at *
  generalize csort ladF wn cn ln ⟨k2, o2, m2, ps2⟩ = s2 at *
  have Y0 := chid (Box.new w [.int .i64 k1, .int .i64 o1, .int .i64 m1, .slice a1 L1 c1, .int .i64 k2, .int .i64 o2, .int .i64 m2, .slice a2 L2 c2] 66)
  show Calls Tryz.prog 47 #[.agg #[.int .i64 k1, .int .i64 o1, .int .i64 m1, .slice a1 L1 c1, .int .i64 k2, .int .i64 o2, .int .i64 m2, .slice a2 L2 c2], .pointer (some ⟨sb, 0, none⟩)] w _
  go_enter Tryz.func47, Tryz.ntmps47
  go_wp2_with fail
  refine Calls.mono (HS1.out _ (HA.out _)) ?_
  rintro e w1 ⟨rfl, b1⟩
  have B1 := chid (cbelow_on (HA.out _) b1 (by simp))
  have Z := Y0.out.next b1
  have z4 := Z.cell 4 _ rfl
  have z5 := Z.cell 5 _ rfl
  have z6 := Z.cell 6 _ rfl
  have z7 := Z.cell 7 _ rfl
  have zl := Z.lt
  clear b1 Z Y0 HS1
  by_cases hs1 : s1 = 2
  · subst hs1
    go_wp2_with fail
    refine Calls.mono (HS2.out _ B1.out) ?_
    rintro e w2 ⟨rfl, b2⟩
    have B2 := chid (cbelow_on B1.out b2 B1.out.size)
    clear b2 z4 z5 z6 z7 zl
    go_wp2_with fail
    go_ret
    exact ⟨by simp; rfl, B2.out⟩
  · have k1' : (s1 == 2) = false := by simpa using hs1
    have e1 : Hid (decide (s1 = 2) = false) := decide_eq_false hs1
    go_wp2_with fail
    go_ret
    exact ⟨by rw [e1.out]; rfl, B1.out⟩
theorem ent_sorts : Ent 47 := by intro args W; kernel_rfl
set_option maxHeartbeats 2000000 in
theorem rightSorts_c (p : PlP) (v : PlV) (w : World) (hs : PlAt w p v) (hfew : fewB p = true) : Calls Tryz.prog 26 #[plV p v] w fun e w' => e = .returned (.bool (sortsB p)) ∧ Below w.heap.size w w' := by
  have HS := chid hs
  have hshape := hs.shapes
  obtain ⟨a1, c1, a2, c2, a3, c3, a4, c4, a5, c5, rfl, g1, g2, g3, g4⟩ := hshape
  have h64 : C64 p.wins.length ∧ C64 p.crons.length ∧ C64 p.loc := ⟨⟨by omega, by omega⟩, ⟨by omega, by omega⟩, hs.loc⟩
  have HAl := chid (fun W (hW : Below w.heap.size w W) b sb (hb : Box W sb (soL b p.wins.length p.crons.length p.loc)) (hr : RowsAt W b) =>
    gallB 47 #[.pointer (some ⟨sb, 0, none⟩)] ent_sorts (fun g => decide (soP p g.1 = 2) && decide (soP p g.2 = 3)) p.gs (.slice a4 p.gs.length c4) W (GsAt.next HS.out.gs hW) (fun g hg u1 u2 w' hw' s1 s2 => sorts1 p.wins.length p.crons.length p.loc h64 g u1 u2 b sb w' s1 s2 (few_guard hfew hg).1 (few_guard hfew hg).2 (hb.next hw') (hr.next hw')))
  have HFi := chid (fun W (hW : Below w.heap.size w W) b sb (hb : Box W sb (soL b p.wins.length p.crons.length p.loc)) (hr : RowsAt W b) => csort_c p.wins.length p.crons.length p.loc h64 p.fin (.slice a5 p.fin.parts.length c5) b sb W (HS.out.fi.next hW) (by have := few_fin hfew; omega) hb hr)
  obtain ⟨Q, hQ⟩ : ∃ Q, Hid (Q = sortsB p) := ⟨_, rfl⟩
  rw [← hQ.out]
  have hQ2 : Hid (Q = (p.gs.all (fun g => decide (soP p g.1 = 2) && decide (soP p g.2 = 3)) && decide (csort ladF p.wins.length p.crons.length p.loc p.fin = 3))) := hQ
  generalize p.gs.all (fun g => decide (soP p g.1 = 2) && decide (soP p g.2 = 3)) = Y at *
  generalize csort ladF p.wins.length p.crons.length p.loc p.fin = s3 at *
  have HRo := chid (fun W => crowsB_c W)
  clear hs hfew hQ
  have Y0 := chid (Box.new w (plL p ⟨.slice a1 p.mets.length c1, .slice a2 p.wins.length c2, .slice a3 p.crons.length c3, .slice a4 p.gs.length c4, .slice a5 p.fin.parts.length c5⟩) 32)
  have B0 := chid ((Below.refl w.heap.size w).alloc (Nat.le_refl _) (.cells (plL p ⟨.slice a1 p.mets.length c1, .slice a2 p.wins.length c2, .slice a3 p.crons.length c3, .slice a4 p.gs.length c4, .slice a5 p.fin.parts.length c5⟩).toArray 32))
  have x6 := Y0.out.cell 6 _ rfl
  have x7 := Y0.out.cell 7 _ rfl
  have x8 := Y0.out.cell 8 _ rfl
  have xl := Y0.out.lt
  generalize p.wins.length = LW at *
  generalize p.crons.length = LC at *
  generalize p.gs.length = LG at *
  go_enter Tryz.func26, Tryz.ntmps26
  go_wp2_with fail
  generalize hW0 : w.alloc _ = w0 at *
  clear hW0
  go_region_held3 (fun w' => w'.cell? ⟨w.heap.size, 6, none⟩ = some (.slice a2 LW c2) ∧ w'.cell? ⟨w.heap.size, 7, none⟩ = some (.slice a3 LC c3) ∧ w'.cell? ⟨w.heap.size, 8, none⟩ = some (.int .i64 p.loc)) (simp [go_sem, *]) (first | (go_at_call 45; refine Calls.mono (HRo.out _) ?_; rintro e w1 ⟨b, rfl, hr, B1⟩; have BW : Below w0.heap.size w0 w1 := ⟨B1.os, B1.tape, B1.output, B1.size, B1.block⟩; replace x6 := keepc BW x6; replace x7 := keepc BW x7; replace x8 := keepc BW x8; have xl1 : w.heap.size < w1.heap.size := Nat.lt_of_lt_of_le xl BW.size; have HR1 := chid hr; have HB1 := chid BW; clear hr B1 BW) | (go_at_call 45; refine Calls.mono (HRo.out _) ?_; rintro e w1 ⟨b, rfl, hr, B1⟩; have BW : Below w0.heap.size w0 w1 := cbelow_on ((Below.refl w0.heap.size w0).alloc (Nat.le_refl _) _).drew B1 (by simp); replace x6 := keepc BW x6; replace x7 := keepc BW x7; replace x8 := keepc BW x8; have xl1 : w.heap.size < w1.heap.size := Nat.lt_of_lt_of_le xl BW.size; have Z := (Box.new w0 [.slice none 0 0, .int .i64 0, .int .i64 0, .int .i64 0] 87).next (w' := w1) ⟨B1.os, B1.tape, B1.output, B1.size, B1.block⟩; have z0 := Z.cell 0 _ rfl; have z1 := Z.cell 1 _ rfl; have z2 := Z.cell 2 _ rfl; have z3 := Z.cell 3 _ rfl; have y0 := Z.free 0 (by simp); have y1 := Z.free 1 (by simp); have y2 := Z.free 2 (by simp); have y3 := Z.free 3 (by simp); have yl := Z.lt; have HZ := chid Z; have HR1 := chid hr; have HB1 := chid BW; clear hr B1 BW Z))
  all_goals (first
    | (have X9 := chid ((((HZ.out.set 0 (by simp) (.slice (some ⟨b, 0, none⟩) 33 33)).set 1 (by simp) (.int .i64 (LW : Int))).set 2 (by simp) (.int .i64 (LC : Int))).set 3 (by simp) (.int .i64 p.loc))
       have zg := HZ.out.lt
       have T9 : Turn [w0.heap.size] w1 ((((w1.setCell ⟨w0.heap.size, 0, none⟩ (.slice (some ⟨b, 0, none⟩) 33 33)).setCell ⟨w0.heap.size, 1, none⟩ (.int .i64 (LW : Int))).setCell ⟨w0.heap.size, 2, none⟩ (.int .i64 (LC : Int))).setCell ⟨w0.heap.size, 3, none⟩ (.int .i64 p.loc)) := cturn_one (cturn_one (cturn_one (cturn_set _ _ _ _) (cturn_set _ _ _ _)) (cturn_set _ _ _ _)) (cturn_set _ _ _ _)
       have R9 := chid (HR1.out _ T9.size (fun k h1 h2 => T9.block k h2 (by simp at h1; simp; omega)))
       have B9 := chid (HB1.out.trans (T9.below (B := w0.heap.size) (fun k hk => by simp at hk; omega) HB1.out.size))
       clear T9 zg
       generalize ((((w1.setCell _ _).setCell _ _).setCell _ _).setCell _ _) = w9 at *
       generalize w0.heap.size = sb at X9 ⊢)
    | (have X9 := chid (Box.new w1 (soL b LW LC p.loc) 87)
       have A9 : Below w1.heap.size w1 (w1.alloc (.cells (soL b LW LC p.loc).toArray 87)) := (Below.refl _ _).alloc (Nat.le_refl _) _
       have R9 := chid (HR1.out.at.next A9)
       have B9 := chid (cbelow_on HB1.out A9 HB1.out.size)
       clear A9
       generalize w1.alloc _ = w9 at *
       generalize w1.heap.size = sb at X9 ⊢))

  all_goals (
    clear x6 x7 x8
    have BW := chid (cbelow_on B0.out B9.out B0.out.size)
    have X := Y0.out.next B9.out
    have x9 := X.cell 9 _ rfl
    have xl9 := X.lt
    have HX := chid X
    clear X
    go_wp2_with fail
    refine Calls.mono (HAl.out _ BW.out b sb X9.out R9.out) ?_
    rintro e w2 ⟨rfl, b2⟩
    have BW2 := chid (cbelow_on BW.out b2 BW.out.size)
    have X2 := HX.out.next b2
    have u0 := X2.cell 10 _ rfl
    have u1 := X2.cell 11 _ rfl
    have u2 := X2.cell 12 _ rfl
    have u3 := X2.cell 13 _ rfl
    have ul := X2.lt
    have S2 := chid (X9.out.next b2)
    have R2 := chid (R9.out.next b2)
    clear b2 X2 x9 xl9 HX HAl
    cases Y with
    | false =>
      have hq : Hid (Q = false) := chid (by rw [hQ2.out]; rfl)
      go_wp2_with fail
      go_ret
      exact ⟨by rw [hq.out]; rfl, BW2.out⟩
    | true =>
      have hq : Hid (Q = decide (s3 = 3)) := chid (by rw [hQ2.out]; rfl)
      go_wp2_with fail
      refine Calls.mono (HFi.out _ BW2.out b sb S2.out R2.out) ?_
      rintro e w3 ⟨rfl, b3⟩
      have BW3 := chid (cbelow_on BW2.out b3 BW2.out.size)
      clear b3 u0 u1 u2 u3
      go_wp2_with fail
      go_ret
      exact ⟨by rw [hq.out]; rfl, BW3.out⟩)

theorem sort_of {wn cn ln : Int} {t : Co} (h : csort ladF wn cn ln t ≠ 0) : ∃ k : Nat, t.op = (k : Int) ∧ 1 ≤ k ∧ k ≤ 32 ∧ fitsB k wn cn ln t = true ∧ (∀ x, x ∈ t.parts → csort ladF wn cn ln x ≠ 0) ∧ csort ladF wn cn ln t = sortF ladF k t (t.parts.map (csort ladF wn cn ln)) := by
  have e := csort_eq ladF wn cn ln t
  by_cases h1 : 1 ≤ t.op ∧ t.op ≤ 32
  · rw [if_pos h1] at e
    by_cases h2 : fitsB t.op.toNat wn cn ln t = true
    · rw [if_pos h2] at e
      by_cases h3 : (t.parts.map (csort ladF wn cn ln)).contains 0 = true
      · rw [if_pos h3] at e; exact absurd e h
      · rw [if_neg h3] at e
        refine ⟨t.op.toNat, by omega, by omega, by omega, h2, fun x hx hz => h3 ?_, e⟩
        rw [List.contains_iff_mem, List.mem_map]
        exact ⟨x, hx, hz⟩
    · rw [if_neg h2] at e; exact absurd e h
  · rw [if_neg h1] at e; exact absurd e h
theorem sort_nodes {wn cn ln : Int} (t : Co) : csort ladF wn cn ln t ≠ 0 → ∀ x, x ∈ cpord t → csort ladF wn cn ln x ≠ 0 := by
  induction t using Co.ind with
  | h t ih =>
    intro h x hx
    rw [cpord_eq] at hx
    rcases List.mem_cons.1 hx with rfl | hx
    · exact h
    · obtain ⟨l, hl, hm⟩ := List.mem_flatten.1 hx
      obtain ⟨y, hy, rfl⟩ := List.mem_map.1 hl
      obtain ⟨k, -, -, -, -, hp, -⟩ := sort_of h
      exact ih y hy (hp y hy) x hm
theorem memD_of {wn cn ln : Int} (hl : ln ≤ 256) {t : Co} (h : csort ladF wn cn ln t ≠ 0) : MemD t := by
  intro h7
  obtain ⟨k, hk, h1, h2, hf, hp, hs⟩ := sort_of h
  obtain rfl : k = 7 := by omega
  have hf2 : fitsB 7 wn cn ln t = true := hf
  have e1 : sortF ladF 7 t (t.parts.map (csort ladF wn cn ln)) = alikeF 1 (t.parts.map (csort ladF wn cn ln)) := rfl
  rw [hs, e1] at h
  obtain ⟨g1, -⟩ := alike_of h
  obtain ⟨x, hx⟩ := len1 (by simpa using g1 : t.parts.length = 1)
  refine ⟨?_, x, hx, fun h0 => ?_⟩
  · simp [fitsB, belowB] at hf2
    omega
  · obtain ⟨j, hj, j1, -⟩ := sort_of (hp x (by rw [hx]; simp))
    omega
theorem memD_plan {p : PlP} (hs : sortsB p = true) (hl : p.loc ≤ 256) : ∀ x, x ∈ plord p → MemD x := by
  unfold sortsB at hs
  rw [Bool.and_eq_true, List.all_eq_true] at hs
  obtain ⟨hg, hf⟩ := hs
  have hf2 : soP p p.fin ≠ 0 := by have := of_decide_eq_true hf; omega
  intro x hx
  unfold plord at hx
  rcases List.mem_append.1 hx with hx | hx
  · obtain ⟨l, hm, hxl⟩ := List.mem_flatten.1 hx
    obtain ⟨g, hgm, rfl⟩ := List.mem_map.1 hm
    have hgg := hg g hgm
    rw [Bool.and_eq_true] at hgg
    have h1 := of_decide_eq_true hgg.1
    have h2 := of_decide_eq_true hgg.2
    rcases List.mem_append.1 hxl with h | h
    · have n1 : soP p g.1 ≠ 0 := by omega
      exact memD_of hl (sort_nodes g.1 n1 x h)
    · have n2 : soP p g.2 ≠ 0 := by omega
      exact memD_of hl (sort_nodes g.2 n2 x h)
  · exact memD_of hl (sort_nodes p.fin hf2 x hx)
set_option maxHeartbeats 2000000 in
theorem fewEnough_c (p : PlP) (v : PlV) (w : World) (hs : PlAt w p v) : Calls Tryz.prog 23 #[plV p v] w fun e w' => e = .returned (.bool (sizesB p && fewB p)) ∧ Below w.heap.size w w' := by
  have HF := chid (fun W (hW : Below w.heap.size w W) => fewNodes_c p v W (hs.next hW))
  obtain ⟨a1, c1, a2, c2, a3, c3, a4, c4, a5, c5, rfl, g1, g2, g3, g4⟩ := hs.shapes
  obtain ⟨Q, hQ⟩ : ∃ Q, Hid (Q = (sizesB p && fewB p)) := ⟨_, rfl⟩
  rw [← hQ.out]
  have hQ2 : Hid (Q = (decide (p.mets.length ≤ 64 ∧ p.wins.length ≤ 256 ∧ p.crons.length ≤ 256 ∧ 0 ≤ p.loc ∧ p.loc ≤ 256) && fewB p)) := hQ
  have B0 := chid ((Below.refl w.heap.size w).alloc (Nat.le_refl _) (.cells (plL p ⟨.slice a1 p.mets.length c1, .slice a2 p.wins.length c2, .slice a3 p.crons.length c3, .slice a4 p.gs.length c4, .slice a5 p.fin.parts.length c5⟩).toArray 32))
  generalize fewB p = Y at *
  clear hs hQ g4
  have no : Hid (¬ (p.mets.length ≤ 64 ∧ p.wins.length ≤ 256 ∧ p.crons.length ≤ 256 ∧ 0 ≤ p.loc ∧ p.loc ≤ 256) → Q = false) := fun h => by rw [hQ2.out, decide_eq_false h]; rfl
  by_cases h1 : p.mets.length ≤ 64
  case neg =>
    have e1 := no.out (fun h => h1 h.1)
    subst e1
    have h1' : ¬ (p.mets.length : Int) ≤ 64 := by omega
    clear no hQ2
    go_enter Tryz.func23, Tryz.ntmps23
    go_wp2_with fail
    go_ret
    exact ⟨rfl, B0.out⟩
  have h1' : (p.mets.length : Int) ≤ 64 := by omega
  by_cases h2 : p.wins.length ≤ 256
  case neg =>
    have e1 := no.out (fun h => h2 h.2.1)
    subst e1
    have h2' : ¬ (p.wins.length : Int) ≤ 256 := by omega
    clear no hQ2
    go_enter Tryz.func23, Tryz.ntmps23
    go_wp2_with fail
    go_ret
    exact ⟨rfl, B0.out⟩
  have h2' : (p.wins.length : Int) ≤ 256 := by omega
  by_cases h3 : p.crons.length ≤ 256
  case neg =>
    have e1 := no.out (fun h => h3 h.2.2.1)
    subst e1
    have h3' : ¬ (p.crons.length : Int) ≤ 256 := by omega
    clear no hQ2
    go_enter Tryz.func23, Tryz.ntmps23
    go_wp2_with fail
    go_ret
    exact ⟨rfl, B0.out⟩
  have h3' : (p.crons.length : Int) ≤ 256 := by omega
  by_cases h4 : 0 ≤ p.loc
  case neg =>
    have e1 := no.out (fun h => h4 h.2.2.2.1)
    subst e1
    clear no hQ2
    go_enter Tryz.func23, Tryz.ntmps23
    go_wp2_with fail
    go_ret
    exact ⟨rfl, B0.out⟩
  by_cases h5 : p.loc ≤ 256
  case neg =>
    have e1 := no.out (fun h => h5 h.2.2.2.2)
    subst e1
    clear no hQ2
    go_enter Tryz.func23, Tryz.ntmps23
    go_wp2_with fail
    go_ret
    exact ⟨rfl, B0.out⟩
  have e1 : Q = Y := by rw [hQ2.out, decide_eq_true ⟨h1, h2, h3, h4, h5⟩]; rfl
  subst e1
  clear no hQ2
  go_enter Tryz.func23, Tryz.ntmps23
  go_wp2_with fail
  refine Calls.mono (HF.out _ B0.out) ?_
  rintro e w1 ⟨rfl, b1⟩
  have B1 := chid (cbelow_on B0.out b1 B0.out.size)
  clear b1
  go_wp2_with fail
  go_ret
  exact ⟨rfl, B1.out⟩
set_option maxHeartbeats 2000000 in
/-- Formed says whether the plan is formed. -/
theorem cFormed_c (q : Co → Co → Bool) (hq : ∀ a b, q a b = true ↔ a = b) (p : PlP) (v : PlV) (w : World) (hF : FldAt w) (hs : PlAt w p v) : Calls Tryz.prog 12 #[plV p v] w fun e w' => e = .returned (.bool (formedP q p)) ∧ Below w.heap.size w w' := by
  have H1 := chid (fun W (hW : Below w.heap.size w W) => fewEnough_c p v W (hs.next hW))
  have H2 := chid (fun W => cRight_c p.ru W)
  have H3 := chid (fun W (hW : Below w.heap.size w W) => rightLists_c p v W (hF.later hW) (hs.next hW))
  have H4 := chid (fun h W (hW : Below w.heap.size w W) => rightSorts_c p v W (hs.next hW) h)
  have H5 := chid (fun h1 h2 W (hW : Below w.heap.size w W) => likeMemos_c q hq p v W (memD_plan h1 h2) (hs.next hW))
  have hsz : Hid (sizesB p = true → p.loc ≤ 256) := fun h => (of_decide_eq_true h).2.2.2.2
  obtain ⟨a1, c1, a2, c2, a3, c3, a4, c4, a5, c5, rfl, g1, g2, g3, g4⟩ := hs.shapes
  obtain ⟨Q, hQ⟩ : ∃ Q, Hid (Q = formedP q p) := ⟨_, rfl⟩
  rw [← hQ.out]
  have hQ2 : Hid (Q = (sizesB p && fewB p && ruB p.ru && listsB p && sortsB p && alikeB q p)) := hQ
  have X0 := chid (Box.new w (plL p ⟨.slice a1 p.mets.length c1, .slice a2 p.wins.length c2, .slice a3 p.crons.length c3, .slice a4 p.gs.length c4, .slice a5 p.fin.parts.length c5⟩) 32)
  have B0 := chid ((Below.refl w.heap.size w).alloc (Nat.le_refl _) (.cells (plL p ⟨.slice a1 p.mets.length c1, .slice a2 p.wins.length c2, .slice a3 p.crons.length c3, .slice a4 p.gs.length c4, .slice a5 p.fin.parts.length c5⟩).toArray 32))
  generalize sizesB p = y1 at *
  generalize fewB p = y2 at *
  generalize ruB p.ru = y3 at *
  generalize listsB p = y4 at *
  generalize sortsB p = y5 at *
  generalize alikeB q p = y6 at *
  clear hs hQ hF g1 g2 g3 g4
  go_enter Tryz.func12, Tryz.ntmps12
  go_wp2_with fail
  refine Calls.mono (H1.out _ B0.out) ?_
  rintro e w1 ⟨rfl, b1⟩
  have B1 := chid (cbelow_on B0.out b1 B0.out.size)
  have X1 := chid (X0.out.next b1)
  clear b1 X0 H1
  cases y1 with
  | false =>
    have e1 : Hid (Q = false) := chid (by rw [hQ2.out]; simp)
    simp only [Bool.false_and]
    go_wp2_with fail
    go_ret
    exact ⟨by rw [e1.out]; rfl, B1.out⟩
  | true =>
  cases y2 with
  | false =>
    have e1 : Hid (Q = false) := chid (by rw [hQ2.out]; simp)
    simp only [Bool.true_and]
    go_wp2_with fail
    go_ret
    exact ⟨by rw [e1.out]; rfl, B1.out⟩
  | true =>
  have z1 := X1.out.cell 1 _ rfl
  have z2 := X1.out.cell 2 _ rfl
  have z3 := X1.out.cell 3 _ rfl
  have z4 := X1.out.cell 4 _ rfl
  have z5 := X1.out.cell 5 _ rfl
  have zl := X1.out.lt
  simp only [Bool.true_and]
  go_wp2_with fail
  refine Calls.mono (H2.out _) ?_
  rintro e w2 ⟨rfl, b2⟩
  have B2 := chid (cbelow_on B1.out b2 B1.out.size)
  have X2 := chid (X1.out.next b2)
  clear b2 X1 z1 z2 z3 z4 z5 zl H2
  cases y3 with
  | false =>
    have e1 : Hid (Q = false) := chid (by rw [hQ2.out]; simp)
    go_wp2_with fail
    go_ret
    exact ⟨by rw [e1.out]; rfl, B2.out⟩
  | true =>
  have t0 := X2.out.cell 0 _ rfl
  have t1 := X2.out.cell 1 _ rfl
  have t2 := X2.out.cell 2 _ rfl
  have t3 := X2.out.cell 3 _ rfl
  have t4 := X2.out.cell 4 _ rfl
  have t5 := X2.out.cell 5 _ rfl
  have t6 := X2.out.cell 6 _ rfl
  have t7 := X2.out.cell 7 _ rfl
  have t8 := X2.out.cell 8 _ rfl
  have t9 := X2.out.cell 9 _ rfl
  have t10 := X2.out.cell 10 _ rfl
  have t11 := X2.out.cell 11 _ rfl
  have t12 := X2.out.cell 12 _ rfl
  have t13 := X2.out.cell 13 _ rfl
  have tl := X2.out.lt
  go_wp2_with fail
  refine Calls.mono (H3.out _ B2.out) ?_
  rintro e w3 ⟨rfl, b⟩
  have B3 := chid (cbelow_on B2.out b B2.out.size)
  have X3 := chid (X2.out.next b)
  clear b X2 t0 t1 t2 t3 t4 t5 t6 t7 t8 t9 t10 t11 t12 t13 tl
  cases y4 with
  | false =>
    have e1 : Hid (Q = false) := chid (by rw [hQ2.out]; simp)
    go_wp2_with fail
    go_ret
    exact ⟨by rw [e1.out]; rfl, B3.out⟩
  | true =>
  have t0 := X3.out.cell 0 _ rfl
  have t1 := X3.out.cell 1 _ rfl
  have t2 := X3.out.cell 2 _ rfl
  have t3 := X3.out.cell 3 _ rfl
  have t4 := X3.out.cell 4 _ rfl
  have t5 := X3.out.cell 5 _ rfl
  have t6 := X3.out.cell 6 _ rfl
  have t7 := X3.out.cell 7 _ rfl
  have t8 := X3.out.cell 8 _ rfl
  have t9 := X3.out.cell 9 _ rfl
  have t10 := X3.out.cell 10 _ rfl
  have t11 := X3.out.cell 11 _ rfl
  have t12 := X3.out.cell 12 _ rfl
  have t13 := X3.out.cell 13 _ rfl
  have tl := X3.out.lt
  go_wp2_with fail
  refine Calls.mono (H4.out trivial _ B3.out) ?_
  rintro e w4 ⟨rfl, b⟩
  have B4 := chid (cbelow_on B3.out b B3.out.size)
  have X4 := chid (X3.out.next b)
  clear b X3 t0 t1 t2 t3 t4 t5 t6 t7 t8 t9 t10 t11 t12 t13 tl
  cases y5 with
  | false =>
    have e1 : Hid (Q = false) := chid (by rw [hQ2.out]; simp)
    go_wp2_with fail
    go_ret
    exact ⟨by rw [e1.out]; rfl, B4.out⟩
  | true =>
  have t0 := X4.out.cell 0 _ rfl
  have t1 := X4.out.cell 1 _ rfl
  have t2 := X4.out.cell 2 _ rfl
  have t3 := X4.out.cell 3 _ rfl
  have t4 := X4.out.cell 4 _ rfl
  have t5 := X4.out.cell 5 _ rfl
  have t6 := X4.out.cell 6 _ rfl
  have t7 := X4.out.cell 7 _ rfl
  have t8 := X4.out.cell 8 _ rfl
  have t9 := X4.out.cell 9 _ rfl
  have t10 := X4.out.cell 10 _ rfl
  have t11 := X4.out.cell 11 _ rfl
  have t12 := X4.out.cell 12 _ rfl
  have t13 := X4.out.cell 13 _ rfl
  have tl := X4.out.lt
  go_wp2_with fail
  refine Calls.mono (H5.out trivial (hsz.out trivial) _ B4.out) ?_
  rintro e w5 ⟨rfl, b⟩
  have B5 := chid (cbelow_on B4.out b B4.out.size)
  have X5 := chid (X4.out.next b)
  clear b X4 t0 t1 t2 t3 t4 t5 t6 t7 t8 t9 t10 t11 t12 t13 tl
  have e1 : Hid (Q = y6) := chid (by rw [hQ2.out]; simp)
  go_wp2_with fail
  go_ret
  exact ⟨by rw [e1.out]; rfl, B5.out⟩
end Go.Proofs.YtigldebdljfnbaaGreatDoor
