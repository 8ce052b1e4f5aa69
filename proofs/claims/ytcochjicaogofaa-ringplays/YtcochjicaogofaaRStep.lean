/- The statement RingPlays: one call of both rings. -/
import Derived.Test.YtcochjicaogofaaRfC
namespace Go.Proofs.Ytcochjicaogofaa
open Go.RowKit

/-- What a push leaves and answers. -/
def pushS (room : Nat) (L : List Int) (v : Int) : List Int × Int × Bool := if L.length = room then (L.tail ++ [v], L.headD 0, true) else (L ++ [v], 0, false)
theorem rPush_any (b q room : Nat) (L : List Int) (v : Int) (w : World) (h : Rg w b q room L) (h1 : 1 ≤ room) (hr : room ≤ 4096) :
    Calls Try.prog 18 #[.pointer (some ⟨b, 0, none⟩), .int .i64 v] w (Leaves w b q room (pushS room L v).1 (pushS room L v).2.1 (pushS room L v).2.2) := by
  have hl := h.len
  by_cases e : L.length = room
  · cases L with
    | nil => simp at e; omega
    | cons x L => simp only [pushS, if_pos e]; exact rPush_full b q room x L v w h hr e
  · simp only [pushS, if_neg e]; exact rPush_room b q room L v w h hr (by omega)
theorem fPush_any (rb g room : Nat) (L : List Int) (v : Int) (w : World) (h : Ref w rb g room L) (hl : L.length ≤ room) (h1 : 1 ≤ room) (hr : room ≤ 4096) :
    Calls Try.prog 25 #[.pointer (some ⟨rb, 0, none⟩), .int .i64 v] w (RLeaves w rb g room (pushS room L v).1 (pushS room L v).2.1 (pushS room L v).2.2) := by
  by_cases e : L.length = room
  · cases L with
    | nil => simp at e; omega
    | cons x L => simp only [pushS, if_pos e]; exact fPush_full rb g room x L v w h hr e
  · simp only [pushS, if_neg e]; exact fPush_room rb g room L v w h hr (by omega)
theorem rDrop_any (b q room : Nat) (L : List Int) (w : World) (h : Rg w b q room L) (hr : room ≤ 4096) :
    Calls Try.prog 20 #[.pointer (some ⟨b, 0, none⟩)] w (Leaves w b q room L.tail (L.headD 0) (!L.isEmpty)) := by
  cases L with
  | nil => exact (rDrop_no _ room w (.inr ⟨b, q, rfl, h⟩)).mono fun e w' ⟨he, hw⟩ => by subst hw; exact ⟨q, he, h, Turn.refl _ _, .inl rfl⟩
  | cons x L => exact rDrop_yes b q room L x w h hr
theorem fDrop_any (rb g room : Nat) (L : List Int) (w : World) (h : Ref w rb g room L) (hl : L.length ≤ room) (hr : room ≤ 4096) :
    Calls Try.prog 26 #[.pointer (some ⟨rb, 0, none⟩)] w (RLeaves w rb g room L.tail (L.headD 0) (!L.isEmpty)) := by
  cases L with
  | nil => exact (fDrop_no rb g room w h).mono fun e w' ⟨he, hw⟩ => by subst hw; exact ⟨g, he, h, Turn.refl _ _, .inl rfl⟩
  | cons x L => exact fDrop_yes rb g room x L w h hr hl
/-- What At answers. -/
def atS (L : List Int) (i : Int) : Int := if i < 0 then 0 else L[i.toNat]?.getD 0
def atB (L : List Int) (i : Int) : Bool := decide (0 ≤ i ∧ i < (L.length : Int))
theorem rAt_any (b q room : Nat) (L : List Int) (i : Int) (w : World) (h : Rg w b q room L) (hr : room ≤ 4096) :
    Calls Try.prog 21 #[.pointer (some ⟨b, 0, none⟩), .int .i64 i] w (Leaves w b q room L (atS L i) (atB L i)) := by
  by_cases e : 0 ≤ i ∧ i < (L.length : Int)
  · obtain ⟨j, rfl⟩ := i64_nat e.1
    obtain ⟨x, hx⟩ : ∃ x, L[j]? = some x := ⟨_, List.getElem?_eq_getElem (by omega)⟩
    have e1 : atS L (j : Nat) = x := by unfold atS; rw [if_neg (by omega)]; simp [hx]
    have e2 : atB L (j : Nat) = true := decide_eq_true e
    rw [e1, e2]
    refine (rAt_yes b q room L j x w h hr hx).mono fun e w' ⟨he, k, hw⟩ => ?_
    subst hw
    exact ⟨q, he, h.next (drewN_below _ _), drewN_turn _ _ _, .inl rfl⟩
  · have e1 : atS L i = 0 := by
      unfold atS
      split
      · rfl
      · rw [List.getElem?_eq_none (by omega)]; rfl
    have e2 : atB L i = false := decide_eq_false e
    rw [e1, e2]
    exact (rAt_no _ room L i w (.inr ⟨b, q, rfl, h⟩) (by omega)).mono fun e w' ⟨he, hw⟩ => by subst hw; exact ⟨q, he, h, Turn.refl _ _, .inl rfl⟩
theorem fAt_any (rb g room : Nat) (L : List Int) (i : Int) (w : World) (h : Ref w rb g room L) :
    Calls Try.prog 27 #[.pointer (some ⟨rb, 0, none⟩), .int .i64 i] w (RLeaves w rb g room L (atS L i) (atB L i)) := by
  by_cases e : 0 ≤ i ∧ i < (L.length : Int)
  · obtain ⟨j, rfl⟩ := i64_nat e.1
    obtain ⟨x, hx⟩ : ∃ x, L[j]? = some x := ⟨_, List.getElem?_eq_getElem (by omega)⟩
    have e1 : atS L (j : Nat) = x := by unfold atS; rw [if_neg (by omega)]; simp [hx]
    have e2 : atB L (j : Nat) = true := decide_eq_true e
    rw [e1, e2]
    exact (fAt_yes rb g room L j x w h hx).mono fun e w' ⟨he, hw⟩ => by subst hw; exact ⟨g, he, h, Turn.refl _ _, .inl rfl⟩
  · have e1 : atS L i = 0 := by
      unfold atS
      split
      · rfl
      · rw [List.getElem?_eq_none (by omega)]; rfl
    have e2 : atB L i = false := decide_eq_false e
    rw [e1, e2]
    exact (fAt_no rb g room L i w h (by omega)).mono fun e w' ⟨he, hw⟩ => by subst hw; exact ⟨g, he, h, Turn.refl _ _, .inl rfl⟩

/-- Both rings hold L, in memory of the call's own (from the block B on), apart from each other. -/
structure Both (B : Nat) (w : World) (b q rb g room : Nat) (L : List Int) : Prop where
  ring : Rg w b q room L
  ref : Ref w rb g room L
  apart : b ≠ rb ∧ b ≠ g ∧ q ≠ rb ∧ q ≠ g
  own : B ≤ b ∧ B ≤ q ∧ B ≤ rb ∧ B ≤ g
  start : B ≤ w.heap.size
theorem Both.next {B : Nat} {w w' : World} {b q rb g room : Nat} {L : List Int} (h : Both B w b q rb g room L) (t : Below w.heap.size w w') : Both B w' b q rb g room L := ⟨h.ring.next t, h.ref.next t, h.apart, h.own, Nat.le_trans h.start t.size⟩
/-- The ring has been turned, the document's not yet. -/
structure Half (B : Nat) (w : World) (b q rb g room : Nat) (L L0 : List Int) : Prop where
  ring : Rg w b q room L
  ref : Ref w rb g room L0
  apart : b ≠ rb ∧ b ≠ g ∧ q ≠ rb ∧ q ≠ g
  own : B ≤ b ∧ B ≤ q ∧ B ≤ rb ∧ B ≤ g
  start : B ≤ w.heap.size
theorem Both.first {B : Nat} {w w' : World} {b q q' rb g room : Nat} {L L' : List Int} (h : Both B w b q rb g room L) (hr : Rg w' b q' room L') (t : Turn [b, q] w w') (ho : q' = q ∨ w.heap.size ≤ q') : Half B w' b q' rb g room L' L ∧ Below B w w' := by
  have a := h.apart
  have o := h.own
  have s := h.start
  have l1 := h.ref.lt
  have l2 := h.ref.glt
  have l3 := t.size
  refine ⟨⟨hr, h.ref.turn t (by simp; omega) (by simp; omega), by omega, by omega, by omega⟩, t.below (by simp; omega) s⟩
theorem Half.second {B : Nat} {w w' : World} {b q rb g g' room : Nat} {L L0 : List Int} (h : Half B w b q rb g room L L0) (hr : Ref w' rb g' room L) (t : Turn [rb, g] w w') (ho : g' = g ∨ w.heap.size ≤ g') : Both B w' b q rb g' room L ∧ Below B w w' := by
  have a := h.apart
  have o := h.own
  have s := h.start
  have l1 := h.ring.lt
  have l2 := h.ring.qlt
  have l3 := t.size
  refine ⟨⟨h.ring.turn t (by simp; omega) (by simp; omega), hr, by omega, by omega, by omega⟩, t.below (by simp; omega) s⟩
/-- The step answered true, and both rings hold the same. -/
def Stepped (B : Nat) (w : World) (b rb room : Nat) (e : Ending) (w' : World) : Prop := e = .returned (.bool true) ∧ Below B w w' ∧ ∃ q g L, Both B w' b q rb g room L
set_option maxRecDepth 20000 in
set_option maxHeartbeats 2000000 in
theorem step_push (B b q rb g room : Nat) (L : List Int) (v : Int) (w : World) (h : Both B w b q rb g room L) (h1 : 1 ≤ room) (hr : room ≤ 4096) :
    Calls Try.prog 10 #[.pointer (some ⟨b, 0, none⟩), .pointer (some ⟨rb, 0, none⟩), .agg #[.int .i64 1, .int .i64 v]] w (Stepped B w b rb room) := by
  have h0 := h.next (w' := w.alloc (.cells #[.int .i64 1, .int .i64 v] 33)) ((Below.refl _ _).alloc (Nat.le_refl _) _)
  have hbx := one_box w 33 [.int .i64 1, .int .i64 v]
  have hbb : Below B w (w.alloc (.cells #[.int .i64 1, .int .i64 v] 33)) := (Below.refl _ _).alloc h.start _
  have HO := hid h0
  have HB := hid hbb
  have HX := hid hbx.1
  have hbl := h.start
  have l1 := h.ring.lt
  have l2 := h.ring.qlt
  have l3 := h.ref.lt
  have l4 := h.ref.glt
  have hlen := h.ring.len
  have r1 := fun wx (hx : Rg wx b q room L) => rPush_any b q room L v wx hx h1 hr
  have r2 := fun wx (hx : Ref wx rb g room L) => fPush_any rb g room L v wx hx hlen h1 hr
  generalize (pushS room L v).1 = G0 at r1 r2
  generalize (pushS room L v).2.1 = G1 at r1 r2
  generalize (pushS room L v).2.2 = G2 at r1 r2
  have R1 := hid r1
  have R2 := hid r2
  clear r1 r2
  clear h h0 hbb hbx
  go_enter Try.func10, Try.ntmps10
  go_wp2_with fail
  refine Calls.mono (R1.out _ HO.out.ring) ?_
  rintro e w1 ⟨q1, rfl, hr1, t1, o1⟩
  obtain ⟨hh, hb1⟩ := HO.out.first hr1 t1 o1
  have HH := hid hh
  have hb1' := HB.out.trans hb1
  have HB1 := hid hb1'
  obtain ⟨x0, x1, y0, y1⟩ := (HX.out.turn t1 (by simp; omega)).two
  clear hr1 t1 o1 hh hb1 hb1'
  go_wp2_with fail
  refine Calls.mono (R2.out _ HH.out.ref) ?_
  rintro e w2 ⟨g1, rfl, hr1, t1, o1⟩
  obtain ⟨h2, hb2⟩ := HH.out.second hr1 t1 o1
  replace hb2 := HB1.out.trans hb2
  clear hr1 t1 o1 x0 x1 y0 y1
  have hl := h2.ring.len
  obtain ⟨lv, hrf⟩ := h2.ref
  obtain ⟨a2, c2, hlv⟩ := hrf.sl.shape
  subst hlv
  obtain ⟨d0, d1, e0, e1⟩ := hrf.box.two
  have hblt := hrf.box.lt
  have hP : ∀ n, RgP (w2.drewN n) (some ⟨b, 0, none⟩) room G0 := fun n => .inr ⟨b, q1, rfl, h2.ring.next (drewN_below _ _)⟩
  have q1' := fun n => Calls.quiet_of_same (n := n) ((rLen_p _ room G0 (w2.drewN n) (hP n)).mono fun _ _ k => ⟨k.1, k.2.symm⟩)
  have q2' := fun n => Calls.quiet_of_same (n := n) ((rRoom_p _ room G0 (w2.drewN n) (hP n)).mono fun _ _ k => ⟨k.1, k.2.symm⟩)
  have H2 := hid h2
  have Q1 := hid q1'
  have Q2 := hid q2'
  have HBB := hid hb2
  clear h2 hP q1' q2' hrf hb2
  go_wp2_with fail
  go_quiet (first | (go_at_call 23; exact Q1.out _) | (go_at_call 24; exact Q2.out _))
  go_wp2_with fail
  go_ret
  exact ⟨rfl, HBB.out.trans ((drewN_below _ _).mono H2.out.start), q1, g1, G0, H2.out.next (drewN_below _ _)⟩
set_option maxRecDepth 20000 in
set_option maxHeartbeats 2000000 in
theorem step_drop (B b q rb g room : Nat) (L : List Int) (v : Int) (w : World) (h : Both B w b q rb g room L) (_h1 : 1 ≤ room) (hr : room ≤ 4096) :
    Calls Try.prog 10 #[.pointer (some ⟨b, 0, none⟩), .pointer (some ⟨rb, 0, none⟩), .agg #[.int .i64 2, .int .i64 v]] w (Stepped B w b rb room) := by
  have h0 := h.next (w' := w.alloc (.cells #[.int .i64 2, .int .i64 v] 33)) ((Below.refl _ _).alloc (Nat.le_refl _) _)
  have hbx := one_box w 33 [.int .i64 2, .int .i64 v]
  have hbb : Below B w (w.alloc (.cells #[.int .i64 2, .int .i64 v] 33)) := (Below.refl _ _).alloc h.start _
  have HO := hid h0
  have HB := hid hbb
  have HX := hid hbx.1
  have hbl := h.start
  have l1 := h.ring.lt
  have l2 := h.ring.qlt
  have l3 := h.ref.lt
  have l4 := h.ref.glt
  have hlen := h.ring.len
  have r1 := fun wx (hx : Rg wx b q room L) => rDrop_any b q room L wx hx hr
  have r2 := fun wx (hx : Ref wx rb g room L) => fDrop_any rb g room L wx hx hlen hr
  generalize L.tail = G0 at r1 r2
  generalize L.headD 0 = G1 at r1 r2
  generalize (!L.isEmpty) = G2 at r1 r2
  have R1 := hid r1
  have R2 := hid r2
  clear r1 r2
  clear h h0 hbb hbx
  go_enter Try.func10, Try.ntmps10
  go_wp2_with fail
  refine Calls.mono (R1.out _ HO.out.ring) ?_
  rintro e w1 ⟨q1, rfl, hr1, t1, o1⟩
  obtain ⟨hh, hb1⟩ := HO.out.first hr1 t1 o1
  have HH := hid hh
  have hb1' := HB.out.trans hb1
  have HB1 := hid hb1'
  obtain ⟨x0, x1, y0, y1⟩ := (HX.out.turn t1 (by simp; omega)).two
  clear hr1 t1 o1 hh hb1 hb1'
  go_wp2_with fail
  refine Calls.mono (R2.out _ HH.out.ref) ?_
  rintro e w2 ⟨g1, rfl, hr1, t1, o1⟩
  obtain ⟨h2, hb2⟩ := HH.out.second hr1 t1 o1
  replace hb2 := HB1.out.trans hb2
  clear hr1 t1 o1 x0 x1 y0 y1
  have hl := h2.ring.len
  obtain ⟨lv, hrf⟩ := h2.ref
  obtain ⟨a2, c2, hlv⟩ := hrf.sl.shape
  subst hlv
  obtain ⟨d0, d1, e0, e1⟩ := hrf.box.two
  have hblt := hrf.box.lt
  have hP : ∀ n, RgP (w2.drewN n) (some ⟨b, 0, none⟩) room G0 := fun n => .inr ⟨b, q1, rfl, h2.ring.next (drewN_below _ _)⟩
  have q1' := fun n => Calls.quiet_of_same (n := n) ((rLen_p _ room G0 (w2.drewN n) (hP n)).mono fun _ _ k => ⟨k.1, k.2.symm⟩)
  have q2' := fun n => Calls.quiet_of_same (n := n) ((rRoom_p _ room G0 (w2.drewN n) (hP n)).mono fun _ _ k => ⟨k.1, k.2.symm⟩)
  have H2 := hid h2
  have Q1 := hid q1'
  have Q2 := hid q2'
  have HBB := hid hb2
  clear h2 hP q1' q2' hrf hb2
  go_wp2_with fail
  go_quiet (first | (go_at_call 23; exact Q1.out _) | (go_at_call 24; exact Q2.out _))
  go_wp2_with fail
  go_ret
  exact ⟨rfl, HBB.out.trans ((drewN_below _ _).mono H2.out.start), q1, g1, G0, H2.out.next (drewN_below _ _)⟩
set_option maxRecDepth 20000 in
set_option maxHeartbeats 2000000 in
theorem step_at (B b q rb g room : Nat) (L : List Int) (v : Int) (w : World) (h : Both B w b q rb g room L) (_h1 : 1 ≤ room) (hr : room ≤ 4096) :
    Calls Try.prog 10 #[.pointer (some ⟨b, 0, none⟩), .pointer (some ⟨rb, 0, none⟩), .agg #[.int .i64 3, .int .i64 v]] w (Stepped B w b rb room) := by
  have h0 := h.next (w' := w.alloc (.cells #[.int .i64 3, .int .i64 v] 33)) ((Below.refl _ _).alloc (Nat.le_refl _) _)
  have hbx := one_box w 33 [.int .i64 3, .int .i64 v]
  have hbb : Below B w (w.alloc (.cells #[.int .i64 3, .int .i64 v] 33)) := (Below.refl _ _).alloc h.start _
  have HO := hid h0
  have HB := hid hbb
  have HX := hid hbx.1
  have hbl := h.start
  have l1 := h.ring.lt
  have l2 := h.ring.qlt
  have l3 := h.ref.lt
  have l4 := h.ref.glt
  have hlen := h.ring.len
  have r1 := fun wx (hx : Rg wx b q room L) => rAt_any b q room L v wx hx hr
  have r2 := fun wx (hx : Ref wx rb g room L) => fAt_any rb g room L v wx hx
  generalize atS L v = G0 at r1 r2
  generalize atB L v = G1 at r1 r2
  have R1 := hid r1
  have R2 := hid r2
  clear r1 r2
  clear h h0 hbb hbx
  go_enter Try.func10, Try.ntmps10
  go_wp2_with fail
  refine Calls.mono (R1.out _ HO.out.ring) ?_
  rintro e w1 ⟨q1, rfl, hr1, t1, o1⟩
  obtain ⟨hh, hb1⟩ := HO.out.first hr1 t1 o1
  have HH := hid hh
  have hb1' := HB.out.trans hb1
  have HB1 := hid hb1'
  obtain ⟨x0, x1, y0, y1⟩ := (HX.out.turn t1 (by simp; omega)).two
  clear hr1 t1 o1 hh hb1 hb1'
  go_wp2_with fail
  refine Calls.mono (R2.out _ HH.out.ref) ?_
  rintro e w2 ⟨g1, rfl, hr1, t1, o1⟩
  obtain ⟨h2, hb2⟩ := HH.out.second hr1 t1 o1
  replace hb2 := HB1.out.trans hb2
  clear hr1 t1 o1 x0 x1 y0 y1
  have hl := h2.ring.len
  obtain ⟨lv, hrf⟩ := h2.ref
  obtain ⟨a2, c2, hlv⟩ := hrf.sl.shape
  subst hlv
  obtain ⟨d0, d1, e0, e1⟩ := hrf.box.two
  have hblt := hrf.box.lt
  have hP : ∀ n, RgP (w2.drewN n) (some ⟨b, 0, none⟩) room L := fun n => .inr ⟨b, q1, rfl, h2.ring.next (drewN_below _ _)⟩
  have q1' := fun n => Calls.quiet_of_same (n := n) ((rLen_p _ room L (w2.drewN n) (hP n)).mono fun _ _ k => ⟨k.1, k.2.symm⟩)
  have q2' := fun n => Calls.quiet_of_same (n := n) ((rRoom_p _ room L (w2.drewN n) (hP n)).mono fun _ _ k => ⟨k.1, k.2.symm⟩)
  have H2 := hid h2
  have Q1 := hid q1'
  have Q2 := hid q2'
  have HBB := hid hb2
  clear h2 hP q1' q2' hrf hb2
  go_wp2_with fail
  go_quiet (first | (go_at_call 23; exact Q1.out _) | (go_at_call 24; exact Q2.out _))
  go_wp2_with fail
  go_ret
  exact ⟨rfl, HBB.out.trans ((drewN_below _ _).mono H2.out.start), q1, g1, L, H2.out.next (drewN_below _ _)⟩
set_option maxRecDepth 20000 in
set_option maxHeartbeats 2000000 in
theorem step_other (B b q rb g room : Nat) (L : List Int) (kd v : Int) (w : World) (h : Both B w b q rb g room L) (_h1 : 1 ≤ room) (_hr : room ≤ 4096)
    (k1 : ¬ kd = 1) (k2 : ¬ kd = 2) (k3 : ¬ kd = 3) (k4 : ¬ kd = 4) (k5 : ¬ kd = 5) :
    Calls Try.prog 10 #[.pointer (some ⟨b, 0, none⟩), .pointer (some ⟨rb, 0, none⟩), .agg #[.int .i64 kd, .int .i64 v]] w (Stepped B w b rb room) := by
  have h0 := h.next (w' := w.alloc (.cells #[.int .i64 kd, .int .i64 v] 33)) ((Below.refl _ _).alloc (Nat.le_refl _) _)
  have hbx := one_box w 33 [.int .i64 kd, .int .i64 v]
  have hbb : Below B w (w.alloc (.cells #[.int .i64 kd, .int .i64 v] 33)) := (Below.refl _ _).alloc h.start _
  have HO := hid h0
  have HB := hid hbb
  have HX := hid hbx.1
  have hbl := h.start
  have l1 := h.ring.lt
  have l2 := h.ring.qlt
  have l3 := h.ref.lt
  have l4 := h.ref.glt
  have hlen := h.ring.len
  clear h h0 hbb hbx
  have k1' : (kd == 1) = false := by simpa using k1
  have k2' : (kd == 2) = false := by simpa using k2
  have k3' : (kd == 3) = false := by simpa using k3
  have k4' : (kd == 4) = false := by simpa using k4
  have k5' : (kd == 5) = false := by simpa using k5
  go_enter Try.func10, Try.ntmps10
  obtain ⟨w2, hw2⟩ : ∃ w2, w2 = w.alloc (.cells #[.int .i64 kd, .int .i64 v] 33) := ⟨_, rfl⟩
  have h2 := HO.out
  have hb2 := HB.out
  rw [← hw2] at h2 hb2
  have hl := h2.ring.len
  obtain ⟨lv, hrf⟩ := h2.ref
  obtain ⟨a2, c2, hlv⟩ := hrf.sl.shape
  subst hlv
  obtain ⟨d0, d1, e0, e1⟩ := hrf.box.two
  have hblt := hrf.box.lt
  have hP : ∀ n, RgP (w2.drewN n) (some ⟨b, 0, none⟩) room L := fun n => .inr ⟨b, q, rfl, h2.ring.next (drewN_below _ _)⟩
  have q1' := fun n => Calls.quiet_of_same (n := n) ((rLen_p _ room L (w2.drewN n) (hP n)).mono fun _ _ k => ⟨k.1, k.2.symm⟩)
  have q2' := fun n => Calls.quiet_of_same (n := n) ((rRoom_p _ room L (w2.drewN n) (hP n)).mono fun _ _ k => ⟨k.1, k.2.symm⟩)
  have H2 := hid h2
  have Q1 := hid q1'
  have Q2 := hid q2'
  have HBB := hid hb2
  clear h2 hP q1' q2' hrf hb2
  go_wp2_with fail
  rw [← hw2]
  clear hw2
  go_quiet (first | (go_at_call 23; exact Q1.out _) | (go_at_call 24; exact Q2.out _))
  go_wp2_with fail
  go_ret
  exact ⟨rfl, HBB.out.trans ((drewN_below _ _).mono H2.out.start), q, g, L, H2.out.next (drewN_below _ _)⟩
end Go.Proofs.Ytcochjicaogofaa
