/- The document's reader in memory: take, number, two. -/
import Derived.Test.YtecdfnpbcabdnaaGreatDoorPrD
import Derived.Test.YtecdfnpbcabdnaaGreatDoorPxC
namespace Go.Proofs.YtecdfnpbcabdnaaGreatDoor
open Go.RowKit Go.Lib

def TaP (z : Nat) (w : World) (rb tb : Nat) (LL : List Tk) (c : Int) (t : Tk) (S' : Sr) (o : Nat) (e : Ending) (w' : World) : Prop := e = .returned (tkW t) ∧ Turn [rb] w w' ∧ Rr z w' rb tb LL c S' o
set_option maxHeartbeats 2000000 in
theorem qTake_c {z rb tb : Nat} {LL : List Tk} {c : Int} {S : Sr} {o : Nat} (k : Int) (hk : k ≠ 7) (w : World) (hr : Rr z w rb tb LL c S o) :
    Calls Tryz.prog 17 #[.pointer (some ⟨rb, 0, none⟩), .int .i64 k] w (TaP z w rb tb LL c (takeR c k S).1 (takeR c k S).2 o) := by
  have hgood := hr.good
  unfold takeR
  by_cases e1 : erI S.er = 0
  · rw [if_pos (by rw [hgood]; exact decide_eq_true e1)]
    by_cases e2 : (hdT S.L).kind = k
    · rw [if_pos e2]
      obtain ⟨off, cap, i, ov, h⟩ := hr
      have HX := hid2 h
      have hP : Hid (∀ w', Turn [rb] w w' → Box w' rb (rrL tb off LL.length cap (i + 1) ov c (erI S.er) (erW S.er)) → TaP z w rb tb LL c (hdT S.L) (adv S) o (.returned (tkW (hdT S.L))) w') := fun w' ht hb => ⟨rfl, ht, off, cap, i + 1, ov, HX.out.step hb ht (by rw [e2]; exact hk) HX.out.op HX.out.oi HX.out.dp⟩
      show Calls Tryz.prog 17 #[.pointer (some ⟨rb, 0, none⟩), .int .i64 k] w (TaP z w rb tb LL c (hdT S.L) (adv S) o)
      generalize TaP z w rb tb LL c (hdT S.L) (adv S) o = Post at *
      have HB := hid2 h.box
      obtain ⟨t0, t1, t2, t3⟩ := h.hd
      obtain ⟨c0, c1, c2, c3, c4, c5, f0, f1, f2, f3, f4, f5⟩ := h.box.six
      have hl := h.box.lt
      have htl := h.lt
      have hil : (i : Int) < (LL.length : Int) := by have := h.il; omega
      have hmx := h.mx
      have hle := h.le
      generalize hdT S.L = t at *
      generalize hn : LL.length = n at *
      generalize erI S.er = er at *
      generalize erW S.er = wh at *
      clear h hn hgood HX
      have B2 : Hid (∀ (W : World) o1 o2, Below W.heap.size W ((W.alloc o1).alloc o2).drew) := fun W o1 o2 => (((Below.refl _ _).alloc (Nat.le_refl _) _).alloc (by simp) _).drew
      have T0 := hid2 (Turn.refl [rb] w)
      go_enter Tryz.func17, Tryz.ntmps17
      go_wp2_with fail
      go_region_held3 (fun w' => w'.cell? ⟨rb, 0, none⟩ = some (.slice (some ⟨tb, off, none⟩) n cap) ∧ w'.cell? ⟨rb, 1, none⟩ = some (.int .i64 (i : Nat)) ∧ w'.cell? ⟨tb, off + i * 4, none⟩ = some (.int .i64 t.kind) ∧ w'.cell? ⟨tb, off + i * 4 + 1, none⟩ = some (.string t.text) ∧ w'.cell? ⟨tb, off + i * 4 + 2, none⟩ = some (.int .i64 t.n) ∧ w'.cell? ⟨tb, off + i * 4 + 3, none⟩ = some (.int .i64 (t.at_ : Nat))) (simp [go_sem, *]) (fail)
      rename_i hh
      clear hh
      go_wp2_with fail
      refine bodyPost_ret (v := tkW t) (by simp [results, Tryz.results17, go_sem, *]) rfl (hP.out _ ?_ ?_)
      · exact (T0.out.andSet _ _ (.inl (by simp))).andBelow (B2.out _ _ _)
      · exact (HB.out.set 1 (by simp) _).next (B2.out _ _ _)
    · rw [if_neg e2]
      have HW := hid2 (fun W (k : Below w.heap.size w W) => qWrong_c 16 ⟨by decide, by unfold In64; omega⟩ W (hr.next k))
      have hP : Hid (∀ w', Turn [rb] w w' → Rr z w' rb tb LL c (wrR c 16 S) o → TaP z w rb tb LL c tk0 (wrR c 16 S) o (.returned (tkW tk0)) w') := fun w' ht hr' => ⟨rfl, ht, hr'⟩
      show Calls Tryz.prog 17 #[.pointer (some ⟨rb, 0, none⟩), .int .i64 k] w (TaP z w rb tb LL c tk0 (wrR c 16 S) o)
      generalize TaP z w rb tb LL c tk0 (wrR c 16 S) o = Post at *
      generalize wrR c 16 S = S1 at *
      obtain ⟨off, cap, i, ov, h⟩ := hr
      obtain ⟨t0, t1, t2, t3⟩ := h.hd
      obtain ⟨c0, c1, c2, c3, c4, c5, f0, f1, f2, f3, f4, f5⟩ := h.box.six
      have hl := h.box.lt
      have htl := h.lt
      have hil : (i : Int) < (LL.length : Int) := by have := h.il; omega
      have hmx := h.mx
      have hle := h.le
      generalize hdT S.L = t at *
      generalize hn : LL.length = n at *
      generalize erI S.er = er at *
      generalize erW S.er = wh at *
      clear h hn hgood
      have k2 : (t.kind != k) = true := by simpa using e2
      have B2 : Hid (∀ o1 o2, Below w.heap.size w ((w.alloc o1).alloc o2).drew) := fun o1 o2 => (((Below.refl _ _).alloc (Nat.le_refl _) _).alloc (by simp) _).drew
      have HZ := hid2 (Box.new w [.int .i64 0, .string ⟨#[]⟩, .int .i64 0, .int .i64 0] 47)
      go_enter Tryz.func17, Tryz.ntmps17
      go_wp2_with fail
      go_region_held3 (fun w' => w'.cell? ⟨rb, 0, none⟩ = some (.slice (some ⟨tb, off, none⟩) n cap) ∧ w'.cell? ⟨rb, 1, none⟩ = some (.int .i64 (i : Nat)) ∧ w'.cell? ⟨tb, off + i * 4, none⟩ = some (.int .i64 t.kind) ∧ w'.cell? ⟨tb, off + i * 4 + 1, none⟩ = some (.string t.text) ∧ w'.cell? ⟨tb, off + i * 4 + 2, none⟩ = some (.int .i64 t.n) ∧ w'.cell? ⟨tb, off + i * 4 + 3, none⟩ = some (.int .i64 (t.at_ : Nat))) (simp [go_sem, *]) (fail)
      rename_i hh
      clear hh
      go_wp2_with fail
      refine Calls.mono (HW.out _ (B2.out _ _)) ?_
      rintro e w1 ⟨rfl, t4, r4⟩
      have X0 := (HZ.out.next (((Below.refl _ _).alloc (Nat.le_refl _) _).drew)).turn t4 (by simp; omega)
      obtain ⟨x0, x1, x2, x3, y0, y1, y2, y3⟩ := X0.four
      have xl := X0.lt
      have T4 := hid2 ((Turn.of_below (S := [rb]) (B2.out _ _)).trans t4 (fun _ hi => .inl hi))
      have R4 := hid2 r4
      have hl4 := hid2 r4.lts
      clear t4 r4 X0
      go_wp2_with fail
      refine bodyPost_ret (v := tkW tk0) (by simp [results, Tryz.results17, go_sem, *]) rfl (hP.out _ ?_ ?_)
      · exact T4.out.trans (turn_four _ _ _ _ _ _) (fun i hi => .inr (by simp at hi; omega))
      · exact R4.out.turn (turn_four _ _ _ _ _ _) (by simp; omega) (by simp; omega)
  · rw [if_neg (by rw [hgood, decide_eq_false e1]; simp)]
    have hP : Hid (∀ w', Below w.heap.size w w' → TaP z w rb tb LL c tk0 S o (.returned (tkW tk0)) w') := fun w' b => ⟨rfl, Turn.of_below b, hr.next b⟩
    show Calls Tryz.prog 17 #[.pointer (some ⟨rb, 0, none⟩), .int .i64 k] w (TaP z w rb tb LL c tk0 S o)
    generalize TaP z w rb tb LL c tk0 S o = Post at *
    obtain ⟨off, cap, i, ov, h⟩ := hr
    have c4 := h.box.cell 4 _ rfl
    have hl := h.box.lt
    generalize erI S.er = er at *
    have k1 : (er != 0) = true := by simpa using e1
    clear h hgood
    go_enter Tryz.func17, Tryz.ntmps17
    go_wp2_with fail
    refine bodyPost_ret (v := tkW tk0) (by simp [results, Tryz.results17, go_sem, *]) rfl (hP.out _ ?_)
    exact (Below.refl _ _).alloc (Nat.le_refl _) _
theorem cell_of_below {B : Nat} {w w' : World} (k : Below B w w') {b : Nat} (hb : b < B) (j : Nat) : w'.cell? ⟨b, j, none⟩ = w.cell? ⟨b, j, none⟩ := by unfold World.cell?; rw [k.block b hb]
theorem sitr_two {Q : Nat → Prop} {z : Nat} {w : World} {t x y : Tm} {g : Nat} {u v : Value} (hf : Fit z t) (hp : t.parts = [x, y]) (hg : g < w.heap.size) (hB : Q g) (h6 : Six w g 0 x u) (h7 : Six w g 6 y v) (hx : SitQ Q z w x u) (hy : SitQ Q z w y v) : SitQ Q z w t (.slice (some ⟨g, 0, none⟩) 2 2) := by
  rw [sitq_iff, hp]
  refine ⟨hf, _, 2, rfl, Nat.le_refl _, by decide, .inr ⟨g, 0, rfl, hg, hB, fun i hi => ?_⟩⟩
  have h0 : i = 0 ∨ i = 1 := by simp at hi; omega
  rcases h0 with rfl | rfl
  · exact ⟨u, h6, hx⟩
  · exact ⟨v, h7, hy⟩
set_option maxHeartbeats 2000000 in
theorem qTwo_c {z : Nat} {Q : Nat → Prop} (k : Int) (a : Nat) (t s : Tm) (u v : Value) (w : World) (hQ : ∀ b, w.heap.size ≤ b → Q b) (ht : SitQ Q z w t u) (hs : SitQ Q z w s v) (hf : Fit z (tm k a [t, s])) :
    Calls Tryz.prog 40 #[.int .i64 k, .int .i64 (a : Nat), tmV t u, tmV s v] w fun e w' => Below w.heap.size w w' ∧ ∃ x, e = .returned (tmV (tm k a [t, s]) x) ∧ SitQ Q z w' (tm k a [t, s]) x := by
  have HT := hid2 ht
  have HS := hid2 hs
  have H4 : Hid (∀ o1 o2 o3 o4, Below w.heap.size w ((((w.alloc o1).alloc o2).alloc o3).alloc o4)) := fun o1 o2 o3 o4 => ((((Below.refl _ _).alloc (Nat.le_refl _) _).alloc (by simp) _).alloc (by simp; omega) _).alloc (by simp; omega) _
  have HN : Hid (∀ (W : World) vs tt, Box (W.alloc (.cells (List.toArray vs) tt)) W.heap.size vs) := fun W vs tt => Box.new W vs tt
  clear ht hs
  go_enter Tryz.func40, Tryz.ntmps40
  go_wp2_with fail
  refine bodyPost_ret (v := tmV (tm k a [t, s]) (.slice (some ⟨w.heap.size + 1 + 1 + 1, 0, none⟩) 2 2)) (by simp [results, Tryz.results40, go_sem]) rfl ⟨H4.out _ _ _ _, _, rfl, ?_⟩
  have b' := H4.out (Obj.cells #[Value.int IntKind.i64 t.kind, Value.string t.text, Value.int IntKind.i64 t.n, Value.int IntKind.i64 t.m, Value.int IntKind.i64 t.pl, u] 33) (Obj.cells #[Value.int IntKind.i64 s.kind, Value.string s.text, Value.int IntKind.i64 s.n, Value.int IntKind.i64 s.m, Value.int IntKind.i64 s.pl, v] 33) (Obj.cells #[Value.int IntKind.i64 k, Value.string ⟨#[]⟩, Value.int IntKind.i64 0, Value.int IntKind.i64 0, Value.int IntKind.i64 a, Value.slice (some ⟨w.heap.size + 1 + 1 + 1, 0, none⟩) 2 2] 33) (Obj.cells #[Value.int IntKind.i64 t.kind, Value.string t.text, Value.int IntKind.i64 t.n, Value.int IntKind.i64 t.m, Value.int IntKind.i64 t.pl, u, Value.int IntKind.i64 s.kind, Value.string s.text, Value.int IntKind.i64 s.n, Value.int IntKind.i64 s.m, Value.int IntKind.i64 s.pl, v] 33)
  have X := HN.out (((w.alloc (Obj.cells #[Value.int IntKind.i64 t.kind, Value.string t.text, Value.int IntKind.i64 t.n, Value.int IntKind.i64 t.m, Value.int IntKind.i64 t.pl, u] 33)).alloc (Obj.cells #[Value.int IntKind.i64 s.kind, Value.string s.text, Value.int IntKind.i64 s.n, Value.int IntKind.i64 s.m, Value.int IntKind.i64 s.pl, v] 33)).alloc (Obj.cells #[Value.int IntKind.i64 k, Value.string ⟨#[]⟩, Value.int IntKind.i64 0, Value.int IntKind.i64 0, Value.int IntKind.i64 a, Value.slice (some ⟨w.heap.size + 1 + 1 + 1, 0, none⟩) 2 2] 33)) [Value.int IntKind.i64 t.kind, Value.string t.text, Value.int IntKind.i64 t.n, Value.int IntKind.i64 t.m, Value.int IntKind.i64 t.pl, u, Value.int IntKind.i64 s.kind, Value.string s.text, Value.int IntKind.i64 s.n, Value.int IntKind.i64 s.m, Value.int IntKind.i64 s.pl, v] 33
  have e3 : (((w.alloc (Obj.cells #[Value.int IntKind.i64 t.kind, Value.string t.text, Value.int IntKind.i64 t.n, Value.int IntKind.i64 t.m, Value.int IntKind.i64 t.pl, u] 33)).alloc (Obj.cells #[Value.int IntKind.i64 s.kind, Value.string s.text, Value.int IntKind.i64 s.n, Value.int IntKind.i64 s.m, Value.int IntKind.i64 s.pl, v] 33)).alloc (Obj.cells #[Value.int IntKind.i64 k, Value.string ⟨#[]⟩, Value.int IntKind.i64 0, Value.int IntKind.i64 0, Value.int IntKind.i64 a, Value.slice (some ⟨w.heap.size + 1 + 1 + 1, 0, none⟩) 2 2] 33)).heap.size = w.heap.size + 1 + 1 + 1 := by simp
  rw [e3] at X
  have hk : ∀ b, b < w.heap.size → Q b → Q b ∧ ∀ j, _ = w.cell? ⟨b, j, none⟩ := fun b hb hq => ⟨hq, fun j => cell_of_below b' hb j⟩
  exact sitr_two hf rfl X.lt (hQ _ (by omega)) ⟨X.cell 0 _ rfl, X.cell 1 _ rfl, X.cell 2 _ rfl, X.cell 3 _ rfl, X.cell 4 _ rfl, X.cell 5 _ rfl⟩ ⟨X.cell 6 _ rfl, X.cell 7 _ rfl, X.cell 8 _ rfl, X.cell 9 _ rfl, X.cell 10 _ rfl, X.cell 11 _ rfl⟩ (SitQ.keep b'.size hk _ _ HT.out) (SitQ.keep b'.size hk _ _ HS.out)
def QtP (B z : Nat) (w : World) (rb tb : Nat) (LL : List Tk) (c : Int) (o : Nat) (y : Tm × Sr) (e : Ending) (w' : World) : Prop := Turn [rb] w w' ∧ (∃ v, e = .returned v ∧ VTm B z y.1 v w') ∧ Rr z w' rb tb LL c y.2 o
theorem take_tk {z : Nat} {c k : Int} {S : Sr} (h : TL z S.L) : (takeR c k S).1.text.size ≤ z ∧ In64 (takeR c k S).1.n ∧ (takeR c k S).1.at_ ≤ z := by
  unfold takeR
  split
  · split
    · exact ⟨h.ok.x, n64 h.ok, h.ok.a⟩
    · exact ⟨Nat.zero_le _, zero64, Nat.zero_le _⟩
  · exact ⟨Nat.zero_le _, zero64, Nat.zero_le _⟩
set_option maxHeartbeats 4000000 in
theorem qNumber_c {z rb tb : Nat} {LL : List Tk} {c : Int} {S : Sr} {o : Nat} (hz : z ≤ 9223372036854775807) (w : World) (hr : Rr z w rb tb LL c S o) :
    Calls Tryz.prog 59 #[.pointer (some ⟨rb, 0, none⟩)] w (QtP w.heap.size z w rb tb LL c o (numberR c S)) := by
  have HT := hid2 (fun W (k : Below w.heap.size w W) => qTake_c 2 (by decide) W (hr.next k))
  have Hk := hid2 (take_tk (c := c) (k := 2) hr.tl)
  unfold numberR
  generalize takeR c 2 S = y at *
  obtain ⟨t0, S1⟩ := y
  simp only at HT Hk
  show Calls Tryz.prog 59 #[.pointer (some ⟨rb, 0, none⟩)] w (QtP w.heap.size z w rb tb LL c o ((⟨1, (unitR S1).1, t0.n, 0, (t0.at_ : Int), []⟩ : Tm), (unitR S1).2))
  obtain ⟨HB, HBt⟩ := hr.lts
  have hz0 : Hid (z ≤ 9223372036854775807) := hz
  clear hr hz
  go_enter Tryz.func59, Tryz.ntmps59
  go_wp2_with fail
  refine Calls.mono (HT.out _ (by first | exact Below.refl _ _ | exact (Below.refl _ _).alloc (Nat.le_refl _) _)) ?_
  rintro e w1 ⟨rfl, t1, r1⟩
  have hw1 : w.heap.size + 1 ≤ w1.heap.size := by have := t1.size; simpa using this
  have T1 := hid2 ((Turn.of_below (S := [rb]) ((Below.refl _ _).alloc (Nat.le_refl _) _)).trans t1 (fun _ hi => .inl hi))
  have X0 := (Box.new w zs6 33).turn t1 (by simp; omega)
  have HR := hid2 X0
  have hgood := r1.good
  clear t1 HT X0
  obtain ⟨off, cap, i, ov, h⟩ := r1
  have HX := hid2 h
  have B2 : Hid (∀ (W : World) o1 o2, Below W.heap.size W ((W.alloc o1).alloc o2)) := fun W o1 o2 => ((Below.refl _ _).alloc (Nat.le_refl _) _).alloc (by simp) _
  by_cases e1 : erI S1.er = 0
  · by_cases e2 : (hdT S1.L).kind = 8
    · have hu : unitR S1 = ((hdT S1.L).text, adv S1) := by unfold unitR; rw [if_pos ⟨by rw [hgood]; exact decide_eq_true e1, e2⟩]
      have HS : Hid (∀ w', Turn [rb] w1 w' → Box w' rb (rrL tb off LL.length cap (i + 1) ov c (erI S1.er) (erW S1.er)) → Rr z w' rb tb LL c (adv S1) o) := fun w' ht1 hb => ⟨off, cap, i + 1, ov, HX.out.step hb ht1 (by rw [e2]; decide) HX.out.op HX.out.oi HX.out.dp⟩
      have hP : Hid (∀ w', Turn [rb] w w' → Rr z w' rb tb LL c (adv S1) o → QtP w.heap.size z w rb tb LL c o ((⟨1, (unitR S1).1, t0.n, 0, (t0.at_ : Int), []⟩ : Tm), (unitR S1).2) (.returned (tmV ⟨1, (hdT S1.L).text, t0.n, 0, (t0.at_ : Int), []⟩ (.slice none 0 0))) w') := fun w' ht hr => by
        rw [hu]
        exact ⟨ht, ⟨_, rfl, _, rfl, sitb_leaf (fit_of 1 _ _ _ _ _ hz0.out (by decide) (by decide) HX.out.tl.ok.x Hk.out.2.1 zero64 Hk.out.2.2) rfl⟩, hr⟩
      generalize QtP w.heap.size z w rb tb LL c o ((⟨1, (unitR S1).1, t0.n, 0, (t0.at_ : Int), []⟩ : Tm), (unitR S1).2) = Post at *
      have HB1 := hid2 h.box
      obtain ⟨u0, u1, u2, u3⟩ := h.hd
      obtain ⟨c0, c1, c2, c3, c4, c5, f0, f1, f2, f3, f4, f5⟩ := h.box.six
      have hl := h.box.lt
      have htl := h.lt
      have hil : (i : Int) < (LL.length : Int) := by have := h.il; omega
      have hmx := h.mx
      have hle := h.le
      generalize hdT S1.L = t at *
      generalize hn : LL.length = n at *
      generalize erI S1.er = er at *
      generalize erW S1.er = wh at *
      clear h hn hgood HX hu
      go_wp2_with fail
      go_quiet (fail)
      have k1 : Below w1.heap.size w1 (((w1.alloc (Obj.cells #[Value.int IntKind.i64 t0.kind, Value.string t0.text, Value.int IntKind.i64 t0.n, Value.int IntKind.i64 t0.at_] 47)).alloc (Obj.cells #[Value.int IntKind.i64 1, Value.string ⟨#[]⟩, Value.int IntKind.i64 t0.n, Value.int IntKind.i64 0, Value.int IntKind.i64 t0.at_, Value.slice none 0 0] 33)).drewN nq) := below_drewN (B2.out _ _ _) _
      have XT : Box (((w1.alloc (Obj.cells #[Value.int IntKind.i64 t0.kind, Value.string t0.text, Value.int IntKind.i64 t0.n, Value.int IntKind.i64 t0.at_] 47)).alloc (Obj.cells #[Value.int IntKind.i64 1, Value.string ⟨#[]⟩, Value.int IntKind.i64 t0.n, Value.int IntKind.i64 0, Value.int IntKind.i64 t0.at_, Value.slice none 0 0] 33)).drewN nq) (w1.heap.size + 1) [Value.int IntKind.i64 1, Value.string ⟨#[]⟩, Value.int IntKind.i64 t0.n, Value.int IntKind.i64 0, Value.int IntKind.i64 t0.at_, Value.slice none 0 0] := by
        have hh := (Box.new (w1.alloc (Obj.cells #[Value.int IntKind.i64 t0.kind, Value.string t0.text, Value.int IntKind.i64 t0.n, Value.int IntKind.i64 t0.at_] 47)) [Value.int IntKind.i64 1, Value.string ⟨#[]⟩, Value.int IntKind.i64 t0.n, Value.int IntKind.i64 0, Value.int IntKind.i64 t0.at_, Value.slice none 0 0] 33).next (below_drewN (Below.refl _ _) nq)
        rw [show (w1.alloc (Obj.cells #[Value.int IntKind.i64 t0.kind, Value.string t0.text, Value.int IntKind.i64 t0.n, Value.int IntKind.i64 t0.at_] 47)).heap.size = w1.heap.size + 1 by simp] at hh
        exact hh
      generalize (((w1.alloc (Obj.cells #[Value.int IntKind.i64 t0.kind, Value.string t0.text, Value.int IntKind.i64 t0.n, Value.int IntKind.i64 t0.at_] 47)).alloc (Obj.cells #[Value.int IntKind.i64 1, Value.string ⟨#[]⟩, Value.int IntKind.i64 t0.n, Value.int IntKind.i64 0, Value.int IntKind.i64 t0.at_, Value.slice none 0 0] 33)).drewN nq) = W at *
      have HBW := hid2 (HB1.out.next k1)
      have HRW := hid2 (HR.out.next k1)
      have TW := hid2 (Turn.of_below (S := [rb]) k1)
      have hc : ∀ j, W.cell? ⟨tb, j, none⟩ = w1.cell? ⟨tb, j, none⟩ := fun j => cell_of_below k1 htl j
      have hwW := k1.size
      rw [← hc] at u0 u1 u2 u3
      clear c0 c1 c2 c3 c4 c5 f0 f1 f2 f3 f4 f5 hc
      obtain ⟨c0, c1, c2, c3, c4, c5, f0, f1, f2, f3, f4, f5⟩ := HBW.out.six
      obtain ⟨q0, q1, q2, q3, q4, q5, g0, g1, g2, g3, g4, g5⟩ := HRW.out.six
      obtain ⟨p0, p1, p2, p3, p4, p5, o0, o1, o2, o3, o4, o5⟩ := XT.six
      have hlW := HBW.out.lt
      have qlW := HRW.out.lt
      have plW := XT.lt
      clear k1 XT hl
      go_wp2_with fail
      go_region_held3 (fun w' => w'.cell? ⟨rb, 0, none⟩ = some (.slice (some ⟨tb, off, none⟩) n cap) ∧ w'.cell? ⟨rb, 1, none⟩ = some (.int .i64 (i : Nat)) ∧ w'.cell? ⟨tb, off + i * 4 + 1, none⟩ = some (.string t.text)) (simp [go_sem, *]) (fail)
      rename_i hh
      clear hh
      go_wp2_with fail
      refine bodyPost_ret (v := tmV ⟨1, t.text, t0.n, 0, (t0.at_ : Int), []⟩ (.slice none 0 0)) (by simp [results, Tryz.results59, go_sem, *]) rfl (hP.out _ ?_ ?_)
      · exact ((((T1.out.trans TW.out (fun _ hi => .inl hi)).andSet _ _ (.inr (by simp; omega))).andSet _ _ (.inl (by simp))).trans (turn_six _ _ _ _ _ _ _ _) (fun i hi => .inr (by simp at hi; omega))).andBelow ((Below.refl _ _).drew)
      · exact ((HS.out _ ((TW.out.andSet _ _ (.inr (by simp))).andSet _ _ (.inl (by simp))) ((HBW.out.other (by omega)).set 1 (by simp) _)).turn (turn_six _ _ _ _ _ _ _ _) (by simp; omega) (by simp; omega)).next ((Below.refl _ _).drew)
    · have hu : unitR S1 = (⟨#[]⟩, S1) := by unfold unitR; rw [if_neg (fun hh => e2 hh.2)]
      have hR : Hid (Rr z w1 rb tb LL c S1 o) := ⟨off, cap, i, ov, h⟩
      have hP : Hid (∀ w', Turn [rb] w w' → Rr z w' rb tb LL c S1 o → QtP w.heap.size z w rb tb LL c o ((⟨1, (unitR S1).1, t0.n, 0, (t0.at_ : Int), []⟩ : Tm), (unitR S1).2) (.returned (tmV ⟨1, ⟨#[]⟩, t0.n, 0, (t0.at_ : Int), []⟩ (.slice none 0 0))) w') := fun w' ht hr => by
        rw [hu]
        exact ⟨ht, ⟨_, rfl, _, rfl, sitb_leaf (fit_of 1 _ _ _ _ _ hz0.out (by decide) (by decide) (Nat.zero_le _) Hk.out.2.1 zero64 Hk.out.2.2) rfl⟩, hr⟩
      generalize QtP w.heap.size z w rb tb LL c o ((⟨1, (unitR S1).1, t0.n, 0, (t0.at_ : Int), []⟩ : Tm), (unitR S1).2) = Post at *
      have HB1 := hid2 h.box
      obtain ⟨u0, u1, u2, u3⟩ := h.hd
      obtain ⟨c0, c1, c2, c3, c4, c5, f0, f1, f2, f3, f4, f5⟩ := h.box.six
      have hl := h.box.lt
      have htl := h.lt
      have hil : (i : Int) < (LL.length : Int) := by have := h.il; omega
      have hmx := h.mx
      have hle := h.le
      generalize hdT S1.L = t at *
      generalize hn : LL.length = n at *
      generalize erI S1.er = er at *
      generalize erW S1.er = wh at *
      have k2 : (t.kind == 8) = false := by simpa using e2
      clear h hn hgood HX hu
      go_wp2_with fail
      go_quiet (fail)
      have k1 : Below w1.heap.size w1 (((w1.alloc (Obj.cells #[Value.int IntKind.i64 t0.kind, Value.string t0.text, Value.int IntKind.i64 t0.n, Value.int IntKind.i64 t0.at_] 47)).alloc (Obj.cells #[Value.int IntKind.i64 1, Value.string ⟨#[]⟩, Value.int IntKind.i64 t0.n, Value.int IntKind.i64 0, Value.int IntKind.i64 t0.at_, Value.slice none 0 0] 33)).drewN nq) := below_drewN (B2.out _ _ _) _
      have XT : Box (((w1.alloc (Obj.cells #[Value.int IntKind.i64 t0.kind, Value.string t0.text, Value.int IntKind.i64 t0.n, Value.int IntKind.i64 t0.at_] 47)).alloc (Obj.cells #[Value.int IntKind.i64 1, Value.string ⟨#[]⟩, Value.int IntKind.i64 t0.n, Value.int IntKind.i64 0, Value.int IntKind.i64 t0.at_, Value.slice none 0 0] 33)).drewN nq) (w1.heap.size + 1) [Value.int IntKind.i64 1, Value.string ⟨#[]⟩, Value.int IntKind.i64 t0.n, Value.int IntKind.i64 0, Value.int IntKind.i64 t0.at_, Value.slice none 0 0] := by
        have hh := (Box.new (w1.alloc (Obj.cells #[Value.int IntKind.i64 t0.kind, Value.string t0.text, Value.int IntKind.i64 t0.n, Value.int IntKind.i64 t0.at_] 47)) [Value.int IntKind.i64 1, Value.string ⟨#[]⟩, Value.int IntKind.i64 t0.n, Value.int IntKind.i64 0, Value.int IntKind.i64 t0.at_, Value.slice none 0 0] 33).next (below_drewN (Below.refl _ _) nq)
        rw [show (w1.alloc (Obj.cells #[Value.int IntKind.i64 t0.kind, Value.string t0.text, Value.int IntKind.i64 t0.n, Value.int IntKind.i64 t0.at_] 47)).heap.size = w1.heap.size + 1 by simp] at hh
        exact hh
      generalize (((w1.alloc (Obj.cells #[Value.int IntKind.i64 t0.kind, Value.string t0.text, Value.int IntKind.i64 t0.n, Value.int IntKind.i64 t0.at_] 47)).alloc (Obj.cells #[Value.int IntKind.i64 1, Value.string ⟨#[]⟩, Value.int IntKind.i64 t0.n, Value.int IntKind.i64 0, Value.int IntKind.i64 t0.at_, Value.slice none 0 0] 33)).drewN nq) = W at *
      have HBW := hid2 (HB1.out.next k1)
      have HRW := hid2 (HR.out.next k1)
      have TW0 := hid2 (Turn.of_below (S := []) k1)
      have TW := hid2 (Turn.of_below (S := [rb]) k1)
      have hc : ∀ j, W.cell? ⟨tb, j, none⟩ = w1.cell? ⟨tb, j, none⟩ := fun j => cell_of_below k1 htl j
      have hwW := k1.size
      rw [← hc] at u0 u1 u2 u3
      clear c0 c1 c2 c3 c4 c5 f0 f1 f2 f3 f4 f5 hc
      obtain ⟨c0, c1, c2, c3, c4, c5, f0, f1, f2, f3, f4, f5⟩ := HBW.out.six
      obtain ⟨q0, q1, q2, q3, q4, q5, g0, g1, g2, g3, g4, g5⟩ := HRW.out.six
      obtain ⟨p0, p1, p2, p3, p4, p5, o0, o1, o2, o3, o4, o5⟩ := XT.six
      have hlW := HBW.out.lt
      have qlW := HRW.out.lt
      have plW := XT.lt
      clear k1 XT hl
      go_wp2_with fail
      refine bodyPost_ret (v := tmV ⟨1, ⟨#[]⟩, t0.n, 0, (t0.at_ : Int), []⟩ (.slice none 0 0)) (by simp [results, Tryz.results59, go_sem, *]) rfl (hP.out _ ?_ ?_)
      · exact (T1.out.trans TW.out (fun _ hi => .inl hi)).trans (turn_six _ _ _ _ _ _ _ _) (fun i hi => .inr (by simp at hi; omega))
      · exact (hR.out.turn (TW0.out) (by simp) (by simp)).turn (turn_six _ _ _ _ _ _ _ _) (by simp; omega) (by simp; omega)
  · have hu : unitR S1 = (⟨#[]⟩, S1) := by unfold unitR; rw [if_neg (fun hh => e1 (of_decide_eq_true (hgood.symm.trans hh.1)))]
    have hR : Hid (Rr z w1 rb tb LL c S1 o) := ⟨off, cap, i, ov, h⟩
    have hP : Hid (∀ w', Turn [rb] w w' → Rr z w' rb tb LL c S1 o → QtP w.heap.size z w rb tb LL c o ((⟨1, (unitR S1).1, t0.n, 0, (t0.at_ : Int), []⟩ : Tm), (unitR S1).2) (.returned (tmV ⟨1, ⟨#[]⟩, t0.n, 0, (t0.at_ : Int), []⟩ (.slice none 0 0))) w') := fun w' ht hr => by
      rw [hu]
      exact ⟨ht, ⟨_, rfl, _, rfl, sitb_leaf (fit_of 1 _ _ _ _ _ hz0.out (by decide) (by decide) (Nat.zero_le _) Hk.out.2.1 zero64 Hk.out.2.2) rfl⟩, hr⟩
    generalize QtP w.heap.size z w rb tb LL c o ((⟨1, (unitR S1).1, t0.n, 0, (t0.at_ : Int), []⟩ : Tm), (unitR S1).2) = Post at *
    have HB1 := hid2 h.box
    obtain ⟨u0, u1, u2, u3⟩ := h.hd
    obtain ⟨c0, c1, c2, c3, c4, c5, f0, f1, f2, f3, f4, f5⟩ := h.box.six
    have hl := h.box.lt
    have htl := h.lt
    have hil : (i : Int) < (LL.length : Int) := by have := h.il; omega
    have hmx := h.mx
    have hle := h.le
    generalize hdT S1.L = t at *
    generalize hn : LL.length = n at *
    generalize erI S1.er = er at *
    generalize erW S1.er = wh at *
    have k2 : (er == 0) = false := by simpa using e1
    clear h hn hgood HX hu
    go_wp2_with fail
    go_quiet (fail)
    have k1 : Below w1.heap.size w1 (((w1.alloc (Obj.cells #[Value.int IntKind.i64 t0.kind, Value.string t0.text, Value.int IntKind.i64 t0.n, Value.int IntKind.i64 t0.at_] 47)).alloc (Obj.cells #[Value.int IntKind.i64 1, Value.string ⟨#[]⟩, Value.int IntKind.i64 t0.n, Value.int IntKind.i64 0, Value.int IntKind.i64 t0.at_, Value.slice none 0 0] 33)).drewN nq) := below_drewN (B2.out _ _ _) _
    have XT : Box (((w1.alloc (Obj.cells #[Value.int IntKind.i64 t0.kind, Value.string t0.text, Value.int IntKind.i64 t0.n, Value.int IntKind.i64 t0.at_] 47)).alloc (Obj.cells #[Value.int IntKind.i64 1, Value.string ⟨#[]⟩, Value.int IntKind.i64 t0.n, Value.int IntKind.i64 0, Value.int IntKind.i64 t0.at_, Value.slice none 0 0] 33)).drewN nq) (w1.heap.size + 1) [Value.int IntKind.i64 1, Value.string ⟨#[]⟩, Value.int IntKind.i64 t0.n, Value.int IntKind.i64 0, Value.int IntKind.i64 t0.at_, Value.slice none 0 0] := by
      have hh := (Box.new (w1.alloc (Obj.cells #[Value.int IntKind.i64 t0.kind, Value.string t0.text, Value.int IntKind.i64 t0.n, Value.int IntKind.i64 t0.at_] 47)) [Value.int IntKind.i64 1, Value.string ⟨#[]⟩, Value.int IntKind.i64 t0.n, Value.int IntKind.i64 0, Value.int IntKind.i64 t0.at_, Value.slice none 0 0] 33).next (below_drewN (Below.refl _ _) nq)
      rw [show (w1.alloc (Obj.cells #[Value.int IntKind.i64 t0.kind, Value.string t0.text, Value.int IntKind.i64 t0.n, Value.int IntKind.i64 t0.at_] 47)).heap.size = w1.heap.size + 1 by simp] at hh
      exact hh
    generalize (((w1.alloc (Obj.cells #[Value.int IntKind.i64 t0.kind, Value.string t0.text, Value.int IntKind.i64 t0.n, Value.int IntKind.i64 t0.at_] 47)).alloc (Obj.cells #[Value.int IntKind.i64 1, Value.string ⟨#[]⟩, Value.int IntKind.i64 t0.n, Value.int IntKind.i64 0, Value.int IntKind.i64 t0.at_, Value.slice none 0 0] 33)).drewN nq) = W at *
    have HBW := hid2 (HB1.out.next k1)
    have HRW := hid2 (HR.out.next k1)
    have TW0 := hid2 (Turn.of_below (S := []) k1)
    have TW := hid2 (Turn.of_below (S := [rb]) k1)
    have hc : ∀ j, W.cell? ⟨tb, j, none⟩ = w1.cell? ⟨tb, j, none⟩ := fun j => cell_of_below k1 htl j
    have hwW := k1.size
    rw [← hc] at u0 u1 u2 u3
    clear c0 c1 c2 c3 c4 c5 f0 f1 f2 f3 f4 f5 hc
    obtain ⟨c0, c1, c2, c3, c4, c5, f0, f1, f2, f3, f4, f5⟩ := HBW.out.six
    obtain ⟨q0, q1, q2, q3, q4, q5, g0, g1, g2, g3, g4, g5⟩ := HRW.out.six
    obtain ⟨p0, p1, p2, p3, p4, p5, o0, o1, o2, o3, o4, o5⟩ := XT.six
    have hlW := HBW.out.lt
    have qlW := HRW.out.lt
    have plW := XT.lt
    clear k1 XT hl
    go_wp2_with fail
    refine bodyPost_ret (v := tmV ⟨1, ⟨#[]⟩, t0.n, 0, (t0.at_ : Int), []⟩ (.slice none 0 0)) (by simp [results, Tryz.results59, go_sem, *]) rfl (hP.out _ ?_ ?_)
    · exact (T1.out.trans TW.out (fun _ hi => .inl hi)).trans (turn_six _ _ _ _ _ _ _ _) (fun i hi => .inr (by simp at hi; omega))
    · exact (hR.out.turn (TW0.out) (by simp) (by simp)).turn (turn_six _ _ _ _ _ _ _ _) (by simp; omega) (by simp; omega)
end Go.Proofs.YtecdfnpbcabdnaaGreatDoor
