/- Package parse: fromLeft. -/
import Derived.Test.YtecdfnpbcabdnaaGreatDoorPxG
namespace Go.Proofs.YtecdfnpbcabdnaaGreatDoor
open Go.RowKit Go.Lib

theorem Box.put_six {w : World} {g : Nat} {u0 u1 u2 u3 u4 u5 : Value} (h : Box w g [u0, u1, u2, u3, u4, u5]) (v0 v1 v2 v3 v4 v5 : Value) : Box ((((((w.setCell ⟨g, 0, none⟩ v0).setCell ⟨g, 1, none⟩ v1).setCell ⟨g, 2, none⟩ v2).setCell ⟨g, 3, none⟩ v3).setCell ⟨g, 4, none⟩ v4).setCell ⟨g, 5, none⟩ v5) g [v0, v1, v2, v3, v4, v5] :=
  ((((((h.set 0 (by simp) v0).set 1 (by simp) v1).set 2 (by simp) v2).set 3 (by simp) v3).set 4 (by simp) v4).set 5 (by simp) v5)
def rdLen (w : World) (rb : Nat) : Nat := match w.cell? ⟨rb, 0, none⟩ with
  | some (.slice _ n _) => n
  | _ => 0
theorem Rea.len {z : Nat} {w : World} {rb tb lb : Nat} {c : Int} {L : List Tk} {o : Nat} (h : Rea z w rb tb lb c L o) : rdLen w rb = L.length := by
  obtain ⟨off, cap, h⟩ := h
  unfold rdLen
  rw [h.box.cell 0 _ rfl]
def moN (p : Value) (n : Nat) : Nat := match p with
  | .bool true => n + 1
  | _ => 0
/-- Between two signs that were read. -/
structure FlS (z : Nat) (w W : World) (rb tb lb : Nat) (c : Int) (o g sb : Nat) (sg : Sg) (L : List Tk) (x : Tm) (ux : Value) : Prop where
  rs : Box W w.heap.size zs6
  lt : Box W g (tmL x ux)
  re : Rea z W rb tb lb c L o
  tn : Turn [rb] w W
  st : SitQ (fun b => w.heap.size + 1 ≤ b ∧ b ≠ g) z W x ux
  sc : ∀ q u, (sgC sg)[q]? = some u → W.cell? ⟨sb, q, none⟩ = some u
  sl : sb < w.heap.size ∧ sb ≠ rb
  gg : w.heap.size < g
  hr : rb < w.heap.size ∧ tb < w.heap.size ∧ lb < w.heap.size
theorem leftL_succ (c : Int) (sg : Sg) (S : Ps) (f : Nat) (x : Tm) (L : List Tk) : leftL c sg S (f + 1) x L = bnd (joinP c sg S x L) fun y => if y.1.2 = true then leftL c sg S f y.1.1 y.2 else .ok (y.1.1, y.2) := rfl
/-- One sign more. -/
theorem FlS.joined {z : Nat} {w W W' : World} {rb tb lb : Nat} {c : Int} {o g sb : Nat} {sg : Sg} {L L' : List Tk} {x y : Tm} {ux uy : Value} (h : FlS z w W rb tb lb c o g sb sg L x ux) (k : Turn [rb] W W') (s : SitQ (fun b => w.heap.size + 1 ≤ b ∧ b ≠ g) z W' y uy) (r : Rea z W' rb tb lb c L' o) :
    FlS z w ((((((W'.setCell ⟨g, 0, none⟩ (.int .i64 y.kind)).setCell ⟨g, 1, none⟩ (.string y.text)).setCell ⟨g, 2, none⟩ (.int .i64 y.n)).setCell ⟨g, 3, none⟩ (.int .i64 y.m)).setCell ⟨g, 4, none⟩ (.int .i64 y.pl)).setCell ⟨g, 5, none⟩ uy) rb tb lb c o g sb sg L' y uy := by
  have h1 := h.gg
  have h2 := h.hr
  have h3 := h.sl
  have h4 := h.lt.lt
  have h5 := h.rs.lt
  have t6 := turn_six W' g (.int .i64 y.kind) (.string y.text) (.int .i64 y.n) (.int .i64 y.m) (.int .i64 y.pl) uy
  exact ⟨(h.rs.turn k (by simp; omega)).turn t6 (by simp; omega), (h.lt.turn k (by simp; omega)).put_six _ _ _ _ _ _, r.turn1 t6 (by omega), (Go.Proofs.YtecdfnpbcabdnaaGreatDoor.tn h.tn k).trans t6 (fun i hi => .inr (by simp at hi; omega)), s.turnQ t6 (by simp),
    fun q u hu => (turn_cell t6 (by have := k.size; omega) (by simp; omega)).trans ((turn_cell k (by omega) (by simp; omega)).trans (h.sc q u hu)), h.sl, h.gg, h.hr⟩
set_option maxHeartbeats 4000000 in
set_option maxRecDepth 20000 in
theorem fromLeft_c {z rb tb lb : Nat} {c : Int} {L : List Tk} {o : Nat} (hz : z ≤ 9223372036854775807) {S : Ps} {lv : Int} (hlv : 0 ≤ lv ∧ lv ≤ 5) (HS : LvC z rb tb lb c o 37 (lv + 1) S) (hDec : Dec S) (sg : Sg) (hsg : sg ≠ []) (h5 : sg.length ≤ 5) (hsk : ∀ s, s ∈ sg → 0 ≤ s.2 ∧ s.2 ≤ 100) (sb : Nat) (w : World) (hr : Rea z w rb tb lb c L o)
    (hsc : ∀ q u, (sgC sg)[q]? = some u → w.cell? ⟨sb, q, none⟩ = some u) (hsb : sb < w.heap.size ∧ sb ≠ rb) :
    Calls Tryz.prog 97 #[.pointer (some ⟨rb, 0, none⟩), .int .i64 lv, .slice (some ⟨sb, 0, none⟩) sg.length sg.length] w (Out (VTm w.heap.size z) z w rb tb lb c o (leftP c sg S L)) := by
  obtain ⟨pr, hpr⟩ : ∃ pr, Hid (pr = leftP c sg S L) := ⟨_, rfl⟩
  rw [← hpr.out]
  have hE : Hid (∀ f w', pr = .error f → Turn [rb] w w' → Out (VTm w.heap.size z) z w rb tb lb c o pr (.panicked [fltE f]) w') := fun f w' h ht => Out.mk_err h ht
  have hO : Hid (∀ t L' w' v u, pr = .ok (t, L') → Turn [rb] w w' → v = tmV t u → SitB w.heap.size z w' t u → Rea z w' rb tb lb c L' o → Out (VTm w.heap.size z) z w rb tb lb c o pr (.returned v) w') := fun t L' w' v u h ht hv hs hr' => Out.mk_ok h ht ⟨u, hv, hs⟩ hr'
  generalize Out (VTm w.heap.size z) z w rb tb lb c o pr = Post at *
  have hL := hr.lts
  obtain ⟨hlv0, hlv1⟩ := hlv
  have HJ : Hid (∀ (x : Tm) (ux : Value) (Lr : List Tk) (W : World) (Q : Nat → Prop), Rea z W rb tb lb c Lr o → SitQ Q z W x ux → ¬ Q rb → (∀ b, W.heap.size ≤ b → Q b) → (∀ q u, (sgC sg)[q]? = some u → W.cell? ⟨sb, q, none⟩ = some u) → (sb < W.heap.size ∧ sb ≠ rb) → Calls Tryz.prog 98 #[.pointer (some ⟨rb, 0, none⟩), tmV x ux, .int .i64 lv, .slice (some ⟨sb, 0, none⟩) sg.length sg.length] W (Out (VJo Q z) z W rb tb lb c o (joinP c sg S x Lr))) :=
    fun x ux Lr W Q h1 h2 h3 h4 h5' h6 => joined_c hz ⟨hlv0, hlv1⟩ HS sg hsg h5 hsk sb Q x ux W h1 h2 h3 h4 h5' h6
  have Z0 := Box.new w zs6 33
  have T0 := tnO (ob := .cells (zs6).toArray 33) (Turn.refl [rb] w)
  have r0 := hr.onO (ob := .cells (zs6).toArray 33)
  have sc0 : ∀ q u, (sgC sg)[q]? = some u → (w.alloc (.cells (zs6).toArray 33)).cell? ⟨sb, q, none⟩ = some u := fun q u hu => (((Below.refl _ w).alloc (Nat.le_refl _) _).cell (p := ⟨sb, q, none⟩) hsb.1).trans (hsc q u hu)
  have HSC := hid2 sc0
  have HSS := hid2 HS
  have zsz : (w.alloc (.cells (zs6).toArray 33)).heap.size = w.heap.size + 1 := by simp
  clear hr hsc sc0 HS hsk h5 hsg
  obtain ⟨N, hN⟩ : ∃ N, N = sg.length := ⟨_, rfl⟩
  rw [← hN] at HJ ⊢
  clear hN
  go_enter Tryz.func97, Tryz.ntmps97
  go_wp2_with fail
  generalize hW : w.alloc _ = W0 at *
  clear hW
  refine Calls.mono (HSS.out _ _ r0) ?_
  intro e w1 h1
  rcases hy : S L with f | y
  · obtain ⟨rfl, t1⟩ := Out.of_err hy h1
    go_wp2_with fail
    exact ⟨rfl, hE.out _ _ (by rw [hpr.out]; unfold leftP; rw [hy]; rfl) (tn T0 t1)⟩
  obtain ⟨t1, _, rfl, ⟨u1, rfl, S1⟩, r1⟩ := Out.of_ok hy h1
  obtain ⟨av, cv, rfl, -, -⟩ := S1.parts.shape
  have s1 := t1.size
  have F0 : Hid (FlS z w (w1.alloc (.cells (tmL y.1 (.slice av y.1.parts.length cv)).toArray 33)) rb tb lb c o w1.heap.size sb sg y.2 y.1 (.slice av y.1.parts.length cv)) := by
    have ta := tnO (ob := .cells (tmL y.1 (.slice av y.1.parts.length cv)).toArray 33) (Turn.refl [rb] w1)
    refine ⟨(Z0.turn t1 (by simp; omega)).turn ta (by simp; omega), Box.new w1 _ _, r1.onO, tn (tn T0 t1) ta, ?_, fun q u hu => (turn_cell ta (by omega) (by simp; omega)).trans ((turn_cell t1 (by omega) (by simp; omega)).trans (HSC.out q u hu)), hsb, by omega, hL⟩
    exact SitQ.turnQ (SitQ.weak S1 (fun b hb hq => ⟨by omega, by omega⟩)) ta (by simp only [List.mem_singleton]; rintro i rfl hh; omega)
  have hpr2 : Hid (pr = if true = true then leftL c sg S y.2.length y.1 y.2 else .ok (y.1, y.2)) := by show _ = _; rw [hpr.out]; unfold leftP; rw [hy]; rfl
  clear h1 t1 S1 r1 Z0 T0 r0 HSC
  generalize y.1.parts.length = nn at *
  simp only [tmV]
  go_wp2_with fail
  generalize hW1 : w1.alloc _ = W1 at *
  clear hW1
  go_loopw [8] (fun p wr => ∃ (more : Bool) (Lr : List Tk) (x : Tm) (ux : Value) (f : Nat), p = .bool more ∧ (more = true → Lr.length ≤ f) ∧ Hid (FlS z w wr rb tb lb c o w1.heap.size sb sg Lr x ux) ∧ Hid (pr = if more = true then leftL c sg S f x Lr else .ok (x, Lr))) (fun p wr => moN p (rdLen wr rb))
  · exact ⟨true, y.2, y.1, _, y.2.length, rfl, fun _ => Nat.le_refl _, F0, hpr2⟩
  obtain ⟨more, Lr, x, ux, f, rfl, hf, HF, HQ⟩ := hrel
  clear F0 hpr2
  have hpos := HF.out.re.tl.pos
  obtain ⟨f0, f1, f2, f3, f4, f5, e0, e1, e2, e3, e4, e5⟩ := HF.out.lt.six
  have fl := HF.out.lt.lt
  have hgg := HF.out.gg
  cases more with
  | true =>
    have hf := hf rfl
    obtain ⟨f', rfl⟩ : ∃ f', f = f' + 1 := ⟨f - 1, by omega⟩
    have hq : Hid (pr = bnd (joinP c sg S x Lr) fun y => if y.1.2 = true then leftL c sg S f' y.1.1 y.2 else .ok (y.1.1, y.2)) := HQ.out
    clear HQ
    obtain ⟨ax, cx, rfl, -, -⟩ := HF.out.st.parts.shape
    have HC := HJ.out x _ Lr wr _ HF.out.re HF.out.st (fun hh => by omega) (fun b hb => ⟨by omega, by omega⟩) HF.out.sc ⟨by omega, HF.out.sl.2⟩
    generalize hnx : x.parts.length = nx at *
    simp only [tmV] at HC
    have HC2 := hid2 HC
    clear HC
    have hlen := HF.out.re.len
    go_wp2_with fail
    refine Calls.mono HC2.out ?_
    intro e w2 h2
    rcases hj : joinP c sg S x Lr with f | q
    · obtain ⟨rfl, t2⟩ := Out.of_err hj h2
      go_wp2_with fail
      exact ⟨rfl, hE.out _ _ (by rw [hq.out, hj]; rfl) (tn HF.out.tn t2)⟩
    obtain ⟨t2, _, rfl, ⟨u2, rfl, S2⟩, r2⟩ := Out.of_ok hj h2
    have F2 := hid2 (HF.out.joined t2 S2 r2)
    obtain ⟨aq, cq, rfl, -, -⟩ := S2.parts.shape
    have hdj := dec_join hDec hj
    obtain ⟨g0, g1, g2, g3, g4, g5, i0, i1, i2, i3, i4, i5⟩ := (HF.out.lt.turn t2 (by simp; omega)).six
    have gl := (HF.out.lt.turn t2 (by simp; omega)).lt
    clear h2 t2 S2 HC2 r2 f0 f1 f2 f3 f4 f5 e0 e1 e2 e3 e4 e5 HF
    generalize hnq : q.1.1.parts.length = nq at *
    simp only [tmV]
    go_wp2_with fail
    go_roundw
    · refine ⟨q.1.2, q.2, q.1.1, _, f', rfl, ?_, F2, ?_⟩
      · intro hm
        have := hdj.2 hm
        rw [List.length_tail] at this
        omega
      · show _ = _
        rw [hq.out, hj]
        rfl
    · rw [F2.out.re.len, hlen]
      have hd2 := hdj.2
      rw [List.length_tail] at hd2
      cases hm : q.1.2 with
      | true =>
        have := hd2 hm
        show q.2.length + 1 < Lr.length + 1
        omega
      | false =>
        show 0 < Lr.length + 1
        omega
  | false =>
    have hq : Hid (pr = .ok (x, Lr)) := HQ.out
    clear HQ
    obtain ⟨p0, p1, p2, p3, p4, p5, q0, q1, q2, q3, q4, q5⟩ := HF.out.rs.six
    have pl := HF.out.rs.lt
    obtain ⟨ax, cx, rfl, -, -⟩ := HF.out.st.parts.shape
    generalize hnx : x.parts.length = nx at *
    have hne2 : w1.heap.size ≠ w.heap.size := by omega
    go_wp2_with fail
    refine bodyPost_ret (v := tmV x (.slice ax nx cx)) (by simp [results, Tryz.results97, go_sem, *]) rfl (hO.out x Lr _ _ (.slice ax nx cx) hq.out ?_ rfl ?_ ?_)
    · exact HF.out.tn.trans (turn_six _ _ _ _ _ _ _ _) (fun i hi => .inr (by simp at hi; omega))
    · exact (HF.out.st.turnQ (turn_six _ _ _ _ _ _ _ _) (by simp only [List.mem_singleton]; rintro i rfl hh; omega)).weak (fun b _ hq => by omega)
    · exact HF.out.re.turn1 (turn_six _ _ _ _ _ _ _ _) hL
end Go.Proofs.YtecdfnpbcabdnaaGreatDoor
