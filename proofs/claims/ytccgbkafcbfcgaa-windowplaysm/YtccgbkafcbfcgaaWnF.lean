/- Windows: Read, Held, Clock. -/
import Derived.Test.YtccgbkafcbfcgaaWnD
import Derived.Test.YtccgbkafcbfcgaaWnE
namespace Go.Proofs.Ytccgbkafcbfcgaa
open Go.RowKit

/-- The Result that holds nothing. -/
def r0 : Int × Int := (0, 0)
set_option maxRecDepth 20000 in
set_option maxHeartbeats 1000000 in
theorem wRead_stale (b : Nat) (F : List Nat) (agg span per ck : Int) (L : List Pr) (t : Int) (w : World) (h : Win w b F agg span per ck true L) (ht : t < ck) :
    Calls Try.prog 16 #[.pointer (some ⟨b, 0, none⟩), .int .i64 t] w fun e w' => e = .returned (.tuple #[rv r0, .int .i64 32]) ∧ Below w.heap.size w w' := by
  obtain ⟨hR, hB⟩ := one_box w 49 [.int .i64 0, .int .i64 0]
  have HG := hid (wGoOn_stale b F agg span per ck L t _ (h.next hB) ht)
  have HB := hid hB
  have z0 := hR.cell 0 _ rfl
  have z1 := hR.cell 1 _ rfl
  clear h hB ht hR
  go_enter Try.func16, Try.ntmps16
  go_wp2_with fail
  refine Calls.mono HG.out ?_
  rintro e w1 ⟨rfl, rfl⟩
  go_wp2_with fail
  refine bodyPost_ret (v := .tuple #[rv r0, .int .i64 32]) (by simp [results, Try.results16, go_sem, rv, r0]) rfl ⟨rfl, ?_⟩
  exact HB.out
set_option maxRecDepth 20000 in
set_option maxHeartbeats 1000000 in
theorem wRead_nil (t : Int) (w : World) :
    Calls Try.prog 16 #[.pointer none, .int .i64 t] w fun e w' => e = .returned (.tuple #[rv r0, .int .i64 4]) ∧ Below w.heap.size w w' := by
  have HB := hid (one_box w 49 [.int .i64 0, .int .i64 0]).2
  go_enter Try.func16, Try.ntmps16
  go_wp2_with fail
  refine Calls.mono (wGoOn_nil t _) ?_
  rintro e w1 ⟨rfl, rfl⟩
  go_wp2_with fail
  refine bodyPost_ret (v := .tuple #[rv r0, .int .i64 4]) (by simp [results, Try.results16, go_sem, rv, r0]) rfl ⟨rfl, ?_⟩
  exact HB.out
set_option maxRecDepth 20000 in
set_option maxHeartbeats 1000000 in
theorem wRead_zero (b : Nat) (vs : List Value) (t : Int) (w : World) (h : Box w b (.pointer none :: vs)) :
    Calls Try.prog 16 #[.pointer (some ⟨b, 0, none⟩), .int .i64 t] w fun e w' => e = .returned (.tuple #[rv r0, .int .i64 4]) ∧ Below w.heap.size w w' := by
  obtain ⟨hR, hB⟩ := one_box w 49 [.int .i64 0, .int .i64 0]
  have HG := hid (wGoOn_zero b vs t _ (h.next hB))
  have HB := hid hB
  clear h hB hR
  go_enter Try.func16, Try.ntmps16
  go_wp2_with fail
  refine Calls.mono HG.out ?_
  rintro e w1 ⟨rfl, rfl⟩
  go_wp2_with fail
  refine bodyPost_ret (v := .tuple #[rv r0, .int .i64 4]) (by simp [results, Try.results16, go_sem, rv, r0]) rfl ⟨rfl, ?_⟩
  exact HB.out
/-- Behind more of new memory. -/
theorem Gone.and {w w0 w1 w2 : World} {b : Nat} {F : List Nat} {agg span per t : Int} {L : List Pr} {S : List Nat} (hB : Below w.heap.size w w0) (h : Gone w0 b F agg span per t L w1) (t2 : Turn S w1 w2) (hS : ∀ i, i ∈ S → i < w0.heap.size ∧ w.heap.size ≤ i) (hF : ∀ i, i ∈ F → i < w.heap.size) : Gone w b F agg span per t L w2 := by
  obtain ⟨F', h1, h2, h3⟩ := h
  have hs := hB.size
  refine ⟨F', h1.turn t2 (fun i hi hm => ?_), ((Turn.of_below hB).trans h2 (fun i hi => .inl hi)).trans t2 (fun i hi => .inr (hS i hi).2), fun i hi => (h3 i hi).imp_right (fun e => by omega)⟩
  · obtain ⟨s1, s2⟩ := hS i hm
    rcases h3 i hi with h | h
    · have := hF i h; omega
    · omega
set_option maxRecDepth 20000 in
set_option maxHeartbeats 1000000 in
theorem wRead (b : Nat) (F : List Nat) (agg span per ck : Int) (on : Bool) (L : List Pr) (t : Int) (w : World) (h : Win w b F agg span per ck on L) (ht : In64 t) (hs : on = true → ck ≤ t) :
    Calls Try.prog 16 #[.pointer (some ⟨b, 0, none⟩), .int .i64 t] w fun e w' => e = .returned (.tuple #[rv (toldOf agg per (vals (fresh span t L))), .int .i64 0]) ∧ Gone w b F agg span per t (fresh span t L) w' := by
  obtain ⟨hR, hB⟩ := one_box w 49 [.int .i64 0, .int .i64 0]
  have HG := hid (wGoOn b F agg span per ck on L t _ (h.next hB) ht hs)
  have HB := hid hB
  have HR := hid hR
  have HFl := hid h.lt
  generalize hM : fresh span t L = M at *
  generalize hx : toldOf agg per (vals M) = x
  have HXX := hid hx
  clear h hB hR hs hM hx
  go_enter Try.func16, Try.ntmps16
  go_wp2_with fail
  refine Calls.mono HG.out ?_
  rintro e w1 ⟨rfl, hG⟩
  have hT : Calls Try.prog 30 #[.pointer (some ⟨b, 0, none⟩)] w1 fun e w' => e = .returned (rv x) ∧ Below w1.heap.size w1 w' := by
    rw [← HXX.out]
    obtain ⟨F', ⟨r, q, A, sp, mp, op, rfl, h1⟩, _, _⟩ := hG
    exact wTold b r q A sp mp op agg span per t true M w1 h1
  have hR1 : Box w1 w.heap.size [.int .i64 0, .int .i64 0] := by
    obtain ⟨F', _, h2, _⟩ := hG
    exact HR.out.turn h2 (fun hm => by have := HFl.out _ hm; omega)
  have HT := hid hT
  have HG1 := hid hG
  have HR1 := hid hR1
  clear hT hG hR1 HG
  go_wp2_with fail
  refine Calls.mono HT.out ?_
  rintro e w2 ⟨rfl, hb2⟩
  have hR2 := HR1.out.next hb2
  have z0 := hR2.cell 0 _ rfl
  have z1 := hR2.cell 1 _ rfl
  have z2 := hR2.free 0 (by simp)
  have z3 : ∀ u, (w2.setCell ⟨w.heap.size, 0, none⟩ u).frozen? ⟨w.heap.size, 1, none⟩ = false := fun u => (World.frozen?_setCell _ _ _ _).trans (hR2.free 1 (by simp))
  have o := fun u v => ((hR2.set 0 (by simp) u).set 1 (by simp) v).two
  have o0 := fun u v => (o u v).1
  have o1 := fun u v => (o u v).2.1
  have H2 := hid hb2
  clear hR2 o hb2
  simp only [rv]
  go_wp2_with fail
  refine bodyPost_ret (v := .tuple #[.agg #[.int .i64 x.1, .int .i64 x.2], .int .i64 0]) (by simp [results, Try.results16, go_sem, o0, o1]) rfl ⟨rfl, ?_⟩
  exact Gone.and HB.out HG1.out (S := [w.heap.size]) (((Turn.of_below H2.out).andSet _ _ (.inl (by simp))).andSet _ _ (.inl (by simp))) (fun i hi => by simp at hi; subst hi; simp) HFl.out
set_option maxRecDepth 20000 in
set_option maxHeartbeats 1000000 in
theorem wHeld_stale (b : Nat) (F : List Nat) (agg span per ck : Int) (L : List Pr) (t : Int) (w : World) (h : Win w b F agg span per ck true L) (ht : t < ck) :
    Calls Try.prog 19 #[.pointer (some ⟨b, 0, none⟩), .int .i64 t] w fun e w' => e = .returned (.tuple #[.slice none 0 0, .int .i64 32]) ∧ w = w' := by
  have HG := hid (wGoOn_stale b F agg span per ck L t _ h ht)
  clear h ht
  go_enter Try.func19, Try.ntmps19
  go_wp2_with fail
  refine Calls.mono HG.out ?_
  rintro e w1 ⟨rfl, rfl⟩
  go_wp2_with fail
  go_ret2
  exact ⟨rfl, rfl⟩
set_option maxRecDepth 20000 in
set_option maxHeartbeats 1000000 in
theorem wHeld_nil (t : Int) (w : World) :
    Calls Try.prog 19 #[.pointer none, .int .i64 t] w fun e w' => e = .returned (.tuple #[.slice none 0 0, .int .i64 4]) ∧ w = w' := by
  go_enter Try.func19, Try.ntmps19
  go_wp2_with fail
  refine Calls.mono (wGoOn_nil t w) ?_
  rintro e w1 ⟨rfl, rfl⟩
  go_wp2_with fail
  go_ret2
  exact ⟨rfl, rfl⟩
set_option maxRecDepth 20000 in
set_option maxHeartbeats 1000000 in
theorem wHeld_zero (b : Nat) (vs : List Value) (t : Int) (w : World) (h : Box w b (.pointer none :: vs)) :
    Calls Try.prog 19 #[.pointer (some ⟨b, 0, none⟩), .int .i64 t] w fun e w' => e = .returned (.tuple #[.slice none 0 0, .int .i64 4]) ∧ w = w' := by
  have HG := hid (wGoOn_zero b vs t w h)
  clear h
  go_enter Try.func19, Try.ntmps19
  go_wp2_with fail
  refine Calls.mono HG.out ?_
  rintro e w1 ⟨rfl, rfl⟩
  go_wp2_with fail
  go_ret2
  exact ⟨rfl, rfl⟩
set_option maxRecDepth 20000 in
set_option maxHeartbeats 1000000 in
theorem wHeld (b : Nat) (F : List Nat) (agg span per ck : Int) (on : Bool) (L : List Pr) (t : Int) (w : World) (h : Win w b F agg span per ck on L) (ht : In64 t) (hs : on = true → ck ≤ t) :
    Calls Try.prog 19 #[.pointer (some ⟨b, 0, none⟩), .int .i64 t] w fun e w' => ∃ g, e = .returned (.tuple #[.slice (some ⟨g, 0, none⟩) (fresh span t L).length (fresh span t L).length, .int .i64 0]) ∧ w.heap.size ≤ g ∧ Box w' g (prs (fresh span t L)) ∧ Gone w b F agg span per t (fresh span t L) w' := by
  have HG := hid (wGoOn b F agg span per ck on L t _ h ht hs)
  have HFl := hid h.lt
  generalize hM : fresh span t L = M at *
  clear h hs hM
  go_enter Try.func19, Try.ntmps19
  go_wp2_with fail
  refine Calls.mono HG.out ?_
  rintro e w1 ⟨rfl, hG⟩
  have HG1 := hid hG
  obtain ⟨F', ⟨r, q, A, sp, mp, op, rfl, h1⟩, h2, _⟩ := hG
  have hlt := h1.box.lt
  have c0 := h1.box.cell 0 _ rfl
  have HL := hid (qList r q 4096 M w1 h1.ring (Nat.le_refl _))
  have hsz := h2.size
  clear h1 h2 HG
  go_wp2_with fail
  refine Calls.mono HL.out ?_
  rintro e w2 ⟨g, rfl, hg, hx, hb2⟩
  have H2 := hid hb2
  have HX := hid hx
  clear hb2 hx
  go_wp2_with fail
  go_ret2
  exact ⟨g, rfl, by omega, HX.out, Gone.and (Below.refl _ _) HG1.out (S := []) (Turn.of_below H2.out) (by simp) HFl.out⟩
set_option maxRecDepth 20000 in
theorem wClock_at (b : Nat) (v0 v1 v2 v3 v6 v7 v8 : Value) (ck : Int) (on : Bool) (w : World) (h : Box w b [v0, v1, v2, v3, .int .i64 ck, .bool on, v6, v7, v8]) :
    Calls Try.prog 13 #[.pointer (some ⟨b, 0, none⟩)] w fun e w' => e = .returned (.tuple #[.int .i64 ck, .bool on]) ∧ ∃ k, w' = w.drewN k := by
  have hlt := h.lt
  have c4 := h.cell 4 _ rfl
  have c5 := h.cell 5 _ rfl
  clear h
  go_enter Try.func13, Try.ntmps13
  go_wp2_with fail
  go_quiet (fail)
  go_wp2_with fail
  go_ret2
  exact ⟨rfl, _, rfl⟩
theorem wClock (b : Nat) (F : List Nat) (agg span per ck : Int) (on : Bool) (L : List Pr) (w : World) (h : Win w b F agg span per ck on L) :
    Calls Try.prog 13 #[.pointer (some ⟨b, 0, none⟩)] w fun e w' => e = .returned (.tuple #[.int .i64 ck, .bool on]) ∧ ∃ k, w' = w.drewN k := by
  obtain ⟨r, q, A, sp, mp, op, rfl, h⟩ := h
  exact wClock_at b _ _ _ _ _ _ _ ck on w h.box
theorem wClock_nil (w : World) : Calls Try.prog 13 #[.pointer none] w fun e w' => e = .returned (.tuple #[.int .i64 0, .bool false]) ∧ w = w' := by
  go_enter Try.func13, Try.ntmps13
  go_wp2_with fail
  go_ret2
  exact ⟨rfl, rfl⟩
end Go.Proofs.Ytccgbkafcbfcgaa
