/- Windows: what is too old; a ring's List, At of none, Room of nil. -/
import Derived.Test.YtccgbkafcbfcgaaWnA
import Derived.Test.YtccgbkafcbfcgaaFix1
namespace Go.Proofs.Ytccgbkafcbfcgaa
open Go.RowKit

theorem qRoom_nil (w : World) : Calls Try.prog 34 #[.pointer none] w fun e w' => e = .returned (.int .i64 0) ∧ w = w' := by
  go_enter Try.func34, Try.ntmps34
  go_wp2_with fail
  go_ret
  exact ⟨rfl, rfl⟩
set_option maxRecDepth 20000 in
theorem qAt_none (b q room : Nat) (w : World) (h : Rq w b q room []) :
    Calls Try.prog 58 #[.pointer (some ⟨b, 0, none⟩), .int .i64 0] w fun e w' => e = .returned (.tuple #[pv pz, .bool false]) ∧ Below w.heap.size w w' := by
  have hb2 := two_boxes w 45 45 [.int .i64 0, .int .i64 0] [.int .i64 0, .int .i64 0]
  have hb1 : Below w.heap.size w (w.alloc (.cells #[.int .i64 0, .int .i64 0] 45)) := (Below.refl _ _).alloc (Nat.le_refl _) _
  have HR := hid (h.next hb1)
  have HB := hid hb2.2.2
  clear h hb2 hb1
  go_enter Try.func58, Try.ntmps58
  go_wp2_with fail
  refine Calls.mono (qLen _ q room [] _ HR.out) ?_
  rintro e w1 ⟨rfl, rfl⟩
  go_wp2_with fail
  refine bodyPost_ret (v := .tuple #[pv pz, .bool false]) (by simp [results, Try.results58, go_sem, pv, pz]) rfl ⟨rfl, ?_⟩
  exact HB.out
/-- New memory, with these samples. -/
def NewSam (w : World) (L : List Pr) (e : Ending) (w' : World) : Prop := ∃ g, e = .returned (.slice (some ⟨g, 0, none⟩) L.length L.length) ∧ w.heap.size ≤ g ∧ Box w' g (prs L) ∧ Below w.heap.size w w'
set_option maxRecDepth 20000 in
theorem qList (b q room : Nat) (L : List Pr) (w : World) (h : Rq w b q room L) (hr : room ≤ 4096) :
    Calls Try.prog 32 #[.pointer (some ⟨b, 0, none⟩)] w (NewSam w L) := by
  obtain ⟨i0, hi, hz0, hz1, hz2⟩ := info_parts info_pair
  have hlen : L.length ≤ 4096 := by have := h.len; omega
  have HP := hid h
  clear h
  go_enter Try.func32, Try.ntmps32
  go_wp2_with fail
  refine Calls.mono (qLen b q room L w HP.out) ?_
  rintro e w1 ⟨rfl, rfl⟩
  go_wp2_with (at_make; refine wpList_make_full _ rfl _ _ 32 rfl w.heap.size 45 i0 (.agg #[.int .i64 0, .int .i64 0]) 2 Try.underlying32 hi hz0 hz1 _ _ _ _ L.length rfl rfl rfl rfl (by rw [hz2]; omega) (by simp only [maxLen]; omega) (Nat.le_refl _) ?_; intro w1 hown hgrow)
  have hk := boxq_made hown
  have hb1 : Below w.heap.size w w1 := (Below.refl _ _).grown hgrow (Nat.le_refl _) (by simp)
  have hlt := HP.out.lt
  have hql := HP.out.qlt
  refine Calls.mono (qFill b q room L w1 (HP.out.next hb1) hr w.heap.size L.length L.length _ hk (by omega) (by omega) (Nat.le_refl _) (by simp) hlen) ?_
  rintro e w2 ⟨rfl, ht, hk2⟩
  go_wp2_with fail
  go_ret
  exact ⟨_, rfl, Nat.le_refl _, by simpa using hk2, hb1.trans (ht.below (by simp) hb1.size)⟩
/-- Is there an oldest one, and too old? -/
def tooOld (span t : Int) : List Pr → Bool
  | [] => false
  | s :: _ => decide (span ≤ t - s.1)
/-- Those that aren't too old. -/
def fresh (span t : Int) (L : List Pr) : List Pr := L.dropWhile (fun s => decide (span ≤ t - s.1))
theorem held_span {n span : Int} (h1 : 1 ≤ span) (h2 : span ≤ 604800) : (span ≤ held n) ↔ (span ≤ n) := by
  unfold held
  split
  · omega
  · split <;> omega
set_option maxRecDepth 20000 in
set_option maxHeartbeats 1000000 in
theorem wOld (b r q : Nat) (A : List Nat) (sp mp op : Option Addr) (agg span per ck : Int) (on : Bool) (L : List Pr) (t : Int) (w : World) (h : WinIs w b r q A sp mp op agg span per ck on L) (ht : In64 t) :
    Calls Try.prog 35 #[.pointer (some ⟨b, 0, none⟩), .int .i64 t] w fun e w' => e = .returned (.bool (tooOld span t L)) ∧ Below w.heap.size w w' := by
  have hlt := h.box.lt
  have c0 := h.box.cell 0 _ rfl
  have HX := hid h.box
  have hf := h.fair
  cases L with
  | nil =>
    have HA := hid (qAt_none r q 4096 w h.ring)
    clear h
    go_enter Try.func35, Try.ntmps35
    go_wp2_with fail
    refine Calls.mono HA.out ?_
    rintro e w1 ⟨rfl, hB⟩
    have HB := hid hB
    clear hB
    simp only [pv, pz]
    go_wp2_with fail
    go_quiet (fail)
    go_wp2_with fail
    go_ret
    exact ⟨rfl, below_drewQ (HB.out.alloc HB.out.size _) _⟩
  | cons s M =>
    have HA := hid (qAt_yes r q 4096 (s :: M) 0 s w h.ring (Nat.le_refl _) rfl)
    have hs := (h.inn s (by simp)).1
    obtain ⟨f1, f2, -⟩ := hf
    have hq : tooOld span t (s :: M) = decide (span ≤ held (t - s.1)) := by simp [tooOld, held_span f1 f2]
    rw [hq]
    clear h hq f1 f2
    generalize hd : held (t - s.1) = d
    have HD := hid hd
    clear hd
    go_enter Try.func35, Try.ntmps35
    go_wp2_with fail
    refine Calls.mono HA.out ?_
    rintro e w1 ⟨rfl, hB⟩
    have h1 := HX.out.next hB
    simp only [pv]
    have hN := Box.new w1 [.int .i64 s.1, .int .i64 s.2] 45
    have hB2 : Below w1.heap.size w1 (w1.alloc (.cells #[.int .i64 s.1, .int .i64 s.2] 45)) := (Below.refl _ _).alloc (Nat.le_refl _) _
    have d2 := (h1.next hB2).cell 2 _ rfl
    have hlt2 := (h1.next hB2).lt
    have H12 := hid (hB.trans (hB2.mono hB.size))
    have d0 := hN.cell 0 _ rfl
    clear c0 hlt hN hB2 h1 hB
    go_wp2_with fail
    generalize hW : w1.alloc (.cells #[.int .i64 s.1, .int .i64 s.2] 45) = W at *
    generalize w1.heap.size = g at *
    clear hW
    go_region_with (go_at_call 59; refine Calls.mono (Sub_any t s.1 ht.1 ht.2 hs.1 hs.2 _) ?_; rw [HD.out]; rintro e w3 ⟨rfl, hb3⟩; have k0 := (hb3.cell (p := ⟨b, 2, none⟩) hlt2).trans d2; have k1 := Nat.lt_of_lt_of_le hlt2 hb3.size)
    all_goals go_wp2_with fail
    all_goals (
      go_ret
      exact ⟨rfl, H12.out.drew.trans (hb3.mono H12.out.size)⟩)
end Go.Proofs.Ytccgbkafcbfcgaa
