/- Rings of samples: At, Drop. -/
import Derived.Test.YtccgbkafcbfcgaaSaB
namespace Go.Proofs.Ytccgbkafcbfcgaa
open Go.RowKit

theorem below_drewQ {B : Nat} {a w : World} (h : Below B a w) (n : Nat) : Below B a (w.drewN n) := ⟨h.os, h.tape, h.output, h.size, h.block⟩
/-- A pair as a value. -/
def pv (p : Pr) : Value := .agg #[.int .i64 p.1, .int .i64 p.2]
theorem RqIs.drewN {w : World} {b q room first : Nat} {sv : Value} {cs L : List Pr} (h : RqIs w b q room first sv cs L) (k : Nat) : RqIs (w.drewN k) b q room first sv cs L := h.turn (drewN_turn [] w k) (by simp) (by simp)
set_option maxRecDepth 20000 in
set_option maxHeartbeats 1000000 in
theorem qAt_yes (b q room : Nat) (L : List Pr) (j : Nat) (x : Pr) (w : World) (h : Rq w b q room L) (hr : room ≤ 4096) (hx : L[j]? = some x) :
    Calls Try.prog 58 #[.pointer (some ⟨b, 0, none⟩), .int .i64 (j : Nat)] w fun e w' => e = .returned (.tuple #[pv x, .bool true]) ∧ Below w.heap.size w w' := by
  have hjl : j < L.length := (List.getElem?_eq_some_iff.1 hx).1
  have hlen := h.len
  have hb1 : Below w.heap.size w (w.alloc (.cells #[.int .i64 0, .int .i64 0] 45)) := (Below.refl _ _).alloc (Nat.le_refl _) _
  replace h := h.next hb1
  have hbx := (one_box w 45 [.int .i64 0, .int .i64 0]).1
  have hP := h
  obtain ⟨first, sv, cs, h⟩ := h
  have hn : 0 < cs.length := by have := h.fits; omega
  have hc4 : cs.length ≤ 4096 := by have := h.roomy; omega
  have hf : first < cs.length := by rcases h.inside with h | ⟨h, _⟩; (· exact h); (· rw [h] at hn; simp at hn)
  rcases h.slots with ⟨_, e, _⟩ | ⟨rfl, hqb, _, hq⟩
  · rw [e] at hn; simp at hn
  obtain ⟨n, hnn⟩ : ∃ n, n = cs.length := ⟨_, rfl⟩
  obtain ⟨s, hs⟩ : ∃ s, s = (first + j) % cs.length := ⟨_, rfl⟩
  have hsn : s < cs.length := by rw [hs]; exact slot_lt _ hn
  obtain ⟨s0, s1, _, _⟩ := boxq_cell (k := s) hq (by rw [hs]; exact h.holds j x hx)
  obtain ⟨c0, c1, c2, c3, f0, f1, f2, f3⟩ := h.box.four
  obtain ⟨x0, x1, y0, y1⟩ := hbx.two
  have hc := fun (wx : World) (hbx : Box wx b [.int .i64 (room : Nat), .int .i64 (first : Nat), .int .i64 (L.length : Nat), .slice (some ⟨q, 0, none⟩) cs.length cs.length]) => qSlot b q room first cs.length j s _ wx hbx hn hc4 hf (by omega) hs
  have hb0 := h.box
  have hblt := h.box.lt
  rw [← hnn] at hsn c3 hb0 hc
  have hsn' : (s : Int) < (n : Int) := by omega
  have hj1 : ¬ (j : Int) < 0 := by omega
  have hj2 : ¬ (L.length : Int) ≤ (j : Int) := by omega
  obtain ⟨W1, hW1⟩ : ∃ W1, W1 = w.alloc (.cells #[.int .i64 0, .int .i64 0] 45) := ⟨_, rfl⟩
  rw [← hW1] at c0 c1 c2 c3 f0 f1 f2 f3 x0 x1 y0 y1 hP hb0 hb1 s0 s1 hblt
  have y1' : ∀ n, ((W1.drewN n).setCell ⟨w.heap.size, 0, none⟩ (.int .i64 x.1)).frozen? ⟨w.heap.size, 1, none⟩ = false := fun n => (World.frozen?_setCell _ _ _ _).trans y1
  have hbx1 : Box W1 w.heap.size [.int .i64 0, .int .i64 0] := by rw [hW1]; exact hbx
  have o := fun n => (((hbx1.alike (w' := W1.drewN n) (by rfl)).set 0 (by simp) (.int .i64 x.1)).set 1 (by simp) (.int .i64 x.2)).two
  have o0 := fun n => (o n).1
  have o1 := fun n => (o n).2.1
  have HP := hid hP
  have HC := hid hc
  have HN := hid hnn
  have HS := hid hs
  have HB := hid hb0
  have HB1 := hid hb1
  clear hc hnn hs hb0 h hq hP hx hb1 hbx hbx1 o
  go_enter Try.func58, Try.ntmps58
  go_wp2_with fail
  rw [← hW1]
  clear hW1
  refine (qLen _ q room L _ HP.out).mono ?_
  rintro e w1 ⟨rfl, rfl⟩
  go_wp2_with fail
  go_region_with (go_at_call 38; refine (HC.out _ (HB.out.alike (by rfl))).mono ?_; rintro e w1 ⟨rfl, kk, rfl⟩)
  all_goals go_wp2_with fail
  all_goals (
    refine bodyPost_ret (v := .tuple #[pv x, .bool true]) (by simp [results, Try.results58, go_sem, Act.put, o0, o1, pv]) rfl ⟨rfl, ?_⟩
    exact ((below_drewQ HB1.out _).setCell (by simp) _).setCell (by simp) _)
end Go.Proofs.Ytccgbkafcbfcgaa
