/- The walk of the statement RingNil. -/
import Derived.Test.YtcochjicaogofaaRgH
namespace Go.Proofs.Ytcochjicaogofaa
open Go.RowKit

theorem ownsRow_slice {W : World} {base : Nat} {e : TypeId} {size : Nat} {v : Value} {n : Nat} {xs : List Value} (h : W.ownsRow base e size v n xs) : ∃ a c, v = .slice a n c := by
  rcases h.2 with ⟨rfl, h0⟩ | ⟨g, cap, _, rfl, _⟩
  · exact ⟨none, 0, by rw [h0]⟩
  · exact ⟨_, _, rfl⟩
/-- The two rings: none, and the zero one. -/
structure Pair2 (W : World) (lb b : Nat) : Prop where
  box : Box W lb [.pointer none, .pointer (some ⟨b, 0, none⟩)]
  ring : Rg W b b 0 []
theorem Pair2.next {W W' : World} {lb b : Nat} (h : Pair2 W lb b) (t : Below W.heap.size W W') : Pair2 W' lb b := ⟨h.box.next t, h.ring.next t⟩
theorem Pair2.at {W : World} {lb b k : Nat} (h : Pair2 W lb b) (hk : k < 2) : ∃ p, W.cell? ⟨lb, k, none⟩ = some (.pointer p) ∧ ∀ W', Below W.heap.size W W' → RgP W' p 0 [] := by
  obtain rfl | rfl : k = 0 ∨ k = 1 := by omega
  · exact ⟨none, h.box.cell 0 _ rfl, fun _ _ => .inl ⟨rfl, rfl, rfl⟩⟩
  · exact ⟨some ⟨b, 0, none⟩, h.box.cell 1 _ rfl, fun _ t => .inr ⟨b, b, rfl, h.ring.next t⟩⟩

set_option maxRecDepth 20000 in
set_option maxHeartbeats 2000000 in
theorem ringNil_walk (v i : Int) (_hv : (Lit.int .i64 v).wf = true) (_hi : (Lit.int .i64 i).wf = true) (w : World) :
    Calls Try.prog 6 #[.int .i64 v, .int .i64 i] w fun e w' => e = .returned (.bool true) ∧ Below w.heap.size w w' := by
  go_enter Try.func6, Try.ntmps6
  go_wp2_with fail
  refine (awake_any w).mono ?_
  rintro e w1 ⟨rfl, hb1⟩
  go_wp2_with fail
  go_loopw [7] (fun p wr => ∃ k : Nat, p = .int .i64 k ∧ k ≤ 2 ∧ Pair2 wr (w1.heap.size + 1) w1.heap.size ∧ Below w.heap.size w wr) (fun p _ => 2 - (intOf p).toNat)
  case atStart =>
    obtain ⟨h1, h2, h3⟩ := two_boxes w1 59 24 [.int .i64 0, .int .i64 0, .int .i64 0, .slice none 0 0] [.pointer none, .pointer (some ⟨w1.heap.size, 0, none⟩)]
    refine ⟨0, rfl, by omega, ⟨h2, ?_⟩, hb1.trans (h3.mono hb1.size)⟩
    exact (rg_new w1 0 _).next ((Below.refl _ _).alloc (Nat.le_refl _) _)
  case round =>
    obtain ⟨k, rfl, hk, hP, hB⟩ := hrel
    by_cases hlt : k < 2
    · obtain ⟨p, hc, hR⟩ := hP.at hlt
      have hk' : (k : Int) < 2 := by omega
      have HP := hid hP
      have HB := hid hB
      have HR := hid hR
      clear hP hB hR
      go_wp2_with fail
      refine (rPush_no p [] v wr (HR.out wr (Below.refl _ _))).mono ?_
      rintro e w2 ⟨rfl, rfl⟩
      go_wp2_with fail
      refine (rDrop_no p 0 wr (HR.out wr (Below.refl _ _))).mono ?_
      rintro e w2 ⟨rfl, rfl⟩
      go_wp2_with fail
      refine (rAt_no p 0 [] i wr (HR.out wr (Below.refl _ _)) (by simp; omega)).mono ?_
      rintro e w2 ⟨rfl, rfl⟩
      go_wp2_with fail
      refine Calls.mono (each_any p 0 [] 9 wr (HR.out wr (Below.refl _ _)) (by decide)) ?_
      rintro e w2 ⟨v2, rfl, hown, hb2⟩
      obtain ⟨a2, c2, rfl⟩ := ownsRow_slice hown
      have hc2 := (HP.out.next hb2).box
      have hc3 : w2.cell? ⟨w1.heap.size + 1, k, none⟩ = some (.pointer p) := (hb2.cell (p := ⟨w1.heap.size + 1, k, none⟩) HP.out.box.lt).trans hc
      have HB2 := hid hb2
      clear hown hc2 hb2
      simp only [List.take_nil, List.length_nil]
      go_wp2_with fail
      refine (rLen_p p 0 [] w2 (HR.out w2 HB2.out)).mono ?_
      rintro e w3 ⟨rfl, rfl⟩
      go_wp2_with fail
      refine (rRoom_p p 0 [] w2 (HR.out w2 HB2.out)).mono ?_
      rintro e w3 ⟨rfl, rfl⟩
      go_wp2_with fail
      refine Calls.mono (rList_p p 0 [] w2 (HR.out w2 HB2.out) (by decide)) ?_
      rintro e w3 ⟨g3, rfl, hg3, hk3, hb3⟩
      have HB3 := hid hb3
      clear hb3 hk3
      simp only [List.length_nil]
      go_wp2_with fail
      go_roundw
      case rel => exact ⟨k + 1, by simp, by omega, (HP.out.next HB2.out).next HB3.out, (HB.out.trans (HB2.out.mono HB.out.size)).trans (HB3.out.mono (Nat.le_trans HB.out.size HB2.out.size))⟩
      case measure => simp [intOf]; omega
    · obtain rfl : k = 2 := by omega
      go_wp2_with fail
      go_ret
      exact ⟨rfl, hB⟩
end Go.Proofs.Ytcochjicaogofaa
