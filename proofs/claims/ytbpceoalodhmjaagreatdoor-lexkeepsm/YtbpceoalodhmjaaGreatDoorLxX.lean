/- Package lex: awake. -/
import Derived.Test.YtbpceoalodhmjaaGreatDoorLxW
namespace Go.Proofs.YtbpceoalodhmjaaGreatDoor
open Go.RowKit Go.Lib

theorem cut_x : cutS ⟨#[120, 60, 61, 49, 104, 51, 48, 109]⟩ = ([⟨1, ⟨#[120]⟩, 0, 0⟩, ⟨5, ⟨#[60, 61]⟩, 0, 1⟩, ⟨3, ⟨#[49, 104, 51, 48, 109]⟩, 5400, 3⟩, ⟨7, ⟨#[]⟩, 0, 8⟩], 0, 0) := by kernel_rfl
theorem name_cpu : isN ⟨#[99, 112, 117]⟩ = true := by kernel_rfl
theorem resv_min : resv (ByteArray.mk #[109, 105, 110]).data.toList = true := by kernel_rfl
theorem toks_box {w : World} {B : Nat} {v : Value} {L : List Tk} (h : Toks w B v L) : (v = .slice none 0 0 ∧ L = []) ∨ ∃ g cap, v = .slice (some ⟨g, 0, none⟩) L.length cap ∧ B ≤ g ∧ Box w g (tks L) := by
  obtain ⟨h1, ⟨h2, h3⟩ | ⟨g, cap, cur, h2, h3, h4, h5, h6, h7, h8⟩⟩ := h
  · exact .inl ⟨h2, List.eq_nil_of_length_eq_zero h3⟩
  · exact .inr ⟨g, cap, h2, h3, (Box.ofBlock h4).part (by rw [← h8]; exact List.take_prefix _ _)⟩
set_option maxHeartbeats 2000000 in
theorem awake_c (w : World) (hT : TabsAt w) : Calls Tryz.prog 6 #[] w fun e w' => e = .returned (.bool true) ∧ Below w.heap.size w w' := by
  have C := cut_c ⟨#[120, 60, 61, 49, 104, 51, 48, 109]⟩ (by decide) w hT
  unfold CutP at C
  rw [cut_x] at C
  have HC := hid2 C
  have N := hid2 (fun wx => isName_c ⟨#[99, 112, 117]⟩ (by decide) wx)
  rw [name_cpu] at N
  have V := hid2 (fun wx => reserved_c ⟨#[109, 105, 110]⟩ wx)
  rw [resv_min] at V
  clear C hT
  go_enter Tryz.func6, Tryz.ntmps6
  go_wp2_with fail
  refine Calls.mono HC.out ?_
  rintro r w1 ⟨v, rfl, hv, b1⟩
  simp only [if_true] at hv
  rcases toks_box hv with ⟨_, h0⟩ | ⟨g, cap, rfl, _, hbx⟩
  · cases h0
  · have p0 := hbx.cell 8 _ rfl
    have p1 := hbx.cell 9 _ rfl
    have p2 := hbx.cell 10 _ rfl
    have p3 := hbx.cell 11 _ rfl
    have bl := hbx.lt
    have B1 := hid2 b1
    clear hv hbx b1 HC
    go_wp2_with fail
    refine Calls.mono (N.out _) ?_
    rintro r w2 ⟨rfl, b2⟩
    go_wp2_with fail
    refine Calls.mono (V.out _) ?_
    rintro r w3 ⟨rfl, rfl⟩
    go_wp2_with fail
    go_ret
    exact ⟨rfl, below_on B1.out b2 B1.out.size⟩
end Go.Proofs.YtbpceoalodhmjaaGreatDoor
