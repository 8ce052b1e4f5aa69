/- Package lex: awake. -/
import Derived.Test.YtecdfnpbcabdnaaGreatDoorLxW
namespace Go.Proofs.YtecdfnpbcabdnaaGreatDoor
open Go.RowKit Go.Lib

theorem cut_x : cutS ⟨#[120, 60, 61, 49, 104, 51, 48, 109]⟩ = ([⟨1, ⟨#[120]⟩, 0, 0⟩, ⟨5, ⟨#[60, 61]⟩, 0, 1⟩, ⟨3, ⟨#[49, 104, 51, 48, 109]⟩, 5400, 3⟩, ⟨7, ⟨#[]⟩, 0, 8⟩], 0, 0) := by kernel_rfl
theorem name_cpu : isN ⟨#[99, 112, 117]⟩ = true := by kernel_rfl
theorem resv_min : resv (ByteArray.mk #[109, 105, 110]).data.toList = true := by kernel_rfl
theorem toks_box {w : World} {B : Nat} {v : Value} {L : List Tk} (h : Toks w B v L) : (v = .slice none 0 0 ∧ L = []) ∨ ∃ g cap, v = .slice (some ⟨g, 0, none⟩) L.length cap ∧ B ≤ g ∧ Box w g (tks L) := by
  obtain ⟨h1, ⟨h2, h3⟩ | ⟨g, cap, cur, h2, h3, h4, h5, h6, h7, h8⟩⟩ := h
  · exact .inl ⟨h2, List.eq_nil_of_length_eq_zero h3⟩
  · exact .inr ⟨g, cap, h2, h3, (Box.ofBlock h4).part (by rw [← h8]; exact List.take_prefix _ _)⟩
end Go.Proofs.YtecdfnpbcabdnaaGreatDoor
