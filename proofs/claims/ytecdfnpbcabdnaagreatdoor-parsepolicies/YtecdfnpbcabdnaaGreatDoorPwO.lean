/- The law's awake. -/
import Derived.Test.YtecdfnpbcabdnaaGreatDoorPxN
namespace Go.Proofs.YtecdfnpbcabdnaaGreatDoor
open Go.RowKit Go.Lib

abbrev awT : Tm := tm 18 2 [⟨2, ⟨#[97]⟩, 0, 0, 0, []⟩, tm 20 6 [⟨2, ⟨#[98]⟩, 0, 0, 4, []⟩, ⟨1, ⟨#[]⟩, 2000000, 0, 8, []⟩]]
theorem aw_expr : exprS ⟨#[97, 32, 43, 32, 98, 32, 42, 32, 50]⟩ = .ok awT := by kernel_rfl
/-- A term's parts, two of them. -/
theorem two_parts {Q : Nat → Prop} {z : Nat} {w : World} {t x y : Tm} {v : Value} (h : SitQ Q z w t v) (hp : t.parts = [x, y]) : ∃ b off cap u1 u2, v = .slice (some ⟨b, off, none⟩) 2 cap ∧ b < w.heap.size ∧ Six w b off x u1 ∧ SitQ Q z w x u1 ∧ Six w b (off + 6) y u2 ∧ SitQ Q z w y u2 := by
  obtain ⟨ad, cap, hv, hl, hc, hq⟩ := h.parts
  rw [hp] at hv hq
  rcases hq with hq | ⟨b, off, rfl, hb, _, hx⟩
  · simp at hq
  · obtain ⟨u1, s1, t1⟩ := hx 0 (by simp)
    obtain ⟨u2, s2, t2⟩ := hx 1 (by simp)
    refine ⟨b, off, cap, u1, u2, hv, hb, ?_, t1, ?_, t2⟩
    · simpa using s1
    · simpa using s2
set_option maxHeartbeats 1000000 in
set_option maxRecDepth 20000 in
theorem awake13_c (w : World) (hT : TabsAt w) (hE : ErrT w) : Calls Tryz.prog 6 #[] w fun e w' => e = .returned (.bool true) ∧ Below w.heap.size w w' := by
  have HX := hid2 (exprF_c ⟨#[97, 32, 43, 32, 98, 32, 42, 32, 50]⟩ w hT hE)
  clear hT hE
  go_enter Tryz.func6, Tryz.ntmps6
  go_wp2_with fail
  refine Calls.mono HX.out ?_
  intro e w1 h1
  unfold ExP at h1
  rw [aw_expr] at h1
  obtain ⟨b1, u, rfl, hs⟩ := h1
  obtain ⟨b, off, cap, u1, u2, rfl, hb, _, _, s2, _⟩ := two_parts hs rfl
  have c0 : w1.cell? ⟨b, off + 6, none⟩ = some (.int .i64 20) := s2.c0
  clear hs s2 HX
  simp only [tmV]
  go_wp2_with fail
  go_ret
  exact ⟨rfl, b1.alloc b1.size _⟩
end Go.Proofs.YtecdfnpbcabdnaaGreatDoor
