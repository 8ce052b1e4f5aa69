/- Package core: Sort whole. -/
import Derived.Test.YtkhdcojgcnomgaaGreatDoorCoD
namespace Go.Proofs.YtkhdcojgcnomgaaGreatDoor
open Go.RowKit

theorem csort_c (wn cn ln : Int) (h64 : C64 wn ∧ C64 cn ∧ C64 ln) (t : Co) : CSoC ladF wn cn ln t := by
  induction t using Co.ind with
  | h t ih => exact csort_step ladF cladder_s wn cn ln h64 t ih
set_option maxHeartbeats 1000000 in
theorem cSort_c (t : Co) (v : Value) (wn cn ln : Int) (w : World) (hs : CSits w t v) (hn : cnodes t ≤ 8192) (h64 : C64 wn ∧ C64 cn ∧ C64 ln) :
    Calls Tryz.prog 12 #[coV t v, .int .i64 wn, .int .i64 cn, .int .i64 ln] w fun e w' => e = .returned (.int .i64 (csort ladF wn cn ln t)) ∧ Below w.heap.size w w' := by
  have HC := chid (fun b sb W => csort_c wn cn ln h64 t v b sb W)
  have HS := chid hs
  have HN := chid hn
  obtain ⟨ad, cap, rfl, -, -⟩ := hs.parts.shape
  clear hs hn
  generalize csort ladF wn cn ln t = R at *
  go_enter Tryz.func12, Tryz.ntmps12
  go_wp2_with fail
  refine Calls.mono (crows_c _) ?_
  rintro e w1 ⟨b, rfl, hr, b1⟩
  have hb0 := (Below.refl w.heap.size w).alloc (Nat.le_refl _) (.cells (coL t (.slice ad t.parts.length cap)).toArray 24)
  have HB1 := chid (cbelow_on hb0 b1 (by simp))
  have X0 := (Box.new w (coL t (.slice ad t.parts.length cap)) 24).next b1
  have c0 := X0.cell 0 _ rfl
  have c1 := X0.cell 1 _ rfl
  have c2 := X0.cell 2 _ rfl
  have c3 := X0.cell 3 _ rfl
  have x0 := X0.lt
  have A : ∀ o, Below w1.heap.size w1 (w1.alloc o) := fun o => (Below.refl _ _).alloc (Nat.le_refl _) _
  have HCc := chid (fun W (hW : Below w1.heap.size w1 W) (hx : Box W w1.heap.size (soL b wn cn ln)) => HC.out b w1.heap.size W (HS.out.next (cbelow_on HB1.out hW HB1.out.size)) HN.out hx (hr.next hW))
  have HA := chid A
  clear HC A hr b1 hb0 X0
  go_wp2_with fail
  refine Calls.mono (HCc.out _ (HA.out _) (Box.new w1 (soL b wn cn ln) _)) ?_
  rintro e w2 ⟨rfl, b2⟩
  have HB2 := chid (cbelow_on HB1.out (cbelow_on (HA.out _) b2 (by simp)) HB1.out.size)
  clear b2 HCc HA
  go_wp2_with fail
  go_ret
  exact ⟨rfl, HB2.out⟩
end Go.Proofs.YtkhdcojgcnomgaaGreatDoor
