/- The document's reader: the end; what Expr says. -/
import Derived.Test.YtecdfnpbcabdnaaGreatDoorPrL
namespace Go.Proofs.YtecdfnpbcabdnaaGreatDoor
open Go.RowKit Go.Lib

def endRd (c : Int) (S : Sr) : Sr := if S.good = true ∧ ((hdT S.L).kind ≠ 7 ∨ c ≠ 0) then wrR c 16 S else S
set_option maxHeartbeats 4000000 in
theorem qEnd_c {z rb tb : Nat} {LL : List Tk} {c : Int} {S : Sr} {o : Nat} (w : World) (hr : Rr z w rb tb LL c S o) :
    Calls Tryz.prog 19 #[.pointer (some ⟨rb, 0, none⟩)] w (WrP z w rb tb LL c (endRd c S) o) := by
  have hgood := hr.good
  have HW := hid2 (fun W (k : Below w.heap.size w W) => qWrong_c 16 ⟨by decide, by unfold In64; omega⟩ W (hr.next k))
  have hN : Hid (∀ w', Below w.heap.size w w' → WrP z w rb tb LL c S o (.returned (.tuple #[])) w') := fun w' b => ⟨rfl, Turn.of_below b, hr.next b⟩
  have hY : Hid (∀ w', Turn [rb] w w' → Rr z w' rb tb LL c (wrR c 16 S) o → WrP z w rb tb LL c (wrR c 16 S) o (.returned (.tuple #[])) w') := fun w' h1 h2 => ⟨rfl, h1, h2⟩
  unfold endRd
  obtain ⟨off, cap, i, ov, h⟩ := hr
  obtain ⟨t0, t1, t2, t3⟩ := h.hd
  obtain ⟨c0, c1, c2, c3, c4, c5, f0, f1, f2, f3, f4, f5⟩ := h.box.six
  have hl := h.box.lt
  have htl := h.lt
  have hil : (i : Int) < (LL.length : Int) := by have := h.il; omega
  have hmx := h.mx
  have hle := h.le
  generalize hdT S.L = t at *
  generalize hn : LL.length = n at *
  by_cases e1 : erI S.er = 0
  · have hg : S.good = true := by rw [hgood]; exact decide_eq_true e1
    by_cases e2 : t.kind = 7
    · have k2 : (t.kind != 7) = false := by simp [e2]
      by_cases e3 : c = 0
      · rw [if_neg (by rintro ⟨_, h | h⟩; exact h e2; exact h e3)]
        have k3 : (c != 0) = false := by simp [e3]
        generalize erI S.er = er at *
        generalize erW S.er = wh at *
        generalize WrP z w rb tb LL c S o = Post at *
        clear h hn hgood
        go_enter Tryz.func19, Tryz.ntmps19
        go_wp2_with fail
        go_quiet (fail)
        go_wp2_with fail
        refine bodyPost_ret (v := .tuple #[]) (by simp [results, Tryz.results19, go_sem]) rfl ?_
        exact hN.out _ (below_drewN (Below.refl _ _) _)
      · rw [if_pos ⟨hg, .inr e3⟩]
        have k3 : (c != 0) = true := by simpa using e3
        generalize WrP z w rb tb LL c (wrR c 16 S) o = Post at *
        generalize wrR c 16 S = S1 at *
        generalize erI S.er = er at *
        generalize erW S.er = wh at *
        clear h hn hgood
        go_enter Tryz.func19, Tryz.ntmps19
        go_wp2_with fail
        go_quiet (fail)
        go_wp2_with fail
        refine Calls.mono (HW.out _ (below_drewN (Below.refl _ _) _)) ?_
        rintro e w2 ⟨rfl, t2', r2⟩
        have T2 := hid2 ((Turn.of_below (S := [rb]) (below_drewN (Below.refl w.heap.size w) nq)).trans t2' (fun _ hi => .inl hi))
        go_wp2_with fail
        refine bodyPost_ret (v := .tuple #[]) (by simp [results, Tryz.results19, go_sem]) rfl ?_
        exact hY.out _ T2.out r2
    · rw [if_pos ⟨hg, .inl e2⟩]
      have k2 : (t.kind != 7) = true := by simpa using e2
      generalize WrP z w rb tb LL c (wrR c 16 S) o = Post at *
      generalize wrR c 16 S = S1 at *
      generalize erI S.er = er at *
      generalize erW S.er = wh at *
      clear h hn hgood
      go_enter Tryz.func19, Tryz.ntmps19
      go_wp2_with fail
      go_quiet (fail)
      go_wp2_with fail
      refine Calls.mono (HW.out _ (below_drewN (Below.refl _ _) _)) ?_
      rintro e w2 ⟨rfl, t2', r2⟩
      have T2 := hid2 ((Turn.of_below (S := [rb]) (below_drewN (Below.refl w.heap.size w) nq)).trans t2' (fun _ hi => .inl hi))
      go_wp2_with fail
      refine bodyPost_ret (v := .tuple #[]) (by simp [results, Tryz.results19, go_sem]) rfl ?_
      exact hY.out _ T2.out r2
  · rw [if_neg (by rintro ⟨h, _⟩; rw [hgood, decide_eq_false e1] at h; cases h)]
    generalize erI S.er = er at *
    generalize erW S.er = wh at *
    have k1 : (er == 0) = false := by simpa using e1
    generalize WrP z w rb tb LL c S o = Post at *
    clear h hn hgood
    go_enter Tryz.func19, Tryz.ntmps19
    go_wp2_with fail
    go_quiet (fail)
    go_wp2_with fail
    refine bodyPost_ret (v := .tuple #[]) (by simp [results, Tryz.results19, go_sem]) rfl ?_
    exact hN.out _ (below_drewN (Below.refl _ _) _)
/-- What the document's Expr says of tokens is what the chapter's grammar says. -/
theorem doc_end {α : Type} {c : Int} {r : Rs α} {y : α × Sr} (h : Eqv c r y) : match bnd r (endP c) with
    | .ok t => y.1 = t ∧ (endRd c y.2).er = none
    | .error f => (endRd c y.2).er = some f := by
  cases r with
  | error f =>
    show (endRd c y.2).er = some f
    have hb : Bad c f y.2 := h
    unfold endRd
    rcases hb.h with h1 | ⟨h1, h2, h3, h4⟩
    · rw [if_neg (by rintro ⟨hg, _⟩; unfold Sr.good at hg; rw [h1] at hg; cases hg)]
      exact h1
    · have hg : y.2.good = true := by unfold Sr.good; rw [h1]; rfl
      rw [if_pos ⟨hg, .inr h3⟩]
      unfold wrR
      rw [if_pos hg, if_pos ⟨h2, h3⟩, h4]
  | ok q =>
    have h1 : y = (q.1, ⟨none, q.2⟩) := h.1
    rw [h1]
    show match endP c q with
      | .ok t => q.1 = t ∧ (endRd c ⟨none, q.2⟩).er = none
      | .error f => (endRd c ⟨none, q.2⟩).er = some f
    unfold endP endRd nxt wrR
    by_cases k7 : (hdT q.2).kind = 7
    · by_cases kc : c = 0
      · rw [if_neg (fun hh => hh.2 kc), bnd_ok, if_pos k7, if_neg (by rintro ⟨_, hh | hh⟩; exact hh k7; exact hh kc)]
        exact ⟨rfl, rfl⟩
      · rw [if_pos ⟨k7, kc⟩, if_pos ⟨good_none _, .inr kc⟩, if_pos (good_none _)]
        show (some ((hdT q.2).at_, if (hdT q.2).kind = 7 ∧ c ≠ 0 then c else 16) : Option Flt) = some ((hdT q.2).at_, c)
        rw [if_pos ⟨k7, kc⟩]
    · rw [if_neg (fun hh => k7 hh.1), bnd_ok, if_neg k7, if_pos ⟨good_none _, .inl k7⟩, if_pos (good_none _)]
      show (some ((hdT q.2).at_, if (hdT q.2).kind = 7 ∧ c ≠ 0 then c else 16) : Option Flt) = some ((hdT q.2).at_, 16)
      rw [if_neg (fun hh => k7 hh.1)]
end Go.Proofs.YtecdfnpbcabdnaaGreatDoor
