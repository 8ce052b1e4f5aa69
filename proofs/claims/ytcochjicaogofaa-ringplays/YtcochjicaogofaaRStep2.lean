/- The statement RingPlays: List and Each of both rings. -/
import Derived.Test.YtcochjicaogofaaRStep
namespace Go.Proofs.Ytcochjicaogofaa
open Go.RowKit

theorem row_slice {W : World} {base : Nat} {e : TypeId} {size : Nat} {v : Value} {n : Nat} {xs : List Value} (h : W.ownsRow base e size v n xs) : ∃ a c, v = .slice a n c := by
  rcases h.2 with ⟨rfl, h0⟩ | ⟨g, cap, _, rfl, _⟩
  · exact ⟨none, 0, by rw [h0]⟩
  · exact ⟨_, _, rfl⟩
theorem RgP.alike {w w' : World} {p : Option Addr} {room : Nat} {L : List Int} (h : RgP w p room L) (e : w'.heap = w.heap) : RgP w' p room L := by
  rcases h with h | ⟨b, q, ep, f, sv, cs, h⟩
  · exact .inl h
  · refine .inr ⟨b, q, ep, f, sv, cs, h.box.alike e, ?_, h.fits, h.roomy, h.inside, h.holds⟩
    rcases h.slots with h | ⟨e1, n, z, h⟩
    · exact .inl h
    · exact .inr ⟨e1, n, z, h.alike e⟩
theorem Both.rgp {B : Nat} {w : World} {b q rb g room : Nat} {L : List Int} (h : Both B w b q rb g room L) : RgP w (some ⟨b, 0, none⟩) room L := .inr ⟨b, q, rfl, h.ring⟩
theorem Rd.alike {w w' : World} {v : Value} {A : List Int} (h : Rd w v A) (e : w'.heap = w.heap) : Rd w' v A := by
  obtain ⟨a, c, e1, h | ⟨g, off, e2, hg, h⟩⟩ := h
  · exact ⟨a, c, e1, .inl h⟩
  · exact ⟨a, c, e1, .inr ⟨g, off, e2, by rw [e]; exact hg, fun i x hx => (World.cell?_of_block (by rw [e])).trans (h i x hx)⟩⟩
set_option maxRecDepth 20000 in
set_option maxHeartbeats 2000000 in
theorem step_list (B b q rb g room : Nat) (L : List Int) (v : Int) (w : World) (h : Both B w b q rb g room L) (hr : room ≤ 4096) :
    Calls Try.prog 10 #[.pointer (some ⟨b, 0, none⟩), .pointer (some ⟨rb, 0, none⟩), .agg #[.int .i64 4, .int .i64 v]] w (Stepped B w b rb room) := by
  have h0 := h.next (w' := w.alloc (.cells #[.int .i64 4, .int .i64 v] 33)) ((Below.refl _ _).alloc (Nat.le_refl _) _)
  have hbb : Below B w (w.alloc (.cells #[.int .i64 4, .int .i64 v] 33)) := (Below.refl _ _).alloc h.start _
  have hlen := h.ring.len
  have hst := h.start
  obtain ⟨W0, hW0⟩ : ∃ W0, W0 = w.alloc (.cells #[.int .i64 4, .int .i64 v] 33) := ⟨_, rfl⟩
  rw [← hW0] at h0 hbb
  obtain ⟨lv, hrf⟩ := h0.ref
  obtain ⟨a2, c2, hlv⟩ := hrf.sl.shape
  subst hlv
  obtain ⟨d0, d1, e0, e1⟩ := hrf.box.two
  have hblt := hrf.box.lt
  have H0 := hid h0
  have HR := hid hrf
  have HB := hid hbb
  clear h h0 hrf hbb
  go_enter Try.func10, Try.ntmps10
  go_wp2_with fail
  rw [← hW0]
  clear hW0
  go_region_with (first
    | (go_at_call 12; refine Calls.mono (rList_p _ room L _ (H0.out.rgp.alike (by rfl)) hr) ?_; rintro e w1 ⟨g3, rfl, hg3, hk3, hb3⟩; have hb4 : Below W0.heap.size W0 w1 := ⟨hb3.os, hb3.tape, hb3.output, hb3.size, hb3.block⟩; have d2 := (hb4.cell (p := ⟨rb, 1, none⟩) hblt).trans d1; have HK := hid hk3; have HB4 := hid hb4; clear hk3 hb4 hb3)
    | (go_at_call 11; refine Calls.mono (same_yes _ _ L _ ((HK.out.rd L.length).alike (by rfl)) ((HR.out.sl.rd.next HB4.out).alike (by rfl)) (by omega)) ?_; rintro e w2 ⟨rfl, kk, rfl⟩))
  all_goals go_wp2_with fail
  all_goals go_ret
  all_goals exact ⟨rfl, (HB.out.trans (HB4.out.mono H0.out.start)).trans ((drewN_below _ _).mono (Nat.le_trans H0.out.start HB4.out.size)), q, g, L, (H0.out.next HB4.out).next (drewN_below _ _)⟩
/-- The numbers that Each is asked for are those ahead of the number after v. -/
theorem most_is (L : List Int) (v : Int) : (L.take (v.toNat + 1)).length = min (v.toNat + 1) L.length := by simp
theorem Rd.cut {w : World} {g off cap k : Nat} {L : List Int} (h : SlAt w g off cap L) (m c : Nat) (hm : m = (L.take k).length) : Rd w (.slice (some ⟨g, off, none⟩) m c) (L.take k) := by
  subst hm
  refine ⟨_, c, rfl, .inr ⟨g, off, rfl, h.lt, fun i x hx => h.cell i x ?_⟩⟩
  have hi : i < (L.take k).length := (List.getElem?_eq_some_iff.1 hx).1
  rw [List.getElem?_take_of_lt (by simp at hi; omega)] at hx
  exact hx
set_option maxRecDepth 20000 in
set_option maxHeartbeats 2000000 in
theorem step_each (B b q rb g room : Nat) (L : List Int) (v : Int) (w : World) (h : Both B w b q rb g room L) (hr : room ≤ 4096) :
    Calls Try.prog 10 #[.pointer (some ⟨b, 0, none⟩), .pointer (some ⟨rb, 0, none⟩), .agg #[.int .i64 5, .int .i64 v]] w (Stepped B w b rb room) := by
  have h0 := h.next (w' := w.alloc (.cells #[.int .i64 5, .int .i64 v] 33)) ((Below.refl _ _).alloc (Nat.le_refl _) _)
  have hbb : Below B w (w.alloc (.cells #[.int .i64 5, .int .i64 v] 33)) := (Below.refl _ _).alloc h.start _
  have hbx := (one_box w 33 [.int .i64 5, .int .i64 v]).1
  have hlen := h.ring.len
  have hst := h.start
  have H0 := hid h0
  have HB := hid hbb
  have HX := hid hbx
  clear h h0 hbb hbx
  go_enter Try.func10, Try.ntmps10
  go_wp2_with fail
  refine Calls.mono (each_any _ room L v _ H0.out.rgp hr) ?_
  rintro e w1 ⟨v1, rfl, hown, hb1⟩
  obtain ⟨a1, c1, hv1⟩ := row_slice hown
  have hrd := ownsRow_rd hown
  have h1 := H0.out.next hb1
  obtain ⟨x0, x1, y0, y1⟩ := (HX.out.next hb1).two
  have hb2 := HB.out.trans (hb1.mono H0.out.start)
  obtain ⟨m, hm⟩ : ∃ m, m = (L.take (v.toNat + 1)).length := ⟨_, rfl⟩
  have hm1 : m = min (v.toNat + 1) L.length := by rw [hm, most_is]
  rw [← hm] at hv1 ⊢
  subst hv1
  obtain ⟨lv, hrf⟩ := h1.ref
  have hml : m ≤ L.length := by omega
  have hll : L.length ≤ 4096 := by omega
  obtain ⟨d0, d1, e0, e1⟩ := hrf.box.two
  have hblt := hrf.box.lt
  have H1 := hid h1
  have HRD := hid hrd
  have HB2 := hid hb2
  have HM := hid hm
  clear hown hb1 hb2 h1 hrd hm
  rcases hrf.sl with ⟨rfl, rfl, _⟩ | ⟨off, cap, rfl, hs⟩
  · have hm0 : m = 0 := by simpa using hml
    subst hm0
    clear hrf hm1
    simp only [List.length_nil] at hll hml
    by_cases hv : v < 0
    · go_wp2_with fail
      all_goals (
        refine Calls.mono (same_yes _ _ [] _ (by simpa using HRD.out) ⟨none, 0, rfl, .inl rfl⟩ (by simp)) ?_
        rintro e w2 ⟨rfl, kk, rfl⟩
        go_wp2_with fail
        go_ret
        exact ⟨rfl, HB2.out.trans ((drewN_below _ _).mono H1.out.start), q, g, [], H1.out.next (drewN_below _ _)⟩)
    · go_wp2_with fail
      all_goals (
        refine Calls.mono (same_yes _ _ [] _ (by simpa using HRD.out) ⟨none, 0, rfl, .inl rfl⟩ (by simp)) ?_
        rintro e w2 ⟨rfl, kk, rfl⟩
        go_wp2_with fail
        go_ret
        exact ⟨rfl, HB2.out.trans ((drewN_below _ _).mono H1.out.start), q, g, [], H1.out.next (drewN_below _ _)⟩)
  · have hcap := hs.le
    have HS := hid hs
    clear hs hrf
    obtain ⟨n, hn⟩ : ∃ n, n = L.length := ⟨_, rfl⟩
    rw [← hn] at d1 hm1 hml hll hcap
    have HN := hid hn
    have HM1 := hid hm1
    clear hn hm1
    by_cases hv : v < (n : Int)
    · by_cases hv0 : v < 0
      · go_wp2_with fail
        all_goals (
          refine Calls.mono (same_yes _ _ (L.take (v.toNat + 1)) _ HRD.out (Rd.cut HS.out _ _ (by have := HM.out; have := HM1.out; have := HN.out; omega)) (by have := HM.out; have := HM1.out; omega)) ?_
          rintro e w2 ⟨rfl, kk, rfl⟩
          go_wp2_with fail
          go_ret
          exact ⟨rfl, HB2.out.trans ((drewN_below _ _).mono H1.out.start), q, g, L, H1.out.next (drewN_below _ _)⟩)
      · go_wp2_with fail
        all_goals (
          refine Calls.mono (same_yes _ _ (L.take (v.toNat + 1)) _ HRD.out (Rd.cut HS.out _ _ (by have := HM.out; have := HM1.out; have := HN.out; omega)) (by have := HM.out; have := HM1.out; omega)) ?_
          rintro e w2 ⟨rfl, kk, rfl⟩
          go_wp2_with fail
          go_ret
          exact ⟨rfl, HB2.out.trans ((drewN_below _ _).mono H1.out.start), q, g, L, H1.out.next (drewN_below _ _)⟩)
    · go_wp2_with fail
      all_goals (
        refine Calls.mono (same_yes _ _ (L.take (v.toNat + 1)) _ HRD.out (Rd.cut HS.out _ _ (by have := HM.out; have := HM1.out; have := HN.out; omega)) (by have := HM.out; have := HM1.out; omega)) ?_
        rintro e w2 ⟨rfl, kk, rfl⟩
        go_wp2_with fail
        go_ret
        exact ⟨rfl, HB2.out.trans ((drewN_below _ _).mono H1.out.start), q, g, L, H1.out.next (drewN_below _ _)⟩)
/-- Every call: the answers are alike, and so are the rings behind it. -/
theorem step_any (B b q rb g room : Nat) (L : List Int) (kd v : Int) (w : World) (h : Both B w b q rb g room L) (h1 : 1 ≤ room) (hr : room ≤ 4096) :
    Calls Try.prog 10 #[.pointer (some ⟨b, 0, none⟩), .pointer (some ⟨rb, 0, none⟩), .agg #[.int .i64 kd, .int .i64 v]] w (Stepped B w b rb room) := by
  by_cases k1 : kd = 1
  · subst k1; exact step_push B b q rb g room L v w h h1 hr
  by_cases k2 : kd = 2
  · subst k2; exact step_drop B b q rb g room L v w h h1 hr
  by_cases k3 : kd = 3
  · subst k3; exact step_at B b q rb g room L v w h h1 hr
  by_cases k4 : kd = 4
  · subst k4; exact step_list B b q rb g room L v w h hr
  by_cases k5 : kd = 5
  · subst k5; exact step_each B b q rb g room L v w h hr
  exact step_other B b q rb g room L kd v w h h1 hr k1 k2 k3 k4 k5
end Go.Proofs.Ytcochjicaogofaa
