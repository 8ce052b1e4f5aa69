/- Package parse: word, atom, factor. -/
import Derived.Test.YtecdfnpbcabdnaaGreatDoorPxD
namespace Go.Proofs.YtecdfnpbcabdnaaGreatDoor
open Go.RowKit Go.Lib

set_option maxHeartbeats 4000000 in
set_option maxRecDepth 20000 in
theorem word_c {z rb tb lb : Nat} {c : Int} {L : List Tk} {o : Nat} (hz : z ≤ 9223372036854775807) {X : Option Ps} (HX : InC z rb tb lb c o X) {t0 : Tk} (hx : nxt c L = .ok t0) (hm : isT t0.text t0 = true) (w : World) (hr : Rea z w rb tb lb c L o) :
    Calls Tryz.prog 110 #[.pointer (some ⟨rb, 0, none⟩), .string t0.text] w (Out (VTm w.heap.size z) z w rb tb lb c o (wordP c X t0 L.tail)) := by
  obtain ⟨pr, hpr⟩ : ∃ pr, Hid (pr = wordP c X t0 L.tail) := ⟨_, rfl⟩
  rw [← hpr.out]
  have hE : Hid (∀ f w', pr = .error f → Turn [rb] w w' → Out (VTm w.heap.size z) z w rb tb lb c o pr (.panicked [fltE f]) w') := fun f w' h ht => Out.mk_err h ht
  have hO : Hid (∀ t L' w' v u, pr = .ok (t, L') → Turn [rb] w w' → v = tmV t u → SitB w.heap.size z w' t u → Rea z w' rb tb lb c L' o → Out (VTm w.heap.size z) z w rb tb lb c o pr (.returned v) w') := fun t L' w' v u h ht hv hs hr' => Out.mk_ok h ht ⟨u, hv, hs⟩ hr'
  have hC : Hid (∀ W e w', w.heap.size < W.heap.size → Turn [rb] w W → Out (VTm W.heap.size z) z W rb tb lb c o pr e w' → (∃ f, e = .panicked [fltE f] ∧ Out (VTm w.heap.size z) z w rb tb lb c o pr (.panicked [fltE f]) w') ∨ (∃ t u L', e = .returned (tmV t u) ∧ pr = .ok (t, L') ∧ Turn [rb] W w' ∧ SitB W.heap.size z w' t u ∧ Rea z w' rb tb lb c L' o)) := fun W e w' hs hT h => by
    rcases hp : pr with f | y
    · obtain ⟨rfl, ht⟩ := Out.of_err hp h
      exact .inl ⟨f, rfl, Out.mk_err rfl (tn hT ht)⟩
    · obtain ⟨ht, v, rfl, ⟨u, rfl, hs⟩, hr'⟩ := Out.of_ok hp h
      exact .inr ⟨y.1, u, y.2, rfl, rfl, ht, hs, hr'⟩
  generalize Out (VTm w.heap.size z) z w rb tb lb c o pr = Post at *
  have hL := hr.lts
  have hne : w.heap.size ∉ [rb] := by simp; omega
  have hok := hr.tl.ok
  rw [← nxt_inv hx] at hok
  have hm1 := mustS_of hx hm
  have Z0 := Box.new w zs6 33
  have T0 := tnO (ob := .cells (zs6).toArray 33) (Turn.refl [rb] w)
  have r0 := hr.onO (ob := .cells (zs6).toArray 33)
  have zsz : w.heap.size < (w.alloc (.cells (zs6).toArray 33)).heap.size := by simp
  have hq := hpr.out
  unfold wordP at hq
  by_cases h0 : t0.text = k_true
  · rw [if_pos h0] at hq
    rw [h0] at hm1
    have M := hid2 (must_c k_true _ r0)
    clear hr
    rw [h0]
    go_enter Tryz.func110, Tryz.ntmps110
    go_wp2_with fail
    refine Calls.mono M.out ?_
    rintro e w1 h1
    obtain ⟨t1, _, rfl, rfl, r1⟩ := Out.of_ok hm1 h1
    have T1 := tn T0 t1
    have Z1 := Z0.turn t1 hne
    clear h1 t1
    go_wp2_with fail
    refine Calls.mono (term_c _ _ _ _ _ _) ?_
    rintro e w2 ⟨rfl, b2⟩
    have T2 := T1.andBelow b2
    have r2 := r1.next b2
    have Z2 := Z1.next b2
    obtain ⟨p0, p1, p2, p3, p4, p5, q0, q1, q2, q3, q4, q5⟩ := Z2.six
    have pl := Z2.lt
    clear Z2 Z1 b2 T1 r1
    go_wp2_with fail
    refine bodyPost_ret (v := tmV (tm 3 t0.at_ []) (.slice none 0 0)) (by simp [results, Tryz.results110, go_sem, *]) rfl (hO.out (tm 3 t0.at_ []) L.tail _ _ (.slice none 0 0) hq ?_ rfl ?_ ?_)
    · exact T2.trans (turn_six _ _ _ _ _ _ _ _) (fun i hi => .inr (by simp at hi; omega))
    · exact sitb_leaf (fit_of _ _ _ _ _ _ hz (by decide) (by decide) (Nat.zero_le _) zero64 zero64 hok.a) rfl
    · exact r2.turn1 (turn_six _ _ _ _ _ _ _ _) hL
  rw [if_neg h0] at hq
  have n0 := ba_neL [116, 114, 117, 101] h0
  by_cases h1 : t0.text = k_false
  · rw [if_pos h1] at hq
    clear n0
    rw [h1] at hm1
    have M := hid2 (must_c k_false _ r0)
    clear hr
    rw [h1]
    go_enter Tryz.func110, Tryz.ntmps110
    go_wp2_with fail
    refine Calls.mono M.out ?_
    rintro e w1 h1
    obtain ⟨t1, _, rfl, rfl, r1⟩ := Out.of_ok hm1 h1
    have T1 := tn T0 t1
    have Z1 := Z0.turn t1 hne
    clear h1 t1
    go_wp2_with fail
    refine Calls.mono (term_c _ _ _ _ _ _) ?_
    rintro e w2 ⟨rfl, b2⟩
    have T2 := T1.andBelow b2
    have r2 := r1.next b2
    have Z2 := Z1.next b2
    obtain ⟨p0, p1, p2, p3, p4, p5, q0, q1, q2, q3, q4, q5⟩ := Z2.six
    have pl := Z2.lt
    clear Z2 Z1 b2 T1 r1
    go_wp2_with fail
    refine bodyPost_ret (v := tmV (tm 4 t0.at_ []) (.slice none 0 0)) (by simp [results, Tryz.results110, go_sem, *]) rfl (hO.out (tm 4 t0.at_ []) L.tail _ _ (.slice none 0 0) hq ?_ rfl ?_ ?_)
    · exact T2.trans (turn_six _ _ _ _ _ _ _ _) (fun i hi => .inr (by simp at hi; omega))
    · exact sitb_leaf (fit_of _ _ _ _ _ _ hz (by decide) (by decide) (Nat.zero_le _) zero64 zero64 hok.a) rfl
    · exact r2.turn1 (turn_six _ _ _ _ _ _ _ _) hL
  rw [if_neg h1] at hq
  have n1 := ba_neL [102, 97, 108, 115, 101] h1
  by_cases h2 : t0.text = k_reps
  · rw [if_pos h2] at hq
    clear n0 n1
    rw [h2] at hm1
    have M := hid2 (must_c k_reps _ r0)
    clear hr
    rw [h2]
    go_enter Tryz.func110, Tryz.ntmps110
    go_wp2_with fail
    refine Calls.mono M.out ?_
    rintro e w1 h1
    obtain ⟨t1, _, rfl, rfl, r1⟩ := Out.of_ok hm1 h1
    have T1 := tn T0 t1
    have Z1 := Z0.turn t1 hne
    clear h1 t1
    go_wp2_with fail
    refine Calls.mono (term_c _ _ _ _ _ _) ?_
    rintro e w2 ⟨rfl, b2⟩
    have T2 := T1.andBelow b2
    have r2 := r1.next b2
    have Z2 := Z1.next b2
    obtain ⟨p0, p1, p2, p3, p4, p5, q0, q1, q2, q3, q4, q5⟩ := Z2.six
    have pl := Z2.lt
    clear Z2 Z1 b2 T1 r1
    go_wp2_with fail
    refine bodyPost_ret (v := tmV (tm 5 t0.at_ []) (.slice none 0 0)) (by simp [results, Tryz.results110, go_sem, *]) rfl (hO.out (tm 5 t0.at_ []) L.tail _ _ (.slice none 0 0) hq ?_ rfl ?_ ?_)
    · exact T2.trans (turn_six _ _ _ _ _ _ _ _) (fun i hi => .inr (by simp at hi; omega))
    · exact sitb_leaf (fit_of _ _ _ _ _ _ hz (by decide) (by decide) (Nat.zero_le _) zero64 zero64 hok.a) rfl
    · exact r2.turn1 (turn_six _ _ _ _ _ _ _ _) hL
  rw [if_neg h2] at hq
  have n2 := ba_neL [114, 101, 112, 108, 105, 99, 97, 115] h2
  by_cases h3 : t0.text = k_if
  · rw [if_pos h3] at hq
    clear n0 n1 n2
    have M := call_c hz HX hx hm 32 (by decide) (by decide) 2 (by decide) _ r0
    rw [← hq] at M
    rw [h3, show ((2 : Nat) : Int) + 1 = 3 from rfl] at M
    have HM := hid2 M
    clear M hr
    rw [h3]
    go_enter Tryz.func110, Tryz.ntmps110
    go_wp2_with fail
    refine Calls.mono HM.out ?_
    intro e w1 h1
    rcases hC.out _ _ _ zsz T0 h1 with ⟨f, rfl, hP⟩ | ⟨t, u, L', rfl, hp2, t1, S1, r1⟩
    · go_wp2_with fail
      exact ⟨rfl, hP⟩
    obtain ⟨p0, p1, p2, p3, p4, p5, q0, q1, q2, q3, q4, q5⟩ := (Z0.turn t1 hne).six
    have pl := (Z0.turn t1 hne).lt
    have HT := hid2 (tn T0 t1)
    have HS := hid2 S1
    obtain ⟨av, cv, rfl, -, -⟩ := S1.parts.shape
    generalize hnn : t.parts.length = nn at *
    clear h1 t1 S1
    simp only [tmV]
    go_wp2_with fail
    refine bodyPost_ret (v := tmV t (.slice av nn cv)) (by simp [results, Tryz.results110, go_sem, *]) rfl (hO.out t L' _ _ (.slice av nn cv) hp2 ?_ rfl ?_ ?_)
    · exact HT.out.trans (turn_six _ _ _ _ _ _ _ _) (fun i hi => .inr (by simp at hi; omega))
    · exact SitB.lower (SitB.turn HS.out (turn_six _ _ _ _ _ _ _ _) (by simp)) (by simp)
    · exact r1.turn1 (turn_six _ _ _ _ _ _ _ _) hL
  rw [if_neg h3] at hq
  have n3 := ba_neL [105, 102] h3
  by_cases h4 : t0.text = k_min
  · rw [if_pos h4] at hq
    clear n0 n1 n2 n3
    have M := call_c hz HX hx hm 29 (by decide) (by decide) 1 (by decide) _ r0
    rw [← hq] at M
    rw [h4, show ((1 : Nat) : Int) + 1 = 2 from rfl] at M
    have HM := hid2 M
    clear M hr
    rw [h4]
    go_enter Tryz.func110, Tryz.ntmps110
    go_wp2_with fail
    refine Calls.mono HM.out ?_
    intro e w1 h1
    rcases hC.out _ _ _ zsz T0 h1 with ⟨f, rfl, hP⟩ | ⟨t, u, L', rfl, hp2, t1, S1, r1⟩
    · go_wp2_with fail
      exact ⟨rfl, hP⟩
    obtain ⟨p0, p1, p2, p3, p4, p5, q0, q1, q2, q3, q4, q5⟩ := (Z0.turn t1 hne).six
    have pl := (Z0.turn t1 hne).lt
    have HT := hid2 (tn T0 t1)
    have HS := hid2 S1
    obtain ⟨av, cv, rfl, -, -⟩ := S1.parts.shape
    generalize hnn : t.parts.length = nn at *
    clear h1 t1 S1
    simp only [tmV]
    go_wp2_with fail
    refine bodyPost_ret (v := tmV t (.slice av nn cv)) (by simp [results, Tryz.results110, go_sem, *]) rfl (hO.out t L' _ _ (.slice av nn cv) hp2 ?_ rfl ?_ ?_)
    · exact HT.out.trans (turn_six _ _ _ _ _ _ _ _) (fun i hi => .inr (by simp at hi; omega))
    · exact SitB.lower (SitB.turn HS.out (turn_six _ _ _ _ _ _ _ _) (by simp)) (by simp)
    · exact r1.turn1 (turn_six _ _ _ _ _ _ _ _) hL
  rw [if_neg h4] at hq
  have n4 := ba_neL [109, 105, 110] h4
  by_cases h5 : t0.text = k_max
  · rw [if_pos h5] at hq
    clear n0 n1 n2 n3 n4
    have M := call_c hz HX hx hm 30 (by decide) (by decide) 1 (by decide) _ r0
    rw [← hq] at M
    rw [h5, show ((1 : Nat) : Int) + 1 = 2 from rfl] at M
    have HM := hid2 M
    clear M hr
    rw [h5]
    go_enter Tryz.func110, Tryz.ntmps110
    go_wp2_with fail
    refine Calls.mono HM.out ?_
    intro e w1 h1
    rcases hC.out _ _ _ zsz T0 h1 with ⟨f, rfl, hP⟩ | ⟨t, u, L', rfl, hp2, t1, S1, r1⟩
    · go_wp2_with fail
      exact ⟨rfl, hP⟩
    obtain ⟨p0, p1, p2, p3, p4, p5, q0, q1, q2, q3, q4, q5⟩ := (Z0.turn t1 hne).six
    have pl := (Z0.turn t1 hne).lt
    have HT := hid2 (tn T0 t1)
    have HS := hid2 S1
    obtain ⟨av, cv, rfl, -, -⟩ := S1.parts.shape
    generalize hnn : t.parts.length = nn at *
    clear h1 t1 S1
    simp only [tmV]
    go_wp2_with fail
    refine bodyPost_ret (v := tmV t (.slice av nn cv)) (by simp [results, Tryz.results110, go_sem, *]) rfl (hO.out t L' _ _ (.slice av nn cv) hp2 ?_ rfl ?_ ?_)
    · exact HT.out.trans (turn_six _ _ _ _ _ _ _ _) (fun i hi => .inr (by simp at hi; omega))
    · exact SitB.lower (SitB.turn HS.out (turn_six _ _ _ _ _ _ _ _) (by simp)) (by simp)
    · exact r1.turn1 (turn_six _ _ _ _ _ _ _ _) hL
  rw [if_neg h5] at hq
  have n5 := ba_neL [109, 97, 120] h5
  by_cases h6 : t0.text = k_either
  · rw [if_pos h6] at hq
    clear n0 n1 n2 n3 n4 n5
    have M := call_c hz HX hx hm 31 (by decide) (by decide) 1 (by decide) _ r0
    rw [← hq] at M
    rw [h6, show ((1 : Nat) : Int) + 1 = 2 from rfl] at M
    have HM := hid2 M
    clear M hr
    rw [h6]
    go_enter Tryz.func110, Tryz.ntmps110
    go_wp2_with fail
    refine Calls.mono HM.out ?_
    intro e w1 h1
    rcases hC.out _ _ _ zsz T0 h1 with ⟨f, rfl, hP⟩ | ⟨t, u, L', rfl, hp2, t1, S1, r1⟩
    · go_wp2_with fail
      exact ⟨rfl, hP⟩
    obtain ⟨p0, p1, p2, p3, p4, p5, q0, q1, q2, q3, q4, q5⟩ := (Z0.turn t1 hne).six
    have pl := (Z0.turn t1 hne).lt
    have HT := hid2 (tn T0 t1)
    have HS := hid2 S1
    obtain ⟨av, cv, rfl, -, -⟩ := S1.parts.shape
    generalize hnn : t.parts.length = nn at *
    clear h1 t1 S1
    simp only [tmV]
    go_wp2_with fail
    refine bodyPost_ret (v := tmV t (.slice av nn cv)) (by simp [results, Tryz.results110, go_sem, *]) rfl (hO.out t L' _ _ (.slice av nn cv) hp2 ?_ rfl ?_ ?_)
    · exact HT.out.trans (turn_six _ _ _ _ _ _ _ _) (fun i hi => .inr (by simp at hi; omega))
    · exact SitB.lower (SitB.turn HS.out (turn_six _ _ _ _ _ _ _ _) (by simp)) (by simp)
    · exact r1.turn1 (turn_six _ _ _ _ _ _ _ _) hL
  rw [if_neg h6] at hq
  have n6 := ba_neL [101, 105, 116, 104, 101, 114] h6
  by_cases h7 : t0.text = k_abs
  · rw [if_pos h7] at hq
    clear n0 n1 n2 n3 n4 n5 n6
    have M := call_c hz HX hx hm 15 (by decide) (by decide) 0 (by decide) _ r0
    rw [← hq] at M
    rw [h7, show ((0 : Nat) : Int) + 1 = 1 from rfl] at M
    have HM := hid2 M
    clear M hr
    rw [h7]
    go_enter Tryz.func110, Tryz.ntmps110
    go_wp2_with fail
    refine Calls.mono HM.out ?_
    intro e w1 h1
    rcases hC.out _ _ _ zsz T0 h1 with ⟨f, rfl, hP⟩ | ⟨t, u, L', rfl, hp2, t1, S1, r1⟩
    · go_wp2_with fail
      exact ⟨rfl, hP⟩
    obtain ⟨p0, p1, p2, p3, p4, p5, q0, q1, q2, q3, q4, q5⟩ := (Z0.turn t1 hne).six
    have pl := (Z0.turn t1 hne).lt
    have HT := hid2 (tn T0 t1)
    have HS := hid2 S1
    obtain ⟨av, cv, rfl, -, -⟩ := S1.parts.shape
    generalize hnn : t.parts.length = nn at *
    clear h1 t1 S1
    simp only [tmV]
    go_wp2_with fail
    refine bodyPost_ret (v := tmV t (.slice av nn cv)) (by simp [results, Tryz.results110, go_sem, *]) rfl (hO.out t L' _ _ (.slice av nn cv) hp2 ?_ rfl ?_ ?_)
    · exact HT.out.trans (turn_six _ _ _ _ _ _ _ _) (fun i hi => .inr (by simp at hi; omega))
    · exact SitB.lower (SitB.turn HS.out (turn_six _ _ _ _ _ _ _ _) (by simp)) (by simp)
    · exact r1.turn1 (turn_six _ _ _ _ _ _ _ _) hL
  rw [if_neg h7] at hq
  have n7 := ba_neL [97, 98, 115] h7
  by_cases h8 : t0.text = k_ceil
  · rw [if_pos h8] at hq
    clear n0 n1 n2 n3 n4 n5 n6 n7
    have M := call_c hz HX hx hm 16 (by decide) (by decide) 0 (by decide) _ r0
    rw [← hq] at M
    rw [h8, show ((0 : Nat) : Int) + 1 = 1 from rfl] at M
    have HM := hid2 M
    clear M hr
    rw [h8]
    go_enter Tryz.func110, Tryz.ntmps110
    go_wp2_with fail
    refine Calls.mono HM.out ?_
    intro e w1 h1
    rcases hC.out _ _ _ zsz T0 h1 with ⟨f, rfl, hP⟩ | ⟨t, u, L', rfl, hp2, t1, S1, r1⟩
    · go_wp2_with fail
      exact ⟨rfl, hP⟩
    obtain ⟨p0, p1, p2, p3, p4, p5, q0, q1, q2, q3, q4, q5⟩ := (Z0.turn t1 hne).six
    have pl := (Z0.turn t1 hne).lt
    have HT := hid2 (tn T0 t1)
    have HS := hid2 S1
    obtain ⟨av, cv, rfl, -, -⟩ := S1.parts.shape
    generalize hnn : t.parts.length = nn at *
    clear h1 t1 S1
    simp only [tmV]
    go_wp2_with fail
    refine bodyPost_ret (v := tmV t (.slice av nn cv)) (by simp [results, Tryz.results110, go_sem, *]) rfl (hO.out t L' _ _ (.slice av nn cv) hp2 ?_ rfl ?_ ?_)
    · exact HT.out.trans (turn_six _ _ _ _ _ _ _ _) (fun i hi => .inr (by simp at hi; omega))
    · exact SitB.lower (SitB.turn HS.out (turn_six _ _ _ _ _ _ _ _) (by simp)) (by simp)
    · exact r1.turn1 (turn_six _ _ _ _ _ _ _ _) hL
  rw [if_neg h8] at hq
  have n8 := ba_neL [99, 101, 105, 108] h8
  by_cases h9 : t0.text = k_floor
  · rw [if_pos h9] at hq
    clear n0 n1 n2 n3 n4 n5 n6 n7 n8
    have M := call_c hz HX hx hm 17 (by decide) (by decide) 0 (by decide) _ r0
    rw [← hq] at M
    rw [h9, show ((0 : Nat) : Int) + 1 = 1 from rfl] at M
    have HM := hid2 M
    clear M hr
    rw [h9]
    go_enter Tryz.func110, Tryz.ntmps110
    go_wp2_with fail
    refine Calls.mono HM.out ?_
    intro e w1 h1
    rcases hC.out _ _ _ zsz T0 h1 with ⟨f, rfl, hP⟩ | ⟨t, u, L', rfl, hp2, t1, S1, r1⟩
    · go_wp2_with fail
      exact ⟨rfl, hP⟩
    obtain ⟨p0, p1, p2, p3, p4, p5, q0, q1, q2, q3, q4, q5⟩ := (Z0.turn t1 hne).six
    have pl := (Z0.turn t1 hne).lt
    have HT := hid2 (tn T0 t1)
    have HS := hid2 S1
    obtain ⟨av, cv, rfl, -, -⟩ := S1.parts.shape
    generalize hnn : t.parts.length = nn at *
    clear h1 t1 S1
    simp only [tmV]
    go_wp2_with fail
    refine bodyPost_ret (v := tmV t (.slice av nn cv)) (by simp [results, Tryz.results110, go_sem, *]) rfl (hO.out t L' _ _ (.slice av nn cv) hp2 ?_ rfl ?_ ?_)
    · exact HT.out.trans (turn_six _ _ _ _ _ _ _ _) (fun i hi => .inr (by simp at hi; omega))
    · exact SitB.lower (SitB.turn HS.out (turn_six _ _ _ _ _ _ _ _) (by simp)) (by simp)
    · exact r1.turn1 (turn_six _ _ _ _ _ _ _ _) hL
  rw [if_neg h9] at hq
  have n9 := ba_neL [102, 108, 111, 111, 114] h9
  by_cases h10 : t0.text = k_cron
  · rw [if_pos h10] at hq
    clear n0 n1 n2 n3 n4 n5 n6 n7 n8 n9
    have M := cron_c hz HX hx (by rw [← h10]; exact hm) _ r0
    rw [← hq] at M
    have HM := hid2 M
    clear M hr
    rw [h10]
    go_enter Tryz.func110, Tryz.ntmps110
    go_wp2_with fail
    refine Calls.mono HM.out ?_
    intro e w1 h1
    rcases hC.out _ _ _ zsz T0 h1 with ⟨f, rfl, hP⟩ | ⟨t, u, L', rfl, hp2, t1, S1, r1⟩
    · go_wp2_with fail
      exact ⟨rfl, hP⟩
    obtain ⟨p0, p1, p2, p3, p4, p5, q0, q1, q2, q3, q4, q5⟩ := (Z0.turn t1 hne).six
    have pl := (Z0.turn t1 hne).lt
    have HT := hid2 (tn T0 t1)
    have HS := hid2 S1
    obtain ⟨av, cv, rfl, -, -⟩ := S1.parts.shape
    generalize hnn : t.parts.length = nn at *
    clear h1 t1 S1
    simp only [tmV]
    go_wp2_with fail
    refine bodyPost_ret (v := tmV t (.slice av nn cv)) (by simp [results, Tryz.results110, go_sem, *]) rfl (hO.out t L' _ _ (.slice av nn cv) hp2 ?_ rfl ?_ ?_)
    · exact HT.out.trans (turn_six _ _ _ _ _ _ _ _) (fun i hi => .inr (by simp at hi; omega))
    · exact SitB.lower (SitB.turn HS.out (turn_six _ _ _ _ _ _ _ _) (by simp)) (by simp)
    · exact r1.turn1 (turn_six _ _ _ _ _ _ _ _) hL
  rw [if_neg h10] at hq
  have n10 := ba_neL [99, 114, 111, 110] h10
  by_cases h11 : winK t0.text = 0
  · rw [if_pos h11] at hq
    have HM := hid2 (window_no hx h11 _ r0)
    clear hr
    go_enter Tryz.func110, Tryz.ntmps110
    go_wp2_with fail
    refine Calls.mono HM.out ?_
    rintro e w1 ⟨rfl, b1⟩
    go_wp2_with fail
    exact ⟨rfl, hE.out _ _ hq (T0.andBelow b1)⟩
  · rw [if_neg h11] at hq
    have M : Calls Tryz.prog 129 #[.pointer (some ⟨rb, 0, none⟩), .string t0.text] (w.alloc (.cells (zs6).toArray 33)) (Out (VTm (w.alloc (.cells (zs6).toArray 33)).heap.size z) z (w.alloc (.cells (zs6).toArray 33)) rb tb lb c o pr) := by
      rw [hq]
      by_cases h12 : winK t0.text = 12
      · exact window_c1 hz HX hx hm _ rfl h11 h12 _ r0
      · exact window_c0 hz HX hx hm _ rfl h11 h12 _ r0
    have HM := hid2 M
    clear M hr
    go_enter Tryz.func110, Tryz.ntmps110
    go_wp2_with fail
    refine Calls.mono HM.out ?_
    intro e w1 h1
    rcases hC.out _ _ _ zsz T0 h1 with ⟨f, rfl, hP⟩ | ⟨t, u, L', rfl, hp2, t1, S1, r1⟩
    · go_wp2_with fail
      exact ⟨rfl, hP⟩
    obtain ⟨p0, p1, p2, p3, p4, p5, q0, q1, q2, q3, q4, q5⟩ := (Z0.turn t1 hne).six
    have pl := (Z0.turn t1 hne).lt
    have HT := hid2 (tn T0 t1)
    have HS := hid2 S1
    obtain ⟨av, cv, rfl, -, -⟩ := S1.parts.shape
    generalize hnn : t.parts.length = nn at *
    clear h1 t1 S1
    simp only [tmV]
    go_wp2_with fail
    refine bodyPost_ret (v := tmV t (.slice av nn cv)) (by simp [results, Tryz.results110, go_sem, *]) rfl (hO.out t L' _ _ (.slice av nn cv) hp2 ?_ rfl ?_ ?_)
    · exact HT.out.trans (turn_six _ _ _ _ _ _ _ _) (fun i hi => .inr (by simp at hi; omega))
    · exact SitB.lower (SitB.turn HS.out (turn_six _ _ _ _ _ _ _ _) (by simp)) (by simp)
    · exact r1.turn1 (turn_six _ _ _ _ _ _ _ _) hL
end Go.Proofs.YtecdfnpbcabdnaaGreatDoor
