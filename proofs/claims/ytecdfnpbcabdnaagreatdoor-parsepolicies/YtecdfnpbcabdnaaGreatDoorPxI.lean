/- Package parse: the levels; expression. -/
import Derived.Test.YtecdfnpbcabdnaaGreatDoorPxH
namespace Go.Proofs.YtecdfnpbcabdnaaGreatDoor
open Go.RowKit Go.Lib

set_option maxHeartbeats 4000000 in
set_option maxRecDepth 20000 in
theorem or_lv {z rb tb lb : Nat} {c : Int} {L : List Tk} {o : Nat} (hz : z ≤ 9223372036854775807) {S : Ps} {lv : Int} (hlv : 0 ≤ lv ∧ lv ≤ 5) (HS : LvC z rb tb lb c o 37 (lv + 1) S) (hDec : Dec S) (w : World) (hr : Rea z w rb tb lb c L o) :
    Calls Tryz.prog 65 #[.pointer (some ⟨rb, 0, none⟩), .int .i64 lv] w (Out (VTm w.heap.size z) z w rb tb lb c o (leftP c sgOr S L)) := by
  obtain ⟨pr, hpr⟩ : ∃ pr, Hid (pr = leftP c sgOr S L) := ⟨_, rfl⟩
  rw [← hpr.out]
  have hE : Hid (∀ f w', pr = .error f → Turn [rb] w w' → Out (VTm w.heap.size z) z w rb tb lb c o pr (.panicked [fltE f]) w') := fun f w' h ht => Out.mk_err h ht
  have hO : Hid (∀ t L' w' v u, pr = .ok (t, L') → Turn [rb] w w' → v = tmV t u → SitB w.heap.size z w' t u → Rea z w' rb tb lb c L' o → Out (VTm w.heap.size z) z w rb tb lb c o pr (.returned v) w') := fun t L' w' v u h ht hv hs hr' => Out.mk_ok h ht ⟨u, hv, hs⟩ hr'
  generalize Out (VTm w.heap.size z) z w rb tb lb c o pr = Post at *
  have hL := hr.lts
  have hne : w.heap.size ∉ [rb] := by simp; omega
  have Z0 := Box.new w zs6 33
  go_enter Tryz.func65, Tryz.ntmps65
  go_wp2_with fail
  have T0 := tnO (ob := .cells (zs6).toArray 33) (Turn.refl [rb] w)
  have r0 := hr.onO (ob := .cells (zs6).toArray 33)
  have Rs0 := Z0
  have zsz : w.heap.size < (w.alloc (.cells (zs6).toArray 33)).heap.size := by simp
  have hz0 : (w.alloc (.cells (zs6).toArray 33)).heap.size = w.heap.size + 1 := by simp
  clear Z0
  generalize hW0 : w.alloc _ = w0 at *
  clear hW0
  clear hr
  have t1 := tnO (ob := .cells ([.string ⟨#[111, 114]⟩, .int .i64 28]).toArray 129) (Turn.refl [rb] w0)
  have r1 := r0.onO (ob := .cells ([.string ⟨#[111, 114]⟩, .int .i64 28]).toArray 129)
  have Sg1 := Box.new w0 [.string ⟨#[111, 114]⟩, .int .i64 28] 129
  have hnSg : w0.heap.size ∉ [rb] := by simp; omega
  have hxSg : w0.heap.size < (w0.alloc (.cells ([.string ⟨#[111, 114]⟩, .int .i64 28]).toArray 129)).heap.size := by simp
  have Rs1 := Rs0.turn t1 hne
  have T1 := tn T0 t1
  have s1 := t1.size
  clear Rs0 T0 r0 t1
  generalize hW1 : w0.alloc _ = w1 at *
  clear hW1
  have HM0 := fromLeft_c hz hlv HS hDec sgOr (by simp) (by simp) (by simp) (w0.heap.size) _ r1 (fun q u hu => Sg1.cell q u hu) ⟨Sg1.lt, by omega⟩
  rw [hz0] at HM0
  have HM := hid2 (HM0)
  rw [← hpr.out] at HM
  refine Calls.mono HM.out ?_
  intro e w2 h2
  rcases out_up T1 h2 with ⟨f, rfl, hp, ht⟩ | ⟨t, u, L', rfl, hp2, t2, S2, r2⟩
  · go_wp2_with fail
    exact ⟨rfl, hE.out _ _ hp ht⟩
  obtain ⟨p0, p1, p2, p3, p4, p5, q0, q1, q2, q3, q4, q5⟩ := (Rs1.turn t2 hne).six
  have pl := (Rs1.turn t2 hne).lt
  have HT := hid2 (tn T1 t2)
  have HS := hid2 S2
  obtain ⟨av, cv, rfl, -, -⟩ := S2.parts.shape
  generalize hnn : t.parts.length = nn at *
  clear h2 t2 S2 HM
  simp only [tmV]
  go_wp2_with fail
  refine bodyPost_ret (v := tmV t (.slice av nn cv)) (by simp [results, Tryz.results65, go_sem, *]) rfl (hO.out t L' _ _ (.slice av nn cv) hp2 ?_ rfl ?_ ?_)
  · exact HT.out.trans (turn_six _ _ _ _ _ _ _ _) (fun i hi => .inr (by simp at hi; omega))
  · exact SitB.lower (SitB.turn HS.out (turn_six _ _ _ _ _ _ _ _) (by simp; omega)) (by omega)
  · exact r2.turn1 (turn_six _ _ _ _ _ _ _ _) hL
set_option maxHeartbeats 4000000 in
set_option maxRecDepth 20000 in
theorem and_lv {z rb tb lb : Nat} {c : Int} {L : List Tk} {o : Nat} (hz : z ≤ 9223372036854775807) {S : Ps} {lv : Int} (hlv : 0 ≤ lv ∧ lv ≤ 5) (HS : LvC z rb tb lb c o 37 (lv + 1) S) (hDec : Dec S) (w : World) (hr : Rea z w rb tb lb c L o) :
    Calls Tryz.prog 66 #[.pointer (some ⟨rb, 0, none⟩), .int .i64 lv] w (Out (VTm w.heap.size z) z w rb tb lb c o (leftP c sgAnd S L)) := by
  obtain ⟨pr, hpr⟩ : ∃ pr, Hid (pr = leftP c sgAnd S L) := ⟨_, rfl⟩
  rw [← hpr.out]
  have hE : Hid (∀ f w', pr = .error f → Turn [rb] w w' → Out (VTm w.heap.size z) z w rb tb lb c o pr (.panicked [fltE f]) w') := fun f w' h ht => Out.mk_err h ht
  have hO : Hid (∀ t L' w' v u, pr = .ok (t, L') → Turn [rb] w w' → v = tmV t u → SitB w.heap.size z w' t u → Rea z w' rb tb lb c L' o → Out (VTm w.heap.size z) z w rb tb lb c o pr (.returned v) w') := fun t L' w' v u h ht hv hs hr' => Out.mk_ok h ht ⟨u, hv, hs⟩ hr'
  generalize Out (VTm w.heap.size z) z w rb tb lb c o pr = Post at *
  have hL := hr.lts
  have hne : w.heap.size ∉ [rb] := by simp; omega
  have Z0 := Box.new w zs6 33
  go_enter Tryz.func66, Tryz.ntmps66
  go_wp2_with fail
  have T0 := tnO (ob := .cells (zs6).toArray 33) (Turn.refl [rb] w)
  have r0 := hr.onO (ob := .cells (zs6).toArray 33)
  have Rs0 := Z0
  have zsz : w.heap.size < (w.alloc (.cells (zs6).toArray 33)).heap.size := by simp
  have hz0 : (w.alloc (.cells (zs6).toArray 33)).heap.size = w.heap.size + 1 := by simp
  clear Z0
  generalize hW0 : w.alloc _ = w0 at *
  clear hW0
  clear hr
  have t1 := tnO (ob := .cells ([.string ⟨#[97, 110, 100]⟩, .int .i64 27]).toArray 129) (Turn.refl [rb] w0)
  have r1 := r0.onO (ob := .cells ([.string ⟨#[97, 110, 100]⟩, .int .i64 27]).toArray 129)
  have Sg1 := Box.new w0 [.string ⟨#[97, 110, 100]⟩, .int .i64 27] 129
  have hnSg : w0.heap.size ∉ [rb] := by simp; omega
  have hxSg : w0.heap.size < (w0.alloc (.cells ([.string ⟨#[97, 110, 100]⟩, .int .i64 27]).toArray 129)).heap.size := by simp
  have Rs1 := Rs0.turn t1 hne
  have T1 := tn T0 t1
  have s1 := t1.size
  clear Rs0 T0 r0 t1
  generalize hW1 : w0.alloc _ = w1 at *
  clear hW1
  have HM0 := fromLeft_c hz hlv HS hDec sgAnd (by simp) (by simp) (by simp) (w0.heap.size) _ r1 (fun q u hu => Sg1.cell q u hu) ⟨Sg1.lt, by omega⟩
  rw [hz0] at HM0
  have HM := hid2 (HM0)
  rw [← hpr.out] at HM
  refine Calls.mono HM.out ?_
  intro e w2 h2
  rcases out_up T1 h2 with ⟨f, rfl, hp, ht⟩ | ⟨t, u, L', rfl, hp2, t2, S2, r2⟩
  · go_wp2_with fail
    exact ⟨rfl, hE.out _ _ hp ht⟩
  obtain ⟨p0, p1, p2, p3, p4, p5, q0, q1, q2, q3, q4, q5⟩ := (Rs1.turn t2 hne).six
  have pl := (Rs1.turn t2 hne).lt
  have HT := hid2 (tn T1 t2)
  have HS := hid2 S2
  obtain ⟨av, cv, rfl, -, -⟩ := S2.parts.shape
  generalize hnn : t.parts.length = nn at *
  clear h2 t2 S2 HM
  simp only [tmV]
  go_wp2_with fail
  refine bodyPost_ret (v := tmV t (.slice av nn cv)) (by simp [results, Tryz.results66, go_sem, *]) rfl (hO.out t L' _ _ (.slice av nn cv) hp2 ?_ rfl ?_ ?_)
  · exact HT.out.trans (turn_six _ _ _ _ _ _ _ _) (fun i hi => .inr (by simp at hi; omega))
  · exact SitB.lower (SitB.turn HS.out (turn_six _ _ _ _ _ _ _ _) (by simp; omega)) (by omega)
  · exact r2.turn1 (turn_six _ _ _ _ _ _ _ _) hL
set_option maxHeartbeats 4000000 in
set_option maxRecDepth 20000 in
theorem sum_lv {z rb tb lb : Nat} {c : Int} {L : List Tk} {o : Nat} (hz : z ≤ 9223372036854775807) {S : Ps} {lv : Int} (hlv : 0 ≤ lv ∧ lv ≤ 5) (HS : LvC z rb tb lb c o 37 (lv + 1) S) (hDec : Dec S) (w : World) (hr : Rea z w rb tb lb c L o) :
    Calls Tryz.prog 68 #[.pointer (some ⟨rb, 0, none⟩), .int .i64 lv] w (Out (VTm w.heap.size z) z w rb tb lb c o (leftP c sgSum S L)) := by
  obtain ⟨pr, hpr⟩ : ∃ pr, Hid (pr = leftP c sgSum S L) := ⟨_, rfl⟩
  rw [← hpr.out]
  have hE : Hid (∀ f w', pr = .error f → Turn [rb] w w' → Out (VTm w.heap.size z) z w rb tb lb c o pr (.panicked [fltE f]) w') := fun f w' h ht => Out.mk_err h ht
  have hO : Hid (∀ t L' w' v u, pr = .ok (t, L') → Turn [rb] w w' → v = tmV t u → SitB w.heap.size z w' t u → Rea z w' rb tb lb c L' o → Out (VTm w.heap.size z) z w rb tb lb c o pr (.returned v) w') := fun t L' w' v u h ht hv hs hr' => Out.mk_ok h ht ⟨u, hv, hs⟩ hr'
  generalize Out (VTm w.heap.size z) z w rb tb lb c o pr = Post at *
  have hL := hr.lts
  have hne : w.heap.size ∉ [rb] := by simp; omega
  have Z0 := Box.new w zs6 33
  go_enter Tryz.func68, Tryz.ntmps68
  go_wp2_with fail
  have T0 := tnO (ob := .cells (zs6).toArray 33) (Turn.refl [rb] w)
  have r0 := hr.onO (ob := .cells (zs6).toArray 33)
  have Rs0 := Z0
  have zsz : w.heap.size < (w.alloc (.cells (zs6).toArray 33)).heap.size := by simp
  have hz0 : (w.alloc (.cells (zs6).toArray 33)).heap.size = w.heap.size + 1 := by simp
  clear Z0
  generalize hW0 : w.alloc _ = w0 at *
  clear hW0
  clear hr
  have t1 := tnO (ob := .cells ([.string ⟨#[43]⟩, .int .i64 18, .string ⟨#[45]⟩, .int .i64 19]).toArray 129) (Turn.refl [rb] w0)
  have r1 := r0.onO (ob := .cells ([.string ⟨#[43]⟩, .int .i64 18, .string ⟨#[45]⟩, .int .i64 19]).toArray 129)
  have Sg1 := Box.new w0 [.string ⟨#[43]⟩, .int .i64 18, .string ⟨#[45]⟩, .int .i64 19] 129
  have hnSg : w0.heap.size ∉ [rb] := by simp; omega
  have hxSg : w0.heap.size < (w0.alloc (.cells ([.string ⟨#[43]⟩, .int .i64 18, .string ⟨#[45]⟩, .int .i64 19]).toArray 129)).heap.size := by simp
  have Rs1 := Rs0.turn t1 hne
  have T1 := tn T0 t1
  have s1 := t1.size
  clear Rs0 T0 r0 t1
  generalize hW1 : w0.alloc _ = w1 at *
  clear hW1
  have HM0 := fromLeft_c hz hlv HS hDec sgSum (by simp) (by simp) (by simp) (w0.heap.size) _ r1 (fun q u hu => Sg1.cell q u hu) ⟨Sg1.lt, by omega⟩
  rw [hz0] at HM0
  have HM := hid2 (HM0)
  rw [← hpr.out] at HM
  refine Calls.mono HM.out ?_
  intro e w2 h2
  rcases out_up T1 h2 with ⟨f, rfl, hp, ht⟩ | ⟨t, u, L', rfl, hp2, t2, S2, r2⟩
  · go_wp2_with fail
    exact ⟨rfl, hE.out _ _ hp ht⟩
  obtain ⟨p0, p1, p2, p3, p4, p5, q0, q1, q2, q3, q4, q5⟩ := (Rs1.turn t2 hne).six
  have pl := (Rs1.turn t2 hne).lt
  have HT := hid2 (tn T1 t2)
  have HS := hid2 S2
  obtain ⟨av, cv, rfl, -, -⟩ := S2.parts.shape
  generalize hnn : t.parts.length = nn at *
  clear h2 t2 S2 HM
  simp only [tmV]
  go_wp2_with fail
  refine bodyPost_ret (v := tmV t (.slice av nn cv)) (by simp [results, Tryz.results68, go_sem, *]) rfl (hO.out t L' _ _ (.slice av nn cv) hp2 ?_ rfl ?_ ?_)
  · exact HT.out.trans (turn_six _ _ _ _ _ _ _ _) (fun i hi => .inr (by simp at hi; omega))
  · exact SitB.lower (SitB.turn HS.out (turn_six _ _ _ _ _ _ _ _) (by simp; omega)) (by omega)
  · exact r2.turn1 (turn_six _ _ _ _ _ _ _ _) hL
set_option maxHeartbeats 4000000 in
set_option maxRecDepth 20000 in
theorem product_lv {z rb tb lb : Nat} {c : Int} {L : List Tk} {o : Nat} (hz : z ≤ 9223372036854775807) {S : Ps} {lv : Int} (hlv : 0 ≤ lv ∧ lv ≤ 5) (HS : LvC z rb tb lb c o 37 (lv + 1) S) (hDec : Dec S) (w : World) (hr : Rea z w rb tb lb c L o) :
    Calls Tryz.prog 69 #[.pointer (some ⟨rb, 0, none⟩), .int .i64 lv] w (Out (VTm w.heap.size z) z w rb tb lb c o (leftP c sgMul S L)) := by
  obtain ⟨pr, hpr⟩ : ∃ pr, Hid (pr = leftP c sgMul S L) := ⟨_, rfl⟩
  rw [← hpr.out]
  have hE : Hid (∀ f w', pr = .error f → Turn [rb] w w' → Out (VTm w.heap.size z) z w rb tb lb c o pr (.panicked [fltE f]) w') := fun f w' h ht => Out.mk_err h ht
  have hO : Hid (∀ t L' w' v u, pr = .ok (t, L') → Turn [rb] w w' → v = tmV t u → SitB w.heap.size z w' t u → Rea z w' rb tb lb c L' o → Out (VTm w.heap.size z) z w rb tb lb c o pr (.returned v) w') := fun t L' w' v u h ht hv hs hr' => Out.mk_ok h ht ⟨u, hv, hs⟩ hr'
  generalize Out (VTm w.heap.size z) z w rb tb lb c o pr = Post at *
  have hL := hr.lts
  have hne : w.heap.size ∉ [rb] := by simp; omega
  have Z0 := Box.new w zs6 33
  go_enter Tryz.func69, Tryz.ntmps69
  go_wp2_with fail
  have T0 := tnO (ob := .cells (zs6).toArray 33) (Turn.refl [rb] w)
  have r0 := hr.onO (ob := .cells (zs6).toArray 33)
  have Rs0 := Z0
  have zsz : w.heap.size < (w.alloc (.cells (zs6).toArray 33)).heap.size := by simp
  have hz0 : (w.alloc (.cells (zs6).toArray 33)).heap.size = w.heap.size + 1 := by simp
  clear Z0
  generalize hW0 : w.alloc _ = w0 at *
  clear hW0
  clear hr
  have t1 := tnO (ob := .cells ([.string ⟨#[42]⟩, .int .i64 20, .string ⟨#[47]⟩, .int .i64 21]).toArray 129) (Turn.refl [rb] w0)
  have r1 := r0.onO (ob := .cells ([.string ⟨#[42]⟩, .int .i64 20, .string ⟨#[47]⟩, .int .i64 21]).toArray 129)
  have Sg1 := Box.new w0 [.string ⟨#[42]⟩, .int .i64 20, .string ⟨#[47]⟩, .int .i64 21] 129
  have hnSg : w0.heap.size ∉ [rb] := by simp; omega
  have hxSg : w0.heap.size < (w0.alloc (.cells ([.string ⟨#[42]⟩, .int .i64 20, .string ⟨#[47]⟩, .int .i64 21]).toArray 129)).heap.size := by simp
  have Rs1 := Rs0.turn t1 hne
  have T1 := tn T0 t1
  have s1 := t1.size
  clear Rs0 T0 r0 t1
  generalize hW1 : w0.alloc _ = w1 at *
  clear hW1
  have HM0 := fromLeft_c hz hlv HS hDec sgMul (by simp) (by simp) (by simp) (w0.heap.size) _ r1 (fun q u hu => Sg1.cell q u hu) ⟨Sg1.lt, by omega⟩
  rw [hz0] at HM0
  have HM := hid2 (HM0)
  rw [← hpr.out] at HM
  refine Calls.mono HM.out ?_
  intro e w2 h2
  rcases out_up T1 h2 with ⟨f, rfl, hp, ht⟩ | ⟨t, u, L', rfl, hp2, t2, S2, r2⟩
  · go_wp2_with fail
    exact ⟨rfl, hE.out _ _ hp ht⟩
  obtain ⟨p0, p1, p2, p3, p4, p5, q0, q1, q2, q3, q4, q5⟩ := (Rs1.turn t2 hne).six
  have pl := (Rs1.turn t2 hne).lt
  have HT := hid2 (tn T1 t2)
  have HS := hid2 S2
  obtain ⟨av, cv, rfl, -, -⟩ := S2.parts.shape
  generalize hnn : t.parts.length = nn at *
  clear h2 t2 S2 HM
  simp only [tmV]
  go_wp2_with fail
  refine bodyPost_ret (v := tmV t (.slice av nn cv)) (by simp [results, Tryz.results69, go_sem, *]) rfl (hO.out t L' _ _ (.slice av nn cv) hp2 ?_ rfl ?_ ?_)
  · exact HT.out.trans (turn_six _ _ _ _ _ _ _ _) (fun i hi => .inr (by simp at hi; omega))
  · exact SitB.lower (SitB.turn HS.out (turn_six _ _ _ _ _ _ _ _) (by simp; omega)) (by omega)
  · exact r2.turn1 (turn_six _ _ _ _ _ _ _ _) hL
set_option maxHeartbeats 4000000 in
set_option maxRecDepth 20000 in
theorem cmp_lv {z rb tb lb : Nat} {c : Int} {L : List Tk} {o : Nat} (hz : z ≤ 9223372036854775807) {S : Ps} {lv : Int} (hlv : 0 ≤ lv ∧ lv ≤ 5) (HS : LvC z rb tb lb c o 37 (lv + 1) S) (w : World) (hr : Rea z w rb tb lb c L o) :
    Calls Tryz.prog 67 #[.pointer (some ⟨rb, 0, none⟩), .int .i64 lv] w (Out (VTm w.heap.size z) z w rb tb lb c o (cmpP c sgCmp S L)) := by
  obtain ⟨pr, hpr⟩ : ∃ pr, Hid (pr = cmpP c sgCmp S L) := ⟨_, rfl⟩
  rw [← hpr.out]
  have hE : Hid (∀ f w', pr = .error f → Turn [rb] w w' → Out (VTm w.heap.size z) z w rb tb lb c o pr (.panicked [fltE f]) w') := fun f w' h ht => Out.mk_err h ht
  have hO : Hid (∀ t L' w' v u, pr = .ok (t, L') → Turn [rb] w w' → v = tmV t u → SitB w.heap.size z w' t u → Rea z w' rb tb lb c L' o → Out (VTm w.heap.size z) z w rb tb lb c o pr (.returned v) w') := fun t L' w' v u h ht hv hs hr' => Out.mk_ok h ht ⟨u, hv, hs⟩ hr'
  generalize Out (VTm w.heap.size z) z w rb tb lb c o pr = Post at *
  have hL := hr.lts
  have hne : w.heap.size ∉ [rb] := by simp; omega
  have HSS := hid2 HS
  obtain ⟨hlv0, hlv1⟩ := hlv
  rw [cmpP] at hpr
  have Z0 := Box.new w zs6 33
  go_enter Tryz.func67, Tryz.ntmps67
  go_wp2_with fail
  have T0 := tnO (ob := .cells (zs6).toArray 33) (Turn.refl [rb] w)
  have r0 := hr.onO (ob := .cells (zs6).toArray 33)
  have Rs0 := Z0
  have zsz : w.heap.size < (w.alloc (.cells (zs6).toArray 33)).heap.size := by simp
  have hz0 : (w.alloc (.cells (zs6).toArray 33)).heap.size = w.heap.size + 1 := by simp
  clear Z0
  generalize hW0 : w.alloc _ = w0 at *
  clear hW0
  clear hz0
  clear hr
  refine Calls.mono (HSS.out _ _ r0) ?_
  rintro e w1 h1
  rcases hy1 : S L with f | y
  · obtain ⟨rfl, t1⟩ := Out.of_err hy1 h1
    go_wp2_with fail
    exact ⟨rfl, hE.out _ _ (by rw [hpr.out, hy1]; rfl) (tn T0 t1)⟩
  obtain ⟨t1, _, rfl, ⟨u1, rfl, S1⟩, r1⟩ := Out.of_ok hy1 h1
  have Rs1 := Rs0.turn t1 hne
  have T1 := tn T0 t1
  have s1 := t1.size
  clear Rs0 T0 r0 h1 t1
  have hpr1 : Hid (pr = bnd (joinP c sgCmp S y.1 y.2) fun z => .ok (z.1.1, z.2)) := by show _ = _; rw [hpr.out, hy1]; rfl
  simp only [tmV]
  obtain ⟨av, cv, hu, -, -⟩ := S1.parts.shape
  subst hu
  generalize hnn : y.1.parts.length = nn at *
  go_wp2_with fail
  have t2 := tnO (ob := .cells ([.string ⟨#[60]⟩, .int .i64 22, .string ⟨#[60, 61]⟩, .int .i64 23, .string ⟨#[61]⟩, .int .i64 24, .string ⟨#[62]⟩, .int .i64 25, .string ⟨#[62, 61]⟩, .int .i64 26]).toArray 129) (Turn.refl [rb] w1)
  have r2 := r1.onO (ob := .cells ([.string ⟨#[60]⟩, .int .i64 22, .string ⟨#[60, 61]⟩, .int .i64 23, .string ⟨#[61]⟩, .int .i64 24, .string ⟨#[62]⟩, .int .i64 25, .string ⟨#[62, 61]⟩, .int .i64 26]).toArray 129)
  have Sg2 := Box.new w1 [.string ⟨#[60]⟩, .int .i64 22, .string ⟨#[60, 61]⟩, .int .i64 23, .string ⟨#[61]⟩, .int .i64 24, .string ⟨#[62]⟩, .int .i64 25, .string ⟨#[62, 61]⟩, .int .i64 26] 129
  have hnSg : w1.heap.size ∉ [rb] := by simp; omega
  have hxSg : w1.heap.size < (w1.alloc (.cells ([.string ⟨#[60]⟩, .int .i64 22, .string ⟨#[60, 61]⟩, .int .i64 23, .string ⟨#[61]⟩, .int .i64 24, .string ⟨#[62]⟩, .int .i64 25, .string ⟨#[62, 61]⟩, .int .i64 26]).toArray 129)).heap.size := by simp
  have Rs2 := Rs1.turn t2 hne
  have S2 := SitB.turn S1 t2 (by simp; omega)
  have T2 := tn T1 t2
  have s2 := t2.size
  clear Rs1 S1 T1 r1 t2
  generalize hW2 : w1.alloc _ = w2 at *
  clear hW2
  have HC := joined_c hz ⟨hlv0, hlv1⟩ HS sgCmp (by simp) (by simp) (by simp) (w1.heap.size) (fun b => w.heap.size + 1 ≤ b) y.1 _ w2 r2 (SitQ.weak S2 (fun b _ hq => by omega)) (by omega) (fun b hb => by omega) (fun q u hu => Sg2.cell q u hu) ⟨Sg2.lt, by omega⟩
  simp only [tmV] at HC
  have HC2 := hid2 HC
  clear HC S2 HS
  refine Calls.mono HC2.out ?_
  intro e w3 h3
  rcases hj : joinP c sgCmp S y.1 y.2 with f | q
  · obtain ⟨rfl, t3⟩ := Out.of_err hj h3
    go_wp2_with fail
    exact ⟨rfl, hE.out _ _ (by rw [hpr1.out, hj]; rfl) (tn T2 t3)⟩
  obtain ⟨t3, _, rfl, ⟨u3, rfl, S3⟩, r3⟩ := Out.of_ok hj h3
  have hprj : Hid (pr = .ok (q.1.1, q.2)) := by show _ = _; rw [hpr1.out, hj]; rfl
  obtain ⟨aq, cq, hu, -, -⟩ := S3.parts.shape
  subst hu
  generalize hnq : q.1.1.parts.length = nq at *
  simp only [tmV]
  have Rs3 := Rs2.turn t3 hne
  have Sg3 := Sg2.turn t3 hnSg
  have T3 := tn T2 t3
  have s3 := t3.size
  clear Rs2 Sg2 T2 r2 h3 t3 HC2
  change SitB (w.heap.size + 1) z w3 q.1.1 (.slice aq nq cq) at S3
  obtain ⟨p0, p1, p2, p3, p4, p5, pf0, pf1, pf2, pf3, pf4, pf5⟩ := Rs3.six
  have pl := Rs3.lt
  have HS2 := hid2 S3
  clear S3
  go_wp2_with fail
  refine bodyPost_ret (v := tmV (q.1.1) (.slice aq nq cq)) (by simp [results, Tryz.results67, go_sem, *]) rfl (hO.out (q.1.1) (q.2) _ _ (.slice aq nq cq) (hprj.out) ?_ rfl ?_ ?_)
  · exact tnO (T3.trans (turn_six _ _ _ _ _ _ _ _) (fun i hi => .inr (by simp at hi; omega)))
  · exact SitB.lower (SitB.turn (S := []) (SitB.turn HS2.out (turn_six _ _ _ _ _ _ _ _) (by simp)) (Turn.of_below ((Below.refl _ _).alloc (Nat.le_refl _) _)) (by simp)) (by omega)
  · exact (r3.turn1 (turn_six _ _ _ _ _ _ _ _) hL).onO
set_option maxHeartbeats 4000000 in
set_option maxRecDepth 20000 in
theorem level_5 {z rb tb lb : Nat} {c : Int} {L : List Tk} {o : Nat} (_hz : z ≤ 9223372036854775807) {p : Ps} (HF : ExC z rb tb lb c o 61 p) (w : World) (hr : Rea z w rb tb lb c L o) :
    Calls Tryz.prog 37 #[.pointer (some ⟨rb, 0, none⟩), .int .i64 5] w (Out (VTm w.heap.size z) z w rb tb lb c o (p L)) := by
  obtain ⟨pr, hpr⟩ : ∃ pr, Hid (pr = p L) := ⟨_, rfl⟩
  rw [← hpr.out]
  have hE : Hid (∀ f w', pr = .error f → Turn [rb] w w' → Out (VTm w.heap.size z) z w rb tb lb c o pr (.panicked [fltE f]) w') := fun f w' h ht => Out.mk_err h ht
  have hO : Hid (∀ t L' w' v u, pr = .ok (t, L') → Turn [rb] w w' → v = tmV t u → SitB w.heap.size z w' t u → Rea z w' rb tb lb c L' o → Out (VTm w.heap.size z) z w rb tb lb c o pr (.returned v) w') := fun t L' w' v u h ht hv hs hr' => Out.mk_ok h ht ⟨u, hv, hs⟩ hr'
  generalize Out (VTm w.heap.size z) z w rb tb lb c o pr = Post at *
  have hL := hr.lts
  have hne : w.heap.size ∉ [rb] := by simp; omega
  have Z0 := Box.new w zs6 33
  obtain ⟨off, cap, rx⟩ := hr
  have c3 := rx.box.cell 3 _ rfl
  have l3 := rx.box.lt
  have hr : Rea z w rb tb lb c L o := ⟨off, cap, rx⟩
  clear rx
  go_enter Tryz.func37, Tryz.ntmps37
  go_wp2_with fail
  have T0 := tnO (ob := .cells (zs6).toArray 33) (Turn.refl [rb] w)
  have r0 := hr.onO (ob := .cells (zs6).toArray 33)
  have Rs0 := Z0
  have zsz : w.heap.size < (w.alloc (.cells (zs6).toArray 33)).heap.size := by simp
  have hz0 : (w.alloc (.cells (zs6).toArray 33)).heap.size = w.heap.size + 1 := by simp
  clear Z0
  generalize hW0 : w.alloc _ = w0 at *
  clear hW0
  clear hz0
  clear hr
  have HM := hid2 (HF _ _ r0)
  rw [← hpr.out] at HM
  refine Calls.mono HM.out ?_
  intro e w1 h1
  rcases out_up T0 h1 with ⟨f, rfl, hp, ht⟩ | ⟨t, u, L', rfl, hp2, t1, S1, r1⟩
  · go_wp2_with fail
    exact ⟨rfl, hE.out _ _ hp ht⟩
  obtain ⟨p0, p1, p2, p3, p4, p5, q0, q1, q2, q3, q4, q5⟩ := (Rs0.turn t1 hne).six
  have pl := (Rs0.turn t1 hne).lt
  have HT := hid2 (tn T0 t1)
  have HS := hid2 S1
  obtain ⟨av, cv, rfl, -, -⟩ := S1.parts.shape
  generalize hnn : t.parts.length = nn at *
  clear h1 t1 S1 HM
  simp only [tmV]
  go_wp2_with fail
  refine bodyPost_ret (v := tmV t (.slice av nn cv)) (by simp [results, Tryz.results37, go_sem, *]) rfl (hO.out t L' _ _ (.slice av nn cv) hp2 ?_ rfl ?_ ?_)
  · exact HT.out.trans (turn_six _ _ _ _ _ _ _ _) (fun i hi => .inr (by simp at hi; omega))
  · exact SitB.lower (SitB.turn HS.out (turn_six _ _ _ _ _ _ _ _) (by simp; omega)) (by omega)
  · exact r1.turn1 (turn_six _ _ _ _ _ _ _ _) hL
set_option maxHeartbeats 4000000 in
set_option maxRecDepth 20000 in
theorem level_0 {z rb tb lb : Nat} {c : Int} {L : List Tk} {o : Nat} (_hz : z ≤ 9223372036854775807) {p : Ps} (HF : LvC z rb tb lb c o 65 0 p) (w : World) (hr : Rea z w rb tb lb c L o) :
    Calls Tryz.prog 37 #[.pointer (some ⟨rb, 0, none⟩), .int .i64 0] w (Out (VTm w.heap.size z) z w rb tb lb c o (p L)) := by
  obtain ⟨pr, hpr⟩ : ∃ pr, Hid (pr = p L) := ⟨_, rfl⟩
  rw [← hpr.out]
  have hE : Hid (∀ f w', pr = .error f → Turn [rb] w w' → Out (VTm w.heap.size z) z w rb tb lb c o pr (.panicked [fltE f]) w') := fun f w' h ht => Out.mk_err h ht
  have hO : Hid (∀ t L' w' v u, pr = .ok (t, L') → Turn [rb] w w' → v = tmV t u → SitB w.heap.size z w' t u → Rea z w' rb tb lb c L' o → Out (VTm w.heap.size z) z w rb tb lb c o pr (.returned v) w') := fun t L' w' v u h ht hv hs hr' => Out.mk_ok h ht ⟨u, hv, hs⟩ hr'
  generalize Out (VTm w.heap.size z) z w rb tb lb c o pr = Post at *
  have hL := hr.lts
  have hne : w.heap.size ∉ [rb] := by simp; omega
  have Z0 := Box.new w zs6 33
  obtain ⟨off, cap, rx⟩ := hr
  have c3 := rx.box.cell 3 _ rfl
  have l3 := rx.box.lt
  have lv := rx.levs 0 _ rfl
  have ll := rx.ll
  have hr : Rea z w rb tb lb c L o := ⟨off, cap, rx⟩
  clear rx
  go_enter Tryz.func37, Tryz.ntmps37
  go_wp2_with fail
  have T0 := tnO (ob := .cells (zs6).toArray 33) (Turn.refl [rb] w)
  have r0 := hr.onO (ob := .cells (zs6).toArray 33)
  have Rs0 := Z0
  have zsz : w.heap.size < (w.alloc (.cells (zs6).toArray 33)).heap.size := by simp
  have hz0 : (w.alloc (.cells (zs6).toArray 33)).heap.size = w.heap.size + 1 := by simp
  clear Z0
  generalize hW0 : w.alloc _ = w0 at *
  clear hW0
  clear hz0
  clear hr
  have HM := hid2 (HF _ _ r0)
  rw [← hpr.out] at HM
  refine Calls.mono HM.out ?_
  intro e w1 h1
  rcases out_up T0 h1 with ⟨f, rfl, hp, ht⟩ | ⟨t, u, L', rfl, hp2, t1, S1, r1⟩
  · go_wp2_with fail
    exact ⟨rfl, hE.out _ _ hp ht⟩
  obtain ⟨p0, p1, p2, p3, p4, p5, q0, q1, q2, q3, q4, q5⟩ := (Rs0.turn t1 hne).six
  have pl := (Rs0.turn t1 hne).lt
  have HT := hid2 (tn T0 t1)
  have HS := hid2 S1
  obtain ⟨av, cv, rfl, -, -⟩ := S1.parts.shape
  generalize hnn : t.parts.length = nn at *
  clear h1 t1 S1 HM
  simp only [tmV]
  go_wp2_with fail
  refine bodyPost_ret (v := tmV t (.slice av nn cv)) (by simp [results, Tryz.results37, go_sem, *]) rfl (hO.out t L' _ _ (.slice av nn cv) hp2 ?_ rfl ?_ ?_)
  · exact HT.out.trans (turn_six _ _ _ _ _ _ _ _) (fun i hi => .inr (by simp at hi; omega))
  · exact SitB.lower (SitB.turn HS.out (turn_six _ _ _ _ _ _ _ _) (by simp; omega)) (by omega)
  · exact r1.turn1 (turn_six _ _ _ _ _ _ _ _) hL
set_option maxHeartbeats 4000000 in
set_option maxRecDepth 20000 in
theorem level_1 {z rb tb lb : Nat} {c : Int} {L : List Tk} {o : Nat} (_hz : z ≤ 9223372036854775807) {p : Ps} (HF : LvC z rb tb lb c o 66 1 p) (w : World) (hr : Rea z w rb tb lb c L o) :
    Calls Tryz.prog 37 #[.pointer (some ⟨rb, 0, none⟩), .int .i64 1] w (Out (VTm w.heap.size z) z w rb tb lb c o (p L)) := by
  obtain ⟨pr, hpr⟩ : ∃ pr, Hid (pr = p L) := ⟨_, rfl⟩
  rw [← hpr.out]
  have hE : Hid (∀ f w', pr = .error f → Turn [rb] w w' → Out (VTm w.heap.size z) z w rb tb lb c o pr (.panicked [fltE f]) w') := fun f w' h ht => Out.mk_err h ht
  have hO : Hid (∀ t L' w' v u, pr = .ok (t, L') → Turn [rb] w w' → v = tmV t u → SitB w.heap.size z w' t u → Rea z w' rb tb lb c L' o → Out (VTm w.heap.size z) z w rb tb lb c o pr (.returned v) w') := fun t L' w' v u h ht hv hs hr' => Out.mk_ok h ht ⟨u, hv, hs⟩ hr'
  generalize Out (VTm w.heap.size z) z w rb tb lb c o pr = Post at *
  have hL := hr.lts
  have hne : w.heap.size ∉ [rb] := by simp; omega
  have Z0 := Box.new w zs6 33
  obtain ⟨off, cap, rx⟩ := hr
  have c3 := rx.box.cell 3 _ rfl
  have l3 := rx.box.lt
  have lv := rx.levs 1 _ rfl
  have ll := rx.ll
  have hr : Rea z w rb tb lb c L o := ⟨off, cap, rx⟩
  clear rx
  go_enter Tryz.func37, Tryz.ntmps37
  go_wp2_with fail
  have T0 := tnO (ob := .cells (zs6).toArray 33) (Turn.refl [rb] w)
  have r0 := hr.onO (ob := .cells (zs6).toArray 33)
  have Rs0 := Z0
  have zsz : w.heap.size < (w.alloc (.cells (zs6).toArray 33)).heap.size := by simp
  have hz0 : (w.alloc (.cells (zs6).toArray 33)).heap.size = w.heap.size + 1 := by simp
  clear Z0
  generalize hW0 : w.alloc _ = w0 at *
  clear hW0
  clear hz0
  clear hr
  have HM := hid2 (HF _ _ r0)
  rw [← hpr.out] at HM
  refine Calls.mono HM.out ?_
  intro e w1 h1
  rcases out_up T0 h1 with ⟨f, rfl, hp, ht⟩ | ⟨t, u, L', rfl, hp2, t1, S1, r1⟩
  · go_wp2_with fail
    exact ⟨rfl, hE.out _ _ hp ht⟩
  obtain ⟨p0, p1, p2, p3, p4, p5, q0, q1, q2, q3, q4, q5⟩ := (Rs0.turn t1 hne).six
  have pl := (Rs0.turn t1 hne).lt
  have HT := hid2 (tn T0 t1)
  have HS := hid2 S1
  obtain ⟨av, cv, rfl, -, -⟩ := S1.parts.shape
  generalize hnn : t.parts.length = nn at *
  clear h1 t1 S1 HM
  simp only [tmV]
  go_wp2_with fail
  refine bodyPost_ret (v := tmV t (.slice av nn cv)) (by simp [results, Tryz.results37, go_sem, *]) rfl (hO.out t L' _ _ (.slice av nn cv) hp2 ?_ rfl ?_ ?_)
  · exact HT.out.trans (turn_six _ _ _ _ _ _ _ _) (fun i hi => .inr (by simp at hi; omega))
  · exact SitB.lower (SitB.turn HS.out (turn_six _ _ _ _ _ _ _ _) (by simp; omega)) (by omega)
  · exact r1.turn1 (turn_six _ _ _ _ _ _ _ _) hL
set_option maxHeartbeats 4000000 in
set_option maxRecDepth 20000 in
theorem level_2 {z rb tb lb : Nat} {c : Int} {L : List Tk} {o : Nat} (_hz : z ≤ 9223372036854775807) {p : Ps} (HF : LvC z rb tb lb c o 67 2 p) (w : World) (hr : Rea z w rb tb lb c L o) :
    Calls Tryz.prog 37 #[.pointer (some ⟨rb, 0, none⟩), .int .i64 2] w (Out (VTm w.heap.size z) z w rb tb lb c o (p L)) := by
  obtain ⟨pr, hpr⟩ : ∃ pr, Hid (pr = p L) := ⟨_, rfl⟩
  rw [← hpr.out]
  have hE : Hid (∀ f w', pr = .error f → Turn [rb] w w' → Out (VTm w.heap.size z) z w rb tb lb c o pr (.panicked [fltE f]) w') := fun f w' h ht => Out.mk_err h ht
  have hO : Hid (∀ t L' w' v u, pr = .ok (t, L') → Turn [rb] w w' → v = tmV t u → SitB w.heap.size z w' t u → Rea z w' rb tb lb c L' o → Out (VTm w.heap.size z) z w rb tb lb c o pr (.returned v) w') := fun t L' w' v u h ht hv hs hr' => Out.mk_ok h ht ⟨u, hv, hs⟩ hr'
  generalize Out (VTm w.heap.size z) z w rb tb lb c o pr = Post at *
  have hL := hr.lts
  have hne : w.heap.size ∉ [rb] := by simp; omega
  have Z0 := Box.new w zs6 33
  obtain ⟨off, cap, rx⟩ := hr
  have c3 := rx.box.cell 3 _ rfl
  have l3 := rx.box.lt
  have lv := rx.levs 2 _ rfl
  have ll := rx.ll
  have hr : Rea z w rb tb lb c L o := ⟨off, cap, rx⟩
  clear rx
  go_enter Tryz.func37, Tryz.ntmps37
  go_wp2_with fail
  have T0 := tnO (ob := .cells (zs6).toArray 33) (Turn.refl [rb] w)
  have r0 := hr.onO (ob := .cells (zs6).toArray 33)
  have Rs0 := Z0
  have zsz : w.heap.size < (w.alloc (.cells (zs6).toArray 33)).heap.size := by simp
  have hz0 : (w.alloc (.cells (zs6).toArray 33)).heap.size = w.heap.size + 1 := by simp
  clear Z0
  generalize hW0 : w.alloc _ = w0 at *
  clear hW0
  clear hz0
  clear hr
  have HM := hid2 (HF _ _ r0)
  rw [← hpr.out] at HM
  refine Calls.mono HM.out ?_
  intro e w1 h1
  rcases out_up T0 h1 with ⟨f, rfl, hp, ht⟩ | ⟨t, u, L', rfl, hp2, t1, S1, r1⟩
  · go_wp2_with fail
    exact ⟨rfl, hE.out _ _ hp ht⟩
  obtain ⟨p0, p1, p2, p3, p4, p5, q0, q1, q2, q3, q4, q5⟩ := (Rs0.turn t1 hne).six
  have pl := (Rs0.turn t1 hne).lt
  have HT := hid2 (tn T0 t1)
  have HS := hid2 S1
  obtain ⟨av, cv, rfl, -, -⟩ := S1.parts.shape
  generalize hnn : t.parts.length = nn at *
  clear h1 t1 S1 HM
  simp only [tmV]
  go_wp2_with fail
  refine bodyPost_ret (v := tmV t (.slice av nn cv)) (by simp [results, Tryz.results37, go_sem, *]) rfl (hO.out t L' _ _ (.slice av nn cv) hp2 ?_ rfl ?_ ?_)
  · exact HT.out.trans (turn_six _ _ _ _ _ _ _ _) (fun i hi => .inr (by simp at hi; omega))
  · exact SitB.lower (SitB.turn HS.out (turn_six _ _ _ _ _ _ _ _) (by simp; omega)) (by omega)
  · exact r1.turn1 (turn_six _ _ _ _ _ _ _ _) hL
set_option maxHeartbeats 4000000 in
set_option maxRecDepth 20000 in
theorem level_3 {z rb tb lb : Nat} {c : Int} {L : List Tk} {o : Nat} (_hz : z ≤ 9223372036854775807) {p : Ps} (HF : LvC z rb tb lb c o 68 3 p) (w : World) (hr : Rea z w rb tb lb c L o) :
    Calls Tryz.prog 37 #[.pointer (some ⟨rb, 0, none⟩), .int .i64 3] w (Out (VTm w.heap.size z) z w rb tb lb c o (p L)) := by
  obtain ⟨pr, hpr⟩ : ∃ pr, Hid (pr = p L) := ⟨_, rfl⟩
  rw [← hpr.out]
  have hE : Hid (∀ f w', pr = .error f → Turn [rb] w w' → Out (VTm w.heap.size z) z w rb tb lb c o pr (.panicked [fltE f]) w') := fun f w' h ht => Out.mk_err h ht
  have hO : Hid (∀ t L' w' v u, pr = .ok (t, L') → Turn [rb] w w' → v = tmV t u → SitB w.heap.size z w' t u → Rea z w' rb tb lb c L' o → Out (VTm w.heap.size z) z w rb tb lb c o pr (.returned v) w') := fun t L' w' v u h ht hv hs hr' => Out.mk_ok h ht ⟨u, hv, hs⟩ hr'
  generalize Out (VTm w.heap.size z) z w rb tb lb c o pr = Post at *
  have hL := hr.lts
  have hne : w.heap.size ∉ [rb] := by simp; omega
  have Z0 := Box.new w zs6 33
  obtain ⟨off, cap, rx⟩ := hr
  have c3 := rx.box.cell 3 _ rfl
  have l3 := rx.box.lt
  have lv := rx.levs 3 _ rfl
  have ll := rx.ll
  have hr : Rea z w rb tb lb c L o := ⟨off, cap, rx⟩
  clear rx
  go_enter Tryz.func37, Tryz.ntmps37
  go_wp2_with fail
  have T0 := tnO (ob := .cells (zs6).toArray 33) (Turn.refl [rb] w)
  have r0 := hr.onO (ob := .cells (zs6).toArray 33)
  have Rs0 := Z0
  have zsz : w.heap.size < (w.alloc (.cells (zs6).toArray 33)).heap.size := by simp
  have hz0 : (w.alloc (.cells (zs6).toArray 33)).heap.size = w.heap.size + 1 := by simp
  clear Z0
  generalize hW0 : w.alloc _ = w0 at *
  clear hW0
  clear hz0
  clear hr
  have HM := hid2 (HF _ _ r0)
  rw [← hpr.out] at HM
  refine Calls.mono HM.out ?_
  intro e w1 h1
  rcases out_up T0 h1 with ⟨f, rfl, hp, ht⟩ | ⟨t, u, L', rfl, hp2, t1, S1, r1⟩
  · go_wp2_with fail
    exact ⟨rfl, hE.out _ _ hp ht⟩
  obtain ⟨p0, p1, p2, p3, p4, p5, q0, q1, q2, q3, q4, q5⟩ := (Rs0.turn t1 hne).six
  have pl := (Rs0.turn t1 hne).lt
  have HT := hid2 (tn T0 t1)
  have HS := hid2 S1
  obtain ⟨av, cv, rfl, -, -⟩ := S1.parts.shape
  generalize hnn : t.parts.length = nn at *
  clear h1 t1 S1 HM
  simp only [tmV]
  go_wp2_with fail
  refine bodyPost_ret (v := tmV t (.slice av nn cv)) (by simp [results, Tryz.results37, go_sem, *]) rfl (hO.out t L' _ _ (.slice av nn cv) hp2 ?_ rfl ?_ ?_)
  · exact HT.out.trans (turn_six _ _ _ _ _ _ _ _) (fun i hi => .inr (by simp at hi; omega))
  · exact SitB.lower (SitB.turn HS.out (turn_six _ _ _ _ _ _ _ _) (by simp; omega)) (by omega)
  · exact r1.turn1 (turn_six _ _ _ _ _ _ _ _) hL
set_option maxHeartbeats 4000000 in
set_option maxRecDepth 20000 in
theorem level_4 {z rb tb lb : Nat} {c : Int} {L : List Tk} {o : Nat} (_hz : z ≤ 9223372036854775807) {p : Ps} (HF : LvC z rb tb lb c o 69 4 p) (w : World) (hr : Rea z w rb tb lb c L o) :
    Calls Tryz.prog 37 #[.pointer (some ⟨rb, 0, none⟩), .int .i64 4] w (Out (VTm w.heap.size z) z w rb tb lb c o (p L)) := by
  obtain ⟨pr, hpr⟩ : ∃ pr, Hid (pr = p L) := ⟨_, rfl⟩
  rw [← hpr.out]
  have hE : Hid (∀ f w', pr = .error f → Turn [rb] w w' → Out (VTm w.heap.size z) z w rb tb lb c o pr (.panicked [fltE f]) w') := fun f w' h ht => Out.mk_err h ht
  have hO : Hid (∀ t L' w' v u, pr = .ok (t, L') → Turn [rb] w w' → v = tmV t u → SitB w.heap.size z w' t u → Rea z w' rb tb lb c L' o → Out (VTm w.heap.size z) z w rb tb lb c o pr (.returned v) w') := fun t L' w' v u h ht hv hs hr' => Out.mk_ok h ht ⟨u, hv, hs⟩ hr'
  generalize Out (VTm w.heap.size z) z w rb tb lb c o pr = Post at *
  have hL := hr.lts
  have hne : w.heap.size ∉ [rb] := by simp; omega
  have Z0 := Box.new w zs6 33
  obtain ⟨off, cap, rx⟩ := hr
  have c3 := rx.box.cell 3 _ rfl
  have l3 := rx.box.lt
  have lv := rx.levs 4 _ rfl
  have ll := rx.ll
  have hr : Rea z w rb tb lb c L o := ⟨off, cap, rx⟩
  clear rx
  go_enter Tryz.func37, Tryz.ntmps37
  go_wp2_with fail
  have T0 := tnO (ob := .cells (zs6).toArray 33) (Turn.refl [rb] w)
  have r0 := hr.onO (ob := .cells (zs6).toArray 33)
  have Rs0 := Z0
  have zsz : w.heap.size < (w.alloc (.cells (zs6).toArray 33)).heap.size := by simp
  have hz0 : (w.alloc (.cells (zs6).toArray 33)).heap.size = w.heap.size + 1 := by simp
  clear Z0
  generalize hW0 : w.alloc _ = w0 at *
  clear hW0
  clear hz0
  clear hr
  have HM := hid2 (HF _ _ r0)
  rw [← hpr.out] at HM
  refine Calls.mono HM.out ?_
  intro e w1 h1
  rcases out_up T0 h1 with ⟨f, rfl, hp, ht⟩ | ⟨t, u, L', rfl, hp2, t1, S1, r1⟩
  · go_wp2_with fail
    exact ⟨rfl, hE.out _ _ hp ht⟩
  obtain ⟨p0, p1, p2, p3, p4, p5, q0, q1, q2, q3, q4, q5⟩ := (Rs0.turn t1 hne).six
  have pl := (Rs0.turn t1 hne).lt
  have HT := hid2 (tn T0 t1)
  have HS := hid2 S1
  obtain ⟨av, cv, rfl, -, -⟩ := S1.parts.shape
  generalize hnn : t.parts.length = nn at *
  clear h1 t1 S1 HM
  simp only [tmV]
  go_wp2_with fail
  refine bodyPost_ret (v := tmV t (.slice av nn cv)) (by simp [results, Tryz.results37, go_sem, *]) rfl (hO.out t L' _ _ (.slice av nn cv) hp2 ?_ rfl ?_ ?_)
  · exact HT.out.trans (turn_six _ _ _ _ _ _ _ _) (fun i hi => .inr (by simp at hi; omega))
  · exact SitB.lower (SitB.turn HS.out (turn_six _ _ _ _ _ _ _ _) (by simp; omega)) (by omega)
  · exact r1.turn1 (turn_six _ _ _ _ _ _ _ _) hL
set_option maxHeartbeats 4000000 in
set_option maxRecDepth 20000 in
theorem expression_c {z rb tb lb : Nat} {c : Int} {L : List Tk} {o : Nat} (_hz : z ≤ 9223372036854775807) {p : Ps} (HF : LvC z rb tb lb c o 37 0 p) (w : World) (hr : Rea z w rb tb lb c L o) :
    Calls Tryz.prog 21 #[.pointer (some ⟨rb, 0, none⟩)] w (Out (VTm w.heap.size z) z w rb tb lb c o (p L)) := by
  obtain ⟨pr, hpr⟩ : ∃ pr, Hid (pr = p L) := ⟨_, rfl⟩
  rw [← hpr.out]
  have hE : Hid (∀ f w', pr = .error f → Turn [rb] w w' → Out (VTm w.heap.size z) z w rb tb lb c o pr (.panicked [fltE f]) w') := fun f w' h ht => Out.mk_err h ht
  have hO : Hid (∀ t L' w' v u, pr = .ok (t, L') → Turn [rb] w w' → v = tmV t u → SitB w.heap.size z w' t u → Rea z w' rb tb lb c L' o → Out (VTm w.heap.size z) z w rb tb lb c o pr (.returned v) w') := fun t L' w' v u h ht hv hs hr' => Out.mk_ok h ht ⟨u, hv, hs⟩ hr'
  generalize Out (VTm w.heap.size z) z w rb tb lb c o pr = Post at *
  have hL := hr.lts
  have hne : w.heap.size ∉ [rb] := by simp; omega
  have Z0 := Box.new w zs6 33
  go_enter Tryz.func21, Tryz.ntmps21
  go_wp2_with fail
  have T0 := tnO (ob := .cells (zs6).toArray 33) (Turn.refl [rb] w)
  have r0 := hr.onO (ob := .cells (zs6).toArray 33)
  have Rs0 := Z0
  have zsz : w.heap.size < (w.alloc (.cells (zs6).toArray 33)).heap.size := by simp
  have hz0 : (w.alloc (.cells (zs6).toArray 33)).heap.size = w.heap.size + 1 := by simp
  clear Z0
  generalize hW0 : w.alloc _ = w0 at *
  clear hW0
  clear hz0
  clear hr
  have HM := hid2 (HF _ _ r0)
  rw [← hpr.out] at HM
  refine Calls.mono HM.out ?_
  intro e w1 h1
  rcases out_up T0 h1 with ⟨f, rfl, hp, ht⟩ | ⟨t, u, L', rfl, hp2, t1, S1, r1⟩
  · go_wp2_with fail
    exact ⟨rfl, hE.out _ _ hp ht⟩
  obtain ⟨p0, p1, p2, p3, p4, p5, q0, q1, q2, q3, q4, q5⟩ := (Rs0.turn t1 hne).six
  have pl := (Rs0.turn t1 hne).lt
  have HT := hid2 (tn T0 t1)
  have HS := hid2 S1
  obtain ⟨av, cv, rfl, -, -⟩ := S1.parts.shape
  generalize hnn : t.parts.length = nn at *
  clear h1 t1 S1 HM
  simp only [tmV]
  go_wp2_with fail
  refine bodyPost_ret (v := tmV t (.slice av nn cv)) (by simp [results, Tryz.results21, go_sem, *]) rfl (hO.out t L' _ _ (.slice av nn cv) hp2 ?_ rfl ?_ ?_)
  · exact HT.out.trans (turn_six _ _ _ _ _ _ _ _) (fun i hi => .inr (by simp at hi; omega))
  · exact SitB.lower (SitB.turn HS.out (turn_six _ _ _ _ _ _ _ _) (by simp; omega)) (by omega)
  · exact r1.turn1 (turn_six _ _ _ _ _ _ _ _) hL
/-- An expression, whatever is read behind its brackets. -/
theorem lv0_c {z rb tb lb : Nat} {c : Int} {o : Nat} (hz : z ≤ 9223372036854775807) {X : Option Ps} (HX : InC z rb tb lb c o X) (hD : DecO X) : ExC z rb tb lb c o 21 (lv0 c X) := by
  have h5 : LvC z rb tb lb c o 37 5 (lv5 c X) := fun L w hr => level_5 hz (fac_c hz (atom_c hz HX)) w hr
  have e5 : LvC z rb tb lb c o 37 (4 + 1) (lv5 c X) := by rw [show (4 : Int) + 1 = 5 by decide]; exact h5
  have h4 : LvC z rb tb lb c o 37 4 (lv4 c X) := fun L w hr => level_4 hz (fun L w hr => product_lv hz (by decide) e5 (dec_lv5 hD) w hr) w hr
  have e4 : LvC z rb tb lb c o 37 (3 + 1) (lv4 c X) := by rw [show (3 : Int) + 1 = 4 by decide]; exact h4
  have h3 : LvC z rb tb lb c o 37 3 (lv3 c X) := fun L w hr => level_3 hz (fun L w hr => sum_lv hz (by decide) e4 (dec_lv4 hD) w hr) w hr
  have e3 : LvC z rb tb lb c o 37 (2 + 1) (lv3 c X) := by rw [show (2 : Int) + 1 = 3 by decide]; exact h3
  have h2 : LvC z rb tb lb c o 37 2 (lv2 c X) := fun L w hr => level_2 hz (fun L w hr => cmp_lv hz (by decide) e3 w hr) w hr
  have e2 : LvC z rb tb lb c o 37 (1 + 1) (lv2 c X) := by rw [show (1 : Int) + 1 = 2 by decide]; exact h2
  have h1 : LvC z rb tb lb c o 37 1 (lv1 c X) := fun L w hr => level_1 hz (fun L w hr => and_lv hz (by decide) e2 (dec_lv2 hD) w hr) w hr
  have e1 : LvC z rb tb lb c o 37 (0 + 1) (lv1 c X) := by rw [show (0 : Int) + 1 = 1 by decide]; exact h1
  have h0 : LvC z rb tb lb c o 37 0 (lv0 c X) := fun L w hr => level_0 hz (fun L w hr => or_lv hz (by decide) e1 (dec_lv1 hD) w hr) w hr
  exact fun L w hr => expression_c hz h0 w hr
theorem expr_c {z rb tb lb : Nat} {c : Int} (hz : z ≤ 9223372036854775807) : ∀ d o, o + d = 64 → ExC z rb tb lb c o 21 (exprD c d)
  | 0, o, ho => lv0_c hz ⟨fun _ => (by omega), (fun _ h => by cases h)⟩ (fun _ h => by cases h)
  | d + 1, o, ho => lv0_c hz ⟨(fun h => by cases h), fun E h => by cases h; exact ⟨by omega, expr_c hz d (o + 1) (by omega), dec_expr c d⟩⟩ (fun E h => by cases h; exact dec_expr c d)
end Go.Proofs.YtecdfnpbcabdnaaGreatDoor
