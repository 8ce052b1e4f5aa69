/- Package parse: item. -/
import Derived.Test.YtecdfnpbcabdnaaGreatDoorPxS
import Derived.Test.YtecdfnpbcabdnaaGreatDoorPxV
namespace Go.Proofs.YtecdfnpbcabdnaaGreatDoor
open Go.RowKit Go.Lib

theorem build_it3 (k a : Int) (q : Tm) (u : Value) (w : World) : (Instr.build 53 #[(0, .int .i64 k), (8, .int .i64 a), (7, tmV q u)]).run Tryz.prog w = .ok (.agg (itC ⟨k, ⟨#[]⟩, ⟨#[]⟩, 0, 0, 0, nilM, q, a⟩ (.slice none 0 0) u).toArray) w :=
  run_build w _ _ _ (by kernel_rfl)
theorem wpList_it3 {ops : Array Oper} {rest : List Oper} {o : Oper} {a : Act} {Q : Exit → Act → World → Prop} {w : World} (hgd : o.guard = none) (x y t : Operand) (ho : o.op = .build 53 #[(0, x), (8, y), (7, t)]) (k p : Int) (q : Tm) (u : Value) (hx : a.eval x = .int .i64 k) (hy : a.eval y = .int .i64 p) (ht : a.eval t = tmV q u)
    (X : Array Value) (hX : X = (itC ⟨k, ⟨#[]⟩, ⟨#[]⟩, 0, 0, 0, nilM, q, p⟩ (.slice none 0 0) u).toArray) (h : wpList Tryz.prog ops Q rest (a.put o.dst (.agg X)) w) : wpList Tryz.prog ops Q (o :: rest) a w := by
  refine wpList_plain hgd fun K hK => ?_
  subst hX
  unfold Oper.wp execOp
  have hb := build_it3 k p q u w
  simp only [ho, Sem.run_bind, List.map_toArray, List.map_cons, List.map_nil, hx, hy, ht, hb, Result.andThen_ok]
  exact hK _ _ h
theorem outI_up {z : Nat} {w W w' : World} {rb tb lb : Nat} {c : Int} {o : Nat} {pr : Rs It} {e : Ending} (hT : Turn [rb] w W) (h : Out (VIt W.heap.size z) z W rb tb lb c o pr e w') :
    (∃ f, e = .panicked [fltE f] ∧ pr = .error f ∧ Turn [rb] w w') ∨ (∃ i vx vy L', e = .returned (itA i vx vy) ∧ pr = .ok (i, L') ∧ Turn [rb] W w' ∧ ItB W.heap.size z w' i vx vy ∧ Rea z w' rb tb lb c L' o) := by
  rcases hp : pr with f | y
  · obtain ⟨rfl, ht⟩ := Out.of_err hp h
    exact .inl ⟨f, rfl, rfl, tn hT ht⟩
  · obtain ⟨ht, v, rfl, ⟨vx, vy, rfl, hs⟩, hr'⟩ := Out.of_ok hp h
    exact .inr ⟨y.1, vx, vy, y.2, rfl, rfl, ht, hs, hr'⟩
theorem ItB.turn {S : List Nat} {B z : Nat} {w w' : World} {i : It} {vx vy : Value} (h : ItB B z w i vx vy) (k : Turn S w w') (hS : ∀ q ∈ S, q < B) : ItB B z w' i vx vy := ⟨h.sx.turn k hS, h.sy.turn k hS, h.nm, h.un⟩
theorem ItB.lower {B B' z : Nat} {w : World} {i : It} {vx vy : Value} (h : ItB B z w i vx vy) (hB : B' ≤ B) : ItB B' z w i vx vy := ⟨SitB.lower h.sx hB, SitB.lower h.sy hB, h.nm, h.un⟩
theorem ItB.one {B z : Nat} {w : World} {i : It} {vx vy : Value} (h : ItB B z w i vx vy) : (itC i vx vy).toArray.all (·.oneCell') = true := by
  obtain ⟨a1, c1, rfl, -, -⟩ := h.sx.parts.shape
  obtain ⟨a2, c2, rfl, -, -⟩ := h.sy.parts.shape
  kernel_rfl
set_option maxHeartbeats 4000000 in
set_option maxRecDepth 20000 in
theorem item_metric {z rb tb lb : Nat} {c : Int} {L : List Tk} {o : Nat} (_hz : z ≤ 9223372036854775807) {t0 : Tk} (hx : nxt c L = .ok t0) (h0 : isT k_metric t0 = true) (w : World) (hr : Rea z w rb tb lb c L o) :
    Calls Tryz.prog 29 #[.pointer (some ⟨rb, 0, none⟩)] w (Out (VIt w.heap.size z) z w rb tb lb c o (metricP c t0.at_ L.tail)) := by
  obtain ⟨pr, hpr⟩ : ∃ pr, Hid (pr = metricP c t0.at_ L.tail) := ⟨_, rfl⟩
  rw [← hpr.out]
  have hE : Hid (∀ f w', pr = .error f → Turn [rb] w w' → Out (VIt w.heap.size z) z w rb tb lb c o pr (.panicked [fltE f]) w') := fun f w' h ht => Out.mk_err h ht
  have hO : Hid (∀ i L' w' v vx vy, pr = .ok (i, L') → Turn [rb] w w' → v = itA i vx vy → ItB w.heap.size z w' i vx vy → Rea z w' rb tb lb c L' o → Out (VIt w.heap.size z) z w rb tb lb c o pr (.returned v) w') := fun i L' w' v vx vy h ht hv hs hr' => Out.mk_ok h ht ⟨vx, vy, hv, hs⟩ hr'
  generalize Out (VIt w.heap.size z) z w rb tb lb c o pr = Post at *
  have hL := hr.lts
  have hne : w.heap.size ∉ [rb] := by simp; omega
  obtain ⟨m, hm19⟩ : ∃ m : Nat, Hid (m = 19) := ⟨_, rfl⟩
  have zs : ∀ w, (sizeOf 53).run Tryz.prog w = .ok m w := by rw [hm19.out]; exact Tryz.sizeOf53
  have zm : (19 = m) = True := eq_true hm19.out.symm
  have Z0 := Box.new w zs19 53
  go_enter Tryz.func29, Tryz.ntmps29
  go_wp2_with fail
  have T0 := tnO (ob := .cells (zs19).toArray 53) (Turn.refl [rb] w)
  have r0 := hr.onO (ob := .cells (zs19).toArray 53)
  have Rs0 := Z0
  have zsz : w.heap.size < (w.alloc (.cells (zs19).toArray 53)).heap.size := by simp
  have hz0 : (w.alloc (.cells (zs19).toArray 53)).heap.size = w.heap.size + 1 := by simp
  clear Z0
  generalize hW0 : w.alloc _ = w0 at *
  clear hW0
  clear hz0
  clear hr
  have HJ0 := fun W h => is_ok (z := z) (rb := rb) (tb := tb) (lb := lb) (o := o) hx k_metric W h
  rw [h0] at HJ0
  refine Calls.mono (HJ0 _ r0) ?_
  rintro e w1 ⟨rfl, b1⟩
  have t1 := Turn.of_below (S := [rb]) b1
  have r1 := r0.next b1
  have Rs1 := Rs0.turn t1 hne
  have T1 := tn T0 t1
  have s1 := t1.size
  clear Rs0 T0 r0 b1 t1
  go_wp2_with fail
  clear HJ0
  have HM := hid2 (metric_c _hz hx h0 _ r1)
  rw [← hpr.out] at HM
  refine Calls.mono HM.out ?_
  intro e w2 h2
  rcases outI_up T1 h2 with ⟨f, rfl, hp, ht⟩ | ⟨i, vx, vy, L', he, hp2, t2, S2, rr2⟩
  · go_wp2_with fail
    exact ⟨rfl, hE.out _ _ hp ht⟩
  obtain ⟨Y, hY⟩ : ∃ Y : Array Value, Hid (Y = (itC i vx vy).toArray) := ⟨_, rfl⟩
  have he2 : e = .returned (.agg Y) := by rw [he, hY.out]
  subst he2
  have Rs2 := Rs1.turn t2 hne
  have T2 := tn T1 t2
  have r2 := rr2
  have s2 := t2.size
  have HS := hid2 S2
  have o1 : Y.all (·.oneCell') = true := by rw [hY.out]; exact S2.one
  clear h2 t2 S2 HM rr2 he Rs1 T1 r1
  have sY : Y.size = 19 := by rw [hY.out]; rfl
  have one : ∀ v ∈ Y.toList, v.oneCell' = true := fun v hv => Array.all_eq_true_iff_forall_mem.1 (o1) v (by simpa using hv)
  have stY := st_at w.heap.size Y.toList 0 w2 _ Rs2 (by simp [sY]) one
  have TF := hid2 (putRow_turn w.heap.size Y.toList 0 w2)
  have BF := putRow_whole Rs2 (X := Y.toList) (by simp [sY])
  have ldF := ld_row (X := Y) BF rfl (n := m) (by simp [sY, hm19.out])
  have pl := Rs2.lt
  have HT := hid2 T2
  have HR := hid2 r2
  clear Rs2 T2 r2 BF one
  generalize hWF : putRow w2 w.heap.size 0 Y.toList = WF at *
  clear hWF
  clear o1
  go_wp2_with fail
  refine bodyPost_ret (v := .agg Y) (by simp [results, Tryz.results29, go_sem, *]) rfl (hO.out i L' _ _ vx vy hp2 ?_ (by rw [hY.out]) ((HS.out.turn TF.out (by simp; omega)).lower (by omega)) ?_)
  · exact HT.out.trans TF.out (fun i hi => .inr (by simp at hi; omega))
  · exact HR.out.turn1 TF.out hL
set_option maxHeartbeats 4000000 in
set_option maxRecDepth 20000 in
theorem item_reps {z rb tb lb : Nat} {c : Int} {L : List Tk} {o : Nat} (_hz : z ≤ 9223372036854775807) {t0 : Tk} (hx : nxt c L = .ok t0) (h0 : isT k_metric t0 = false) (h1 : isT k_reps t0 = true) (w : World) (hr : Rea z w rb tb lb c L o) :
    Calls Tryz.prog 29 #[.pointer (some ⟨rb, 0, none⟩)] w (Out (VIt w.heap.size z) z w rb tb lb c o (repsP c t0.at_ L.tail)) := by
  obtain ⟨pr, hpr⟩ : ∃ pr, Hid (pr = repsP c t0.at_ L.tail) := ⟨_, rfl⟩
  rw [← hpr.out]
  have hE : Hid (∀ f w', pr = .error f → Turn [rb] w w' → Out (VIt w.heap.size z) z w rb tb lb c o pr (.panicked [fltE f]) w') := fun f w' h ht => Out.mk_err h ht
  have hO : Hid (∀ i L' w' v vx vy, pr = .ok (i, L') → Turn [rb] w w' → v = itA i vx vy → ItB w.heap.size z w' i vx vy → Rea z w' rb tb lb c L' o → Out (VIt w.heap.size z) z w rb tb lb c o pr (.returned v) w') := fun i L' w' v vx vy h ht hv hs hr' => Out.mk_ok h ht ⟨vx, vy, hv, hs⟩ hr'
  generalize Out (VIt w.heap.size z) z w rb tb lb c o pr = Post at *
  have hL := hr.lts
  have hne : w.heap.size ∉ [rb] := by simp; omega
  obtain ⟨m, hm19⟩ : ∃ m : Nat, Hid (m = 19) := ⟨_, rfl⟩
  have zs : ∀ w, (sizeOf 53).run Tryz.prog w = .ok m w := by rw [hm19.out]; exact Tryz.sizeOf53
  have zm : (19 = m) = True := eq_true hm19.out.symm
  have Z0 := Box.new w zs19 53
  go_enter Tryz.func29, Tryz.ntmps29
  go_wp2_with fail
  have T0 := tnO (ob := .cells (zs19).toArray 53) (Turn.refl [rb] w)
  have r0 := hr.onO (ob := .cells (zs19).toArray 53)
  have Rs0 := Z0
  have zsz : w.heap.size < (w.alloc (.cells (zs19).toArray 53)).heap.size := by simp
  have hz0 : (w.alloc (.cells (zs19).toArray 53)).heap.size = w.heap.size + 1 := by simp
  clear Z0
  generalize hW0 : w.alloc _ = w0 at *
  clear hW0
  clear hz0
  clear hr
  have HJ0 := fun W h => is_ok (z := z) (rb := rb) (tb := tb) (lb := lb) (o := o) hx k_metric W h
  rw [h0] at HJ0
  refine Calls.mono (HJ0 _ r0) ?_
  rintro e w1 ⟨rfl, b1⟩
  have t1 := Turn.of_below (S := [rb]) b1
  have r1 := r0.next b1
  have Rs1 := Rs0.turn t1 hne
  have T1 := tn T0 t1
  have s1 := t1.size
  clear Rs0 T0 r0 b1 t1
  go_wp2_with fail
  clear HJ0
  have HJ1 := fun W h => is_ok (z := z) (rb := rb) (tb := tb) (lb := lb) (o := o) hx k_reps W h
  rw [h1] at HJ1
  refine Calls.mono (HJ1 _ r1) ?_
  rintro e w2 ⟨rfl, b2⟩
  have t2 := Turn.of_below (S := [rb]) b2
  have r2 := r1.next b2
  have Rs2 := Rs1.turn t2 hne
  have T2 := tn T1 t2
  have s2 := t2.size
  clear Rs1 T1 r1 b2 t2
  go_wp2_with fail
  clear HJ1
  have HM := hid2 (reps_c _hz hx h1 _ r2)
  rw [← hpr.out] at HM
  refine Calls.mono HM.out ?_
  intro e w3 h3
  rcases outI_up T2 h3 with ⟨f, rfl, hp, ht⟩ | ⟨i, vx, vy, L', he, hp2, t3, S3, rr3⟩
  · go_wp2_with fail
    exact ⟨rfl, hE.out _ _ hp ht⟩
  obtain ⟨Y, hY⟩ : ∃ Y : Array Value, Hid (Y = (itC i vx vy).toArray) := ⟨_, rfl⟩
  have he2 : e = .returned (.agg Y) := by rw [he, hY.out]
  subst he2
  have Rs3 := Rs2.turn t3 hne
  have T3 := tn T2 t3
  have r3 := rr3
  have s3 := t3.size
  have HS := hid2 S3
  have o1 : Y.all (·.oneCell') = true := by rw [hY.out]; exact S3.one
  clear h3 t3 S3 HM rr3 he Rs2 T2 r2
  have sY : Y.size = 19 := by rw [hY.out]; rfl
  have one : ∀ v ∈ Y.toList, v.oneCell' = true := fun v hv => Array.all_eq_true_iff_forall_mem.1 (o1) v (by simpa using hv)
  have stY := st_at w.heap.size Y.toList 0 w3 _ Rs3 (by simp [sY]) one
  have TF := hid2 (putRow_turn w.heap.size Y.toList 0 w3)
  have BF := putRow_whole Rs3 (X := Y.toList) (by simp [sY])
  have ldF := ld_row (X := Y) BF rfl (n := m) (by simp [sY, hm19.out])
  have pl := Rs3.lt
  have HT := hid2 T3
  have HR := hid2 r3
  clear Rs3 T3 r3 BF one
  generalize hWF : putRow w3 w.heap.size 0 Y.toList = WF at *
  clear hWF
  clear o1
  go_wp2_with fail
  refine bodyPost_ret (v := .agg Y) (by simp [results, Tryz.results29, go_sem, *]) rfl (hO.out i L' _ _ vx vy hp2 ?_ (by rw [hY.out]) ((HS.out.turn TF.out (by simp; omega)).lower (by omega)) ?_)
  · exact HT.out.trans TF.out (fun i hi => .inr (by simp at hi; omega))
  · exact HR.out.turn1 TF.out hL
set_option maxHeartbeats 4000000 in
set_option maxRecDepth 20000 in
theorem item_cool {z rb tb lb : Nat} {c : Int} {L : List Tk} {o : Nat} (_hz : z ≤ 9223372036854775807) {t0 : Tk} (hx : nxt c L = .ok t0) (h0 : isT k_metric t0 = false) (h1 : isT k_reps t0 = false) (h2 : isT k_cooldown t0 = true) (w : World) (hr : Rea z w rb tb lb c L o) :
    Calls Tryz.prog 29 #[.pointer (some ⟨rb, 0, none⟩)] w (Out (VIt w.heap.size z) z w rb tb lb c o (coolP c t0.at_ L.tail)) := by
  obtain ⟨pr, hpr⟩ : ∃ pr, Hid (pr = coolP c t0.at_ L.tail) := ⟨_, rfl⟩
  rw [← hpr.out]
  have hE : Hid (∀ f w', pr = .error f → Turn [rb] w w' → Out (VIt w.heap.size z) z w rb tb lb c o pr (.panicked [fltE f]) w') := fun f w' h ht => Out.mk_err h ht
  have hO : Hid (∀ i L' w' v vx vy, pr = .ok (i, L') → Turn [rb] w w' → v = itA i vx vy → ItB w.heap.size z w' i vx vy → Rea z w' rb tb lb c L' o → Out (VIt w.heap.size z) z w rb tb lb c o pr (.returned v) w') := fun i L' w' v vx vy h ht hv hs hr' => Out.mk_ok h ht ⟨vx, vy, hv, hs⟩ hr'
  generalize Out (VIt w.heap.size z) z w rb tb lb c o pr = Post at *
  have hL := hr.lts
  have hne : w.heap.size ∉ [rb] := by simp; omega
  obtain ⟨m, hm19⟩ : ∃ m : Nat, Hid (m = 19) := ⟨_, rfl⟩
  have zs : ∀ w, (sizeOf 53).run Tryz.prog w = .ok m w := by rw [hm19.out]; exact Tryz.sizeOf53
  have zm : (19 = m) = True := eq_true hm19.out.symm
  have Z0 := Box.new w zs19 53
  go_enter Tryz.func29, Tryz.ntmps29
  go_wp2_with fail
  have T0 := tnO (ob := .cells (zs19).toArray 53) (Turn.refl [rb] w)
  have r0 := hr.onO (ob := .cells (zs19).toArray 53)
  have Rs0 := Z0
  have zsz : w.heap.size < (w.alloc (.cells (zs19).toArray 53)).heap.size := by simp
  have hz0 : (w.alloc (.cells (zs19).toArray 53)).heap.size = w.heap.size + 1 := by simp
  clear Z0
  generalize hW0 : w.alloc _ = w0 at *
  clear hW0
  clear hz0
  clear hr
  have HJ0 := fun W h => is_ok (z := z) (rb := rb) (tb := tb) (lb := lb) (o := o) hx k_metric W h
  rw [h0] at HJ0
  refine Calls.mono (HJ0 _ r0) ?_
  rintro e w1 ⟨rfl, b1⟩
  have t1 := Turn.of_below (S := [rb]) b1
  have r1 := r0.next b1
  have Rs1 := Rs0.turn t1 hne
  have T1 := tn T0 t1
  have s1 := t1.size
  clear Rs0 T0 r0 b1 t1
  go_wp2_with fail
  clear HJ0
  have HJ1 := fun W h => is_ok (z := z) (rb := rb) (tb := tb) (lb := lb) (o := o) hx k_reps W h
  rw [h1] at HJ1
  refine Calls.mono (HJ1 _ r1) ?_
  rintro e w2 ⟨rfl, b2⟩
  have t2 := Turn.of_below (S := [rb]) b2
  have r2 := r1.next b2
  have Rs2 := Rs1.turn t2 hne
  have T2 := tn T1 t2
  have s2 := t2.size
  clear Rs1 T1 r1 b2 t2
  go_wp2_with fail
  clear HJ1
  have HJ2 := fun W h => is_ok (z := z) (rb := rb) (tb := tb) (lb := lb) (o := o) hx k_cooldown W h
  rw [h2] at HJ2
  refine Calls.mono (HJ2 _ r2) ?_
  rintro e w3 ⟨rfl, b3⟩
  have t3 := Turn.of_below (S := [rb]) b3
  have r3 := r2.next b3
  have Rs3 := Rs2.turn t3 hne
  have T3 := tn T2 t3
  have s3 := t3.size
  clear Rs2 T2 r2 b3 t3
  go_wp2_with fail
  clear HJ2
  have HM := hid2 (cool_c _hz hx h2 _ r3)
  rw [← hpr.out] at HM
  refine Calls.mono HM.out ?_
  intro e w4 h4
  rcases outI_up T3 h4 with ⟨f, rfl, hp, ht⟩ | ⟨i, vx, vy, L', he, hp2, t4, S4, rr4⟩
  · go_wp2_with fail
    exact ⟨rfl, hE.out _ _ hp ht⟩
  obtain ⟨Y, hY⟩ : ∃ Y : Array Value, Hid (Y = (itC i vx vy).toArray) := ⟨_, rfl⟩
  have he2 : e = .returned (.agg Y) := by rw [he, hY.out]
  subst he2
  have Rs4 := Rs3.turn t4 hne
  have T4 := tn T3 t4
  have r4 := rr4
  have s4 := t4.size
  have HS := hid2 S4
  have o1 : Y.all (·.oneCell') = true := by rw [hY.out]; exact S4.one
  clear h4 t4 S4 HM rr4 he Rs3 T3 r3
  have sY : Y.size = 19 := by rw [hY.out]; rfl
  have one : ∀ v ∈ Y.toList, v.oneCell' = true := fun v hv => Array.all_eq_true_iff_forall_mem.1 (o1) v (by simpa using hv)
  have stY := st_at w.heap.size Y.toList 0 w4 _ Rs4 (by simp [sY]) one
  have TF := hid2 (putRow_turn w.heap.size Y.toList 0 w4)
  have BF := putRow_whole Rs4 (X := Y.toList) (by simp [sY])
  have ldF := ld_row (X := Y) BF rfl (n := m) (by simp [sY, hm19.out])
  have pl := Rs4.lt
  have HT := hid2 T4
  have HR := hid2 r4
  clear Rs4 T4 r4 BF one
  generalize hWF : putRow w4 w.heap.size 0 Y.toList = WF at *
  clear hWF
  clear o1
  go_wp2_with fail
  refine bodyPost_ret (v := .agg Y) (by simp [results, Tryz.results29, go_sem, *]) rfl (hO.out i L' _ _ vx vy hp2 ?_ (by rw [hY.out]) ((HS.out.turn TF.out (by simp; omega)).lower (by omega)) ?_)
  · exact HT.out.trans TF.out (fun i hi => .inr (by simp at hi; omega))
  · exact HR.out.turn1 TF.out hL
set_option maxHeartbeats 4000000 in
set_option maxRecDepth 20000 in
theorem item_let {z rb tb lb : Nat} {c : Int} {L : List Tk} {o : Nat} (_hz : z ≤ 9223372036854775807) {E : Ps} (HE : ExC z rb tb lb c o 21 E) {t0 : Tk} (hx : nxt c L = .ok t0) (h0 : isT k_metric t0 = false) (h1 : isT k_reps t0 = false) (h2 : isT k_cooldown t0 = false) (h3 : isT k_let t0 = true) (w : World) (hr : Rea z w rb tb lb c L o) :
    Calls Tryz.prog 29 #[.pointer (some ⟨rb, 0, none⟩)] w (Out (VIt w.heap.size z) z w rb tb lb c o (letP c E t0.at_ L.tail)) := by
  obtain ⟨pr, hpr⟩ : ∃ pr, Hid (pr = letP c E t0.at_ L.tail) := ⟨_, rfl⟩
  rw [← hpr.out]
  have hE : Hid (∀ f w', pr = .error f → Turn [rb] w w' → Out (VIt w.heap.size z) z w rb tb lb c o pr (.panicked [fltE f]) w') := fun f w' h ht => Out.mk_err h ht
  have hO : Hid (∀ i L' w' v vx vy, pr = .ok (i, L') → Turn [rb] w w' → v = itA i vx vy → ItB w.heap.size z w' i vx vy → Rea z w' rb tb lb c L' o → Out (VIt w.heap.size z) z w rb tb lb c o pr (.returned v) w') := fun i L' w' v vx vy h ht hv hs hr' => Out.mk_ok h ht ⟨vx, vy, hv, hs⟩ hr'
  generalize Out (VIt w.heap.size z) z w rb tb lb c o pr = Post at *
  have hL := hr.lts
  have hne : w.heap.size ∉ [rb] := by simp; omega
  obtain ⟨m, hm19⟩ : ∃ m : Nat, Hid (m = 19) := ⟨_, rfl⟩
  have zs : ∀ w, (sizeOf 53).run Tryz.prog w = .ok m w := by rw [hm19.out]; exact Tryz.sizeOf53
  have zm : (19 = m) = True := eq_true hm19.out.symm
  have Z0 := Box.new w zs19 53
  go_enter Tryz.func29, Tryz.ntmps29
  go_wp2_with fail
  have T0 := tnO (ob := .cells (zs19).toArray 53) (Turn.refl [rb] w)
  have r0 := hr.onO (ob := .cells (zs19).toArray 53)
  have Rs0 := Z0
  have zsz : w.heap.size < (w.alloc (.cells (zs19).toArray 53)).heap.size := by simp
  have hz0 : (w.alloc (.cells (zs19).toArray 53)).heap.size = w.heap.size + 1 := by simp
  clear Z0
  generalize hW0 : w.alloc _ = w0 at *
  clear hW0
  clear hz0
  clear hr
  have HJ0 := fun W h => is_ok (z := z) (rb := rb) (tb := tb) (lb := lb) (o := o) hx k_metric W h
  rw [h0] at HJ0
  refine Calls.mono (HJ0 _ r0) ?_
  rintro e w1 ⟨rfl, b1⟩
  have t1 := Turn.of_below (S := [rb]) b1
  have r1 := r0.next b1
  have Rs1 := Rs0.turn t1 hne
  have T1 := tn T0 t1
  have s1 := t1.size
  clear Rs0 T0 r0 b1 t1
  go_wp2_with fail
  clear HJ0
  have HJ1 := fun W h => is_ok (z := z) (rb := rb) (tb := tb) (lb := lb) (o := o) hx k_reps W h
  rw [h1] at HJ1
  refine Calls.mono (HJ1 _ r1) ?_
  rintro e w2 ⟨rfl, b2⟩
  have t2 := Turn.of_below (S := [rb]) b2
  have r2 := r1.next b2
  have Rs2 := Rs1.turn t2 hne
  have T2 := tn T1 t2
  have s2 := t2.size
  clear Rs1 T1 r1 b2 t2
  go_wp2_with fail
  clear HJ1
  have HJ2 := fun W h => is_ok (z := z) (rb := rb) (tb := tb) (lb := lb) (o := o) hx k_cooldown W h
  rw [h2] at HJ2
  refine Calls.mono (HJ2 _ r2) ?_
  rintro e w3 ⟨rfl, b3⟩
  have t3 := Turn.of_below (S := [rb]) b3
  have r3 := r2.next b3
  have Rs3 := Rs2.turn t3 hne
  have T3 := tn T2 t3
  have s3 := t3.size
  clear Rs2 T2 r2 b3 t3
  go_wp2_with fail
  clear HJ2
  have HJ3 := fun W h => is_ok (z := z) (rb := rb) (tb := tb) (lb := lb) (o := o) hx k_let W h
  rw [h3] at HJ3
  refine Calls.mono (HJ3 _ r3) ?_
  rintro e w4 ⟨rfl, b4⟩
  have t4 := Turn.of_below (S := [rb]) b4
  have r4 := r3.next b4
  have Rs4 := Rs3.turn t4 hne
  have T4 := tn T3 t4
  have s4 := t4.size
  clear Rs3 T3 r3 b4 t4
  go_wp2_with fail
  clear HJ3
  have HM := hid2 (let_c _hz HE hx h3 _ r4)
  rw [← hpr.out] at HM
  refine Calls.mono HM.out ?_
  intro e w5 h5
  rcases outI_up T4 h5 with ⟨f, rfl, hp, ht⟩ | ⟨i, vx, vy, L', he, hp2, t5, S5, rr5⟩
  · go_wp2_with fail
    exact ⟨rfl, hE.out _ _ hp ht⟩
  obtain ⟨Y, hY⟩ : ∃ Y : Array Value, Hid (Y = (itC i vx vy).toArray) := ⟨_, rfl⟩
  have he2 : e = .returned (.agg Y) := by rw [he, hY.out]
  subst he2
  have Rs5 := Rs4.turn t5 hne
  have T5 := tn T4 t5
  have r5 := rr5
  have s5 := t5.size
  have HS := hid2 S5
  have o1 : Y.all (·.oneCell') = true := by rw [hY.out]; exact S5.one
  clear h5 t5 S5 HM rr5 he Rs4 T4 r4
  have sY : Y.size = 19 := by rw [hY.out]; rfl
  have one : ∀ v ∈ Y.toList, v.oneCell' = true := fun v hv => Array.all_eq_true_iff_forall_mem.1 (o1) v (by simpa using hv)
  have stY := st_at w.heap.size Y.toList 0 w5 _ Rs5 (by simp [sY]) one
  have TF := hid2 (putRow_turn w.heap.size Y.toList 0 w5)
  have BF := putRow_whole Rs5 (X := Y.toList) (by simp [sY])
  have ldF := ld_row (X := Y) BF rfl (n := m) (by simp [sY, hm19.out])
  have pl := Rs5.lt
  have HT := hid2 T5
  have HR := hid2 r5
  clear Rs5 T5 r5 BF one
  generalize hWF : putRow w5 w.heap.size 0 Y.toList = WF at *
  clear hWF
  clear o1
  go_wp2_with fail
  refine bodyPost_ret (v := .agg Y) (by simp [results, Tryz.results29, go_sem, *]) rfl (hO.out i L' _ _ vx vy hp2 ?_ (by rw [hY.out]) ((HS.out.turn TF.out (by simp; omega)).lower (by omega)) ?_)
  · exact HT.out.trans TF.out (fun i hi => .inr (by simp at hi; omega))
  · exact HR.out.turn1 TF.out hL
set_option maxHeartbeats 4000000 in
set_option maxRecDepth 20000 in
theorem item_guard {z rb tb lb : Nat} {c : Int} {L : List Tk} {o : Nat} (_hz : z ≤ 9223372036854775807) {E : Ps} (HE : ExC z rb tb lb c o 21 E) {A : Ps} {N : Nat} (HA : AcC z rb tb lb c o N 53 A) (hN : L.length ≤ N) (hDE : Dec E) {t0 : Tk} (hx : nxt c L = .ok t0) (h0 : isT k_metric t0 = false) (h1 : isT k_reps t0 = false) (h2 : isT k_cooldown t0 = false) (h3 : isT k_let t0 = false) (h4 : isT k_guard t0 = true) (w : World) (hr : Rea z w rb tb lb c L o) :
    Calls Tryz.prog 29 #[.pointer (some ⟨rb, 0, none⟩)] w (Out (VIt w.heap.size z) z w rb tb lb c o (guardP c E A t0.at_ L.tail)) := by
  obtain ⟨pr, hpr⟩ : ∃ pr, Hid (pr = guardP c E A t0.at_ L.tail) := ⟨_, rfl⟩
  rw [← hpr.out]
  have hE : Hid (∀ f w', pr = .error f → Turn [rb] w w' → Out (VIt w.heap.size z) z w rb tb lb c o pr (.panicked [fltE f]) w') := fun f w' h ht => Out.mk_err h ht
  have hO : Hid (∀ i L' w' v vx vy, pr = .ok (i, L') → Turn [rb] w w' → v = itA i vx vy → ItB w.heap.size z w' i vx vy → Rea z w' rb tb lb c L' o → Out (VIt w.heap.size z) z w rb tb lb c o pr (.returned v) w') := fun i L' w' v vx vy h ht hv hs hr' => Out.mk_ok h ht ⟨vx, vy, hv, hs⟩ hr'
  generalize Out (VIt w.heap.size z) z w rb tb lb c o pr = Post at *
  have hL := hr.lts
  have hne : w.heap.size ∉ [rb] := by simp; omega
  obtain ⟨m, hm19⟩ : ∃ m : Nat, Hid (m = 19) := ⟨_, rfl⟩
  have zs : ∀ w, (sizeOf 53).run Tryz.prog w = .ok m w := by rw [hm19.out]; exact Tryz.sizeOf53
  have zm : (19 = m) = True := eq_true hm19.out.symm
  have Z0 := Box.new w zs19 53
  go_enter Tryz.func29, Tryz.ntmps29
  go_wp2_with fail
  have T0 := tnO (ob := .cells (zs19).toArray 53) (Turn.refl [rb] w)
  have r0 := hr.onO (ob := .cells (zs19).toArray 53)
  have Rs0 := Z0
  have zsz : w.heap.size < (w.alloc (.cells (zs19).toArray 53)).heap.size := by simp
  have hz0 : (w.alloc (.cells (zs19).toArray 53)).heap.size = w.heap.size + 1 := by simp
  clear Z0
  generalize hW0 : w.alloc _ = w0 at *
  clear hW0
  clear hz0
  clear hr
  have HJ0 := fun W h => is_ok (z := z) (rb := rb) (tb := tb) (lb := lb) (o := o) hx k_metric W h
  rw [h0] at HJ0
  refine Calls.mono (HJ0 _ r0) ?_
  rintro e w1 ⟨rfl, b1⟩
  have t1 := Turn.of_below (S := [rb]) b1
  have r1 := r0.next b1
  have Rs1 := Rs0.turn t1 hne
  have T1 := tn T0 t1
  have s1 := t1.size
  clear Rs0 T0 r0 b1 t1
  go_wp2_with fail
  clear HJ0
  have HJ1 := fun W h => is_ok (z := z) (rb := rb) (tb := tb) (lb := lb) (o := o) hx k_reps W h
  rw [h1] at HJ1
  refine Calls.mono (HJ1 _ r1) ?_
  rintro e w2 ⟨rfl, b2⟩
  have t2 := Turn.of_below (S := [rb]) b2
  have r2 := r1.next b2
  have Rs2 := Rs1.turn t2 hne
  have T2 := tn T1 t2
  have s2 := t2.size
  clear Rs1 T1 r1 b2 t2
  go_wp2_with fail
  clear HJ1
  have HJ2 := fun W h => is_ok (z := z) (rb := rb) (tb := tb) (lb := lb) (o := o) hx k_cooldown W h
  rw [h2] at HJ2
  refine Calls.mono (HJ2 _ r2) ?_
  rintro e w3 ⟨rfl, b3⟩
  have t3 := Turn.of_below (S := [rb]) b3
  have r3 := r2.next b3
  have Rs3 := Rs2.turn t3 hne
  have T3 := tn T2 t3
  have s3 := t3.size
  clear Rs2 T2 r2 b3 t3
  go_wp2_with fail
  clear HJ2
  have HJ3 := fun W h => is_ok (z := z) (rb := rb) (tb := tb) (lb := lb) (o := o) hx k_let W h
  rw [h3] at HJ3
  refine Calls.mono (HJ3 _ r3) ?_
  rintro e w4 ⟨rfl, b4⟩
  have t4 := Turn.of_below (S := [rb]) b4
  have r4 := r3.next b4
  have Rs4 := Rs3.turn t4 hne
  have T4 := tn T3 t4
  have s4 := t4.size
  clear Rs3 T3 r3 b4 t4
  go_wp2_with fail
  clear HJ3
  have HJ4 := fun W h => is_ok (z := z) (rb := rb) (tb := tb) (lb := lb) (o := o) hx k_guard W h
  rw [h4] at HJ4
  refine Calls.mono (HJ4 _ r4) ?_
  rintro e w5 ⟨rfl, b5⟩
  have t5 := Turn.of_below (S := [rb]) b5
  have r5 := r4.next b5
  have Rs5 := Rs4.turn t5 hne
  have T5 := tn T4 t5
  have s5 := t5.size
  clear Rs4 T4 r4 b5 t5
  go_wp2_with fail
  clear HJ4
  have HM := hid2 (guard_c _hz HE HA hDE hN hx h4 _ r5)
  rw [← hpr.out] at HM
  refine Calls.mono HM.out ?_
  intro e w6 h6
  rcases outI_up T5 h6 with ⟨f, rfl, hp, ht⟩ | ⟨i, vx, vy, L', he, hp2, t6, S6, rr6⟩
  · go_wp2_with fail
    exact ⟨rfl, hE.out _ _ hp ht⟩
  obtain ⟨Y, hY⟩ : ∃ Y : Array Value, Hid (Y = (itC i vx vy).toArray) := ⟨_, rfl⟩
  have he2 : e = .returned (.agg Y) := by rw [he, hY.out]
  subst he2
  have Rs6 := Rs5.turn t6 hne
  have T6 := tn T5 t6
  have r6 := rr6
  have s6 := t6.size
  have HS := hid2 S6
  have o1 : Y.all (·.oneCell') = true := by rw [hY.out]; exact S6.one
  clear h6 t6 S6 HM rr6 he Rs5 T5 r5
  have sY : Y.size = 19 := by rw [hY.out]; rfl
  have one : ∀ v ∈ Y.toList, v.oneCell' = true := fun v hv => Array.all_eq_true_iff_forall_mem.1 (o1) v (by simpa using hv)
  have stY := st_at w.heap.size Y.toList 0 w6 _ Rs6 (by simp [sY]) one
  have TF := hid2 (putRow_turn w.heap.size Y.toList 0 w6)
  have BF := putRow_whole Rs6 (X := Y.toList) (by simp [sY])
  have ldF := ld_row (X := Y) BF rfl (n := m) (by simp [sY, hm19.out])
  have pl := Rs6.lt
  have HT := hid2 T6
  have HR := hid2 r6
  clear Rs6 T6 r6 BF one
  generalize hWF : putRow w6 w.heap.size 0 Y.toList = WF at *
  clear hWF
  clear o1
  go_wp2_with fail
  refine bodyPost_ret (v := .agg Y) (by simp [results, Tryz.results29, go_sem, *]) rfl (hO.out i L' _ _ vx vy hp2 ?_ (by rw [hY.out]) ((HS.out.turn TF.out (by simp; omega)).lower (by omega)) ?_)
  · exact HT.out.trans TF.out (fun i hi => .inr (by simp at hi; omega))
  · exact HR.out.turn1 TF.out hL
set_option maxHeartbeats 4000000 in
set_option maxRecDepth 20000 in
theorem item_decide {z rb tb lb : Nat} {c : Int} {L : List Tk} {o : Nat} (_hz : z ≤ 9223372036854775807) {A : Ps} {N : Nat} (HA : AcC z rb tb lb c o N 53 A) (hN : L.length ≤ N) {t0 : Tk} (hx : nxt c L = .ok t0) (h0 : isT k_metric t0 = false) (h1 : isT k_reps t0 = false) (h2 : isT k_cooldown t0 = false) (h3 : isT k_let t0 = false) (h4 : isT k_guard t0 = false) (h5 : isT k_decide t0 = true) (w : World) (hr : Rea z w rb tb lb c L o) :
    Calls Tryz.prog 29 #[.pointer (some ⟨rb, 0, none⟩)] w (Out (VIt w.heap.size z) z w rb tb lb c o (decideP A t0.at_ L.tail)) := by
  obtain ⟨pr, hpr⟩ : ∃ pr, Hid (pr = decideP A t0.at_ L.tail) := ⟨_, rfl⟩
  rw [← hpr.out]
  have hE : Hid (∀ f w', pr = .error f → Turn [rb] w w' → Out (VIt w.heap.size z) z w rb tb lb c o pr (.panicked [fltE f]) w') := fun f w' h ht => Out.mk_err h ht
  have hO : Hid (∀ i L' w' v vx vy, pr = .ok (i, L') → Turn [rb] w w' → v = itA i vx vy → ItB w.heap.size z w' i vx vy → Rea z w' rb tb lb c L' o → Out (VIt w.heap.size z) z w rb tb lb c o pr (.returned v) w') := fun i L' w' v vx vy h ht hv hs hr' => Out.mk_ok h ht ⟨vx, vy, hv, hs⟩ hr'
  generalize Out (VIt w.heap.size z) z w rb tb lb c o pr = Post at *
  have hL := hr.lts
  have hne : w.heap.size ∉ [rb] := by simp; omega
  have hm1 := mustS_of hx h5
  have hLN : L.tail.length ≤ N := Nat.le_trans (tail_le L) hN
  obtain ⟨m, hm19⟩ : ∃ m : Nat, Hid (m = 19) := ⟨_, rfl⟩
  have zs : ∀ w, (sizeOf 53).run Tryz.prog w = .ok m w := by rw [hm19.out]; exact Tryz.sizeOf53
  have zm : (19 = m) = True := eq_true hm19.out.symm
  have Z0 := Box.new w zs19 53
  go_enter Tryz.func29, Tryz.ntmps29
  go_wp2_with fail
  have T0 := tnO (ob := .cells (zs19).toArray 53) (Turn.refl [rb] w)
  have r0 := hr.onO (ob := .cells (zs19).toArray 53)
  have Rs0 := Z0
  have zsz : w.heap.size < (w.alloc (.cells (zs19).toArray 53)).heap.size := by simp
  have hz0 : (w.alloc (.cells (zs19).toArray 53)).heap.size = w.heap.size + 1 := by simp
  clear Z0
  generalize hW0 : w.alloc _ = w0 at *
  clear hW0
  clear hz0
  clear hr
  have HJ0 := fun W h => is_ok (z := z) (rb := rb) (tb := tb) (lb := lb) (o := o) hx k_metric W h
  rw [h0] at HJ0
  refine Calls.mono (HJ0 _ r0) ?_
  rintro e w1 ⟨rfl, b1⟩
  have t1 := Turn.of_below (S := [rb]) b1
  have r1 := r0.next b1
  have Rs1 := Rs0.turn t1 hne
  have T1 := tn T0 t1
  have s1 := t1.size
  clear Rs0 T0 r0 b1 t1
  go_wp2_with fail
  clear HJ0
  have HJ1 := fun W h => is_ok (z := z) (rb := rb) (tb := tb) (lb := lb) (o := o) hx k_reps W h
  rw [h1] at HJ1
  refine Calls.mono (HJ1 _ r1) ?_
  rintro e w2 ⟨rfl, b2⟩
  have t2 := Turn.of_below (S := [rb]) b2
  have r2 := r1.next b2
  have Rs2 := Rs1.turn t2 hne
  have T2 := tn T1 t2
  have s2 := t2.size
  clear Rs1 T1 r1 b2 t2
  go_wp2_with fail
  clear HJ1
  have HJ2 := fun W h => is_ok (z := z) (rb := rb) (tb := tb) (lb := lb) (o := o) hx k_cooldown W h
  rw [h2] at HJ2
  refine Calls.mono (HJ2 _ r2) ?_
  rintro e w3 ⟨rfl, b3⟩
  have t3 := Turn.of_below (S := [rb]) b3
  have r3 := r2.next b3
  have Rs3 := Rs2.turn t3 hne
  have T3 := tn T2 t3
  have s3 := t3.size
  clear Rs2 T2 r2 b3 t3
  go_wp2_with fail
  clear HJ2
  have HJ3 := fun W h => is_ok (z := z) (rb := rb) (tb := tb) (lb := lb) (o := o) hx k_let W h
  rw [h3] at HJ3
  refine Calls.mono (HJ3 _ r3) ?_
  rintro e w4 ⟨rfl, b4⟩
  have t4 := Turn.of_below (S := [rb]) b4
  have r4 := r3.next b4
  have Rs4 := Rs3.turn t4 hne
  have T4 := tn T3 t4
  have s4 := t4.size
  clear Rs3 T3 r3 b4 t4
  go_wp2_with fail
  clear HJ3
  have HJ4 := fun W h => is_ok (z := z) (rb := rb) (tb := tb) (lb := lb) (o := o) hx k_guard W h
  rw [h4] at HJ4
  refine Calls.mono (HJ4 _ r4) ?_
  rintro e w5 ⟨rfl, b5⟩
  have t5 := Turn.of_below (S := [rb]) b5
  have r5 := r4.next b5
  have Rs5 := Rs4.turn t5 hne
  have T5 := tn T4 t5
  have s5 := t5.size
  clear Rs4 T4 r4 b5 t5
  go_wp2_with fail
  clear HJ4
  have HJ5 := fun W h => is_ok (z := z) (rb := rb) (tb := tb) (lb := lb) (o := o) hx k_decide W h
  rw [h5] at HJ5
  refine Calls.mono (HJ5 _ r5) ?_
  rintro e w6 ⟨rfl, b6⟩
  have t6 := Turn.of_below (S := [rb]) b6
  have r6 := r5.next b6
  have Rs6 := Rs5.turn t6 hne
  have T6 := tn T5 t6
  have s6 := t6.size
  clear Rs5 T5 r5 b6 t6
  go_wp2_with fail
  clear HJ5
  rw [decideP] at hpr
  refine Calls.mono (must_c k_decide _ r6) ?_
  rintro e w7 h7
  obtain ⟨t7, _, rfl, rfl, r7⟩ := Out.of_ok hm1 h7
  have Rs7 := Rs6.turn t7 hne
  have T7 := tn T6 t7
  have s7 := t7.size
  clear Rs6 T6 r6 h7 t7
  go_wp2_with fail
  refine Calls.mono (HA _ hLN _ r7) ?_
  rintro e w8 h8
  rcases hy1 : A L.tail with f | q
  · obtain ⟨rfl, t8⟩ := Out.of_err hy1 h8
    go_wp2_with fail
    exact ⟨rfl, hE.out _ _ (by rw [hpr.out, hy1]; rfl) (tn T7 t8)⟩
  obtain ⟨t8, _, rfl, ⟨u8, rfl, S8⟩, r8⟩ := Out.of_ok hy1 h8
  have Rs8 := Rs7.turn t8 hne
  have T8 := tn T7 t8
  have s8 := t8.size
  clear Rs7 T7 r7 h8 t8
  have hpr1 : Hid (pr = .ok (itm 7 noB noB 0 0 0 nilM q.1 t0.at_, q.2)) := by show _ = _; rw [hpr.out, hy1]; rfl
  simp only [tmV]
  obtain ⟨av, cv, hu, -, -⟩ := S8.parts.shape
  subst hu
  have HS := hid2 S8
  clear S8
  generalize hnn : q.1.parts.length = nn at *
  obtain ⟨Y, hY⟩ : ∃ Y : Array Value, Hid (Y = (itC ⟨7, ⟨#[]⟩, ⟨#[]⟩, 0, 0, 0, nilM, q.1, (t0.at_ : Int)⟩ (.slice none 0 0) (.slice av nn cv)).toArray) := ⟨_, rfl⟩
  have o1 : Y.all (·.oneCell') = true := by rw [hY.out]; kernel_rfl
  have sY : Y.size = 19 := by rw [hY.out]; rfl
  have one : ∀ v ∈ Y.toList, v.oneCell' = true := fun v hv => Array.all_eq_true_iff_forall_mem.1 (o1) v (by simpa using hv)
  have stY := st_at w.heap.size Y.toList 0 w8 _ Rs8 (by simp [sY]) one
  have TF := hid2 (putRow_turn w.heap.size Y.toList 0 w8)
  have BF := putRow_whole Rs8 (X := Y.toList) (by simp [sY])
  have ldF := ld_row (X := Y) BF rfl (n := m) (by simp [sY, hm19.out])
  have pl := Rs8.lt
  have HT := hid2 T8
  have HR := hid2 r8
  clear Rs8 T8 r8 BF one
  generalize hWF : putRow w8 w.heap.size 0 Y.toList = WF at *
  clear hWF
  clear o1
  go_wp2_with (refine wpList_it3 rfl _ _ _ rfl 7 (t0.at_ : Int) q.1 (.slice av nn cv) rfl rfl rfl Y hY.out ?_)
  refine bodyPost_ret (v := .agg Y) (by simp [results, Tryz.results29, go_sem, *]) rfl (hO.out ⟨7, ⟨#[]⟩, ⟨#[]⟩, 0, 0, 0, nilM, q.1, (t0.at_ : Int)⟩ q.2 _ _ (.slice none 0 0) (.slice av nn cv) (hpr1.out) ?_ (by rw [hY.out]) ⟨nil_sits z _, SitB.lower (SitB.turn HS.out TF.out (by simp; omega)) (by omega), Nat.zero_le _, Nat.zero_le _⟩ ?_)
  · exact HT.out.trans TF.out (fun i hi => .inr (by simp at hi; omega))
  · exact HR.out.turn1 TF.out hL
set_option maxHeartbeats 1000000 in
theorem item_no {z rb tb lb : Nat} {c : Int} {L : List Tk} {o : Nat} {f : Flt} (hx : nxt c L = .error f) (w : World) (hr : Rea z w rb tb lb c L o) :
    Calls Tryz.prog 29 #[.pointer (some ⟨rb, 0, none⟩)] w fun e w' => e = .panicked [fltE f] ∧ Below w.heap.size w w' := by
  have HN := hid2 (is_err hx k_metric _ (hr.onO (ob := .cells (zs19).toArray 53)))
  clear hr hx
  go_enter Tryz.func29, Tryz.ntmps29
  go_wp2_with fail
  refine Calls.mono HN.out ?_
  rintro e w1 ⟨rfl, b1⟩
  go_wp2_with fail
  exact ⟨rfl, rfl, below_on ((Below.refl _ _).alloc (Nat.le_refl _) _) b1 (by simp)⟩
set_option maxHeartbeats 1000000 in
theorem item_else {z rb tb lb : Nat} {c : Int} {L : List Tk} {o : Nat} {t0 : Tk} (hx : nxt c L = .ok t0) (h0 : isT k_metric t0 = false) (h1 : isT k_reps t0 = false) (h2 : isT k_cooldown t0 = false) (h3 : isT k_let t0 = false) (h4 : isT k_guard t0 = false) (h5 : isT k_decide t0 = false) (w : World) (hr : Rea z w rb tb lb c L o) :
    Calls Tryz.prog 29 #[.pointer (some ⟨rb, 0, none⟩)] w fun e w' => e = .panicked [fltE (t0.at_, 16)] ∧ Below w.heap.size w w' := by
  have b0 := (Below.refl w.heap.size w).alloc (Nat.le_refl _) (.cells (zs19).toArray 53)
  have H0 := hid2 (fun W (k : Below w.heap.size w W) => is_ok hx k_metric W (hr.next k))
  rw [h0] at H0
  have H1 := hid2 (fun W (k : Below w.heap.size w W) => is_ok hx k_reps W (hr.next k))
  rw [h1] at H1
  have H2 := hid2 (fun W (k : Below w.heap.size w W) => is_ok hx k_cooldown W (hr.next k))
  rw [h2] at H2
  have H3 := hid2 (fun W (k : Below w.heap.size w W) => is_ok hx k_let W (hr.next k))
  rw [h3] at H3
  have H4 := hid2 (fun W (k : Below w.heap.size w W) => is_ok hx k_guard W (hr.next k))
  rw [h4] at H4
  have H5 := hid2 (fun W (k : Below w.heap.size w W) => is_ok hx k_decide W (hr.next k))
  rw [h5] at H5
  have HU := hid2 (fun W (k : Below w.heap.size w W) => unfit_ok hx W (hr.next k))
  clear hr hx h0 h1 h2 h3 h4 h5
  go_enter Tryz.func29, Tryz.ntmps29
  go_wp2_with fail
  refine Calls.mono (H0.out _ b0) ?_
  rintro e w1 ⟨rfl, c1⟩
  have b1 := below_on b0 c1 b0.size
  go_wp2_with fail
  refine Calls.mono (H1.out _ b1) ?_
  rintro e w2 ⟨rfl, c2⟩
  have b2 := below_on b1 c2 b1.size
  go_wp2_with fail
  refine Calls.mono (H2.out _ b2) ?_
  rintro e w3 ⟨rfl, c3⟩
  have b3 := below_on b2 c3 b2.size
  go_wp2_with fail
  refine Calls.mono (H3.out _ b3) ?_
  rintro e w4 ⟨rfl, c4⟩
  have b4 := below_on b3 c4 b3.size
  go_wp2_with fail
  refine Calls.mono (H4.out _ b4) ?_
  rintro e w5 ⟨rfl, c5⟩
  have b5 := below_on b4 c5 b4.size
  go_wp2_with fail
  refine Calls.mono (H5.out _ b5) ?_
  rintro e w6 ⟨rfl, c6⟩
  have b6 := below_on b5 c6 b5.size
  go_wp2_with fail
  refine Calls.mono (HU.out _ b6) ?_
  rintro e w7 ⟨rfl, c7⟩
  go_wp2_with fail
  exact ⟨rfl, rfl, below_on b6 c7 b6.size⟩
theorem item_c {z rb tb lb : Nat} {c : Int} {o N : Nat} (hz : z ≤ 9223372036854775807) {E A : Ps} (HE : ExC z rb tb lb c o 21 E) (hDE : Dec E) (HA : AcC z rb tb lb c o N 53 A) {L : List Tk} (hN : L.length ≤ N) (w : World) (hr : Rea z w rb tb lb c L o) :
    Calls Tryz.prog 29 #[.pointer (some ⟨rb, 0, none⟩)] w (Out (VIt w.heap.size z) z w rb tb lb c o (itemP c E A L)) := by
  unfold itemP
  rcases hx : nxt c L with f | t0
  · exact (item_no hx w hr).mono fun e w' ⟨h1, h2⟩ => h1 ▸ Out.mk_err rfl (Turn.of_below h2)
  · rw [bnd_ok]
    cases h0 : isT k_metric t0 with
    | true => rw [if_pos rfl]; exact item_metric hz hx h0 w hr
    | false =>
      rw [if_neg (by simp)]
      cases h1 : isT k_reps t0 with
      | true => rw [if_pos rfl]; exact item_reps hz hx h0 h1 w hr
      | false =>
        rw [if_neg (by simp)]
        cases h2 : isT k_cooldown t0 with
        | true => rw [if_pos rfl]; exact item_cool hz hx h0 h1 h2 w hr
        | false =>
          rw [if_neg (by simp)]
          cases h3 : isT k_let t0 with
          | true => rw [if_pos rfl]; exact item_let hz HE hx h0 h1 h2 h3 w hr
          | false =>
            rw [if_neg (by simp)]
            cases h4 : isT k_guard t0 with
            | true => rw [if_pos rfl]; exact item_guard hz HE HA hN hDE hx h0 h1 h2 h3 h4 w hr
            | false =>
              rw [if_neg (by simp)]
              cases h5 : isT k_decide t0 with
              | true => rw [if_pos rfl]; exact item_decide hz HA hN hx h0 h1 h2 h3 h4 h5 w hr
              | false =>
                rw [if_neg (by simp)]
                exact (item_else hx h0 h1 h2 h3 h4 h5 w hr).mono fun e w' ⟨g1, g2⟩ => g1 ▸ Out.mk_err rfl (Turn.of_below g2)
end Go.Proofs.YtecdfnpbcabdnaaGreatDoor
