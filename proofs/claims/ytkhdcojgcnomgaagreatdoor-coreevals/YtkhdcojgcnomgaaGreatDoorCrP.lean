/- The document's Eval: leaves. -/
import Derived.Test.YtkhdcojgcnomgaaGreatDoorCrM
namespace Go.Proofs.YtkhdcojgcnomgaaGreatDoor
open Go.RowKit

theorem wins_open {w : World} {v : Value} {l : List (Int × Int)} (h : WinsAt w v l) {i : Nat} (hi : i < l.length) : ∃ b off cap, v = .slice (some ⟨b, off, none⟩) l.length cap ∧ b < w.heap.size ∧ w.cell? ⟨b, off + i * 2, none⟩ = some (.int .i64 (l.getD i (0, 0)).1) ∧ w.cell? ⟨b, off + i * 2 + 1, none⟩ = some (.int .i64 (l.getD i (0, 0)).2) := by
  obtain ⟨ad, cap, rfl, h | ⟨b, off, rfl, hb, hc⟩⟩ := h
  · rw [h] at hi; simp at hi
  · exact ⟨b, off, cap, rfl, hb, (hc i hi).1, (hc i hi).2⟩
theorem crons_open {w : World} {v : Value} {l : List Bool} (h : CronsAt w v l) {i : Nat} (hi : i < l.length) : ∃ b off cap, v = .slice (some ⟨b, off, none⟩) l.length cap ∧ b < w.heap.size ∧ w.cell? ⟨b, off + i, none⟩ = some (.bool (l.getD i false)) := by
  obtain ⟨ad, cap, rfl, h | ⟨b, off, rfl, hb, hc⟩⟩ := h
  · rw [h] at hi; simp at hi
  · exact ⟨b, off, cap, rfl, hb, hc i hi⟩
set_option maxHeartbeats 8000000 in
set_option maxRecDepth 20000 in
theorem rEval_1 (E : EnvP) (n m : Int)  : REv E ⟨1, n, m, []⟩ := by
  intro v v1 v2 w hs he
  have HE := chid he
  obtain ⟨⟨o1, o2⟩, ⟨n1, n2⟩, m1, m2⟩ := hs.fit
  dsimp only at n1 n2 m1 m2
  obtain ⟨ad, cap, rfl, -, -⟩ := hs.parts.shape
  obtain ⟨a1, c1, a2, c2, rfl, rfl⟩ := he.shape
  obtain ⟨Y0, Y1, Y2, B0⟩ := three_boxes w 24 48 51 (coL ⟨1, n, m, []⟩ (.slice ad 0 cap)) [.int .i64 E.rep, .slice a1 E.wins.length c1, .slice a2 E.crons.length c2] [.int .i64 0, .int .i64 0]
  have X2 := chid Y2
  have HB0 := chid B0
  have c0 := Y0.cell 0 _ rfl
  have c1' := Y0.cell 1 _ rfl
  have lc := Y0.lt
  have e0 := Y1.cell 0 _ rfl
  have e1 := Y1.cell 1 _ rfl
  have e2 := Y1.cell 2 _ rfl
  have le := Y1.lt
  dsimp only at c0 c1'
  have q0 := Y2.cell 0 _ rfl
  have q1 := Y2.cell 1 _ rfl
  have q2 := Y2.free 0 (by simp)
  have q3 := Y2.free 1 (by simp)
  have ql := Y2.lt
  obtain ⟨Q, hQ⟩ : ∃ Q, Hid (Q = telV E ⟨1, n, m, []⟩) := ⟨_, chid rfl⟩
  rw [← hQ.out]
  have hQr : Hid (Q = okR n) := by show _ = _; rw [hQ.out, telV_eq]; rfl
  clear hs he Y0 Y1 Y2 B0 hQ
  go_enter Tryz.func24, Tryz.ntmps24
  go_wp2_with fail
  refine Calls.mono (rnum_c _ _) ?_
  rintro e w2 ⟨rfl, b2⟩
  have HB2 := chid (cbelow_on HB0.out b2 HB0.out.size)
  replace X2 := chid (X2.out.next b2)
  clear b2
  replace q0 := X2.out.cell 0 _ rfl
  replace q1 := X2.out.cell 1 _ rfl
  replace q2 := X2.out.free 0 (by simp)
  replace q3 := X2.out.free 1 (by simp)
  replace ql := X2.out.lt
  go_wp2_with fail
  refine bodyPost_ret (v := reV (okR n)) (by simp [results, Tryz.results24, go_sem, *]) rfl ?_
  exact ⟨by rw [hQr.out], (HB2.out.setCell (p := ⟨w.heap.size + 1 + 1, 0, none⟩) (by simp; omega) _).setCell (p := ⟨w.heap.size + 1 + 1, 1, none⟩) (by simp; omega) _⟩
set_option maxHeartbeats 8000000 in
set_option maxRecDepth 20000 in
theorem rEval_2 (E : EnvP) (n m : Int)  : REv E ⟨2, n, m, []⟩ := by
  intro v v1 v2 w hs he
  have HE := chid he
  obtain ⟨⟨o1, o2⟩, ⟨n1, n2⟩, m1, m2⟩ := hs.fit
  dsimp only at n1 n2 m1 m2
  obtain ⟨ad, cap, rfl, -, -⟩ := hs.parts.shape
  obtain ⟨a1, c1, a2, c2, rfl, rfl⟩ := he.shape
  obtain ⟨Y0, Y1, Y2, B0⟩ := three_boxes w 24 48 51 (coL ⟨2, n, m, []⟩ (.slice ad 0 cap)) [.int .i64 E.rep, .slice a1 E.wins.length c1, .slice a2 E.crons.length c2] [.int .i64 0, .int .i64 0]
  have X2 := chid Y2
  have HB0 := chid B0
  have c0 := Y0.cell 0 _ rfl
  have c1' := Y0.cell 1 _ rfl
  have lc := Y0.lt
  have e0 := Y1.cell 0 _ rfl
  have e1 := Y1.cell 1 _ rfl
  have e2 := Y1.cell 2 _ rfl
  have le := Y1.lt
  dsimp only at c0 c1'
  have q0 := Y2.cell 0 _ rfl
  have q1 := Y2.cell 1 _ rfl
  have q2 := Y2.free 0 (by simp)
  have q3 := Y2.free 1 (by simp)
  have ql := Y2.lt
  obtain ⟨Q, hQ⟩ : ∃ Q, Hid (Q = telV E ⟨2, n, m, []⟩) := ⟨_, chid rfl⟩
  rw [← hQ.out]
  have hQr : Hid (Q = okR n) := by show _ = _; rw [hQ.out, telV_eq]; rfl
  clear hs he Y0 Y1 Y2 B0 hQ
  go_enter Tryz.func24, Tryz.ntmps24
  go_wp2_with fail
  refine Calls.mono (rnum_c _ _) ?_
  rintro e w2 ⟨rfl, b2⟩
  have HB2 := chid (cbelow_on HB0.out b2 HB0.out.size)
  replace X2 := chid (X2.out.next b2)
  clear b2
  replace q0 := X2.out.cell 0 _ rfl
  replace q1 := X2.out.cell 1 _ rfl
  replace q2 := X2.out.free 0 (by simp)
  replace q3 := X2.out.free 1 (by simp)
  replace ql := X2.out.lt
  go_wp2_with fail
  refine bodyPost_ret (v := reV (okR n)) (by simp [results, Tryz.results24, go_sem, *]) rfl ?_
  exact ⟨by rw [hQr.out], (HB2.out.setCell (p := ⟨w.heap.size + 1 + 1, 0, none⟩) (by simp; omega) _).setCell (p := ⟨w.heap.size + 1 + 1, 1, none⟩) (by simp; omega) _⟩
set_option maxHeartbeats 8000000 in
set_option maxRecDepth 20000 in
theorem rEval_3 (E : EnvP) (n m : Int) (hR : C64 E.rep) : REv E ⟨3, n, m, []⟩ := by
  intro v v1 v2 w hs he
  have HE := chid he
  obtain ⟨⟨o1, o2⟩, ⟨n1, n2⟩, m1, m2⟩ := hs.fit
  dsimp only at n1 n2 m1 m2
  obtain ⟨ad, cap, rfl, -, -⟩ := hs.parts.shape
  obtain ⟨a1, c1, a2, c2, rfl, rfl⟩ := he.shape
  obtain ⟨Y0, Y1, Y2, B0⟩ := three_boxes w 24 48 51 (coL ⟨3, n, m, []⟩ (.slice ad 0 cap)) [.int .i64 E.rep, .slice a1 E.wins.length c1, .slice a2 E.crons.length c2] [.int .i64 0, .int .i64 0]
  have X2 := chid Y2
  have HB0 := chid B0
  have c0 := Y0.cell 0 _ rfl
  have c1' := Y0.cell 1 _ rfl
  have lc := Y0.lt
  have e0 := Y1.cell 0 _ rfl
  have e1 := Y1.cell 1 _ rfl
  have e2 := Y1.cell 2 _ rfl
  have le := Y1.lt
  dsimp only at c0 c1'
  have q0 := Y2.cell 0 _ rfl
  have q1 := Y2.cell 1 _ rfl
  have q2 := Y2.free 0 (by simp)
  have q3 := Y2.free 1 (by simp)
  have ql := Y2.lt
  obtain ⟨Q, hQ⟩ : ∃ Q, Hid (Q = telV E ⟨3, n, m, []⟩) := ⟨_, chid rfl⟩
  rw [← hQ.out]
  have hQr : Hid (Q = okR (rheld (E.rep * 1000000))) := by show _ = _; rw [hQ.out, telV_eq]; rfl
  have HW := chid (fun W : World => rWhole_any E.rep hR.1 (by have := hR.2; omega) W)
  clear hs he Y0 Y1 Y2 B0 hQ
  go_enter Tryz.func24, Tryz.ntmps24
  go_wp2_with fail
  refine Calls.mono (HW.out _) ?_
  rintro e w1 ⟨rfl, b1⟩
  have HB1 := chid (cbelow_on HB0.out b1 HB0.out.size)
  replace X2 := chid (X2.out.next b1)
  clear b1 c0 c1' lc e0 e1 e2 le q0 q1 q2 q3 ql
  have q0 := X2.out.cell 0 _ rfl
  have q1 := X2.out.cell 1 _ rfl
  have q2 := X2.out.free 0 (by simp)
  have q3 := X2.out.free 1 (by simp)
  have ql := X2.out.lt
  go_wp2_with fail
  refine Calls.mono (rnum_c _ _) ?_
  rintro e w2 ⟨rfl, b2⟩
  have HB2 := chid (cbelow_on HB1.out b2 HB1.out.size)
  replace X2 := chid (X2.out.next b2)
  clear b2
  replace q0 := X2.out.cell 0 _ rfl
  replace q1 := X2.out.cell 1 _ rfl
  replace q2 := X2.out.free 0 (by simp)
  replace q3 := X2.out.free 1 (by simp)
  replace ql := X2.out.lt
  go_wp2_with fail
  refine bodyPost_ret (v := reV (okR (rheld (E.rep * 1000000)))) (by simp [results, Tryz.results24, go_sem, *]) rfl ?_
  exact ⟨by rw [hQr.out], (HB2.out.setCell (p := ⟨w.heap.size + 1 + 1, 0, none⟩) (by simp; omega) _).setCell (p := ⟨w.heap.size + 1 + 1, 1, none⟩) (by simp; omega) _⟩
set_option maxHeartbeats 8000000 in
set_option maxRecDepth 20000 in
theorem rEval_4 (E : EnvP) (n m : Int) (hn : 0 ≤ n ∧ n < E.wins.length) : REv E ⟨4, n, m, []⟩ := by
  intro v v1 v2 w hs he
  have HE := chid he
  obtain ⟨⟨o1, o2⟩, ⟨n1, n2⟩, m1, m2⟩ := hs.fit
  dsimp only at n1 n2 m1 m2
  obtain ⟨ad, cap, rfl, -, -⟩ := hs.parts.shape
  obtain ⟨a1, c1, a2, c2, rfl, rfl⟩ := he.shape
  obtain ⟨Y0, Y1, Y2, B0⟩ := three_boxes w 24 48 51 (coL ⟨4, n, m, []⟩ (.slice ad 0 cap)) [.int .i64 E.rep, .slice a1 E.wins.length c1, .slice a2 E.crons.length c2] [.int .i64 0, .int .i64 0]
  have X2 := chid Y2
  have HB0 := chid B0
  have c0 := Y0.cell 0 _ rfl
  have c1' := Y0.cell 1 _ rfl
  have lc := Y0.lt
  have e0 := Y1.cell 0 _ rfl
  have e1 := Y1.cell 1 _ rfl
  have e2 := Y1.cell 2 _ rfl
  have le := Y1.lt
  dsimp only at c0 c1'
  have q0 := Y2.cell 0 _ rfl
  have q1 := Y2.cell 1 _ rfl
  have q2 := Y2.free 0 (by simp)
  have q3 := Y2.free 1 (by simp)
  have ql := Y2.lt
  obtain ⟨Q, hQ⟩ : ∃ Q, Hid (Q = telV E ⟨4, n, m, []⟩) := ⟨_, chid rfl⟩
  rw [← hQ.out]
  obtain ⟨hn0, hn1⟩ := hn
  obtain ⟨i, rfl⟩ : ∃ i : Nat, n = (i : Int) := ⟨n.toNat, by omega⟩
  have hi : i < E.wins.length := by omega
  obtain ⟨b, off, cp, ev, hb, h1, h2⟩ := wins_open HE.out.wins hi
  simp only [Value.slice.injEq] at ev
  obtain ⟨rfl, -, rfl⟩ := ev
  have hb1 : b < w.heap.size + 1 := by omega
  have hb2 : b < w.heap.size + 1 + 1 := by omega
  have hb3 : b < w.heap.size + 1 + 1 + 1 := by omega
  obtain ⟨F, hF⟩ : ∃ F, Hid (F = (E.wins.getD i (0, 0)).1) := ⟨_, chid rfl⟩
  obtain ⟨S, hS⟩ : ∃ S, Hid (S = (E.wins.getD i (0, 0)).2) := ⟨_, chid rfl⟩
  rw [← hF.out] at h1
  rw [← hS.out] at h2
  have HQ : Hid (Q = if F = 0 then okR S else noR F) := by show _ = _; rw [hQ.out, hF.out, hS.out, telV_eq]; rfl
  clear hs he Y0 Y1 Y2 B0 hQ hF hS HE
  by_cases hz : F = 0
  · subst hz
    have hQr : Hid (Q = okR S) := HQ
    clear HQ
    go_enter Tryz.func24, Tryz.ntmps24
    go_wp2_with fail
    refine bodyPost_ret (v := reV (okR S)) (by simp [results, Tryz.results24, go_sem, *]) rfl ?_
    exact ⟨by rw [hQr.out], (((Below.refl _ _).alloc (Nat.le_refl _) _).alloc (by simp) _).alloc (by simp; omega) _⟩
  · have d0 : (F != 0) = true := by simpa using hz
    have hQr : Hid (Q = noR F) := by show _ = _; rw [HQ.out]; exact if_neg hz
    clear HQ hz
    go_enter Tryz.func24, Tryz.ntmps24
    go_wp2_with fail
    refine bodyPost_ret (v := reV (noR F)) (by simp [results, Tryz.results24, go_sem, *]) rfl ?_
    exact ⟨by rw [hQr.out], (((Below.refl _ _).alloc (Nat.le_refl _) _).alloc (by simp) _).alloc (by simp; omega) _⟩
set_option maxHeartbeats 8000000 in
set_option maxRecDepth 20000 in
theorem rEval_5 (E : EnvP) (n m : Int) (hn : 0 ≤ n ∧ n < E.crons.length) : REv E ⟨5, n, m, []⟩ := by
  intro v v1 v2 w hs he
  have HE := chid he
  obtain ⟨⟨o1, o2⟩, ⟨n1, n2⟩, m1, m2⟩ := hs.fit
  dsimp only at n1 n2 m1 m2
  obtain ⟨ad, cap, rfl, -, -⟩ := hs.parts.shape
  obtain ⟨a1, c1, a2, c2, rfl, rfl⟩ := he.shape
  obtain ⟨Y0, Y1, Y2, B0⟩ := three_boxes w 24 48 51 (coL ⟨5, n, m, []⟩ (.slice ad 0 cap)) [.int .i64 E.rep, .slice a1 E.wins.length c1, .slice a2 E.crons.length c2] [.int .i64 0, .int .i64 0]
  have X2 := chid Y2
  have HB0 := chid B0
  have c0 := Y0.cell 0 _ rfl
  have c1' := Y0.cell 1 _ rfl
  have lc := Y0.lt
  have e0 := Y1.cell 0 _ rfl
  have e1 := Y1.cell 1 _ rfl
  have e2 := Y1.cell 2 _ rfl
  have le := Y1.lt
  dsimp only at c0 c1'
  have q0 := Y2.cell 0 _ rfl
  have q1 := Y2.cell 1 _ rfl
  have q2 := Y2.free 0 (by simp)
  have q3 := Y2.free 1 (by simp)
  have ql := Y2.lt
  obtain ⟨Q, hQ⟩ : ∃ Q, Hid (Q = telV E ⟨5, n, m, []⟩) := ⟨_, chid rfl⟩
  rw [← hQ.out]
  obtain ⟨hn0, hn1⟩ := hn
  obtain ⟨i, rfl⟩ : ∃ i : Nat, n = (i : Int) := ⟨n.toNat, by omega⟩
  have hi : i < E.crons.length := by omega
  obtain ⟨b, off, cp, ev, hb, h1⟩ := crons_open HE.out.crons hi
  simp only [Value.slice.injEq] at ev
  obtain ⟨rfl, -, rfl⟩ := ev
  have hb1 : b < w.heap.size + 1 := by omega
  have hb2 : b < w.heap.size + 1 + 1 := by omega
  have hb3 : b < w.heap.size + 1 + 1 + 1 := by omega
  obtain ⟨F, hF⟩ : ∃ F, Hid (F = E.crons.getD i false) := ⟨_, chid rfl⟩
  rw [← hF.out] at h1
  have hQr : Hid (Q = okR (b2i F)) := by show _ = _; rw [hQ.out, hF.out, telV_eq]; rfl
  clear hs he Y0 Y1 Y2 B0 hQ hF HE
  go_enter Tryz.func24, Tryz.ntmps24
  go_wp2_with fail
  refine Calls.mono (rtruth_c _ _) ?_
  rintro e w2 ⟨rfl, b2⟩
  have HB2 := chid (cbelow_on HB0.out b2 HB0.out.size)
  replace X2 := chid (X2.out.next b2)
  clear b2
  replace q0 := X2.out.cell 0 _ rfl
  replace q1 := X2.out.cell 1 _ rfl
  replace q2 := X2.out.free 0 (by simp)
  replace q3 := X2.out.free 1 (by simp)
  replace ql := X2.out.lt
  go_wp2_with fail
  refine bodyPost_ret (v := reV (okR (b2i F))) (by simp [results, Tryz.results24, go_sem, *]) rfl ?_
  exact ⟨by rw [hQr.out], (HB2.out.setCell (p := ⟨w.heap.size + 1 + 1, 0, none⟩) (by simp; omega) _).setCell (p := ⟨w.heap.size + 1 + 1, 1, none⟩) (by simp; omega) _⟩
set_option maxHeartbeats 8000000 in
set_option maxRecDepth 20000 in
theorem rEval_6 (E : EnvP) (n m : Int)  : REv E ⟨6, n, m, []⟩ := by
  intro v v1 v2 w hs he
  have HE := chid he
  obtain ⟨⟨o1, o2⟩, ⟨n1, n2⟩, m1, m2⟩ := hs.fit
  dsimp only at n1 n2 m1 m2
  obtain ⟨ad, cap, rfl, -, -⟩ := hs.parts.shape
  obtain ⟨a1, c1, a2, c2, rfl, rfl⟩ := he.shape
  obtain ⟨Y0, Y1, Y2, B0⟩ := three_boxes w 24 48 51 (coL ⟨6, n, m, []⟩ (.slice ad 0 cap)) [.int .i64 E.rep, .slice a1 E.wins.length c1, .slice a2 E.crons.length c2] [.int .i64 0, .int .i64 0]
  have X2 := chid Y2
  have HB0 := chid B0
  have c0 := Y0.cell 0 _ rfl
  have c1' := Y0.cell 1 _ rfl
  have lc := Y0.lt
  have e0 := Y1.cell 0 _ rfl
  have e1 := Y1.cell 1 _ rfl
  have e2 := Y1.cell 2 _ rfl
  have le := Y1.lt
  dsimp only at c0 c1'
  have q0 := Y2.cell 0 _ rfl
  have q1 := Y2.cell 1 _ rfl
  have q2 := Y2.free 0 (by simp)
  have q3 := Y2.free 1 (by simp)
  have ql := Y2.lt
  obtain ⟨Q, hQ⟩ : ∃ Q, Hid (Q = telV E ⟨6, n, m, []⟩) := ⟨_, chid rfl⟩
  rw [← hQ.out]
  have hQr : Hid (Q = noR n) := by show _ = _; rw [hQ.out, telV_eq]; rfl
  clear hs he Y0 Y1 Y2 B0 hQ
  go_enter Tryz.func24, Tryz.ntmps24
  go_wp2_with fail
  refine bodyPost_ret (v := reV (noR n)) (by simp [results, Tryz.results24, go_sem, *]) rfl ?_
  exact ⟨by rw [hQr.out], (((Below.refl _ _).alloc (Nat.le_refl _) _).alloc (by simp) _).alloc (by simp; omega) _⟩
end Go.Proofs.YtkhdcojgcnomgaaGreatDoor
