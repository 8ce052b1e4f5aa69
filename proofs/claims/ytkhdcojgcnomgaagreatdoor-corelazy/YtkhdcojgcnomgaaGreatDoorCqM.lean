/- The law CoreLazy, walked: not a truth. -/
import Derived.Test.YtkhdcojgcnomgaaGreatDoorCqK
namespace Go.Proofs.YtkhdcojgcnomgaaGreatDoor
open Go.RowKit

set_option maxHeartbeats 8000000 in
set_option maxRecDepth 20000 in
theorem coreLazy_1 (t : Co) (v : Value) (E : EnvP) (v1 v2 : Value) (y : Int) (w : World) (hs : CSits w t v) (he : EnvAt w E v1 v2) (hg : GlE w) (hy0 : 0 ≤ y) (hy1 : y ≤ 255) (hx : ¬ csort ladF E.wins.length E.crons.length 256 t = 2) : Calls Tryz.prog 7 #[coV t v, envV E v1 v2, .int .u8 y] w fun e w' => e = .returned (.bool true) ∧ Below w.heap.size w w' := by
  have HS := chid hs
  have HX := chid hx
  clear hx
  have HE := chid he
  have HG := chid hg
  have HAw := chid (fun W (hW : Below w.heap.size w W) => awake15_c W (GlE.next HG.out hW))
  have HSm := chid (fun W (hW : Below w.heap.size w W) => csmall_c t v W (HS.out.next hW))
  have HSo := chid (fun W (hW : Below w.heap.size w W) (hn : cnodes t ≤ 4096) => cSort_c t v E.wins.length E.crons.length 256 W (HS.out.next hW) (by omega) ⟨⟨by omega, by have := HE.out.ok.wl; omega⟩, ⟨by omega, by have := HE.out.ok.cl; omega⟩, by unfold C64; decide⟩)
  have hL1 : E.wins.length ≤ 9223372036854775807 := he.ok.wl
  have hL2 : E.crons.length ≤ 9223372036854775807 := he.ok.cl
  obtain ⟨ad, cap, rfl, -, -⟩ := hs.parts.shape
  obtain ⟨a1, c1, a2, c2, rfl, rfl⟩ := he.shape
  obtain ⟨Y0, Y1, B0⟩ := two_boxes w 24 48 (coL t (.slice ad t.parts.length cap)) [.int .i64 E.rep, .slice a1 E.wins.length c1, .slice a2 E.crons.length c2]
  have HY0 := chid Y0
  have HY1 := chid Y1
  have HB0 := chid B0
  clear hs he hg Y0 Y1 B0
  go_enter Tryz.func7, Tryz.ntmps7
  go_wp2_with fail
  refine Calls.mono (HAw.out _ HB0.out) ?_
  rintro e w1 ⟨rfl, b1⟩
  have B1 := chid (cbelow_on HB0.out b1 HB0.out.size)
  replace HY0 := chid (HY0.out.next b1)
  replace HY1 := chid (HY1.out.next b1)
  clear b1 HB0
  have p0 := HY0.out.cell 0 _ rfl
  have p1 := HY0.out.cell 1 _ rfl
  have p2 := HY0.out.cell 2 _ rfl
  have p3 := HY0.out.cell 3 _ rfl
  have pl := HY0.out.lt
  go_wp2_with fail
  refine Calls.mono (HSm.out _ B1.out) ?_
  rintro e w2 ⟨rfl, b2⟩
  have B2 := chid (cbelow_on B1.out b2 B1.out.size)
  replace HY0 := chid (HY0.out.next b2)
  replace HY1 := chid (HY1.out.next b2)
  clear b2 B1 p0 p1 p2 p3 pl HSm
  by_cases hn : cnodes t ≤ 4096
  case neg =>
    rw [decide_eq_false hn]
    go_wp2_with fail
    refine Calls.mono (HAw.out _ B2.out) ?_
    rintro e w3 ⟨rfl, b3⟩
    have B3 := chid (cbelow_on B2.out b3 B2.out.size)
    clear b3
    go_wp2_with fail
    go_ret
    exact ⟨rfl, B3.out⟩
  rw [decide_eq_true hn]
  have p0 := HY0.out.cell 0 _ rfl
  have p1 := HY0.out.cell 1 _ rfl
  have p2 := HY0.out.cell 2 _ rfl
  have p3 := HY0.out.cell 3 _ rfl
  have pl := HY0.out.lt
  have q0 := HY1.out.cell 0 _ rfl
  have q1 := HY1.out.cell 1 _ rfl
  have q2 := HY1.out.cell 2 _ rfl
  have ql := HY1.out.lt
  have HCs := chid (HSo.out w2 B2.out hn)
  have hs12 : Hid (srt E t = csort ladF E.wins.length E.crons.length 256 t) := rfl
  have HEv := chid (fun W (hW : Below w.heap.size w W) => cEval_c E t (.slice ad t.parts.length cap) _ _ W (HS.out.next hW) (by omega) (HE.out.next hW) (GlE.next HG.out hW))
  obtain ⟨s, hsd⟩ : ∃ s, Hid (s = csort ladF E.wins.length E.crons.length 256 t) := ⟨_, rfl⟩
  rw [← hsd.out] at HCs hs12
  rw [hs12.out] at HEv
  clear HAw HSo
  go_wp2_with fail
  refine Calls.mono HCs.out ?_
  rintro e w3 ⟨rfl, b3⟩
  have B3 := chid (cbelow_on B2.out b3 B2.out.size)
  replace HY0 := chid (HY0.out.next b3)
  replace HY1 := chid (HY1.out.next b3)
  clear b3 B2 HCs p0 p1 p2 p3 pl q0 q1 q2 ql
  by_cases hs : s = 1 ∨ s = 2
  case neg =>
    have k1 : (s != 1) = true := by simp; omega
    have k2 : (s != 2) = true := by simp; omega
    go_wp2_with fail
    go_ret
    exact ⟨rfl, B3.out⟩
  have hk : Hid ((s != 1 && s != 2) = false) := by rcases hs with rfl | rfl <;> exact chid rfl
  rw [evV_12 hs] at HEv
  obtain ⟨r, hr⟩ : ∃ r, Hid (r = telV E t) := ⟨_, rfl⟩
  rw [← hr.out] at HEv
  obtain ⟨A, B, hAB⟩ : ∃ A B, Hid (rsV r = .agg #[.int .i64 A, .int .i64 B]) := by unfold rsV; split; exact ⟨_, _, chid rfl⟩; exact ⟨_, _, chid rfl⟩
  rw [hAB.out] at HEv
  obtain ⟨q, hq⟩ : ∃ q, Hid (q = 1 + y % 3) := ⟨_, rfl⟩
  have p0 := HY0.out.cell 0 _ rfl
  have p1 := HY0.out.cell 1 _ rfl
  have p2 := HY0.out.cell 2 _ rfl
  have p3 := HY0.out.cell 3 _ rfl
  have pl := HY0.out.lt
  have q0 := HY1.out.cell 0 _ rfl
  have q1 := HY1.out.cell 1 _ rfl
  have q2 := HY1.out.cell 2 _ rfl
  have ql := HY1.out.lt
  rcases hs with rfl | rfl
  · go_wp2_with fail
    refine Calls.mono (HEv.out _ B3.out) ?_
    rintro e w4 ⟨rfl, b4⟩
    have B4 := chid (cbelow_on B3.out b4 B3.out.size)
    have XC := chid (HY0.out.next b4)
    have XV := chid (HY1.out.next b4)
    clear b4 B3 HEv p0 p1 p2 p3 pl q0 q1 q2 ql HY0 HY1
    have C_0 := XC.out.cell 0 _ rfl
    have C_1 := XC.out.cell 1 _ rfl
    have C_2 := XC.out.cell 2 _ rfl
    have C_3 := XC.out.cell 3 _ rfl
    have lC := XC.out.lt
    have lC_0 : w.heap.size < w4.heap.size + 1 := by omega
    have lC_1 : w.heap.size < w4.heap.size + 1 + 1 := by omega
    have lC_2 : w.heap.size < w4.heap.size + 1 + 1 + 1 := by omega
    have lC_3 : w.heap.size < w4.heap.size + 1 + 1 + 1 + 1 := by omega
    have lC_4 : w.heap.size < w4.heap.size + 1 + 1 + 1 + 1 + 1 := by omega
    have V_0 := XV.out.cell 0 _ rfl
    have V_1 := XV.out.cell 1 _ rfl
    have V_2 := XV.out.cell 2 _ rfl
    have lV := XV.out.lt
    have lV_0 : w.heap.size + 1 < w4.heap.size + 1 := by omega
    have lV_1 : w.heap.size + 1 < w4.heap.size + 1 + 1 := by omega
    have lV_2 : w.heap.size + 1 < w4.heap.size + 1 + 1 + 1 := by omega
    have lV_3 : w.heap.size + 1 < w4.heap.size + 1 + 1 + 1 + 1 := by omega
    have lV_4 : w.heap.size + 1 < w4.heap.size + 1 + 1 + 1 + 1 + 1 := by omega
    obtain ⟨W0, hW0⟩ : ∃ W0, Hid (W0 = (((w4.alloc (.cells #[.int .i64 A, .int .i64 B] 51)).alloc (.cells #[.int .i64 6, .int .i64 (1 + y % 3), .int .i64 1, .slice none 0 0] 24)).alloc (.cells #[.int .i64 2, .int .i64 1, .int .i64 0, .slice none 0 0] 24)).alloc (.cells #[.int .i64 2, .int .i64 0, .int .i64 0, .slice none 0 0] 24)) := ⟨_, rfl⟩
    have ka : Below w4.heap.size w4 W0 := by rw [hW0.out]; exact ((((Below.refl _ _).alloc (Nat.le_refl _) _).alloc (by simp) _).alloc (by simp; omega) _).alloc (by simp; omega) _
    have hsz : Hid (W0.heap.size = w4.heap.size + 1 + 1 + 1 + 1) := by show _ = _; rw [hW0.out]; simp
    have AL : ∀ (W : World) (o : Obj), Below W.heap.size W (W.alloc o) := fun W o => (Below.refl _ _).alloc (Nat.le_refl _) _
    have Xx : Hid (Box W0 w4.heap.size [.int .i64 A, .int .i64 B]) := by rw [hW0.out]; exact chid ((((Box.new w4 [.int .i64 A, .int .i64 B] 51).next (AL _ _)).next (AL _ _)).next (AL _ _))
    have Xbad : Hid (Box W0 (w4.heap.size + 1) [.int .i64 6, .int .i64 (1 + y % 3), .int .i64 1, .slice none 0 0]) := by
      rw [hW0.out]
      have h := ((Box.new (w4.alloc (.cells #[.int .i64 A, .int .i64 B] 51)) [.int .i64 6, .int .i64 (1 + y % 3), .int .i64 1, .slice none 0 0] 24).next (AL _ (.cells #[.int .i64 2, .int .i64 1, .int .i64 0, .slice none 0 0] 24))).next (AL _ (.cells #[.int .i64 2, .int .i64 0, .int .i64 0, .slice none 0 0] 24))
      exact chid (by simpa using h)
    have Xyes : Hid (Box W0 (w4.heap.size + 1 + 1) [.int .i64 2, .int .i64 1, .int .i64 0, .slice none 0 0]) := by
      rw [hW0.out]
      have h := (Box.new ((w4.alloc (.cells #[.int .i64 A, .int .i64 B] 51)).alloc (.cells #[.int .i64 6, .int .i64 (1 + y % 3), .int .i64 1, .slice none 0 0] 24)) [.int .i64 2, .int .i64 1, .int .i64 0, .slice none 0 0] 24).next (AL _ (.cells #[.int .i64 2, .int .i64 0, .int .i64 0, .slice none 0 0] 24))
      exact chid (by simpa using h)
    have Xno : Hid (Box W0 (w4.heap.size + 1 + 1 + 1) [.int .i64 2, .int .i64 0, .int .i64 0, .slice none 0 0]) := by
      rw [hW0.out]
      have h := Box.new (((w4.alloc (.cells #[.int .i64 A, .int .i64 B] 51)).alloc (.cells #[.int .i64 6, .int .i64 (1 + y % 3), .int .i64 1, .slice none 0 0] 24)).alloc (.cells #[.int .i64 2, .int .i64 1, .int .i64 0, .slice none 0 0] 24)) [.int .i64 2, .int .i64 0, .int .i64 0, .slice none 0 0] 24
      exact chid (by simpa using h)
    have B5 := chid (cbelow_on B4.out ka B4.out.size)
    have XC' := chid (XC.out.next ka)
    have XV' := chid (XV.out.next ka)
    have hq1 : Hid (1 ≤ 1 + y % 3 ∧ 1 + y % 3 ≤ 3) := chid (by omega)
    have hq64 : Hid (C64 (1 + y % 3)) := chid (by have := hq1.out; exact ⟨by omega, by omega⟩)
    have hsS : Hid (srt E t = 1) := hs12
    have hB6 : ∀ W : World, CSits W (coBad (1 + y % 3) 1) (.slice none 0 0) := fun W => csits0 W 6 (1 + y % 3) 1 (by unfold C64; decide) hq64.out (by unfold C64; decide)
    have hYe : ∀ W : World, CSits W coYes (.slice none 0 0) := fun W => csits0 W 2 1 0 (by unfold C64; decide) (by unfold C64; decide) zero_64
    have hNo : ∀ W : World, CSits W coNo (.slice none 0 0) := fun W => csits0 W 2 0 0 (by unfold C64; decide) zero_64 zero_64
    have HB6 := chid hB6
    have HYe := chid hYe
    have HNo := chid hNo
    clear AL ka hB6 hYe hNo
    go_wp2_with fail
    rw [← hW0.out]
    clear hW0 XC XV
    clear C_0 C_1 C_2 C_3 lC lC_0 lC_1 lC_2 lC_3 lC_4 V_0 V_1 V_2 lV lV_0 lV_1 lV_2 lV_3 lV_4
    have XC := XC'
    have XV := XV'
    clear XC' XV' B4
    refine Calls.mono (ev3 E 28 (by unfold C64; decide) coYes t (coBad (1 + y % 3) 1) (.slice none 0 0) (.slice ad t.parts.length cap) (.slice none 0 0) _ _ W0 (HYe.out _) (HS.out.next B5.out) (HB6.out _) (by rw [cn0, cn0]; omega) (HE.out.next B5.out) (GlE.next HG.out B5.out) _ hsz.out (.tuple #[.agg #[.int .i64 A, .int .i64 B], .int .i64 0]) (by rw [ev_if1 E t (1 + y % 3) 1 hq1.out.1 hq1.out.2 (by decide) hsS.out, ← hr.out, hAB.out])) ?_
    rintro e w6 ⟨rfl, b⟩
    have B6 := chid (cbelow_on B5.out b B5.out.size)
    replace XC := chid (XC.out.next b)
    replace XV := chid (XV.out.next b)
    replace Xx := chid (Xx.out.next b)
    replace Xbad := chid (Xbad.out.next b)
    replace Xyes := chid (Xyes.out.next b)
    replace Xno := chid (Xno.out.next b)
    clear b B5
    have C_0 := XC.out.cell 0 _ rfl
    have C_1 := XC.out.cell 1 _ rfl
    have C_2 := XC.out.cell 2 _ rfl
    have C_3 := XC.out.cell 3 _ rfl
    have lC := XC.out.lt
    have lC_0 : w.heap.size < w6.heap.size + 1 := by omega
    have V_0 := XV.out.cell 0 _ rfl
    have V_1 := XV.out.cell 1 _ rfl
    have V_2 := XV.out.cell 2 _ rfl
    have lV := XV.out.lt
    have lV_0 : w.heap.size + 1 < w6.heap.size + 1 := by omega
    have bad_0 := Xbad.out.cell 0 _ rfl
    have bad_1 := Xbad.out.cell 1 _ rfl
    have bad_2 := Xbad.out.cell 2 _ rfl
    have bad_3 := Xbad.out.cell 3 _ rfl
    have lbad := Xbad.out.lt
    have lbad_0 : w4.heap.size + 1 < w6.heap.size + 1 := by omega
    have no_0 := Xno.out.cell 0 _ rfl
    have no_1 := Xno.out.cell 1 _ rfl
    have no_2 := Xno.out.cell 2 _ rfl
    have no_3 := Xno.out.cell 3 _ rfl
    have lno := Xno.out.lt
    have lno_0 : w4.heap.size + 1 + 1 + 1 < w6.heap.size + 1 := by omega
    go_wp2_with fail
    have Za := Box.new w6 [.int .i64 A, .int .i64 B] 51
    have ka := (Below.refl w6.heap.size w6).alloc (Nat.le_refl _) (.cells [.int .i64 A, .int .i64 B].toArray 51)
    have hsz : (w6.alloc (.cells [.int .i64 A, .int .i64 B].toArray 51)).heap.size = w6.heap.size + 1 := by simp
    change Box (w6.alloc (.cells #[.int .i64 A, .int .i64 B] 51)) _ _ at Za
    change Below w6.heap.size w6 (w6.alloc (.cells #[.int .i64 A, .int .i64 B] 51)) at ka
    change (w6.alloc (.cells #[.int .i64 A, .int .i64 B] 51)).heap.size = _ at hsz
    clear C_0 C_1 C_2 C_3 lC lC_0 V_0 V_1 V_2 lV lV_0 bad_0 bad_1 bad_2 bad_3 lbad lbad_0 no_0 no_1 no_2 no_3 lno lno_0
    generalize w6.alloc (.cells #[.int .i64 A, .int .i64 B] 51) = w7 at *
    have B7 := chid (cbelow_on B6.out ka B6.out.size)
    replace XC := chid (XC.out.next ka)
    replace XV := chid (XV.out.next ka)
    replace Xx := chid (Xx.out.next ka)
    replace Xbad := chid (Xbad.out.next ka)
    replace Xyes := chid (Xyes.out.next ka)
    replace Xno := chid (Xno.out.next ka)
    have Xa := chid Za
    have HSZ7 := chid hsz
    clear ka Za B6 hsz
    refine Calls.mono (ev3 E 28 (by unfold C64; decide) coNo (coBad (1 + y % 3) 1) t (.slice none 0 0) (.slice none 0 0) (.slice ad t.parts.length cap) _ _ w7 (HNo.out _) (HB6.out _) (HS.out.next B7.out) (by rw [cn0, cn0]; omega) (HE.out.next B7.out) (GlE.next HG.out B7.out) _ HSZ7.out (.tuple #[.agg #[.int .i64 A, .int .i64 B], .int .i64 0]) (by rw [ev_if2 E t (1 + y % 3) 1 hq1.out.1 hq1.out.2 (by decide) hsS.out, ← hr.out, hAB.out])) ?_
    rintro e w8 ⟨rfl, b⟩
    have B8 := chid (cbelow_on B7.out b B7.out.size)
    replace XC := chid (XC.out.next b)
    replace XV := chid (XV.out.next b)
    replace Xx := chid (Xx.out.next b)
    replace Xbad := chid (Xbad.out.next b)
    replace Xyes := chid (Xyes.out.next b)
    replace Xno := chid (Xno.out.next b)
    replace Xa := chid (Xa.out.next b)
    clear b B7
    have C_0 := XC.out.cell 0 _ rfl
    have C_1 := XC.out.cell 1 _ rfl
    have C_2 := XC.out.cell 2 _ rfl
    have C_3 := XC.out.cell 3 _ rfl
    have lC := XC.out.lt
    have lC_0 : w.heap.size < w8.heap.size + 1 := by omega
    have lC_1 : w.heap.size < w8.heap.size + 1 + 1 := by omega
    have V_0 := XV.out.cell 0 _ rfl
    have V_1 := XV.out.cell 1 _ rfl
    have V_2 := XV.out.cell 2 _ rfl
    have lV := XV.out.lt
    have lV_0 : w.heap.size + 1 < w8.heap.size + 1 := by omega
    have lV_1 : w.heap.size + 1 < w8.heap.size + 1 + 1 := by omega
    have bad_0 := Xbad.out.cell 0 _ rfl
    have bad_1 := Xbad.out.cell 1 _ rfl
    have bad_2 := Xbad.out.cell 2 _ rfl
    have bad_3 := Xbad.out.cell 3 _ rfl
    have lbad := Xbad.out.lt
    have lbad_0 : w4.heap.size + 1 < w8.heap.size + 1 := by omega
    have lbad_1 : w4.heap.size + 1 < w8.heap.size + 1 + 1 := by omega
    go_wp2_with fail
    have Zb := Box.new w8 [.int .i64 A, .int .i64 B] 51
    have ka := (Below.refl w8.heap.size w8).alloc (Nat.le_refl _) (.cells [.int .i64 A, .int .i64 B].toArray 51)
    have hsz : (w8.alloc (.cells [.int .i64 A, .int .i64 B].toArray 51)).heap.size = w8.heap.size + 1 := by simp
    change Box (w8.alloc (.cells #[.int .i64 A, .int .i64 B] 51)) _ _ at Zb
    change Below w8.heap.size w8 (w8.alloc (.cells #[.int .i64 A, .int .i64 B] 51)) at ka
    change (w8.alloc (.cells #[.int .i64 A, .int .i64 B] 51)).heap.size = _ at hsz
    clear C_0 C_1 C_2 C_3 lC lC_0 lC_1 V_0 V_1 V_2 lV lV_0 lV_1 bad_0 bad_1 bad_2 bad_3 lbad lbad_0 lbad_1
    generalize w8.alloc (.cells #[.int .i64 A, .int .i64 B] 51) = w9 at *
    have B9 := chid (cbelow_on B8.out ka B8.out.size)
    replace XC := chid (XC.out.next ka)
    replace XV := chid (XV.out.next ka)
    replace Xx := chid (Xx.out.next ka)
    replace Xbad := chid (Xbad.out.next ka)
    replace Xyes := chid (Xyes.out.next ka)
    replace Xno := chid (Xno.out.next ka)
    replace Xa := chid (Xa.out.next ka)
    have Xb := chid Zb
    have HSZ9 := chid hsz
    clear ka Zb B8 hsz
    have V_0 := XV.out.cell 0 _ rfl
    have V_1 := XV.out.cell 1 _ rfl
    have V_2 := XV.out.cell 2 _ rfl
    have lV := XV.out.lt
    have C_0 := XC.out.cell 0 _ rfl
    have C_1 := XC.out.cell 1 _ rfl
    have C_2 := XC.out.cell 2 _ rfl
    have C_3 := XC.out.cell 3 _ rfl
    have lC := XC.out.lt
    have bad_0 := Xbad.out.cell 0 _ rfl
    have bad_1 := Xbad.out.cell 1 _ rfl
    have bad_2 := Xbad.out.cell 2 _ rfl
    have bad_3 := Xbad.out.cell 3 _ rfl
    have lbad := Xbad.out.lt
    have nV : w.heap.size + 1 ≠ w9.heap.size := by omega
    have nV' : w9.heap.size ≠ w.heap.size + 1 := by omega
    have nC : w.heap.size ≠ w9.heap.size := by omega
    have nC' : w9.heap.size ≠ w.heap.size := by omega
    have nbad : w4.heap.size + 1 ≠ w9.heap.size := by omega
    have nbad' : w9.heap.size ≠ w4.heap.size + 1 := by omega
    have HEc : Hid (∀ (W : World) (vv : Value), Below w.heap.size w W → CSits W ⟨27, 0, 0, [(coBad (1 + y % 3) 1), t]⟩ vv → Calls Tryz.prog 23 #[coV ⟨27, 0, 0, [(coBad (1 + y % 3) 1), t]⟩ vv, envV E (.slice a1 E.wins.length c1) (.slice a2 E.crons.length c2)] W fun e w' => e = .returned (.tuple #[.agg #[.int .i64 A, .int .i64 B], .int .i64 0]) ∧ Below W.heap.size W w') := chid (fun W vv hW hsv => evc E ⟨27, 0, 0, [(coBad (1 + y % 3) 1), t]⟩ vv _ _ W hsv (by rw [cn2]; rw [cn0]; omega) (HE.out.next hW) (GlE.next HG.out hW) _ (by rw [ev_ei1 E t (1 + y % 3) 1 hq1.out.1 hq1.out.2 (by decide) hsS.out, ← hr.out, hAB.out]))
    have HOf : Hid (∀ (W : World), Below w.heap.size w W → Calls Tryz.prog 27 #[.int .i64 27, coV (coBad (1 + y % 3) 1) (.slice none 0 0), coV t (.slice ad t.parts.length cap)] W fun e w' => ∃ v, e = .returned (coV ⟨27, 0, 0, [(coBad (1 + y % 3) 1), t]⟩ v) ∧ CSits w' ⟨27, 0, 0, [(coBad (1 + y % 3) 1), t]⟩ v ∧ Below W.heap.size W w') := chid (fun W hW => of_c 27 (coBad (1 + y % 3) 1) t (.slice none 0 0) (.slice ad t.parts.length cap) W (by unfold C64; decide) (HB6.out _) (HS.out.next hW))
    obtain ⟨G, hG⟩ : ∃ G : Nat → World → Prop, Hid (G = fun dd w' => Box w' dd [.int .i64 A, .int .i64 B] ∧ Below w9.heap.size w9 w') := ⟨_, rfl⟩
    apply via G
    case hreg =>
      go_region_held3 (fun w' => (w'.cell? ⟨w.heap.size + 1, 0, none⟩ = some (.int .i64 E.rep) ∧ w'.cell? ⟨w.heap.size + 1, 1, none⟩ = some (.slice a1 E.wins.length c1) ∧ w'.cell? ⟨w.heap.size + 1, 2, none⟩ = some (.slice a2 E.crons.length c2)) ∧ (w'.cell? ⟨w.heap.size, 0, none⟩ = some (.int .i64 t.op) ∧ w'.cell? ⟨w.heap.size, 1, none⟩ = some (.int .i64 t.n) ∧ w'.cell? ⟨w.heap.size, 2, none⟩ = some (.int .i64 t.m) ∧ w'.cell? ⟨w.heap.size, 3, none⟩ = some (.slice ad t.parts.length cap)) ∧ (w'.cell? ⟨w4.heap.size + 1, 0, none⟩ = some (.int .i64 6) ∧ w'.cell? ⟨w4.heap.size + 1, 1, none⟩ = some (.int .i64 (1 + y % 3)) ∧ w'.cell? ⟨w4.heap.size + 1, 2, none⟩ = some (.int .i64 1) ∧ w'.cell? ⟨w4.heap.size + 1, 3, none⟩ = some (.slice none 0 0))) (simp [go_sem, *]) (first | (go_at_call 27; refine Calls.mono (HOf.out _ (by exact cdrewN B9.out _)) ?_; rintro e u1 ⟨vv, rfl, sv, b⟩; have Hu1 : Hid (Below w9.heap.size w9 u1) := ⟨b.os, b.tape, b.output, b.size, b.block⟩; have yV := XV.out.next Hu1.out; replace V_0 := yV.cell 0 _ rfl; replace V_1 := yV.cell 1 _ rfl; replace V_2 := yV.cell 2 _ rfl; replace lV := yV.lt; have mV : w.heap.size + 1 ≠ u1.heap.size := Nat.ne_of_lt lV; have mV' : u1.heap.size ≠ w.heap.size + 1 := Nat.ne_of_gt lV; clear yV; have yC := XC.out.next Hu1.out; replace C_0 := yC.cell 0 _ rfl; replace C_1 := yC.cell 1 _ rfl; replace C_2 := yC.cell 2 _ rfl; replace C_3 := yC.cell 3 _ rfl; replace lC := yC.lt; have mC : w.heap.size ≠ u1.heap.size := Nat.ne_of_lt lC; have mC' : u1.heap.size ≠ w.heap.size := Nat.ne_of_gt lC; clear yC; have ybad := Xbad.out.next Hu1.out; replace bad_0 := ybad.cell 0 _ rfl; replace bad_1 := ybad.cell 1 _ rfl; replace bad_2 := ybad.cell 2 _ rfl; replace bad_3 := ybad.cell 3 _ rfl; replace lbad := ybad.lt; have mbad : w4.heap.size + 1 ≠ u1.heap.size := Nat.ne_of_lt lbad; have mbad' : u1.heap.size ≠ w4.heap.size + 1 := Nat.ne_of_gt lbad; clear ybad; have Bu1 := chid (cbelow_on B9.out Hu1.out B9.out.size); have HSv := chid sv; obtain ⟨aa, cc, rfl, -, -⟩ := sv.parts.shape; clear b sv) | (go_at_call 27; refine Calls.mono (HOf.out _ (by exact cbelow_on B9.out ((cdrewN (Below.refl w9.heap.size w9) _).alloc (Nat.le_refl _) _) B9.out.size)) ?_; rintro e u2 ⟨vv, rfl, sv, b⟩; have Hu2 : Hid (Below w9.heap.size w9 u2) := chid (cbelow_on ((cdrewN (Below.refl w9.heap.size w9) _).alloc (Nat.le_refl _) _) b ((cdrewN (Below.refl w9.heap.size w9) _).alloc (Nat.le_refl _) _).size); have Zz : Box u2 w9.heap.size [.int .i64 0, .int .i64 0] := Box.next (Box.new (w9.drewN _) [.int .i64 0, .int .i64 0] 51) b; have z0 := Zz.cell 0 _ rfl; have z1 := Zz.cell 1 _ rfl; have z2 := Zz.free 0 (by simp); have z3 := Zz.free 1 (by simp); have zl := Zz.lt; have HZ := chid Zz; clear Zz; have yV := XV.out.next Hu2.out; replace V_0 := yV.cell 0 _ rfl; replace V_1 := yV.cell 1 _ rfl; replace V_2 := yV.cell 2 _ rfl; replace lV := yV.lt; clear yV; have yC := XC.out.next Hu2.out; replace C_0 := yC.cell 0 _ rfl; replace C_1 := yC.cell 1 _ rfl; replace C_2 := yC.cell 2 _ rfl; replace C_3 := yC.cell 3 _ rfl; replace lC := yC.lt; clear yC; have ybad := Xbad.out.next Hu2.out; replace bad_0 := ybad.cell 0 _ rfl; replace bad_1 := ybad.cell 1 _ rfl; replace bad_2 := ybad.cell 2 _ rfl; replace bad_3 := ybad.cell 3 _ rfl; replace lbad := ybad.lt; clear ybad; have Bu2 := chid (cbelow_on B9.out Hu2.out B9.out.size); have HSv := chid sv; obtain ⟨aa, cc, rfl, -, -⟩ := sv.parts.shape; clear b sv) | (go_at_call 23; refine Calls.mono (HEc.out _ _ Bu1.out HSv.out) ?_; rintro e u3 ⟨rfl, b⟩; have Hu3 := chid (cbelow_on Hu1.out b Hu1.out.size); have yV := XV.out.next Hu3.out; replace V_0 := yV.cell 0 _ rfl; replace V_1 := yV.cell 1 _ rfl; replace V_2 := yV.cell 2 _ rfl; replace lV := yV.lt; clear yV; have yC := XC.out.next Hu3.out; replace C_0 := yC.cell 0 _ rfl; replace C_1 := yC.cell 1 _ rfl; replace C_2 := yC.cell 2 _ rfl; replace C_3 := yC.cell 3 _ rfl; replace lC := yC.lt; clear yC; have ybad := Xbad.out.next Hu3.out; replace bad_0 := ybad.cell 0 _ rfl; replace bad_1 := ybad.cell 1 _ rfl; replace bad_2 := ybad.cell 2 _ rfl; replace bad_3 := ybad.cell 3 _ rfl; replace lbad := ybad.lt; clear ybad; clear b) | (go_at_call 23; have ba := (Below.refl u1.heap.size u1).alloc (Nat.le_refl _) (.cells [.int .i64 0, .int .i64 0].toArray 51); refine Calls.mono (HEc.out _ _ (by exact cbelow_on Bu1.out ba Bu1.out.size) (by exact HSv.out.next ba)) ?_; rintro e u4 ⟨rfl, b⟩; have Hu4 : Hid (Below w9.heap.size w9 u4) := chid (cbelow_on (cbelow_on Hu1.out ba Hu1.out.size) b (Nat.le_trans Hu1.out.size ba.size)); have Zz : Box u4 u1.heap.size [.int .i64 0, .int .i64 0] := (Box.new u1 [.int .i64 0, .int .i64 0] 51).next b; have z0 := Zz.cell 0 _ rfl; have z1 := Zz.cell 1 _ rfl; have z2 := Zz.free 0 (by simp); have z3 := Zz.free 1 (by simp); have zl := Zz.lt; have HZ := chid Zz; clear Zz; have yV := XV.out.next Hu4.out; replace V_0 := yV.cell 0 _ rfl; replace V_1 := yV.cell 1 _ rfl; replace V_2 := yV.cell 2 _ rfl; replace lV := yV.lt; clear yV; have yC := XC.out.next Hu4.out; replace C_0 := yC.cell 0 _ rfl; replace C_1 := yC.cell 1 _ rfl; replace C_2 := yC.cell 2 _ rfl; replace C_3 := yC.cell 3 _ rfl; replace lC := yC.lt; clear yC; have ybad := Xbad.out.next Hu4.out; replace bad_0 := ybad.cell 0 _ rfl; replace bad_1 := ybad.cell 1 _ rfl; replace bad_2 := ybad.cell 2 _ rfl; replace bad_3 := ybad.cell 3 _ rfl; replace lbad := ybad.lt; clear ybad; clear b ba) | (go_at_call 23; refine Calls.mono (HEc.out _ _ Bu2.out HSv.out) ?_; rintro e u5 ⟨rfl, b⟩; have Hu5 := chid (cbelow_on Hu2.out b Hu2.out.size); have Zz := HZ.out.next b; clear z0 z1 z2 z3 zl HZ; have z0 := Zz.cell 0 _ rfl; have z1 := Zz.cell 1 _ rfl; have z2 := Zz.free 0 (by simp); have z3 := Zz.free 1 (by simp); have zl := Zz.lt; have HZ := chid Zz; clear Zz; have yV := XV.out.next Hu5.out; replace V_0 := yV.cell 0 _ rfl; replace V_1 := yV.cell 1 _ rfl; replace V_2 := yV.cell 2 _ rfl; replace lV := yV.lt; clear yV; have yC := XC.out.next Hu5.out; replace C_0 := yC.cell 0 _ rfl; replace C_1 := yC.cell 1 _ rfl; replace C_2 := yC.cell 2 _ rfl; replace C_3 := yC.cell 3 _ rfl; replace lC := yC.lt; clear yC; have ybad := Xbad.out.next Hu5.out; replace bad_0 := ybad.cell 0 _ rfl; replace bad_1 := ybad.cell 1 _ rfl; replace bad_2 := ybad.cell 2 _ rfl; replace bad_3 := ybad.cell 3 _ rfl; replace lbad := ybad.lt; clear ybad; clear b))
      · first | (obtain ⟨dd, hdd⟩ : ∃ dd, dd = u3.heap.size := ⟨_, rfl⟩; rw [← hdd]; refine ⟨dd, aa, cc, rfl, ?_⟩; rw [hG.out, hdd]; exact ⟨Box.new u3 [.int .i64 A, .int .i64 B] 51, Hu3.out.alloc Hu3.out.size _⟩) | (obtain ⟨dd, hdd⟩ : ∃ dd, dd = w9.heap.size := ⟨_, rfl⟩; rw [← hdd]; refine ⟨dd, aa, cc, rfl, ?_⟩; rw [hG.out, hdd]; exact ⟨(HZ.out.set 0 (by simp) (.int .i64 A)).set 1 (by simp) (.int .i64 B), (Hu5.out.setCell (p := ⟨_, 0, none⟩) (Nat.le_refl _) _).setCell (p := ⟨_, 1, none⟩) (Nat.le_refl _) _⟩) | (obtain ⟨dd, hdd⟩ : ∃ dd, dd = u1.heap.size := ⟨_, rfl⟩; rw [← hdd]; refine ⟨dd, aa, cc, rfl, ?_⟩; rw [hG.out, hdd]; exact ⟨(HZ.out.set 0 (by simp) (.int .i64 A)).set 1 (by simp) (.int .i64 B), (Hu4.out.setCell (p := ⟨_, 0, none⟩) Hu1.out.size _).setCell (p := ⟨_, 1, none⟩) Hu1.out.size _⟩)
      · first | (obtain ⟨dd, hdd⟩ : ∃ dd, dd = u3.heap.size := ⟨_, rfl⟩; rw [← hdd]; refine ⟨dd, aa, cc, rfl, ?_⟩; rw [hG.out, hdd]; exact ⟨Box.new u3 [.int .i64 A, .int .i64 B] 51, Hu3.out.alloc Hu3.out.size _⟩) | (obtain ⟨dd, hdd⟩ : ∃ dd, dd = w9.heap.size := ⟨_, rfl⟩; rw [← hdd]; refine ⟨dd, aa, cc, rfl, ?_⟩; rw [hG.out, hdd]; exact ⟨(HZ.out.set 0 (by simp) (.int .i64 A)).set 1 (by simp) (.int .i64 B), (Hu5.out.setCell (p := ⟨_, 0, none⟩) (Nat.le_refl _) _).setCell (p := ⟨_, 1, none⟩) (Nat.le_refl _) _⟩) | (obtain ⟨dd, hdd⟩ : ∃ dd, dd = u1.heap.size := ⟨_, rfl⟩; rw [← hdd]; refine ⟨dd, aa, cc, rfl, ?_⟩; rw [hG.out, hdd]; exact ⟨(HZ.out.set 0 (by simp) (.int .i64 A)).set 1 (by simp) (.int .i64 B), (Hu4.out.setCell (p := ⟨_, 0, none⟩) Hu1.out.size _).setCell (p := ⟨_, 1, none⟩) Hu1.out.size _⟩)
      · first | (obtain ⟨dd, hdd⟩ : ∃ dd, dd = u3.heap.size := ⟨_, rfl⟩; rw [← hdd]; refine ⟨dd, aa, cc, rfl, ?_⟩; rw [hG.out, hdd]; exact ⟨Box.new u3 [.int .i64 A, .int .i64 B] 51, Hu3.out.alloc Hu3.out.size _⟩) | (obtain ⟨dd, hdd⟩ : ∃ dd, dd = w9.heap.size := ⟨_, rfl⟩; rw [← hdd]; refine ⟨dd, aa, cc, rfl, ?_⟩; rw [hG.out, hdd]; exact ⟨(HZ.out.set 0 (by simp) (.int .i64 A)).set 1 (by simp) (.int .i64 B), (Hu5.out.setCell (p := ⟨_, 0, none⟩) (Nat.le_refl _) _).setCell (p := ⟨_, 1, none⟩) (Nat.le_refl _) _⟩) | (obtain ⟨dd, hdd⟩ : ∃ dd, dd = u1.heap.size := ⟨_, rfl⟩; rw [← hdd]; refine ⟨dd, aa, cc, rfl, ?_⟩; rw [hG.out, hdd]; exact ⟨(HZ.out.set 0 (by simp) (.int .i64 A)).set 1 (by simp) (.int .i64 B), (Hu4.out.setCell (p := ⟨_, 0, none⟩) Hu1.out.size _).setCell (p := ⟨_, 1, none⟩) Hu1.out.size _⟩)
    case hrest =>
    intro dD aa_d cc_d w10 hGd
    rw [hG.out] at hGd
    obtain ⟨Yd, ka⟩ := hGd
    clear V_0 V_1 V_2 lV C_0 C_1 C_2 C_3 lC bad_0 bad_1 bad_2 bad_3 lbad
    clear hG G HEc HOf nV nV' nC nC' nbad nbad'
    have B10 := chid (cbelow_on B9.out ka B9.out.size)
    replace XC := chid (XC.out.next ka)
    replace XV := chid (XV.out.next ka)
    replace Xx := chid (Xx.out.next ka)
    replace Xbad := chid (Xbad.out.next ka)
    replace Xyes := chid (Xyes.out.next ka)
    replace Xno := chid (Xno.out.next ka)
    replace Xa := chid (Xa.out.next ka)
    replace Xb := chid (Xb.out.next ka)
    have Xd := chid Yd
    clear ka Yd B9
    go_wp2_with fail
    obtain ⟨A2, B2, hz⟩ := rsV_two (if r.2 = 0 then r else noR (1 + y % 3))
    have hAB2 := chid hz
    clear hz
    have V_0 := XV.out.cell 0 _ rfl
    have V_1 := XV.out.cell 1 _ rfl
    have V_2 := XV.out.cell 2 _ rfl
    have lV := XV.out.lt
    have C_0 := XC.out.cell 0 _ rfl
    have C_1 := XC.out.cell 1 _ rfl
    have C_2 := XC.out.cell 2 _ rfl
    have C_3 := XC.out.cell 3 _ rfl
    have lC := XC.out.lt
    have bad_0 := Xbad.out.cell 0 _ rfl
    have bad_1 := Xbad.out.cell 1 _ rfl
    have bad_2 := Xbad.out.cell 2 _ rfl
    have bad_3 := Xbad.out.cell 3 _ rfl
    have lbad := Xbad.out.lt
    have nV : w.heap.size + 1 ≠ w10.heap.size := by omega
    have nV' : w10.heap.size ≠ w.heap.size + 1 := by omega
    have nC : w.heap.size ≠ w10.heap.size := by omega
    have nC' : w10.heap.size ≠ w.heap.size := by omega
    have nbad : w4.heap.size + 1 ≠ w10.heap.size := by omega
    have nbad' : w10.heap.size ≠ w4.heap.size + 1 := by omega
    have HEc : Hid (∀ (W : World) (vv : Value), Below w.heap.size w W → CSits W ⟨27, 0, 0, [t, (coBad (1 + y % 3) 1)]⟩ vv → Calls Tryz.prog 23 #[coV ⟨27, 0, 0, [t, (coBad (1 + y % 3) 1)]⟩ vv, envV E (.slice a1 E.wins.length c1) (.slice a2 E.crons.length c2)] W fun e w' => e = .returned (.tuple #[.agg #[.int .i64 A2, .int .i64 B2], .int .i64 0]) ∧ Below W.heap.size W w') := chid (fun W vv hW hsv => evc E ⟨27, 0, 0, [t, (coBad (1 + y % 3) 1)]⟩ vv _ _ W hsv (by rw [cn2]; rw [cn0]; omega) (HE.out.next hW) (GlE.next HG.out hW) _ (by rw [ev_ei2 E t (1 + y % 3) 1 hq1.out.1 hq1.out.2 (by decide) hsS.out, ← hr.out, hAB2.out]))
    have HOf : Hid (∀ (W : World), Below w.heap.size w W → Calls Tryz.prog 27 #[.int .i64 27, coV t (.slice ad t.parts.length cap), coV (coBad (1 + y % 3) 1) (.slice none 0 0)] W fun e w' => ∃ v, e = .returned (coV ⟨27, 0, 0, [t, (coBad (1 + y % 3) 1)]⟩ v) ∧ CSits w' ⟨27, 0, 0, [t, (coBad (1 + y % 3) 1)]⟩ v ∧ Below W.heap.size W w') := chid (fun W hW => of_c 27 t (coBad (1 + y % 3) 1) (.slice ad t.parts.length cap) (.slice none 0 0) W (by unfold C64; decide) (HS.out.next hW) (HB6.out _))
    obtain ⟨G, hG⟩ : ∃ G : Nat → World → Prop, Hid (G = fun dd w' => Box w' dd [.int .i64 A2, .int .i64 B2] ∧ Below w10.heap.size w10 w') := ⟨_, rfl⟩
    apply via G
    case hreg =>
      go_region_held3 (fun w' => (w'.cell? ⟨w.heap.size + 1, 0, none⟩ = some (.int .i64 E.rep) ∧ w'.cell? ⟨w.heap.size + 1, 1, none⟩ = some (.slice a1 E.wins.length c1) ∧ w'.cell? ⟨w.heap.size + 1, 2, none⟩ = some (.slice a2 E.crons.length c2)) ∧ (w'.cell? ⟨w.heap.size, 0, none⟩ = some (.int .i64 t.op) ∧ w'.cell? ⟨w.heap.size, 1, none⟩ = some (.int .i64 t.n) ∧ w'.cell? ⟨w.heap.size, 2, none⟩ = some (.int .i64 t.m) ∧ w'.cell? ⟨w.heap.size, 3, none⟩ = some (.slice ad t.parts.length cap)) ∧ (w'.cell? ⟨w4.heap.size + 1, 0, none⟩ = some (.int .i64 6) ∧ w'.cell? ⟨w4.heap.size + 1, 1, none⟩ = some (.int .i64 (1 + y % 3)) ∧ w'.cell? ⟨w4.heap.size + 1, 2, none⟩ = some (.int .i64 1) ∧ w'.cell? ⟨w4.heap.size + 1, 3, none⟩ = some (.slice none 0 0))) (simp [go_sem, *]) (first | (go_at_call 27; refine Calls.mono (HOf.out _ (by exact cdrewN B10.out _)) ?_; rintro e u1 ⟨vv, rfl, sv, b⟩; have Hu1 : Hid (Below w10.heap.size w10 u1) := ⟨b.os, b.tape, b.output, b.size, b.block⟩; have yV := XV.out.next Hu1.out; replace V_0 := yV.cell 0 _ rfl; replace V_1 := yV.cell 1 _ rfl; replace V_2 := yV.cell 2 _ rfl; replace lV := yV.lt; have mV : w.heap.size + 1 ≠ u1.heap.size := Nat.ne_of_lt lV; have mV' : u1.heap.size ≠ w.heap.size + 1 := Nat.ne_of_gt lV; clear yV; have yC := XC.out.next Hu1.out; replace C_0 := yC.cell 0 _ rfl; replace C_1 := yC.cell 1 _ rfl; replace C_2 := yC.cell 2 _ rfl; replace C_3 := yC.cell 3 _ rfl; replace lC := yC.lt; have mC : w.heap.size ≠ u1.heap.size := Nat.ne_of_lt lC; have mC' : u1.heap.size ≠ w.heap.size := Nat.ne_of_gt lC; clear yC; have ybad := Xbad.out.next Hu1.out; replace bad_0 := ybad.cell 0 _ rfl; replace bad_1 := ybad.cell 1 _ rfl; replace bad_2 := ybad.cell 2 _ rfl; replace bad_3 := ybad.cell 3 _ rfl; replace lbad := ybad.lt; have mbad : w4.heap.size + 1 ≠ u1.heap.size := Nat.ne_of_lt lbad; have mbad' : u1.heap.size ≠ w4.heap.size + 1 := Nat.ne_of_gt lbad; clear ybad; have Bu1 := chid (cbelow_on B10.out Hu1.out B10.out.size); have HSv := chid sv; obtain ⟨aa, cc, rfl, -, -⟩ := sv.parts.shape; clear b sv) | (go_at_call 27; refine Calls.mono (HOf.out _ (by exact cbelow_on B10.out ((cdrewN (Below.refl w10.heap.size w10) _).alloc (Nat.le_refl _) _) B10.out.size)) ?_; rintro e u2 ⟨vv, rfl, sv, b⟩; have Hu2 : Hid (Below w10.heap.size w10 u2) := chid (cbelow_on ((cdrewN (Below.refl w10.heap.size w10) _).alloc (Nat.le_refl _) _) b ((cdrewN (Below.refl w10.heap.size w10) _).alloc (Nat.le_refl _) _).size); have Zz : Box u2 w10.heap.size [.int .i64 0, .int .i64 0] := Box.next (Box.new (w10.drewN _) [.int .i64 0, .int .i64 0] 51) b; have z0 := Zz.cell 0 _ rfl; have z1 := Zz.cell 1 _ rfl; have z2 := Zz.free 0 (by simp); have z3 := Zz.free 1 (by simp); have zl := Zz.lt; have HZ := chid Zz; clear Zz; have yV := XV.out.next Hu2.out; replace V_0 := yV.cell 0 _ rfl; replace V_1 := yV.cell 1 _ rfl; replace V_2 := yV.cell 2 _ rfl; replace lV := yV.lt; clear yV; have yC := XC.out.next Hu2.out; replace C_0 := yC.cell 0 _ rfl; replace C_1 := yC.cell 1 _ rfl; replace C_2 := yC.cell 2 _ rfl; replace C_3 := yC.cell 3 _ rfl; replace lC := yC.lt; clear yC; have ybad := Xbad.out.next Hu2.out; replace bad_0 := ybad.cell 0 _ rfl; replace bad_1 := ybad.cell 1 _ rfl; replace bad_2 := ybad.cell 2 _ rfl; replace bad_3 := ybad.cell 3 _ rfl; replace lbad := ybad.lt; clear ybad; have Bu2 := chid (cbelow_on B10.out Hu2.out B10.out.size); have HSv := chid sv; obtain ⟨aa, cc, rfl, -, -⟩ := sv.parts.shape; clear b sv) | (go_at_call 23; refine Calls.mono (HEc.out _ _ Bu1.out HSv.out) ?_; rintro e u3 ⟨rfl, b⟩; have Hu3 := chid (cbelow_on Hu1.out b Hu1.out.size); have yV := XV.out.next Hu3.out; replace V_0 := yV.cell 0 _ rfl; replace V_1 := yV.cell 1 _ rfl; replace V_2 := yV.cell 2 _ rfl; replace lV := yV.lt; clear yV; have yC := XC.out.next Hu3.out; replace C_0 := yC.cell 0 _ rfl; replace C_1 := yC.cell 1 _ rfl; replace C_2 := yC.cell 2 _ rfl; replace C_3 := yC.cell 3 _ rfl; replace lC := yC.lt; clear yC; have ybad := Xbad.out.next Hu3.out; replace bad_0 := ybad.cell 0 _ rfl; replace bad_1 := ybad.cell 1 _ rfl; replace bad_2 := ybad.cell 2 _ rfl; replace bad_3 := ybad.cell 3 _ rfl; replace lbad := ybad.lt; clear ybad; clear b) | (go_at_call 23; have ba := (Below.refl u1.heap.size u1).alloc (Nat.le_refl _) (.cells [.int .i64 0, .int .i64 0].toArray 51); refine Calls.mono (HEc.out _ _ (by exact cbelow_on Bu1.out ba Bu1.out.size) (by exact HSv.out.next ba)) ?_; rintro e u4 ⟨rfl, b⟩; have Hu4 : Hid (Below w10.heap.size w10 u4) := chid (cbelow_on (cbelow_on Hu1.out ba Hu1.out.size) b (Nat.le_trans Hu1.out.size ba.size)); have Zz : Box u4 u1.heap.size [.int .i64 0, .int .i64 0] := (Box.new u1 [.int .i64 0, .int .i64 0] 51).next b; have z0 := Zz.cell 0 _ rfl; have z1 := Zz.cell 1 _ rfl; have z2 := Zz.free 0 (by simp); have z3 := Zz.free 1 (by simp); have zl := Zz.lt; have HZ := chid Zz; clear Zz; have yV := XV.out.next Hu4.out; replace V_0 := yV.cell 0 _ rfl; replace V_1 := yV.cell 1 _ rfl; replace V_2 := yV.cell 2 _ rfl; replace lV := yV.lt; clear yV; have yC := XC.out.next Hu4.out; replace C_0 := yC.cell 0 _ rfl; replace C_1 := yC.cell 1 _ rfl; replace C_2 := yC.cell 2 _ rfl; replace C_3 := yC.cell 3 _ rfl; replace lC := yC.lt; clear yC; have ybad := Xbad.out.next Hu4.out; replace bad_0 := ybad.cell 0 _ rfl; replace bad_1 := ybad.cell 1 _ rfl; replace bad_2 := ybad.cell 2 _ rfl; replace bad_3 := ybad.cell 3 _ rfl; replace lbad := ybad.lt; clear ybad; clear b ba) | (go_at_call 23; refine Calls.mono (HEc.out _ _ Bu2.out HSv.out) ?_; rintro e u5 ⟨rfl, b⟩; have Hu5 := chid (cbelow_on Hu2.out b Hu2.out.size); have Zz := HZ.out.next b; clear z0 z1 z2 z3 zl HZ; have z0 := Zz.cell 0 _ rfl; have z1 := Zz.cell 1 _ rfl; have z2 := Zz.free 0 (by simp); have z3 := Zz.free 1 (by simp); have zl := Zz.lt; have HZ := chid Zz; clear Zz; have yV := XV.out.next Hu5.out; replace V_0 := yV.cell 0 _ rfl; replace V_1 := yV.cell 1 _ rfl; replace V_2 := yV.cell 2 _ rfl; replace lV := yV.lt; clear yV; have yC := XC.out.next Hu5.out; replace C_0 := yC.cell 0 _ rfl; replace C_1 := yC.cell 1 _ rfl; replace C_2 := yC.cell 2 _ rfl; replace C_3 := yC.cell 3 _ rfl; replace lC := yC.lt; clear yC; have ybad := Xbad.out.next Hu5.out; replace bad_0 := ybad.cell 0 _ rfl; replace bad_1 := ybad.cell 1 _ rfl; replace bad_2 := ybad.cell 2 _ rfl; replace bad_3 := ybad.cell 3 _ rfl; replace lbad := ybad.lt; clear ybad; clear b))
      · first | (obtain ⟨dd, hdd⟩ : ∃ dd, dd = u3.heap.size := ⟨_, rfl⟩; rw [← hdd]; refine ⟨dd, aa, cc, rfl, ?_⟩; rw [hG.out, hdd]; exact ⟨Box.new u3 [.int .i64 A2, .int .i64 B2] 51, Hu3.out.alloc Hu3.out.size _⟩) | (obtain ⟨dd, hdd⟩ : ∃ dd, dd = w10.heap.size := ⟨_, rfl⟩; rw [← hdd]; refine ⟨dd, aa, cc, rfl, ?_⟩; rw [hG.out, hdd]; exact ⟨(HZ.out.set 0 (by simp) (.int .i64 A2)).set 1 (by simp) (.int .i64 B2), (Hu5.out.setCell (p := ⟨_, 0, none⟩) (Nat.le_refl _) _).setCell (p := ⟨_, 1, none⟩) (Nat.le_refl _) _⟩) | (obtain ⟨dd, hdd⟩ : ∃ dd, dd = u1.heap.size := ⟨_, rfl⟩; rw [← hdd]; refine ⟨dd, aa, cc, rfl, ?_⟩; rw [hG.out, hdd]; exact ⟨(HZ.out.set 0 (by simp) (.int .i64 A2)).set 1 (by simp) (.int .i64 B2), (Hu4.out.setCell (p := ⟨_, 0, none⟩) Hu1.out.size _).setCell (p := ⟨_, 1, none⟩) Hu1.out.size _⟩)
      · first | (obtain ⟨dd, hdd⟩ : ∃ dd, dd = u3.heap.size := ⟨_, rfl⟩; rw [← hdd]; refine ⟨dd, aa, cc, rfl, ?_⟩; rw [hG.out, hdd]; exact ⟨Box.new u3 [.int .i64 A2, .int .i64 B2] 51, Hu3.out.alloc Hu3.out.size _⟩) | (obtain ⟨dd, hdd⟩ : ∃ dd, dd = w10.heap.size := ⟨_, rfl⟩; rw [← hdd]; refine ⟨dd, aa, cc, rfl, ?_⟩; rw [hG.out, hdd]; exact ⟨(HZ.out.set 0 (by simp) (.int .i64 A2)).set 1 (by simp) (.int .i64 B2), (Hu5.out.setCell (p := ⟨_, 0, none⟩) (Nat.le_refl _) _).setCell (p := ⟨_, 1, none⟩) (Nat.le_refl _) _⟩) | (obtain ⟨dd, hdd⟩ : ∃ dd, dd = u1.heap.size := ⟨_, rfl⟩; rw [← hdd]; refine ⟨dd, aa, cc, rfl, ?_⟩; rw [hG.out, hdd]; exact ⟨(HZ.out.set 0 (by simp) (.int .i64 A2)).set 1 (by simp) (.int .i64 B2), (Hu4.out.setCell (p := ⟨_, 0, none⟩) Hu1.out.size _).setCell (p := ⟨_, 1, none⟩) Hu1.out.size _⟩)
      · first | (obtain ⟨dd, hdd⟩ : ∃ dd, dd = u3.heap.size := ⟨_, rfl⟩; rw [← hdd]; refine ⟨dd, aa, cc, rfl, ?_⟩; rw [hG.out, hdd]; exact ⟨Box.new u3 [.int .i64 A2, .int .i64 B2] 51, Hu3.out.alloc Hu3.out.size _⟩) | (obtain ⟨dd, hdd⟩ : ∃ dd, dd = w10.heap.size := ⟨_, rfl⟩; rw [← hdd]; refine ⟨dd, aa, cc, rfl, ?_⟩; rw [hG.out, hdd]; exact ⟨(HZ.out.set 0 (by simp) (.int .i64 A2)).set 1 (by simp) (.int .i64 B2), (Hu5.out.setCell (p := ⟨_, 0, none⟩) (Nat.le_refl _) _).setCell (p := ⟨_, 1, none⟩) (Nat.le_refl _) _⟩) | (obtain ⟨dd, hdd⟩ : ∃ dd, dd = u1.heap.size := ⟨_, rfl⟩; rw [← hdd]; refine ⟨dd, aa, cc, rfl, ?_⟩; rw [hG.out, hdd]; exact ⟨(HZ.out.set 0 (by simp) (.int .i64 A2)).set 1 (by simp) (.int .i64 B2), (Hu4.out.setCell (p := ⟨_, 0, none⟩) Hu1.out.size _).setCell (p := ⟨_, 1, none⟩) Hu1.out.size _⟩)
    case hrest =>
    intro fD aa_f cc_f w11 hGd
    rw [hG.out] at hGd
    obtain ⟨Yf, ka⟩ := hGd
    clear V_0 V_1 V_2 lV C_0 C_1 C_2 C_3 lC bad_0 bad_1 bad_2 bad_3 lbad
    clear hG G HEc HOf nV nV' nC nC' nbad nbad'
    have B11 := chid (cbelow_on B10.out ka B10.out.size)
    replace XC := chid (XC.out.next ka)
    replace XV := chid (XV.out.next ka)
    replace Xx := chid (Xx.out.next ka)
    replace Xbad := chid (Xbad.out.next ka)
    replace Xyes := chid (Xyes.out.next ka)
    replace Xno := chid (Xno.out.next ka)
    replace Xa := chid (Xa.out.next ka)
    replace Xb := chid (Xb.out.next ka)
    replace Xd := chid (Xd.out.next ka)
    have Xf := chid Yf
    clear ka Yf B10
    by_cases hr2 : r.2 = 0
    · have hz := hAB.out
      rw [rsV_ok hr2] at hz
      have hz2 := hAB2.out
      rw [if_pos hr2, rsV_ok hr2] at hz2
      simp only [Value.agg.injEq, Array.mk.injEq, List.cons.injEq, Value.int.injEq, true_and, and_true] at hz hz2
      obtain ⟨rfl, rfl⟩ := hz
      obtain ⟨rfl, rfl⟩ := hz2
      have x_0 := Xx.out.cell 0 _ rfl
      have x_1 := Xx.out.cell 1 _ rfl
      have lx := Xx.out.lt
      have lx_1 : w4.heap.size < w11.heap.size + 1 := by omega
      have a_0 := Xa.out.cell 0 _ rfl
      have a_1 := Xa.out.cell 1 _ rfl
      have la := Xa.out.lt
      have la_1 : w6.heap.size < w11.heap.size + 1 := by omega
      have b_0 := Xb.out.cell 0 _ rfl
      have b_1 := Xb.out.cell 1 _ rfl
      have lb := Xb.out.lt
      have lb_1 : w8.heap.size < w11.heap.size + 1 := by omega
      have d_0 := Xd.out.cell 0 _ rfl
      have d_1 := Xd.out.cell 1 _ rfl
      have ld := Xd.out.lt
      have ld_1 : dD < w11.heap.size + 1 := by omega
      have f_0 := Xf.out.cell 0 _ rfl
      have f_1 := Xf.out.cell 1 _ rfl
      have lf := Xf.out.lt
      have lf_1 : fD < w11.heap.size + 1 := by omega
      go_wp2_with fail
      clear x_0 x_1 lx lx_1 a_0 a_1 la la_1 b_0 b_1 lb lb_1 d_0 d_1 ld ld_1 f_0 f_1 lf lf_1
      have Zstop := Box.new w11 [.int .i64 6, .int .i64 (1 + y % 3), .int .i64 2, .slice none 0 0] 24
      have ka := (Below.refl w11.heap.size w11).alloc (Nat.le_refl _) (.cells [.int .i64 6, .int .i64 (1 + y % 3), .int .i64 2, .slice none 0 0].toArray 24)
      have hsz : (w11.alloc (.cells [.int .i64 6, .int .i64 (1 + y % 3), .int .i64 2, .slice none 0 0].toArray 24)).heap.size = w11.heap.size + 1 := by simp
      change Box (w11.alloc (.cells #[.int .i64 6, .int .i64 (1 + y % 3), .int .i64 2, .slice none 0 0] 24)) _ _ at Zstop
      change Below w11.heap.size w11 (w11.alloc (.cells #[.int .i64 6, .int .i64 (1 + y % 3), .int .i64 2, .slice none 0 0] 24)) at ka
      change (w11.alloc (.cells #[.int .i64 6, .int .i64 (1 + y % 3), .int .i64 2, .slice none 0 0] 24)).heap.size = _ at hsz
      generalize w11.alloc (.cells #[.int .i64 6, .int .i64 (1 + y % 3), .int .i64 2, .slice none 0 0] 24) = w12 at *
      have B12 := chid (cbelow_on B11.out ka B11.out.size)
      replace XC := chid (XC.out.next ka)
      replace XV := chid (XV.out.next ka)
      replace Xx := chid (Xx.out.next ka)
      replace Xbad := chid (Xbad.out.next ka)
      replace Xyes := chid (Xyes.out.next ka)
      replace Xno := chid (Xno.out.next ka)
      replace Xa := chid (Xa.out.next ka)
      replace Xb := chid (Xb.out.next ka)
      replace Xd := chid (Xd.out.next ka)
      replace Xf := chid (Xf.out.next ka)
      have Xstop := chid Zstop
      have HSZ12 := chid hsz
      clear ka Zstop B11 hsz
      have HB7 : Hid (∀ W : World, CSits W (coBad (1 + y % 3) 2) (.slice none 0 0)) := chid (fun W => csits0 W 6 (1 + y % 3) 2 (by unfold C64; decide) hq64.out (by unfold C64; decide))
      have V_0 := XV.out.cell 0 _ rfl
      have V_1 := XV.out.cell 1 _ rfl
      have V_2 := XV.out.cell 2 _ rfl
      have lV := XV.out.lt
      have no_0 := Xno.out.cell 0 _ rfl
      have no_1 := Xno.out.cell 1 _ rfl
      have no_2 := Xno.out.cell 2 _ rfl
      have no_3 := Xno.out.cell 3 _ rfl
      have lno := Xno.out.lt
      have stop_0 := Xstop.out.cell 0 _ rfl
      have stop_1 := Xstop.out.cell 1 _ rfl
      have stop_2 := Xstop.out.cell 2 _ rfl
      have stop_3 := Xstop.out.cell 3 _ rfl
      have lstop := Xstop.out.lt
      have nV : w.heap.size + 1 ≠ w12.heap.size := by omega
      have nV' : w12.heap.size ≠ w.heap.size + 1 := by omega
      have nno : w4.heap.size + 1 + 1 + 1 ≠ w12.heap.size := by omega
      have nno' : w12.heap.size ≠ w4.heap.size + 1 + 1 + 1 := by omega
      have nstop : w11.heap.size ≠ w12.heap.size := by omega
      have nstop' : w12.heap.size ≠ w11.heap.size := by omega
      have HEc : Hid (∀ (W : World) (vv : Value), Below w.heap.size w W → CSits W ⟨25, 0, 0, [coNo, (coBad (1 + y % 3) 2)]⟩ vv → Calls Tryz.prog 23 #[coV ⟨25, 0, 0, [coNo, (coBad (1 + y % 3) 2)]⟩ vv, envV E (.slice a1 E.wins.length c1) (.slice a2 E.crons.length c2)] W fun e w' => e = .returned (.tuple #[.agg #[.int .i64 0, .int .i64 0], .int .i64 0]) ∧ Below W.heap.size W w') := chid (fun W vv hW hsv => evc E ⟨25, 0, 0, [coNo, (coBad (1 + y % 3) 2)]⟩ vv _ _ W hsv (by rw [cn2]; rw [cn0, cn0]; omega) (HE.out.next hW) (GlE.next HG.out hW) _ (by exact ev_and1 E (1 + y % 3) hq1.out.1 hq1.out.2))
      have HOf : Hid (∀ (W : World), Below w.heap.size w W → Calls Tryz.prog 27 #[.int .i64 25, coV coNo (.slice none 0 0), coV (coBad (1 + y % 3) 2) (.slice none 0 0)] W fun e w' => ∃ v, e = .returned (coV ⟨25, 0, 0, [coNo, (coBad (1 + y % 3) 2)]⟩ v) ∧ CSits w' ⟨25, 0, 0, [coNo, (coBad (1 + y % 3) 2)]⟩ v ∧ Below W.heap.size W w') := chid (fun W hW => of_c 25 coNo (coBad (1 + y % 3) 2) (.slice none 0 0) (.slice none 0 0) W (by unfold C64; decide) (HNo.out _) (HB7.out _))
      obtain ⟨G, hG⟩ : ∃ G : Nat → World → Prop, Hid (G = fun dd w' => Box w' dd [.int .i64 0, .int .i64 0] ∧ Below w12.heap.size w12 w') := ⟨_, rfl⟩
      apply via G
      case hreg =>
        go_region_held3 (fun w' => (w'.cell? ⟨w.heap.size + 1, 0, none⟩ = some (.int .i64 E.rep) ∧ w'.cell? ⟨w.heap.size + 1, 1, none⟩ = some (.slice a1 E.wins.length c1) ∧ w'.cell? ⟨w.heap.size + 1, 2, none⟩ = some (.slice a2 E.crons.length c2)) ∧ (w'.cell? ⟨w4.heap.size + 1 + 1 + 1, 0, none⟩ = some (.int .i64 2) ∧ w'.cell? ⟨w4.heap.size + 1 + 1 + 1, 1, none⟩ = some (.int .i64 0) ∧ w'.cell? ⟨w4.heap.size + 1 + 1 + 1, 2, none⟩ = some (.int .i64 0) ∧ w'.cell? ⟨w4.heap.size + 1 + 1 + 1, 3, none⟩ = some (.slice none 0 0)) ∧ (w'.cell? ⟨w11.heap.size, 0, none⟩ = some (.int .i64 6) ∧ w'.cell? ⟨w11.heap.size, 1, none⟩ = some (.int .i64 (1 + y % 3)) ∧ w'.cell? ⟨w11.heap.size, 2, none⟩ = some (.int .i64 2) ∧ w'.cell? ⟨w11.heap.size, 3, none⟩ = some (.slice none 0 0))) (simp [go_sem, *]) (first | (go_at_call 27; refine Calls.mono (HOf.out _ (by exact cdrewN B12.out _)) ?_; rintro e u1 ⟨vv, rfl, sv, b⟩; have Hu1 : Hid (Below w12.heap.size w12 u1) := ⟨b.os, b.tape, b.output, b.size, b.block⟩; have yV := XV.out.next Hu1.out; replace V_0 := yV.cell 0 _ rfl; replace V_1 := yV.cell 1 _ rfl; replace V_2 := yV.cell 2 _ rfl; replace lV := yV.lt; have mV : w.heap.size + 1 ≠ u1.heap.size := Nat.ne_of_lt lV; have mV' : u1.heap.size ≠ w.heap.size + 1 := Nat.ne_of_gt lV; clear yV; have yno := Xno.out.next Hu1.out; replace no_0 := yno.cell 0 _ rfl; replace no_1 := yno.cell 1 _ rfl; replace no_2 := yno.cell 2 _ rfl; replace no_3 := yno.cell 3 _ rfl; replace lno := yno.lt; have mno : w4.heap.size + 1 + 1 + 1 ≠ u1.heap.size := Nat.ne_of_lt lno; have mno' : u1.heap.size ≠ w4.heap.size + 1 + 1 + 1 := Nat.ne_of_gt lno; clear yno; have ystop := Xstop.out.next Hu1.out; replace stop_0 := ystop.cell 0 _ rfl; replace stop_1 := ystop.cell 1 _ rfl; replace stop_2 := ystop.cell 2 _ rfl; replace stop_3 := ystop.cell 3 _ rfl; replace lstop := ystop.lt; have mstop : w11.heap.size ≠ u1.heap.size := Nat.ne_of_lt lstop; have mstop' : u1.heap.size ≠ w11.heap.size := Nat.ne_of_gt lstop; clear ystop; have Bu1 := chid (cbelow_on B12.out Hu1.out B12.out.size); have HSv := chid sv; obtain ⟨aa, cc, rfl, -, -⟩ := sv.parts.shape; clear b sv) | (go_at_call 27; refine Calls.mono (HOf.out _ (by exact cbelow_on B12.out ((cdrewN (Below.refl w12.heap.size w12) _).alloc (Nat.le_refl _) _) B12.out.size)) ?_; rintro e u2 ⟨vv, rfl, sv, b⟩; have Hu2 : Hid (Below w12.heap.size w12 u2) := chid (cbelow_on ((cdrewN (Below.refl w12.heap.size w12) _).alloc (Nat.le_refl _) _) b ((cdrewN (Below.refl w12.heap.size w12) _).alloc (Nat.le_refl _) _).size); have Zz : Box u2 w12.heap.size [.int .i64 0, .int .i64 0] := Box.next (Box.new (w12.drewN _) [.int .i64 0, .int .i64 0] 51) b; have z0 := Zz.cell 0 _ rfl; have z1 := Zz.cell 1 _ rfl; have z2 := Zz.free 0 (by simp); have z3 := Zz.free 1 (by simp); have zl := Zz.lt; have HZ := chid Zz; clear Zz; have yV := XV.out.next Hu2.out; replace V_0 := yV.cell 0 _ rfl; replace V_1 := yV.cell 1 _ rfl; replace V_2 := yV.cell 2 _ rfl; replace lV := yV.lt; clear yV; have yno := Xno.out.next Hu2.out; replace no_0 := yno.cell 0 _ rfl; replace no_1 := yno.cell 1 _ rfl; replace no_2 := yno.cell 2 _ rfl; replace no_3 := yno.cell 3 _ rfl; replace lno := yno.lt; clear yno; have ystop := Xstop.out.next Hu2.out; replace stop_0 := ystop.cell 0 _ rfl; replace stop_1 := ystop.cell 1 _ rfl; replace stop_2 := ystop.cell 2 _ rfl; replace stop_3 := ystop.cell 3 _ rfl; replace lstop := ystop.lt; clear ystop; have Bu2 := chid (cbelow_on B12.out Hu2.out B12.out.size); have HSv := chid sv; obtain ⟨aa, cc, rfl, -, -⟩ := sv.parts.shape; clear b sv) | (go_at_call 23; refine Calls.mono (HEc.out _ _ Bu1.out HSv.out) ?_; rintro e u3 ⟨rfl, b⟩; have Hu3 := chid (cbelow_on Hu1.out b Hu1.out.size); have yV := XV.out.next Hu3.out; replace V_0 := yV.cell 0 _ rfl; replace V_1 := yV.cell 1 _ rfl; replace V_2 := yV.cell 2 _ rfl; replace lV := yV.lt; clear yV; have yno := Xno.out.next Hu3.out; replace no_0 := yno.cell 0 _ rfl; replace no_1 := yno.cell 1 _ rfl; replace no_2 := yno.cell 2 _ rfl; replace no_3 := yno.cell 3 _ rfl; replace lno := yno.lt; clear yno; have ystop := Xstop.out.next Hu3.out; replace stop_0 := ystop.cell 0 _ rfl; replace stop_1 := ystop.cell 1 _ rfl; replace stop_2 := ystop.cell 2 _ rfl; replace stop_3 := ystop.cell 3 _ rfl; replace lstop := ystop.lt; clear ystop; clear b) | (go_at_call 23; have ba := (Below.refl u1.heap.size u1).alloc (Nat.le_refl _) (.cells [.int .i64 0, .int .i64 0].toArray 51); refine Calls.mono (HEc.out _ _ (by exact cbelow_on Bu1.out ba Bu1.out.size) (by exact HSv.out.next ba)) ?_; rintro e u4 ⟨rfl, b⟩; have Hu4 : Hid (Below w12.heap.size w12 u4) := chid (cbelow_on (cbelow_on Hu1.out ba Hu1.out.size) b (Nat.le_trans Hu1.out.size ba.size)); have Zz : Box u4 u1.heap.size [.int .i64 0, .int .i64 0] := (Box.new u1 [.int .i64 0, .int .i64 0] 51).next b; have z0 := Zz.cell 0 _ rfl; have z1 := Zz.cell 1 _ rfl; have z2 := Zz.free 0 (by simp); have z3 := Zz.free 1 (by simp); have zl := Zz.lt; have HZ := chid Zz; clear Zz; have yV := XV.out.next Hu4.out; replace V_0 := yV.cell 0 _ rfl; replace V_1 := yV.cell 1 _ rfl; replace V_2 := yV.cell 2 _ rfl; replace lV := yV.lt; clear yV; have yno := Xno.out.next Hu4.out; replace no_0 := yno.cell 0 _ rfl; replace no_1 := yno.cell 1 _ rfl; replace no_2 := yno.cell 2 _ rfl; replace no_3 := yno.cell 3 _ rfl; replace lno := yno.lt; clear yno; have ystop := Xstop.out.next Hu4.out; replace stop_0 := ystop.cell 0 _ rfl; replace stop_1 := ystop.cell 1 _ rfl; replace stop_2 := ystop.cell 2 _ rfl; replace stop_3 := ystop.cell 3 _ rfl; replace lstop := ystop.lt; clear ystop; clear b ba) | (go_at_call 23; refine Calls.mono (HEc.out _ _ Bu2.out HSv.out) ?_; rintro e u5 ⟨rfl, b⟩; have Hu5 := chid (cbelow_on Hu2.out b Hu2.out.size); have Zz := HZ.out.next b; clear z0 z1 z2 z3 zl HZ; have z0 := Zz.cell 0 _ rfl; have z1 := Zz.cell 1 _ rfl; have z2 := Zz.free 0 (by simp); have z3 := Zz.free 1 (by simp); have zl := Zz.lt; have HZ := chid Zz; clear Zz; have yV := XV.out.next Hu5.out; replace V_0 := yV.cell 0 _ rfl; replace V_1 := yV.cell 1 _ rfl; replace V_2 := yV.cell 2 _ rfl; replace lV := yV.lt; clear yV; have yno := Xno.out.next Hu5.out; replace no_0 := yno.cell 0 _ rfl; replace no_1 := yno.cell 1 _ rfl; replace no_2 := yno.cell 2 _ rfl; replace no_3 := yno.cell 3 _ rfl; replace lno := yno.lt; clear yno; have ystop := Xstop.out.next Hu5.out; replace stop_0 := ystop.cell 0 _ rfl; replace stop_1 := ystop.cell 1 _ rfl; replace stop_2 := ystop.cell 2 _ rfl; replace stop_3 := ystop.cell 3 _ rfl; replace lstop := ystop.lt; clear ystop; clear b))
        · first | (obtain ⟨dd, hdd⟩ : ∃ dd, dd = u3.heap.size := ⟨_, rfl⟩; rw [← hdd]; refine ⟨dd, aa, cc, rfl, ?_⟩; rw [hG.out, hdd]; exact ⟨Box.new u3 [.int .i64 0, .int .i64 0] 51, Hu3.out.alloc Hu3.out.size _⟩) | (obtain ⟨dd, hdd⟩ : ∃ dd, dd = w12.heap.size := ⟨_, rfl⟩; rw [← hdd]; refine ⟨dd, aa, cc, rfl, ?_⟩; rw [hG.out, hdd]; exact ⟨(HZ.out.set 0 (by simp) (.int .i64 0)).set 1 (by simp) (.int .i64 0), (Hu5.out.setCell (p := ⟨_, 0, none⟩) (Nat.le_refl _) _).setCell (p := ⟨_, 1, none⟩) (Nat.le_refl _) _⟩) | (obtain ⟨dd, hdd⟩ : ∃ dd, dd = u1.heap.size := ⟨_, rfl⟩; rw [← hdd]; refine ⟨dd, aa, cc, rfl, ?_⟩; rw [hG.out, hdd]; exact ⟨(HZ.out.set 0 (by simp) (.int .i64 0)).set 1 (by simp) (.int .i64 0), (Hu4.out.setCell (p := ⟨_, 0, none⟩) Hu1.out.size _).setCell (p := ⟨_, 1, none⟩) Hu1.out.size _⟩)
        · first | (obtain ⟨dd, hdd⟩ : ∃ dd, dd = u3.heap.size := ⟨_, rfl⟩; rw [← hdd]; refine ⟨dd, aa, cc, rfl, ?_⟩; rw [hG.out, hdd]; exact ⟨Box.new u3 [.int .i64 0, .int .i64 0] 51, Hu3.out.alloc Hu3.out.size _⟩) | (obtain ⟨dd, hdd⟩ : ∃ dd, dd = w12.heap.size := ⟨_, rfl⟩; rw [← hdd]; refine ⟨dd, aa, cc, rfl, ?_⟩; rw [hG.out, hdd]; exact ⟨(HZ.out.set 0 (by simp) (.int .i64 0)).set 1 (by simp) (.int .i64 0), (Hu5.out.setCell (p := ⟨_, 0, none⟩) (Nat.le_refl _) _).setCell (p := ⟨_, 1, none⟩) (Nat.le_refl _) _⟩) | (obtain ⟨dd, hdd⟩ : ∃ dd, dd = u1.heap.size := ⟨_, rfl⟩; rw [← hdd]; refine ⟨dd, aa, cc, rfl, ?_⟩; rw [hG.out, hdd]; exact ⟨(HZ.out.set 0 (by simp) (.int .i64 0)).set 1 (by simp) (.int .i64 0), (Hu4.out.setCell (p := ⟨_, 0, none⟩) Hu1.out.size _).setCell (p := ⟨_, 1, none⟩) Hu1.out.size _⟩)
        · first | (obtain ⟨dd, hdd⟩ : ∃ dd, dd = u3.heap.size := ⟨_, rfl⟩; rw [← hdd]; refine ⟨dd, aa, cc, rfl, ?_⟩; rw [hG.out, hdd]; exact ⟨Box.new u3 [.int .i64 0, .int .i64 0] 51, Hu3.out.alloc Hu3.out.size _⟩) | (obtain ⟨dd, hdd⟩ : ∃ dd, dd = w12.heap.size := ⟨_, rfl⟩; rw [← hdd]; refine ⟨dd, aa, cc, rfl, ?_⟩; rw [hG.out, hdd]; exact ⟨(HZ.out.set 0 (by simp) (.int .i64 0)).set 1 (by simp) (.int .i64 0), (Hu5.out.setCell (p := ⟨_, 0, none⟩) (Nat.le_refl _) _).setCell (p := ⟨_, 1, none⟩) (Nat.le_refl _) _⟩) | (obtain ⟨dd, hdd⟩ : ∃ dd, dd = u1.heap.size := ⟨_, rfl⟩; rw [← hdd]; refine ⟨dd, aa, cc, rfl, ?_⟩; rw [hG.out, hdd]; exact ⟨(HZ.out.set 0 (by simp) (.int .i64 0)).set 1 (by simp) (.int .i64 0), (Hu4.out.setCell (p := ⟨_, 0, none⟩) Hu1.out.size _).setCell (p := ⟨_, 1, none⟩) Hu1.out.size _⟩)
      case hrest =>
      intro gD aa_g cc_g w13 hGd
      rw [hG.out] at hGd
      obtain ⟨Yg, ka⟩ := hGd
      clear V_0 V_1 V_2 lV no_0 no_1 no_2 no_3 lno stop_0 stop_1 stop_2 stop_3 lstop
      clear hG G HEc HOf nV nV' nno nno' nstop nstop'
      have B13 := chid (cbelow_on B12.out ka B12.out.size)
      replace XC := chid (XC.out.next ka)
      replace XV := chid (XV.out.next ka)
      replace Xx := chid (Xx.out.next ka)
      replace Xbad := chid (Xbad.out.next ka)
      replace Xyes := chid (Xyes.out.next ka)
      replace Xno := chid (Xno.out.next ka)
      replace Xa := chid (Xa.out.next ka)
      replace Xb := chid (Xb.out.next ka)
      replace Xd := chid (Xd.out.next ka)
      replace Xf := chid (Xf.out.next ka)
      replace Xstop := chid (Xstop.out.next ka)
      have Xg := chid Yg
      clear ka Yg B12
      go_wp2_with fail
      have V_0 := XV.out.cell 0 _ rfl
      have V_1 := XV.out.cell 1 _ rfl
      have V_2 := XV.out.cell 2 _ rfl
      have lV := XV.out.lt
      have stop_0 := Xstop.out.cell 0 _ rfl
      have stop_1 := Xstop.out.cell 1 _ rfl
      have stop_2 := Xstop.out.cell 2 _ rfl
      have stop_3 := Xstop.out.cell 3 _ rfl
      have lstop := Xstop.out.lt
      have yes_0 := Xyes.out.cell 0 _ rfl
      have yes_1 := Xyes.out.cell 1 _ rfl
      have yes_2 := Xyes.out.cell 2 _ rfl
      have yes_3 := Xyes.out.cell 3 _ rfl
      have lyes := Xyes.out.lt
      have nV : w.heap.size + 1 ≠ w13.heap.size := by omega
      have nV' : w13.heap.size ≠ w.heap.size + 1 := by omega
      have nstop : w11.heap.size ≠ w13.heap.size := by omega
      have nstop' : w13.heap.size ≠ w11.heap.size := by omega
      have nyes : w4.heap.size + 1 + 1 ≠ w13.heap.size := by omega
      have nyes' : w13.heap.size ≠ w4.heap.size + 1 + 1 := by omega
      have HEc : Hid (∀ (W : World) (vv : Value), Below w.heap.size w W → CSits W ⟨26, 0, 0, [coYes, (coBad (1 + y % 3) 2)]⟩ vv → Calls Tryz.prog 23 #[coV ⟨26, 0, 0, [coYes, (coBad (1 + y % 3) 2)]⟩ vv, envV E (.slice a1 E.wins.length c1) (.slice a2 E.crons.length c2)] W fun e w' => e = .returned (.tuple #[.agg #[.int .i64 0, .int .i64 1], .int .i64 0]) ∧ Below W.heap.size W w') := chid (fun W vv hW hsv => evc E ⟨26, 0, 0, [coYes, (coBad (1 + y % 3) 2)]⟩ vv _ _ W hsv (by rw [cn2]; rw [cn0, cn0]; omega) (HE.out.next hW) (GlE.next HG.out hW) _ (by exact ev_or1 E (1 + y % 3) hq1.out.1 hq1.out.2))
      have HOf : Hid (∀ (W : World), Below w.heap.size w W → Calls Tryz.prog 27 #[.int .i64 26, coV coYes (.slice none 0 0), coV (coBad (1 + y % 3) 2) (.slice none 0 0)] W fun e w' => ∃ v, e = .returned (coV ⟨26, 0, 0, [coYes, (coBad (1 + y % 3) 2)]⟩ v) ∧ CSits w' ⟨26, 0, 0, [coYes, (coBad (1 + y % 3) 2)]⟩ v ∧ Below W.heap.size W w') := chid (fun W hW => of_c 26 coYes (coBad (1 + y % 3) 2) (.slice none 0 0) (.slice none 0 0) W (by unfold C64; decide) (HYe.out _) (HB7.out _))
      obtain ⟨G, hG⟩ : ∃ G : Nat → World → Prop, Hid (G = fun dd w' => Box w' dd [.int .i64 0, .int .i64 1] ∧ Below w13.heap.size w13 w') := ⟨_, rfl⟩
      apply via G
      case hreg =>
        go_region_held3 (fun w' => (w'.cell? ⟨w.heap.size + 1, 0, none⟩ = some (.int .i64 E.rep) ∧ w'.cell? ⟨w.heap.size + 1, 1, none⟩ = some (.slice a1 E.wins.length c1) ∧ w'.cell? ⟨w.heap.size + 1, 2, none⟩ = some (.slice a2 E.crons.length c2)) ∧ (w'.cell? ⟨w11.heap.size, 0, none⟩ = some (.int .i64 6) ∧ w'.cell? ⟨w11.heap.size, 1, none⟩ = some (.int .i64 (1 + y % 3)) ∧ w'.cell? ⟨w11.heap.size, 2, none⟩ = some (.int .i64 2) ∧ w'.cell? ⟨w11.heap.size, 3, none⟩ = some (.slice none 0 0)) ∧ (w'.cell? ⟨w4.heap.size + 1 + 1, 0, none⟩ = some (.int .i64 2) ∧ w'.cell? ⟨w4.heap.size + 1 + 1, 1, none⟩ = some (.int .i64 1) ∧ w'.cell? ⟨w4.heap.size + 1 + 1, 2, none⟩ = some (.int .i64 0) ∧ w'.cell? ⟨w4.heap.size + 1 + 1, 3, none⟩ = some (.slice none 0 0))) (simp [go_sem, *]) (first | (go_at_call 27; refine Calls.mono (HOf.out _ (by exact cdrewN B13.out _)) ?_; rintro e u1 ⟨vv, rfl, sv, b⟩; have Hu1 : Hid (Below w13.heap.size w13 u1) := ⟨b.os, b.tape, b.output, b.size, b.block⟩; have yV := XV.out.next Hu1.out; replace V_0 := yV.cell 0 _ rfl; replace V_1 := yV.cell 1 _ rfl; replace V_2 := yV.cell 2 _ rfl; replace lV := yV.lt; have mV : w.heap.size + 1 ≠ u1.heap.size := Nat.ne_of_lt lV; have mV' : u1.heap.size ≠ w.heap.size + 1 := Nat.ne_of_gt lV; clear yV; have ystop := Xstop.out.next Hu1.out; replace stop_0 := ystop.cell 0 _ rfl; replace stop_1 := ystop.cell 1 _ rfl; replace stop_2 := ystop.cell 2 _ rfl; replace stop_3 := ystop.cell 3 _ rfl; replace lstop := ystop.lt; have mstop : w11.heap.size ≠ u1.heap.size := Nat.ne_of_lt lstop; have mstop' : u1.heap.size ≠ w11.heap.size := Nat.ne_of_gt lstop; clear ystop; have yyes := Xyes.out.next Hu1.out; replace yes_0 := yyes.cell 0 _ rfl; replace yes_1 := yyes.cell 1 _ rfl; replace yes_2 := yyes.cell 2 _ rfl; replace yes_3 := yyes.cell 3 _ rfl; replace lyes := yyes.lt; have myes : w4.heap.size + 1 + 1 ≠ u1.heap.size := Nat.ne_of_lt lyes; have myes' : u1.heap.size ≠ w4.heap.size + 1 + 1 := Nat.ne_of_gt lyes; clear yyes; have Bu1 := chid (cbelow_on B13.out Hu1.out B13.out.size); have HSv := chid sv; obtain ⟨aa, cc, rfl, -, -⟩ := sv.parts.shape; clear b sv) | (go_at_call 27; refine Calls.mono (HOf.out _ (by exact cbelow_on B13.out ((cdrewN (Below.refl w13.heap.size w13) _).alloc (Nat.le_refl _) _) B13.out.size)) ?_; rintro e u2 ⟨vv, rfl, sv, b⟩; have Hu2 : Hid (Below w13.heap.size w13 u2) := chid (cbelow_on ((cdrewN (Below.refl w13.heap.size w13) _).alloc (Nat.le_refl _) _) b ((cdrewN (Below.refl w13.heap.size w13) _).alloc (Nat.le_refl _) _).size); have Zz : Box u2 w13.heap.size [.int .i64 0, .int .i64 0] := Box.next (Box.new (w13.drewN _) [.int .i64 0, .int .i64 0] 51) b; have z0 := Zz.cell 0 _ rfl; have z1 := Zz.cell 1 _ rfl; have z2 := Zz.free 0 (by simp); have z3 := Zz.free 1 (by simp); have zl := Zz.lt; have HZ := chid Zz; clear Zz; have yV := XV.out.next Hu2.out; replace V_0 := yV.cell 0 _ rfl; replace V_1 := yV.cell 1 _ rfl; replace V_2 := yV.cell 2 _ rfl; replace lV := yV.lt; clear yV; have ystop := Xstop.out.next Hu2.out; replace stop_0 := ystop.cell 0 _ rfl; replace stop_1 := ystop.cell 1 _ rfl; replace stop_2 := ystop.cell 2 _ rfl; replace stop_3 := ystop.cell 3 _ rfl; replace lstop := ystop.lt; clear ystop; have yyes := Xyes.out.next Hu2.out; replace yes_0 := yyes.cell 0 _ rfl; replace yes_1 := yyes.cell 1 _ rfl; replace yes_2 := yyes.cell 2 _ rfl; replace yes_3 := yyes.cell 3 _ rfl; replace lyes := yyes.lt; clear yyes; have Bu2 := chid (cbelow_on B13.out Hu2.out B13.out.size); have HSv := chid sv; obtain ⟨aa, cc, rfl, -, -⟩ := sv.parts.shape; clear b sv) | (go_at_call 23; refine Calls.mono (HEc.out _ _ Bu1.out HSv.out) ?_; rintro e u3 ⟨rfl, b⟩; have Hu3 := chid (cbelow_on Hu1.out b Hu1.out.size); have yV := XV.out.next Hu3.out; replace V_0 := yV.cell 0 _ rfl; replace V_1 := yV.cell 1 _ rfl; replace V_2 := yV.cell 2 _ rfl; replace lV := yV.lt; clear yV; have ystop := Xstop.out.next Hu3.out; replace stop_0 := ystop.cell 0 _ rfl; replace stop_1 := ystop.cell 1 _ rfl; replace stop_2 := ystop.cell 2 _ rfl; replace stop_3 := ystop.cell 3 _ rfl; replace lstop := ystop.lt; clear ystop; have yyes := Xyes.out.next Hu3.out; replace yes_0 := yyes.cell 0 _ rfl; replace yes_1 := yyes.cell 1 _ rfl; replace yes_2 := yyes.cell 2 _ rfl; replace yes_3 := yyes.cell 3 _ rfl; replace lyes := yyes.lt; clear yyes; clear b) | (go_at_call 23; have ba := (Below.refl u1.heap.size u1).alloc (Nat.le_refl _) (.cells [.int .i64 0, .int .i64 0].toArray 51); refine Calls.mono (HEc.out _ _ (by exact cbelow_on Bu1.out ba Bu1.out.size) (by exact HSv.out.next ba)) ?_; rintro e u4 ⟨rfl, b⟩; have Hu4 : Hid (Below w13.heap.size w13 u4) := chid (cbelow_on (cbelow_on Hu1.out ba Hu1.out.size) b (Nat.le_trans Hu1.out.size ba.size)); have Zz : Box u4 u1.heap.size [.int .i64 0, .int .i64 0] := (Box.new u1 [.int .i64 0, .int .i64 0] 51).next b; have z0 := Zz.cell 0 _ rfl; have z1 := Zz.cell 1 _ rfl; have z2 := Zz.free 0 (by simp); have z3 := Zz.free 1 (by simp); have zl := Zz.lt; have HZ := chid Zz; clear Zz; have yV := XV.out.next Hu4.out; replace V_0 := yV.cell 0 _ rfl; replace V_1 := yV.cell 1 _ rfl; replace V_2 := yV.cell 2 _ rfl; replace lV := yV.lt; clear yV; have ystop := Xstop.out.next Hu4.out; replace stop_0 := ystop.cell 0 _ rfl; replace stop_1 := ystop.cell 1 _ rfl; replace stop_2 := ystop.cell 2 _ rfl; replace stop_3 := ystop.cell 3 _ rfl; replace lstop := ystop.lt; clear ystop; have yyes := Xyes.out.next Hu4.out; replace yes_0 := yyes.cell 0 _ rfl; replace yes_1 := yyes.cell 1 _ rfl; replace yes_2 := yyes.cell 2 _ rfl; replace yes_3 := yyes.cell 3 _ rfl; replace lyes := yyes.lt; clear yyes; clear b ba) | (go_at_call 23; refine Calls.mono (HEc.out _ _ Bu2.out HSv.out) ?_; rintro e u5 ⟨rfl, b⟩; have Hu5 := chid (cbelow_on Hu2.out b Hu2.out.size); have Zz := HZ.out.next b; clear z0 z1 z2 z3 zl HZ; have z0 := Zz.cell 0 _ rfl; have z1 := Zz.cell 1 _ rfl; have z2 := Zz.free 0 (by simp); have z3 := Zz.free 1 (by simp); have zl := Zz.lt; have HZ := chid Zz; clear Zz; have yV := XV.out.next Hu5.out; replace V_0 := yV.cell 0 _ rfl; replace V_1 := yV.cell 1 _ rfl; replace V_2 := yV.cell 2 _ rfl; replace lV := yV.lt; clear yV; have ystop := Xstop.out.next Hu5.out; replace stop_0 := ystop.cell 0 _ rfl; replace stop_1 := ystop.cell 1 _ rfl; replace stop_2 := ystop.cell 2 _ rfl; replace stop_3 := ystop.cell 3 _ rfl; replace lstop := ystop.lt; clear ystop; have yyes := Xyes.out.next Hu5.out; replace yes_0 := yyes.cell 0 _ rfl; replace yes_1 := yyes.cell 1 _ rfl; replace yes_2 := yyes.cell 2 _ rfl; replace yes_3 := yyes.cell 3 _ rfl; replace lyes := yyes.lt; clear yyes; clear b))
        · first | (obtain ⟨dd, hdd⟩ : ∃ dd, dd = u3.heap.size := ⟨_, rfl⟩; rw [← hdd]; refine ⟨dd, aa, cc, rfl, ?_⟩; rw [hG.out, hdd]; exact ⟨Box.new u3 [.int .i64 0, .int .i64 1] 51, Hu3.out.alloc Hu3.out.size _⟩) | (obtain ⟨dd, hdd⟩ : ∃ dd, dd = w13.heap.size := ⟨_, rfl⟩; rw [← hdd]; refine ⟨dd, aa, cc, rfl, ?_⟩; rw [hG.out, hdd]; exact ⟨(HZ.out.set 0 (by simp) (.int .i64 0)).set 1 (by simp) (.int .i64 1), (Hu5.out.setCell (p := ⟨_, 0, none⟩) (Nat.le_refl _) _).setCell (p := ⟨_, 1, none⟩) (Nat.le_refl _) _⟩) | (obtain ⟨dd, hdd⟩ : ∃ dd, dd = u1.heap.size := ⟨_, rfl⟩; rw [← hdd]; refine ⟨dd, aa, cc, rfl, ?_⟩; rw [hG.out, hdd]; exact ⟨(HZ.out.set 0 (by simp) (.int .i64 0)).set 1 (by simp) (.int .i64 1), (Hu4.out.setCell (p := ⟨_, 0, none⟩) Hu1.out.size _).setCell (p := ⟨_, 1, none⟩) Hu1.out.size _⟩)
        · first | (obtain ⟨dd, hdd⟩ : ∃ dd, dd = u3.heap.size := ⟨_, rfl⟩; rw [← hdd]; refine ⟨dd, aa, cc, rfl, ?_⟩; rw [hG.out, hdd]; exact ⟨Box.new u3 [.int .i64 0, .int .i64 1] 51, Hu3.out.alloc Hu3.out.size _⟩) | (obtain ⟨dd, hdd⟩ : ∃ dd, dd = w13.heap.size := ⟨_, rfl⟩; rw [← hdd]; refine ⟨dd, aa, cc, rfl, ?_⟩; rw [hG.out, hdd]; exact ⟨(HZ.out.set 0 (by simp) (.int .i64 0)).set 1 (by simp) (.int .i64 1), (Hu5.out.setCell (p := ⟨_, 0, none⟩) (Nat.le_refl _) _).setCell (p := ⟨_, 1, none⟩) (Nat.le_refl _) _⟩) | (obtain ⟨dd, hdd⟩ : ∃ dd, dd = u1.heap.size := ⟨_, rfl⟩; rw [← hdd]; refine ⟨dd, aa, cc, rfl, ?_⟩; rw [hG.out, hdd]; exact ⟨(HZ.out.set 0 (by simp) (.int .i64 0)).set 1 (by simp) (.int .i64 1), (Hu4.out.setCell (p := ⟨_, 0, none⟩) Hu1.out.size _).setCell (p := ⟨_, 1, none⟩) Hu1.out.size _⟩)
        · first | (obtain ⟨dd, hdd⟩ : ∃ dd, dd = u3.heap.size := ⟨_, rfl⟩; rw [← hdd]; refine ⟨dd, aa, cc, rfl, ?_⟩; rw [hG.out, hdd]; exact ⟨Box.new u3 [.int .i64 0, .int .i64 1] 51, Hu3.out.alloc Hu3.out.size _⟩) | (obtain ⟨dd, hdd⟩ : ∃ dd, dd = w13.heap.size := ⟨_, rfl⟩; rw [← hdd]; refine ⟨dd, aa, cc, rfl, ?_⟩; rw [hG.out, hdd]; exact ⟨(HZ.out.set 0 (by simp) (.int .i64 0)).set 1 (by simp) (.int .i64 1), (Hu5.out.setCell (p := ⟨_, 0, none⟩) (Nat.le_refl _) _).setCell (p := ⟨_, 1, none⟩) (Nat.le_refl _) _⟩) | (obtain ⟨dd, hdd⟩ : ∃ dd, dd = u1.heap.size := ⟨_, rfl⟩; rw [← hdd]; refine ⟨dd, aa, cc, rfl, ?_⟩; rw [hG.out, hdd]; exact ⟨(HZ.out.set 0 (by simp) (.int .i64 0)).set 1 (by simp) (.int .i64 1), (Hu4.out.setCell (p := ⟨_, 0, none⟩) Hu1.out.size _).setCell (p := ⟨_, 1, none⟩) Hu1.out.size _⟩)
      case hrest =>
      intro hD aa_h cc_h w14 hGd
      rw [hG.out] at hGd
      obtain ⟨Yh, ka⟩ := hGd
      clear V_0 V_1 V_2 lV stop_0 stop_1 stop_2 stop_3 lstop yes_0 yes_1 yes_2 yes_3 lyes
      clear hG G HEc HOf nV nV' nstop nstop' nyes nyes'
      have B14 := chid (cbelow_on B13.out ka B13.out.size)
      replace XC := chid (XC.out.next ka)
      replace XV := chid (XV.out.next ka)
      replace Xx := chid (Xx.out.next ka)
      replace Xbad := chid (Xbad.out.next ka)
      replace Xyes := chid (Xyes.out.next ka)
      replace Xno := chid (Xno.out.next ka)
      replace Xa := chid (Xa.out.next ka)
      replace Xb := chid (Xb.out.next ka)
      replace Xd := chid (Xd.out.next ka)
      replace Xf := chid (Xf.out.next ka)
      replace Xstop := chid (Xstop.out.next ka)
      replace Xg := chid (Xg.out.next ka)
      have Xh := chid Yh
      clear ka Yh B13
      go_wp2_with fail
      have V_0 := XV.out.cell 0 _ rfl
      have V_1 := XV.out.cell 1 _ rfl
      have V_2 := XV.out.cell 2 _ rfl
      have lV := XV.out.lt
      have stop_0 := Xstop.out.cell 0 _ rfl
      have stop_1 := Xstop.out.cell 1 _ rfl
      have stop_2 := Xstop.out.cell 2 _ rfl
      have stop_3 := Xstop.out.cell 3 _ rfl
      have lstop := Xstop.out.lt
      have yes_0 := Xyes.out.cell 0 _ rfl
      have yes_1 := Xyes.out.cell 1 _ rfl
      have yes_2 := Xyes.out.cell 2 _ rfl
      have yes_3 := Xyes.out.cell 3 _ rfl
      have lyes := Xyes.out.lt
      have nV : w.heap.size + 1 ≠ w14.heap.size := by omega
      have nV' : w14.heap.size ≠ w.heap.size + 1 := by omega
      have nstop : w11.heap.size ≠ w14.heap.size := by omega
      have nstop' : w14.heap.size ≠ w11.heap.size := by omega
      have nyes : w4.heap.size + 1 + 1 ≠ w14.heap.size := by omega
      have nyes' : w14.heap.size ≠ w4.heap.size + 1 + 1 := by omega
      have HEc : Hid (∀ (W : World) (vv : Value), Below w.heap.size w W → CSits W ⟨25, 0, 0, [coYes, (coBad (1 + y % 3) 2)]⟩ vv → Calls Tryz.prog 23 #[coV ⟨25, 0, 0, [coYes, (coBad (1 + y % 3) 2)]⟩ vv, envV E (.slice a1 E.wins.length c1) (.slice a2 E.crons.length c2)] W fun e w' => e = .returned (.tuple #[.agg #[.int .i64 (1 + y % 3), .int .i64 0], .int .i64 0]) ∧ Below W.heap.size W w') := chid (fun W vv hW hsv => evc E ⟨25, 0, 0, [coYes, (coBad (1 + y % 3) 2)]⟩ vv _ _ W hsv (by rw [cn2]; rw [cn0, cn0]; omega) (HE.out.next hW) (GlE.next HG.out hW) _ (by exact ev_and2 E (1 + y % 3) hq1.out.1 hq1.out.2))
      have HOf : Hid (∀ (W : World), Below w.heap.size w W → Calls Tryz.prog 27 #[.int .i64 25, coV coYes (.slice none 0 0), coV (coBad (1 + y % 3) 2) (.slice none 0 0)] W fun e w' => ∃ v, e = .returned (coV ⟨25, 0, 0, [coYes, (coBad (1 + y % 3) 2)]⟩ v) ∧ CSits w' ⟨25, 0, 0, [coYes, (coBad (1 + y % 3) 2)]⟩ v ∧ Below W.heap.size W w') := chid (fun W hW => of_c 25 coYes (coBad (1 + y % 3) 2) (.slice none 0 0) (.slice none 0 0) W (by unfold C64; decide) (HYe.out _) (HB7.out _))
      obtain ⟨G, hG⟩ : ∃ G : Nat → World → Prop, Hid (G = fun dd w' => Box w' dd [.int .i64 (1 + y % 3), .int .i64 0] ∧ Below w14.heap.size w14 w') := ⟨_, rfl⟩
      apply via G
      case hreg =>
        go_region_held3 (fun w' => (w'.cell? ⟨w.heap.size + 1, 0, none⟩ = some (.int .i64 E.rep) ∧ w'.cell? ⟨w.heap.size + 1, 1, none⟩ = some (.slice a1 E.wins.length c1) ∧ w'.cell? ⟨w.heap.size + 1, 2, none⟩ = some (.slice a2 E.crons.length c2)) ∧ (w'.cell? ⟨w11.heap.size, 0, none⟩ = some (.int .i64 6) ∧ w'.cell? ⟨w11.heap.size, 1, none⟩ = some (.int .i64 (1 + y % 3)) ∧ w'.cell? ⟨w11.heap.size, 2, none⟩ = some (.int .i64 2) ∧ w'.cell? ⟨w11.heap.size, 3, none⟩ = some (.slice none 0 0)) ∧ (w'.cell? ⟨w4.heap.size + 1 + 1, 0, none⟩ = some (.int .i64 2) ∧ w'.cell? ⟨w4.heap.size + 1 + 1, 1, none⟩ = some (.int .i64 1) ∧ w'.cell? ⟨w4.heap.size + 1 + 1, 2, none⟩ = some (.int .i64 0) ∧ w'.cell? ⟨w4.heap.size + 1 + 1, 3, none⟩ = some (.slice none 0 0))) (simp [go_sem, *]) (first | (go_at_call 27; refine Calls.mono (HOf.out _ (by exact cdrewN B14.out _)) ?_; rintro e u1 ⟨vv, rfl, sv, b⟩; have Hu1 : Hid (Below w14.heap.size w14 u1) := ⟨b.os, b.tape, b.output, b.size, b.block⟩; have yV := XV.out.next Hu1.out; replace V_0 := yV.cell 0 _ rfl; replace V_1 := yV.cell 1 _ rfl; replace V_2 := yV.cell 2 _ rfl; replace lV := yV.lt; have mV : w.heap.size + 1 ≠ u1.heap.size := Nat.ne_of_lt lV; have mV' : u1.heap.size ≠ w.heap.size + 1 := Nat.ne_of_gt lV; clear yV; have ystop := Xstop.out.next Hu1.out; replace stop_0 := ystop.cell 0 _ rfl; replace stop_1 := ystop.cell 1 _ rfl; replace stop_2 := ystop.cell 2 _ rfl; replace stop_3 := ystop.cell 3 _ rfl; replace lstop := ystop.lt; have mstop : w11.heap.size ≠ u1.heap.size := Nat.ne_of_lt lstop; have mstop' : u1.heap.size ≠ w11.heap.size := Nat.ne_of_gt lstop; clear ystop; have yyes := Xyes.out.next Hu1.out; replace yes_0 := yyes.cell 0 _ rfl; replace yes_1 := yyes.cell 1 _ rfl; replace yes_2 := yyes.cell 2 _ rfl; replace yes_3 := yyes.cell 3 _ rfl; replace lyes := yyes.lt; have myes : w4.heap.size + 1 + 1 ≠ u1.heap.size := Nat.ne_of_lt lyes; have myes' : u1.heap.size ≠ w4.heap.size + 1 + 1 := Nat.ne_of_gt lyes; clear yyes; have Bu1 := chid (cbelow_on B14.out Hu1.out B14.out.size); have HSv := chid sv; obtain ⟨aa, cc, rfl, -, -⟩ := sv.parts.shape; clear b sv) | (go_at_call 27; refine Calls.mono (HOf.out _ (by exact cbelow_on B14.out ((cdrewN (Below.refl w14.heap.size w14) _).alloc (Nat.le_refl _) _) B14.out.size)) ?_; rintro e u2 ⟨vv, rfl, sv, b⟩; have Hu2 : Hid (Below w14.heap.size w14 u2) := chid (cbelow_on ((cdrewN (Below.refl w14.heap.size w14) _).alloc (Nat.le_refl _) _) b ((cdrewN (Below.refl w14.heap.size w14) _).alloc (Nat.le_refl _) _).size); have Zz : Box u2 w14.heap.size [.int .i64 0, .int .i64 0] := Box.next (Box.new (w14.drewN _) [.int .i64 0, .int .i64 0] 51) b; have z0 := Zz.cell 0 _ rfl; have z1 := Zz.cell 1 _ rfl; have z2 := Zz.free 0 (by simp); have z3 := Zz.free 1 (by simp); have zl := Zz.lt; have HZ := chid Zz; clear Zz; have yV := XV.out.next Hu2.out; replace V_0 := yV.cell 0 _ rfl; replace V_1 := yV.cell 1 _ rfl; replace V_2 := yV.cell 2 _ rfl; replace lV := yV.lt; clear yV; have ystop := Xstop.out.next Hu2.out; replace stop_0 := ystop.cell 0 _ rfl; replace stop_1 := ystop.cell 1 _ rfl; replace stop_2 := ystop.cell 2 _ rfl; replace stop_3 := ystop.cell 3 _ rfl; replace lstop := ystop.lt; clear ystop; have yyes := Xyes.out.next Hu2.out; replace yes_0 := yyes.cell 0 _ rfl; replace yes_1 := yyes.cell 1 _ rfl; replace yes_2 := yyes.cell 2 _ rfl; replace yes_3 := yyes.cell 3 _ rfl; replace lyes := yyes.lt; clear yyes; have Bu2 := chid (cbelow_on B14.out Hu2.out B14.out.size); have HSv := chid sv; obtain ⟨aa, cc, rfl, -, -⟩ := sv.parts.shape; clear b sv) | (go_at_call 23; refine Calls.mono (HEc.out _ _ Bu1.out HSv.out) ?_; rintro e u3 ⟨rfl, b⟩; have Hu3 := chid (cbelow_on Hu1.out b Hu1.out.size); have yV := XV.out.next Hu3.out; replace V_0 := yV.cell 0 _ rfl; replace V_1 := yV.cell 1 _ rfl; replace V_2 := yV.cell 2 _ rfl; replace lV := yV.lt; clear yV; have ystop := Xstop.out.next Hu3.out; replace stop_0 := ystop.cell 0 _ rfl; replace stop_1 := ystop.cell 1 _ rfl; replace stop_2 := ystop.cell 2 _ rfl; replace stop_3 := ystop.cell 3 _ rfl; replace lstop := ystop.lt; clear ystop; have yyes := Xyes.out.next Hu3.out; replace yes_0 := yyes.cell 0 _ rfl; replace yes_1 := yyes.cell 1 _ rfl; replace yes_2 := yyes.cell 2 _ rfl; replace yes_3 := yyes.cell 3 _ rfl; replace lyes := yyes.lt; clear yyes; clear b) | (go_at_call 23; have ba := (Below.refl u1.heap.size u1).alloc (Nat.le_refl _) (.cells [.int .i64 0, .int .i64 0].toArray 51); refine Calls.mono (HEc.out _ _ (by exact cbelow_on Bu1.out ba Bu1.out.size) (by exact HSv.out.next ba)) ?_; rintro e u4 ⟨rfl, b⟩; have Hu4 : Hid (Below w14.heap.size w14 u4) := chid (cbelow_on (cbelow_on Hu1.out ba Hu1.out.size) b (Nat.le_trans Hu1.out.size ba.size)); have Zz : Box u4 u1.heap.size [.int .i64 0, .int .i64 0] := (Box.new u1 [.int .i64 0, .int .i64 0] 51).next b; have z0 := Zz.cell 0 _ rfl; have z1 := Zz.cell 1 _ rfl; have z2 := Zz.free 0 (by simp); have z3 := Zz.free 1 (by simp); have zl := Zz.lt; have HZ := chid Zz; clear Zz; have yV := XV.out.next Hu4.out; replace V_0 := yV.cell 0 _ rfl; replace V_1 := yV.cell 1 _ rfl; replace V_2 := yV.cell 2 _ rfl; replace lV := yV.lt; clear yV; have ystop := Xstop.out.next Hu4.out; replace stop_0 := ystop.cell 0 _ rfl; replace stop_1 := ystop.cell 1 _ rfl; replace stop_2 := ystop.cell 2 _ rfl; replace stop_3 := ystop.cell 3 _ rfl; replace lstop := ystop.lt; clear ystop; have yyes := Xyes.out.next Hu4.out; replace yes_0 := yyes.cell 0 _ rfl; replace yes_1 := yyes.cell 1 _ rfl; replace yes_2 := yyes.cell 2 _ rfl; replace yes_3 := yyes.cell 3 _ rfl; replace lyes := yyes.lt; clear yyes; clear b ba) | (go_at_call 23; refine Calls.mono (HEc.out _ _ Bu2.out HSv.out) ?_; rintro e u5 ⟨rfl, b⟩; have Hu5 := chid (cbelow_on Hu2.out b Hu2.out.size); have Zz := HZ.out.next b; clear z0 z1 z2 z3 zl HZ; have z0 := Zz.cell 0 _ rfl; have z1 := Zz.cell 1 _ rfl; have z2 := Zz.free 0 (by simp); have z3 := Zz.free 1 (by simp); have zl := Zz.lt; have HZ := chid Zz; clear Zz; have yV := XV.out.next Hu5.out; replace V_0 := yV.cell 0 _ rfl; replace V_1 := yV.cell 1 _ rfl; replace V_2 := yV.cell 2 _ rfl; replace lV := yV.lt; clear yV; have ystop := Xstop.out.next Hu5.out; replace stop_0 := ystop.cell 0 _ rfl; replace stop_1 := ystop.cell 1 _ rfl; replace stop_2 := ystop.cell 2 _ rfl; replace stop_3 := ystop.cell 3 _ rfl; replace lstop := ystop.lt; clear ystop; have yyes := Xyes.out.next Hu5.out; replace yes_0 := yyes.cell 0 _ rfl; replace yes_1 := yyes.cell 1 _ rfl; replace yes_2 := yyes.cell 2 _ rfl; replace yes_3 := yyes.cell 3 _ rfl; replace lyes := yyes.lt; clear yyes; clear b))
        · first | (obtain ⟨dd, hdd⟩ : ∃ dd, dd = u3.heap.size := ⟨_, rfl⟩; rw [← hdd]; refine ⟨dd, aa, cc, rfl, ?_⟩; rw [hG.out, hdd]; exact ⟨Box.new u3 [.int .i64 (1 + y % 3), .int .i64 0] 51, Hu3.out.alloc Hu3.out.size _⟩) | (obtain ⟨dd, hdd⟩ : ∃ dd, dd = w14.heap.size := ⟨_, rfl⟩; rw [← hdd]; refine ⟨dd, aa, cc, rfl, ?_⟩; rw [hG.out, hdd]; exact ⟨(HZ.out.set 0 (by simp) (.int .i64 (1 + y % 3))).set 1 (by simp) (.int .i64 0), (Hu5.out.setCell (p := ⟨_, 0, none⟩) (Nat.le_refl _) _).setCell (p := ⟨_, 1, none⟩) (Nat.le_refl _) _⟩) | (obtain ⟨dd, hdd⟩ : ∃ dd, dd = u1.heap.size := ⟨_, rfl⟩; rw [← hdd]; refine ⟨dd, aa, cc, rfl, ?_⟩; rw [hG.out, hdd]; exact ⟨(HZ.out.set 0 (by simp) (.int .i64 (1 + y % 3))).set 1 (by simp) (.int .i64 0), (Hu4.out.setCell (p := ⟨_, 0, none⟩) Hu1.out.size _).setCell (p := ⟨_, 1, none⟩) Hu1.out.size _⟩)
        · first | (obtain ⟨dd, hdd⟩ : ∃ dd, dd = u3.heap.size := ⟨_, rfl⟩; rw [← hdd]; refine ⟨dd, aa, cc, rfl, ?_⟩; rw [hG.out, hdd]; exact ⟨Box.new u3 [.int .i64 (1 + y % 3), .int .i64 0] 51, Hu3.out.alloc Hu3.out.size _⟩) | (obtain ⟨dd, hdd⟩ : ∃ dd, dd = w14.heap.size := ⟨_, rfl⟩; rw [← hdd]; refine ⟨dd, aa, cc, rfl, ?_⟩; rw [hG.out, hdd]; exact ⟨(HZ.out.set 0 (by simp) (.int .i64 (1 + y % 3))).set 1 (by simp) (.int .i64 0), (Hu5.out.setCell (p := ⟨_, 0, none⟩) (Nat.le_refl _) _).setCell (p := ⟨_, 1, none⟩) (Nat.le_refl _) _⟩) | (obtain ⟨dd, hdd⟩ : ∃ dd, dd = u1.heap.size := ⟨_, rfl⟩; rw [← hdd]; refine ⟨dd, aa, cc, rfl, ?_⟩; rw [hG.out, hdd]; exact ⟨(HZ.out.set 0 (by simp) (.int .i64 (1 + y % 3))).set 1 (by simp) (.int .i64 0), (Hu4.out.setCell (p := ⟨_, 0, none⟩) Hu1.out.size _).setCell (p := ⟨_, 1, none⟩) Hu1.out.size _⟩)
        · first | (obtain ⟨dd, hdd⟩ : ∃ dd, dd = u3.heap.size := ⟨_, rfl⟩; rw [← hdd]; refine ⟨dd, aa, cc, rfl, ?_⟩; rw [hG.out, hdd]; exact ⟨Box.new u3 [.int .i64 (1 + y % 3), .int .i64 0] 51, Hu3.out.alloc Hu3.out.size _⟩) | (obtain ⟨dd, hdd⟩ : ∃ dd, dd = w14.heap.size := ⟨_, rfl⟩; rw [← hdd]; refine ⟨dd, aa, cc, rfl, ?_⟩; rw [hG.out, hdd]; exact ⟨(HZ.out.set 0 (by simp) (.int .i64 (1 + y % 3))).set 1 (by simp) (.int .i64 0), (Hu5.out.setCell (p := ⟨_, 0, none⟩) (Nat.le_refl _) _).setCell (p := ⟨_, 1, none⟩) (Nat.le_refl _) _⟩) | (obtain ⟨dd, hdd⟩ : ∃ dd, dd = u1.heap.size := ⟨_, rfl⟩; rw [← hdd]; refine ⟨dd, aa, cc, rfl, ?_⟩; rw [hG.out, hdd]; exact ⟨(HZ.out.set 0 (by simp) (.int .i64 (1 + y % 3))).set 1 (by simp) (.int .i64 0), (Hu4.out.setCell (p := ⟨_, 0, none⟩) Hu1.out.size _).setCell (p := ⟨_, 1, none⟩) Hu1.out.size _⟩)
      case hrest =>
      intro iD aa_i cc_i w15 hGd
      rw [hG.out] at hGd
      obtain ⟨Yi, ka⟩ := hGd
      clear V_0 V_1 V_2 lV stop_0 stop_1 stop_2 stop_3 lstop yes_0 yes_1 yes_2 yes_3 lyes
      clear hG G HEc HOf nV nV' nstop nstop' nyes nyes'
      have B15 := chid (cbelow_on B14.out ka B14.out.size)
      replace XC := chid (XC.out.next ka)
      replace XV := chid (XV.out.next ka)
      replace Xx := chid (Xx.out.next ka)
      replace Xbad := chid (Xbad.out.next ka)
      replace Xyes := chid (Xyes.out.next ka)
      replace Xno := chid (Xno.out.next ka)
      replace Xa := chid (Xa.out.next ka)
      replace Xb := chid (Xb.out.next ka)
      replace Xd := chid (Xd.out.next ka)
      replace Xf := chid (Xf.out.next ka)
      replace Xstop := chid (Xstop.out.next ka)
      replace Xg := chid (Xg.out.next ka)
      replace Xh := chid (Xh.out.next ka)
      have Xi := chid Yi
      clear ka Yi B14
      go_wp2_with fail
      have V_0 := XV.out.cell 0 _ rfl
      have V_1 := XV.out.cell 1 _ rfl
      have V_2 := XV.out.cell 2 _ rfl
      have lV := XV.out.lt
      have no_0 := Xno.out.cell 0 _ rfl
      have no_1 := Xno.out.cell 1 _ rfl
      have no_2 := Xno.out.cell 2 _ rfl
      have no_3 := Xno.out.cell 3 _ rfl
      have lno := Xno.out.lt
      have stop_0 := Xstop.out.cell 0 _ rfl
      have stop_1 := Xstop.out.cell 1 _ rfl
      have stop_2 := Xstop.out.cell 2 _ rfl
      have stop_3 := Xstop.out.cell 3 _ rfl
      have lstop := Xstop.out.lt
      have nV : w.heap.size + 1 ≠ w15.heap.size := by omega
      have nV' : w15.heap.size ≠ w.heap.size + 1 := by omega
      have nno : w4.heap.size + 1 + 1 + 1 ≠ w15.heap.size := by omega
      have nno' : w15.heap.size ≠ w4.heap.size + 1 + 1 + 1 := by omega
      have nstop : w11.heap.size ≠ w15.heap.size := by omega
      have nstop' : w15.heap.size ≠ w11.heap.size := by omega
      have HEc : Hid (∀ (W : World) (vv : Value), Below w.heap.size w W → CSits W ⟨26, 0, 0, [coNo, (coBad (1 + y % 3) 2)]⟩ vv → Calls Tryz.prog 23 #[coV ⟨26, 0, 0, [coNo, (coBad (1 + y % 3) 2)]⟩ vv, envV E (.slice a1 E.wins.length c1) (.slice a2 E.crons.length c2)] W fun e w' => e = .returned (.tuple #[.agg #[.int .i64 (1 + y % 3), .int .i64 0], .int .i64 0]) ∧ Below W.heap.size W w') := chid (fun W vv hW hsv => evc E ⟨26, 0, 0, [coNo, (coBad (1 + y % 3) 2)]⟩ vv _ _ W hsv (by rw [cn2]; rw [cn0, cn0]; omega) (HE.out.next hW) (GlE.next HG.out hW) _ (by exact ev_or2 E (1 + y % 3) hq1.out.1 hq1.out.2))
      have HOf : Hid (∀ (W : World), Below w.heap.size w W → Calls Tryz.prog 27 #[.int .i64 26, coV coNo (.slice none 0 0), coV (coBad (1 + y % 3) 2) (.slice none 0 0)] W fun e w' => ∃ v, e = .returned (coV ⟨26, 0, 0, [coNo, (coBad (1 + y % 3) 2)]⟩ v) ∧ CSits w' ⟨26, 0, 0, [coNo, (coBad (1 + y % 3) 2)]⟩ v ∧ Below W.heap.size W w') := chid (fun W hW => of_c 26 coNo (coBad (1 + y % 3) 2) (.slice none 0 0) (.slice none 0 0) W (by unfold C64; decide) (HNo.out _) (HB7.out _))
      obtain ⟨G, hG⟩ : ∃ G : Nat → World → Prop, Hid (G = fun dd w' => Box w' dd [.int .i64 (1 + y % 3), .int .i64 0] ∧ Below w15.heap.size w15 w') := ⟨_, rfl⟩
      apply via G
      case hreg =>
        go_region_held3 (fun w' => (w'.cell? ⟨w.heap.size + 1, 0, none⟩ = some (.int .i64 E.rep) ∧ w'.cell? ⟨w.heap.size + 1, 1, none⟩ = some (.slice a1 E.wins.length c1) ∧ w'.cell? ⟨w.heap.size + 1, 2, none⟩ = some (.slice a2 E.crons.length c2)) ∧ (w'.cell? ⟨w4.heap.size + 1 + 1 + 1, 0, none⟩ = some (.int .i64 2) ∧ w'.cell? ⟨w4.heap.size + 1 + 1 + 1, 1, none⟩ = some (.int .i64 0) ∧ w'.cell? ⟨w4.heap.size + 1 + 1 + 1, 2, none⟩ = some (.int .i64 0) ∧ w'.cell? ⟨w4.heap.size + 1 + 1 + 1, 3, none⟩ = some (.slice none 0 0)) ∧ (w'.cell? ⟨w11.heap.size, 0, none⟩ = some (.int .i64 6) ∧ w'.cell? ⟨w11.heap.size, 1, none⟩ = some (.int .i64 (1 + y % 3)) ∧ w'.cell? ⟨w11.heap.size, 2, none⟩ = some (.int .i64 2) ∧ w'.cell? ⟨w11.heap.size, 3, none⟩ = some (.slice none 0 0))) (simp [go_sem, *]) (first | (go_at_call 27; refine Calls.mono (HOf.out _ (by exact cdrewN B15.out _)) ?_; rintro e u1 ⟨vv, rfl, sv, b⟩; have Hu1 : Hid (Below w15.heap.size w15 u1) := ⟨b.os, b.tape, b.output, b.size, b.block⟩; have yV := XV.out.next Hu1.out; replace V_0 := yV.cell 0 _ rfl; replace V_1 := yV.cell 1 _ rfl; replace V_2 := yV.cell 2 _ rfl; replace lV := yV.lt; have mV : w.heap.size + 1 ≠ u1.heap.size := Nat.ne_of_lt lV; have mV' : u1.heap.size ≠ w.heap.size + 1 := Nat.ne_of_gt lV; clear yV; have yno := Xno.out.next Hu1.out; replace no_0 := yno.cell 0 _ rfl; replace no_1 := yno.cell 1 _ rfl; replace no_2 := yno.cell 2 _ rfl; replace no_3 := yno.cell 3 _ rfl; replace lno := yno.lt; have mno : w4.heap.size + 1 + 1 + 1 ≠ u1.heap.size := Nat.ne_of_lt lno; have mno' : u1.heap.size ≠ w4.heap.size + 1 + 1 + 1 := Nat.ne_of_gt lno; clear yno; have ystop := Xstop.out.next Hu1.out; replace stop_0 := ystop.cell 0 _ rfl; replace stop_1 := ystop.cell 1 _ rfl; replace stop_2 := ystop.cell 2 _ rfl; replace stop_3 := ystop.cell 3 _ rfl; replace lstop := ystop.lt; have mstop : w11.heap.size ≠ u1.heap.size := Nat.ne_of_lt lstop; have mstop' : u1.heap.size ≠ w11.heap.size := Nat.ne_of_gt lstop; clear ystop; have Bu1 := chid (cbelow_on B15.out Hu1.out B15.out.size); have HSv := chid sv; obtain ⟨aa, cc, rfl, -, -⟩ := sv.parts.shape; clear b sv) | (go_at_call 27; refine Calls.mono (HOf.out _ (by exact cbelow_on B15.out ((cdrewN (Below.refl w15.heap.size w15) _).alloc (Nat.le_refl _) _) B15.out.size)) ?_; rintro e u2 ⟨vv, rfl, sv, b⟩; have Hu2 : Hid (Below w15.heap.size w15 u2) := chid (cbelow_on ((cdrewN (Below.refl w15.heap.size w15) _).alloc (Nat.le_refl _) _) b ((cdrewN (Below.refl w15.heap.size w15) _).alloc (Nat.le_refl _) _).size); have Zz : Box u2 w15.heap.size [.int .i64 0, .int .i64 0] := Box.next (Box.new (w15.drewN _) [.int .i64 0, .int .i64 0] 51) b; have z0 := Zz.cell 0 _ rfl; have z1 := Zz.cell 1 _ rfl; have z2 := Zz.free 0 (by simp); have z3 := Zz.free 1 (by simp); have zl := Zz.lt; have HZ := chid Zz; clear Zz; have yV := XV.out.next Hu2.out; replace V_0 := yV.cell 0 _ rfl; replace V_1 := yV.cell 1 _ rfl; replace V_2 := yV.cell 2 _ rfl; replace lV := yV.lt; clear yV; have yno := Xno.out.next Hu2.out; replace no_0 := yno.cell 0 _ rfl; replace no_1 := yno.cell 1 _ rfl; replace no_2 := yno.cell 2 _ rfl; replace no_3 := yno.cell 3 _ rfl; replace lno := yno.lt; clear yno; have ystop := Xstop.out.next Hu2.out; replace stop_0 := ystop.cell 0 _ rfl; replace stop_1 := ystop.cell 1 _ rfl; replace stop_2 := ystop.cell 2 _ rfl; replace stop_3 := ystop.cell 3 _ rfl; replace lstop := ystop.lt; clear ystop; have Bu2 := chid (cbelow_on B15.out Hu2.out B15.out.size); have HSv := chid sv; obtain ⟨aa, cc, rfl, -, -⟩ := sv.parts.shape; clear b sv) | (go_at_call 23; refine Calls.mono (HEc.out _ _ Bu1.out HSv.out) ?_; rintro e u3 ⟨rfl, b⟩; have Hu3 := chid (cbelow_on Hu1.out b Hu1.out.size); have yV := XV.out.next Hu3.out; replace V_0 := yV.cell 0 _ rfl; replace V_1 := yV.cell 1 _ rfl; replace V_2 := yV.cell 2 _ rfl; replace lV := yV.lt; clear yV; have yno := Xno.out.next Hu3.out; replace no_0 := yno.cell 0 _ rfl; replace no_1 := yno.cell 1 _ rfl; replace no_2 := yno.cell 2 _ rfl; replace no_3 := yno.cell 3 _ rfl; replace lno := yno.lt; clear yno; have ystop := Xstop.out.next Hu3.out; replace stop_0 := ystop.cell 0 _ rfl; replace stop_1 := ystop.cell 1 _ rfl; replace stop_2 := ystop.cell 2 _ rfl; replace stop_3 := ystop.cell 3 _ rfl; replace lstop := ystop.lt; clear ystop; clear b) | (go_at_call 23; have ba := (Below.refl u1.heap.size u1).alloc (Nat.le_refl _) (.cells [.int .i64 0, .int .i64 0].toArray 51); refine Calls.mono (HEc.out _ _ (by exact cbelow_on Bu1.out ba Bu1.out.size) (by exact HSv.out.next ba)) ?_; rintro e u4 ⟨rfl, b⟩; have Hu4 : Hid (Below w15.heap.size w15 u4) := chid (cbelow_on (cbelow_on Hu1.out ba Hu1.out.size) b (Nat.le_trans Hu1.out.size ba.size)); have Zz : Box u4 u1.heap.size [.int .i64 0, .int .i64 0] := (Box.new u1 [.int .i64 0, .int .i64 0] 51).next b; have z0 := Zz.cell 0 _ rfl; have z1 := Zz.cell 1 _ rfl; have z2 := Zz.free 0 (by simp); have z3 := Zz.free 1 (by simp); have zl := Zz.lt; have HZ := chid Zz; clear Zz; have yV := XV.out.next Hu4.out; replace V_0 := yV.cell 0 _ rfl; replace V_1 := yV.cell 1 _ rfl; replace V_2 := yV.cell 2 _ rfl; replace lV := yV.lt; clear yV; have yno := Xno.out.next Hu4.out; replace no_0 := yno.cell 0 _ rfl; replace no_1 := yno.cell 1 _ rfl; replace no_2 := yno.cell 2 _ rfl; replace no_3 := yno.cell 3 _ rfl; replace lno := yno.lt; clear yno; have ystop := Xstop.out.next Hu4.out; replace stop_0 := ystop.cell 0 _ rfl; replace stop_1 := ystop.cell 1 _ rfl; replace stop_2 := ystop.cell 2 _ rfl; replace stop_3 := ystop.cell 3 _ rfl; replace lstop := ystop.lt; clear ystop; clear b ba) | (go_at_call 23; refine Calls.mono (HEc.out _ _ Bu2.out HSv.out) ?_; rintro e u5 ⟨rfl, b⟩; have Hu5 := chid (cbelow_on Hu2.out b Hu2.out.size); have Zz := HZ.out.next b; clear z0 z1 z2 z3 zl HZ; have z0 := Zz.cell 0 _ rfl; have z1 := Zz.cell 1 _ rfl; have z2 := Zz.free 0 (by simp); have z3 := Zz.free 1 (by simp); have zl := Zz.lt; have HZ := chid Zz; clear Zz; have yV := XV.out.next Hu5.out; replace V_0 := yV.cell 0 _ rfl; replace V_1 := yV.cell 1 _ rfl; replace V_2 := yV.cell 2 _ rfl; replace lV := yV.lt; clear yV; have yno := Xno.out.next Hu5.out; replace no_0 := yno.cell 0 _ rfl; replace no_1 := yno.cell 1 _ rfl; replace no_2 := yno.cell 2 _ rfl; replace no_3 := yno.cell 3 _ rfl; replace lno := yno.lt; clear yno; have ystop := Xstop.out.next Hu5.out; replace stop_0 := ystop.cell 0 _ rfl; replace stop_1 := ystop.cell 1 _ rfl; replace stop_2 := ystop.cell 2 _ rfl; replace stop_3 := ystop.cell 3 _ rfl; replace lstop := ystop.lt; clear ystop; clear b))
        · first | (obtain ⟨dd, hdd⟩ : ∃ dd, dd = u3.heap.size := ⟨_, rfl⟩; rw [← hdd]; refine ⟨dd, aa, cc, rfl, ?_⟩; rw [hG.out, hdd]; exact ⟨Box.new u3 [.int .i64 (1 + y % 3), .int .i64 0] 51, Hu3.out.alloc Hu3.out.size _⟩) | (obtain ⟨dd, hdd⟩ : ∃ dd, dd = w15.heap.size := ⟨_, rfl⟩; rw [← hdd]; refine ⟨dd, aa, cc, rfl, ?_⟩; rw [hG.out, hdd]; exact ⟨(HZ.out.set 0 (by simp) (.int .i64 (1 + y % 3))).set 1 (by simp) (.int .i64 0), (Hu5.out.setCell (p := ⟨_, 0, none⟩) (Nat.le_refl _) _).setCell (p := ⟨_, 1, none⟩) (Nat.le_refl _) _⟩) | (obtain ⟨dd, hdd⟩ : ∃ dd, dd = u1.heap.size := ⟨_, rfl⟩; rw [← hdd]; refine ⟨dd, aa, cc, rfl, ?_⟩; rw [hG.out, hdd]; exact ⟨(HZ.out.set 0 (by simp) (.int .i64 (1 + y % 3))).set 1 (by simp) (.int .i64 0), (Hu4.out.setCell (p := ⟨_, 0, none⟩) Hu1.out.size _).setCell (p := ⟨_, 1, none⟩) Hu1.out.size _⟩)
        · first | (obtain ⟨dd, hdd⟩ : ∃ dd, dd = u3.heap.size := ⟨_, rfl⟩; rw [← hdd]; refine ⟨dd, aa, cc, rfl, ?_⟩; rw [hG.out, hdd]; exact ⟨Box.new u3 [.int .i64 (1 + y % 3), .int .i64 0] 51, Hu3.out.alloc Hu3.out.size _⟩) | (obtain ⟨dd, hdd⟩ : ∃ dd, dd = w15.heap.size := ⟨_, rfl⟩; rw [← hdd]; refine ⟨dd, aa, cc, rfl, ?_⟩; rw [hG.out, hdd]; exact ⟨(HZ.out.set 0 (by simp) (.int .i64 (1 + y % 3))).set 1 (by simp) (.int .i64 0), (Hu5.out.setCell (p := ⟨_, 0, none⟩) (Nat.le_refl _) _).setCell (p := ⟨_, 1, none⟩) (Nat.le_refl _) _⟩) | (obtain ⟨dd, hdd⟩ : ∃ dd, dd = u1.heap.size := ⟨_, rfl⟩; rw [← hdd]; refine ⟨dd, aa, cc, rfl, ?_⟩; rw [hG.out, hdd]; exact ⟨(HZ.out.set 0 (by simp) (.int .i64 (1 + y % 3))).set 1 (by simp) (.int .i64 0), (Hu4.out.setCell (p := ⟨_, 0, none⟩) Hu1.out.size _).setCell (p := ⟨_, 1, none⟩) Hu1.out.size _⟩)
        · first | (obtain ⟨dd, hdd⟩ : ∃ dd, dd = u3.heap.size := ⟨_, rfl⟩; rw [← hdd]; refine ⟨dd, aa, cc, rfl, ?_⟩; rw [hG.out, hdd]; exact ⟨Box.new u3 [.int .i64 (1 + y % 3), .int .i64 0] 51, Hu3.out.alloc Hu3.out.size _⟩) | (obtain ⟨dd, hdd⟩ : ∃ dd, dd = w15.heap.size := ⟨_, rfl⟩; rw [← hdd]; refine ⟨dd, aa, cc, rfl, ?_⟩; rw [hG.out, hdd]; exact ⟨(HZ.out.set 0 (by simp) (.int .i64 (1 + y % 3))).set 1 (by simp) (.int .i64 0), (Hu5.out.setCell (p := ⟨_, 0, none⟩) (Nat.le_refl _) _).setCell (p := ⟨_, 1, none⟩) (Nat.le_refl _) _⟩) | (obtain ⟨dd, hdd⟩ : ∃ dd, dd = u1.heap.size := ⟨_, rfl⟩; rw [← hdd]; refine ⟨dd, aa, cc, rfl, ?_⟩; rw [hG.out, hdd]; exact ⟨(HZ.out.set 0 (by simp) (.int .i64 (1 + y % 3))).set 1 (by simp) (.int .i64 0), (Hu4.out.setCell (p := ⟨_, 0, none⟩) Hu1.out.size _).setCell (p := ⟨_, 1, none⟩) Hu1.out.size _⟩)
      case hrest =>
      intro jD aa_j cc_j w16 hGd
      rw [hG.out] at hGd
      obtain ⟨Yj, ka⟩ := hGd
      clear V_0 V_1 V_2 lV no_0 no_1 no_2 no_3 lno stop_0 stop_1 stop_2 stop_3 lstop
      clear hG G HEc HOf nV nV' nno nno' nstop nstop'
      have B16 := chid (cbelow_on B15.out ka B15.out.size)
      replace XC := chid (XC.out.next ka)
      replace XV := chid (XV.out.next ka)
      replace Xx := chid (Xx.out.next ka)
      replace Xbad := chid (Xbad.out.next ka)
      replace Xyes := chid (Xyes.out.next ka)
      replace Xno := chid (Xno.out.next ka)
      replace Xa := chid (Xa.out.next ka)
      replace Xb := chid (Xb.out.next ka)
      replace Xd := chid (Xd.out.next ka)
      replace Xf := chid (Xf.out.next ka)
      replace Xstop := chid (Xstop.out.next ka)
      replace Xg := chid (Xg.out.next ka)
      replace Xh := chid (Xh.out.next ka)
      replace Xi := chid (Xi.out.next ka)
      have Xj := chid Yj
      clear ka Yj B15
      have g_0 := Xg.out.cell 0 _ rfl
      have g_1 := Xg.out.cell 1 _ rfl
      have lg := Xg.out.lt
      have lg_1 : gD < w16.heap.size + 1 := by omega
      have h_0 := Xh.out.cell 0 _ rfl
      have h_1 := Xh.out.cell 1 _ rfl
      have lh := Xh.out.lt
      have lh_1 : hD < w16.heap.size + 1 := by omega
      have i_0 := Xi.out.cell 0 _ rfl
      have i_1 := Xi.out.cell 1 _ rfl
      have li := Xi.out.lt
      have li_1 : iD < w16.heap.size + 1 := by omega
      have j_0 := Xj.out.cell 0 _ rfl
      have j_1 := Xj.out.cell 1 _ rfl
      have lj := Xj.out.lt
      have lj_1 : jD < w16.heap.size + 1 := by omega
      have HFin : Hid (∀ o, Below w.heap.size w (w16.alloc o)) := chid (fun o => B16.out.alloc B16.out.size o)
      go_wp2_with fail
      go_ret
      exact ⟨rfl, HFin.out _⟩
    · have hz := hAB.out
      rw [rsV_no' hr2] at hz
      have hz2 := hAB2.out
      rw [if_neg hr2, rsV_no (q := 1 + y % 3) (by have := hq1.out; omega)] at hz2
      have hr3 : (r.2 == 0) = false := by simpa using hr2
      simp only [Value.agg.injEq, Array.mk.injEq, List.cons.injEq, Value.int.injEq, true_and, and_true] at hz hz2
      obtain ⟨rfl, rfl⟩ := hz
      obtain ⟨rfl, rfl⟩ := hz2
      have x_0 := Xx.out.cell 0 _ rfl
      have x_1 := Xx.out.cell 1 _ rfl
      have lx := Xx.out.lt
      have lx_1 : w4.heap.size < w11.heap.size + 1 := by omega
      have a_0 := Xa.out.cell 0 _ rfl
      have a_1 := Xa.out.cell 1 _ rfl
      have la := Xa.out.lt
      have la_1 : w6.heap.size < w11.heap.size + 1 := by omega
      have b_0 := Xb.out.cell 0 _ rfl
      have b_1 := Xb.out.cell 1 _ rfl
      have lb := Xb.out.lt
      have lb_1 : w8.heap.size < w11.heap.size + 1 := by omega
      have d_0 := Xd.out.cell 0 _ rfl
      have d_1 := Xd.out.cell 1 _ rfl
      have ld := Xd.out.lt
      have ld_1 : dD < w11.heap.size + 1 := by omega
      have f_0 := Xf.out.cell 0 _ rfl
      have f_1 := Xf.out.cell 1 _ rfl
      have lf := Xf.out.lt
      have lf_1 : fD < w11.heap.size + 1 := by omega
      go_wp2_with fail
      clear x_0 x_1 lx lx_1 a_0 a_1 la la_1 b_0 b_1 lb lb_1 d_0 d_1 ld ld_1 f_0 f_1 lf lf_1
      have Zstop := Box.new w11 [.int .i64 6, .int .i64 (1 + y % 3), .int .i64 2, .slice none 0 0] 24
      have ka := (Below.refl w11.heap.size w11).alloc (Nat.le_refl _) (.cells [.int .i64 6, .int .i64 (1 + y % 3), .int .i64 2, .slice none 0 0].toArray 24)
      have hsz : (w11.alloc (.cells [.int .i64 6, .int .i64 (1 + y % 3), .int .i64 2, .slice none 0 0].toArray 24)).heap.size = w11.heap.size + 1 := by simp
      change Box (w11.alloc (.cells #[.int .i64 6, .int .i64 (1 + y % 3), .int .i64 2, .slice none 0 0] 24)) _ _ at Zstop
      change Below w11.heap.size w11 (w11.alloc (.cells #[.int .i64 6, .int .i64 (1 + y % 3), .int .i64 2, .slice none 0 0] 24)) at ka
      change (w11.alloc (.cells #[.int .i64 6, .int .i64 (1 + y % 3), .int .i64 2, .slice none 0 0] 24)).heap.size = _ at hsz
      generalize w11.alloc (.cells #[.int .i64 6, .int .i64 (1 + y % 3), .int .i64 2, .slice none 0 0] 24) = w12 at *
      have B12 := chid (cbelow_on B11.out ka B11.out.size)
      replace XC := chid (XC.out.next ka)
      replace XV := chid (XV.out.next ka)
      replace Xx := chid (Xx.out.next ka)
      replace Xbad := chid (Xbad.out.next ka)
      replace Xyes := chid (Xyes.out.next ka)
      replace Xno := chid (Xno.out.next ka)
      replace Xa := chid (Xa.out.next ka)
      replace Xb := chid (Xb.out.next ka)
      replace Xd := chid (Xd.out.next ka)
      replace Xf := chid (Xf.out.next ka)
      have Xstop := chid Zstop
      have HSZ12 := chid hsz
      clear ka Zstop B11 hsz
      have HB7 : Hid (∀ W : World, CSits W (coBad (1 + y % 3) 2) (.slice none 0 0)) := chid (fun W => csits0 W 6 (1 + y % 3) 2 (by unfold C64; decide) hq64.out (by unfold C64; decide))
      have V_0 := XV.out.cell 0 _ rfl
      have V_1 := XV.out.cell 1 _ rfl
      have V_2 := XV.out.cell 2 _ rfl
      have lV := XV.out.lt
      have no_0 := Xno.out.cell 0 _ rfl
      have no_1 := Xno.out.cell 1 _ rfl
      have no_2 := Xno.out.cell 2 _ rfl
      have no_3 := Xno.out.cell 3 _ rfl
      have lno := Xno.out.lt
      have stop_0 := Xstop.out.cell 0 _ rfl
      have stop_1 := Xstop.out.cell 1 _ rfl
      have stop_2 := Xstop.out.cell 2 _ rfl
      have stop_3 := Xstop.out.cell 3 _ rfl
      have lstop := Xstop.out.lt
      have nV : w.heap.size + 1 ≠ w12.heap.size := by omega
      have nV' : w12.heap.size ≠ w.heap.size + 1 := by omega
      have nno : w4.heap.size + 1 + 1 + 1 ≠ w12.heap.size := by omega
      have nno' : w12.heap.size ≠ w4.heap.size + 1 + 1 + 1 := by omega
      have nstop : w11.heap.size ≠ w12.heap.size := by omega
      have nstop' : w12.heap.size ≠ w11.heap.size := by omega
      have HEc : Hid (∀ (W : World) (vv : Value), Below w.heap.size w W → CSits W ⟨25, 0, 0, [coNo, (coBad (1 + y % 3) 2)]⟩ vv → Calls Tryz.prog 23 #[coV ⟨25, 0, 0, [coNo, (coBad (1 + y % 3) 2)]⟩ vv, envV E (.slice a1 E.wins.length c1) (.slice a2 E.crons.length c2)] W fun e w' => e = .returned (.tuple #[.agg #[.int .i64 0, .int .i64 0], .int .i64 0]) ∧ Below W.heap.size W w') := chid (fun W vv hW hsv => evc E ⟨25, 0, 0, [coNo, (coBad (1 + y % 3) 2)]⟩ vv _ _ W hsv (by rw [cn2]; rw [cn0, cn0]; omega) (HE.out.next hW) (GlE.next HG.out hW) _ (by exact ev_and1 E (1 + y % 3) hq1.out.1 hq1.out.2))
      have HOf : Hid (∀ (W : World), Below w.heap.size w W → Calls Tryz.prog 27 #[.int .i64 25, coV coNo (.slice none 0 0), coV (coBad (1 + y % 3) 2) (.slice none 0 0)] W fun e w' => ∃ v, e = .returned (coV ⟨25, 0, 0, [coNo, (coBad (1 + y % 3) 2)]⟩ v) ∧ CSits w' ⟨25, 0, 0, [coNo, (coBad (1 + y % 3) 2)]⟩ v ∧ Below W.heap.size W w') := chid (fun W hW => of_c 25 coNo (coBad (1 + y % 3) 2) (.slice none 0 0) (.slice none 0 0) W (by unfold C64; decide) (HNo.out _) (HB7.out _))
      obtain ⟨G, hG⟩ : ∃ G : Nat → World → Prop, Hid (G = fun dd w' => Box w' dd [.int .i64 0, .int .i64 0] ∧ Below w12.heap.size w12 w') := ⟨_, rfl⟩
      apply via G
      case hreg =>
        go_region_held3 (fun w' => (w'.cell? ⟨w.heap.size + 1, 0, none⟩ = some (.int .i64 E.rep) ∧ w'.cell? ⟨w.heap.size + 1, 1, none⟩ = some (.slice a1 E.wins.length c1) ∧ w'.cell? ⟨w.heap.size + 1, 2, none⟩ = some (.slice a2 E.crons.length c2)) ∧ (w'.cell? ⟨w4.heap.size + 1 + 1 + 1, 0, none⟩ = some (.int .i64 2) ∧ w'.cell? ⟨w4.heap.size + 1 + 1 + 1, 1, none⟩ = some (.int .i64 0) ∧ w'.cell? ⟨w4.heap.size + 1 + 1 + 1, 2, none⟩ = some (.int .i64 0) ∧ w'.cell? ⟨w4.heap.size + 1 + 1 + 1, 3, none⟩ = some (.slice none 0 0)) ∧ (w'.cell? ⟨w11.heap.size, 0, none⟩ = some (.int .i64 6) ∧ w'.cell? ⟨w11.heap.size, 1, none⟩ = some (.int .i64 (1 + y % 3)) ∧ w'.cell? ⟨w11.heap.size, 2, none⟩ = some (.int .i64 2) ∧ w'.cell? ⟨w11.heap.size, 3, none⟩ = some (.slice none 0 0))) (simp [go_sem, *]) (first | (go_at_call 27; refine Calls.mono (HOf.out _ (by exact cdrewN B12.out _)) ?_; rintro e u1 ⟨vv, rfl, sv, b⟩; have Hu1 : Hid (Below w12.heap.size w12 u1) := ⟨b.os, b.tape, b.output, b.size, b.block⟩; have yV := XV.out.next Hu1.out; replace V_0 := yV.cell 0 _ rfl; replace V_1 := yV.cell 1 _ rfl; replace V_2 := yV.cell 2 _ rfl; replace lV := yV.lt; have mV : w.heap.size + 1 ≠ u1.heap.size := Nat.ne_of_lt lV; have mV' : u1.heap.size ≠ w.heap.size + 1 := Nat.ne_of_gt lV; clear yV; have yno := Xno.out.next Hu1.out; replace no_0 := yno.cell 0 _ rfl; replace no_1 := yno.cell 1 _ rfl; replace no_2 := yno.cell 2 _ rfl; replace no_3 := yno.cell 3 _ rfl; replace lno := yno.lt; have mno : w4.heap.size + 1 + 1 + 1 ≠ u1.heap.size := Nat.ne_of_lt lno; have mno' : u1.heap.size ≠ w4.heap.size + 1 + 1 + 1 := Nat.ne_of_gt lno; clear yno; have ystop := Xstop.out.next Hu1.out; replace stop_0 := ystop.cell 0 _ rfl; replace stop_1 := ystop.cell 1 _ rfl; replace stop_2 := ystop.cell 2 _ rfl; replace stop_3 := ystop.cell 3 _ rfl; replace lstop := ystop.lt; have mstop : w11.heap.size ≠ u1.heap.size := Nat.ne_of_lt lstop; have mstop' : u1.heap.size ≠ w11.heap.size := Nat.ne_of_gt lstop; clear ystop; have Bu1 := chid (cbelow_on B12.out Hu1.out B12.out.size); have HSv := chid sv; obtain ⟨aa, cc, rfl, -, -⟩ := sv.parts.shape; clear b sv) | (go_at_call 27; refine Calls.mono (HOf.out _ (by exact cbelow_on B12.out ((cdrewN (Below.refl w12.heap.size w12) _).alloc (Nat.le_refl _) _) B12.out.size)) ?_; rintro e u2 ⟨vv, rfl, sv, b⟩; have Hu2 : Hid (Below w12.heap.size w12 u2) := chid (cbelow_on ((cdrewN (Below.refl w12.heap.size w12) _).alloc (Nat.le_refl _) _) b ((cdrewN (Below.refl w12.heap.size w12) _).alloc (Nat.le_refl _) _).size); have Zz : Box u2 w12.heap.size [.int .i64 0, .int .i64 0] := Box.next (Box.new (w12.drewN _) [.int .i64 0, .int .i64 0] 51) b; have z0 := Zz.cell 0 _ rfl; have z1 := Zz.cell 1 _ rfl; have z2 := Zz.free 0 (by simp); have z3 := Zz.free 1 (by simp); have zl := Zz.lt; have HZ := chid Zz; clear Zz; have yV := XV.out.next Hu2.out; replace V_0 := yV.cell 0 _ rfl; replace V_1 := yV.cell 1 _ rfl; replace V_2 := yV.cell 2 _ rfl; replace lV := yV.lt; clear yV; have yno := Xno.out.next Hu2.out; replace no_0 := yno.cell 0 _ rfl; replace no_1 := yno.cell 1 _ rfl; replace no_2 := yno.cell 2 _ rfl; replace no_3 := yno.cell 3 _ rfl; replace lno := yno.lt; clear yno; have ystop := Xstop.out.next Hu2.out; replace stop_0 := ystop.cell 0 _ rfl; replace stop_1 := ystop.cell 1 _ rfl; replace stop_2 := ystop.cell 2 _ rfl; replace stop_3 := ystop.cell 3 _ rfl; replace lstop := ystop.lt; clear ystop; have Bu2 := chid (cbelow_on B12.out Hu2.out B12.out.size); have HSv := chid sv; obtain ⟨aa, cc, rfl, -, -⟩ := sv.parts.shape; clear b sv) | (go_at_call 23; refine Calls.mono (HEc.out _ _ Bu1.out HSv.out) ?_; rintro e u3 ⟨rfl, b⟩; have Hu3 := chid (cbelow_on Hu1.out b Hu1.out.size); have yV := XV.out.next Hu3.out; replace V_0 := yV.cell 0 _ rfl; replace V_1 := yV.cell 1 _ rfl; replace V_2 := yV.cell 2 _ rfl; replace lV := yV.lt; clear yV; have yno := Xno.out.next Hu3.out; replace no_0 := yno.cell 0 _ rfl; replace no_1 := yno.cell 1 _ rfl; replace no_2 := yno.cell 2 _ rfl; replace no_3 := yno.cell 3 _ rfl; replace lno := yno.lt; clear yno; have ystop := Xstop.out.next Hu3.out; replace stop_0 := ystop.cell 0 _ rfl; replace stop_1 := ystop.cell 1 _ rfl; replace stop_2 := ystop.cell 2 _ rfl; replace stop_3 := ystop.cell 3 _ rfl; replace lstop := ystop.lt; clear ystop; clear b) | (go_at_call 23; have ba := (Below.refl u1.heap.size u1).alloc (Nat.le_refl _) (.cells [.int .i64 0, .int .i64 0].toArray 51); refine Calls.mono (HEc.out _ _ (by exact cbelow_on Bu1.out ba Bu1.out.size) (by exact HSv.out.next ba)) ?_; rintro e u4 ⟨rfl, b⟩; have Hu4 : Hid (Below w12.heap.size w12 u4) := chid (cbelow_on (cbelow_on Hu1.out ba Hu1.out.size) b (Nat.le_trans Hu1.out.size ba.size)); have Zz : Box u4 u1.heap.size [.int .i64 0, .int .i64 0] := (Box.new u1 [.int .i64 0, .int .i64 0] 51).next b; have z0 := Zz.cell 0 _ rfl; have z1 := Zz.cell 1 _ rfl; have z2 := Zz.free 0 (by simp); have z3 := Zz.free 1 (by simp); have zl := Zz.lt; have HZ := chid Zz; clear Zz; have yV := XV.out.next Hu4.out; replace V_0 := yV.cell 0 _ rfl; replace V_1 := yV.cell 1 _ rfl; replace V_2 := yV.cell 2 _ rfl; replace lV := yV.lt; clear yV; have yno := Xno.out.next Hu4.out; replace no_0 := yno.cell 0 _ rfl; replace no_1 := yno.cell 1 _ rfl; replace no_2 := yno.cell 2 _ rfl; replace no_3 := yno.cell 3 _ rfl; replace lno := yno.lt; clear yno; have ystop := Xstop.out.next Hu4.out; replace stop_0 := ystop.cell 0 _ rfl; replace stop_1 := ystop.cell 1 _ rfl; replace stop_2 := ystop.cell 2 _ rfl; replace stop_3 := ystop.cell 3 _ rfl; replace lstop := ystop.lt; clear ystop; clear b ba) | (go_at_call 23; refine Calls.mono (HEc.out _ _ Bu2.out HSv.out) ?_; rintro e u5 ⟨rfl, b⟩; have Hu5 := chid (cbelow_on Hu2.out b Hu2.out.size); have Zz := HZ.out.next b; clear z0 z1 z2 z3 zl HZ; have z0 := Zz.cell 0 _ rfl; have z1 := Zz.cell 1 _ rfl; have z2 := Zz.free 0 (by simp); have z3 := Zz.free 1 (by simp); have zl := Zz.lt; have HZ := chid Zz; clear Zz; have yV := XV.out.next Hu5.out; replace V_0 := yV.cell 0 _ rfl; replace V_1 := yV.cell 1 _ rfl; replace V_2 := yV.cell 2 _ rfl; replace lV := yV.lt; clear yV; have yno := Xno.out.next Hu5.out; replace no_0 := yno.cell 0 _ rfl; replace no_1 := yno.cell 1 _ rfl; replace no_2 := yno.cell 2 _ rfl; replace no_3 := yno.cell 3 _ rfl; replace lno := yno.lt; clear yno; have ystop := Xstop.out.next Hu5.out; replace stop_0 := ystop.cell 0 _ rfl; replace stop_1 := ystop.cell 1 _ rfl; replace stop_2 := ystop.cell 2 _ rfl; replace stop_3 := ystop.cell 3 _ rfl; replace lstop := ystop.lt; clear ystop; clear b))
        · first | (obtain ⟨dd, hdd⟩ : ∃ dd, dd = u3.heap.size := ⟨_, rfl⟩; rw [← hdd]; refine ⟨dd, aa, cc, rfl, ?_⟩; rw [hG.out, hdd]; exact ⟨Box.new u3 [.int .i64 0, .int .i64 0] 51, Hu3.out.alloc Hu3.out.size _⟩) | (obtain ⟨dd, hdd⟩ : ∃ dd, dd = w12.heap.size := ⟨_, rfl⟩; rw [← hdd]; refine ⟨dd, aa, cc, rfl, ?_⟩; rw [hG.out, hdd]; exact ⟨(HZ.out.set 0 (by simp) (.int .i64 0)).set 1 (by simp) (.int .i64 0), (Hu5.out.setCell (p := ⟨_, 0, none⟩) (Nat.le_refl _) _).setCell (p := ⟨_, 1, none⟩) (Nat.le_refl _) _⟩) | (obtain ⟨dd, hdd⟩ : ∃ dd, dd = u1.heap.size := ⟨_, rfl⟩; rw [← hdd]; refine ⟨dd, aa, cc, rfl, ?_⟩; rw [hG.out, hdd]; exact ⟨(HZ.out.set 0 (by simp) (.int .i64 0)).set 1 (by simp) (.int .i64 0), (Hu4.out.setCell (p := ⟨_, 0, none⟩) Hu1.out.size _).setCell (p := ⟨_, 1, none⟩) Hu1.out.size _⟩)
        · first | (obtain ⟨dd, hdd⟩ : ∃ dd, dd = u3.heap.size := ⟨_, rfl⟩; rw [← hdd]; refine ⟨dd, aa, cc, rfl, ?_⟩; rw [hG.out, hdd]; exact ⟨Box.new u3 [.int .i64 0, .int .i64 0] 51, Hu3.out.alloc Hu3.out.size _⟩) | (obtain ⟨dd, hdd⟩ : ∃ dd, dd = w12.heap.size := ⟨_, rfl⟩; rw [← hdd]; refine ⟨dd, aa, cc, rfl, ?_⟩; rw [hG.out, hdd]; exact ⟨(HZ.out.set 0 (by simp) (.int .i64 0)).set 1 (by simp) (.int .i64 0), (Hu5.out.setCell (p := ⟨_, 0, none⟩) (Nat.le_refl _) _).setCell (p := ⟨_, 1, none⟩) (Nat.le_refl _) _⟩) | (obtain ⟨dd, hdd⟩ : ∃ dd, dd = u1.heap.size := ⟨_, rfl⟩; rw [← hdd]; refine ⟨dd, aa, cc, rfl, ?_⟩; rw [hG.out, hdd]; exact ⟨(HZ.out.set 0 (by simp) (.int .i64 0)).set 1 (by simp) (.int .i64 0), (Hu4.out.setCell (p := ⟨_, 0, none⟩) Hu1.out.size _).setCell (p := ⟨_, 1, none⟩) Hu1.out.size _⟩)
        · first | (obtain ⟨dd, hdd⟩ : ∃ dd, dd = u3.heap.size := ⟨_, rfl⟩; rw [← hdd]; refine ⟨dd, aa, cc, rfl, ?_⟩; rw [hG.out, hdd]; exact ⟨Box.new u3 [.int .i64 0, .int .i64 0] 51, Hu3.out.alloc Hu3.out.size _⟩) | (obtain ⟨dd, hdd⟩ : ∃ dd, dd = w12.heap.size := ⟨_, rfl⟩; rw [← hdd]; refine ⟨dd, aa, cc, rfl, ?_⟩; rw [hG.out, hdd]; exact ⟨(HZ.out.set 0 (by simp) (.int .i64 0)).set 1 (by simp) (.int .i64 0), (Hu5.out.setCell (p := ⟨_, 0, none⟩) (Nat.le_refl _) _).setCell (p := ⟨_, 1, none⟩) (Nat.le_refl _) _⟩) | (obtain ⟨dd, hdd⟩ : ∃ dd, dd = u1.heap.size := ⟨_, rfl⟩; rw [← hdd]; refine ⟨dd, aa, cc, rfl, ?_⟩; rw [hG.out, hdd]; exact ⟨(HZ.out.set 0 (by simp) (.int .i64 0)).set 1 (by simp) (.int .i64 0), (Hu4.out.setCell (p := ⟨_, 0, none⟩) Hu1.out.size _).setCell (p := ⟨_, 1, none⟩) Hu1.out.size _⟩)
      case hrest =>
      intro gD aa_g cc_g w13 hGd
      rw [hG.out] at hGd
      obtain ⟨Yg, ka⟩ := hGd
      clear V_0 V_1 V_2 lV no_0 no_1 no_2 no_3 lno stop_0 stop_1 stop_2 stop_3 lstop
      clear hG G HEc HOf nV nV' nno nno' nstop nstop'
      have B13 := chid (cbelow_on B12.out ka B12.out.size)
      replace XC := chid (XC.out.next ka)
      replace XV := chid (XV.out.next ka)
      replace Xx := chid (Xx.out.next ka)
      replace Xbad := chid (Xbad.out.next ka)
      replace Xyes := chid (Xyes.out.next ka)
      replace Xno := chid (Xno.out.next ka)
      replace Xa := chid (Xa.out.next ka)
      replace Xb := chid (Xb.out.next ka)
      replace Xd := chid (Xd.out.next ka)
      replace Xf := chid (Xf.out.next ka)
      replace Xstop := chid (Xstop.out.next ka)
      have Xg := chid Yg
      clear ka Yg B12
      go_wp2_with fail
      have V_0 := XV.out.cell 0 _ rfl
      have V_1 := XV.out.cell 1 _ rfl
      have V_2 := XV.out.cell 2 _ rfl
      have lV := XV.out.lt
      have stop_0 := Xstop.out.cell 0 _ rfl
      have stop_1 := Xstop.out.cell 1 _ rfl
      have stop_2 := Xstop.out.cell 2 _ rfl
      have stop_3 := Xstop.out.cell 3 _ rfl
      have lstop := Xstop.out.lt
      have yes_0 := Xyes.out.cell 0 _ rfl
      have yes_1 := Xyes.out.cell 1 _ rfl
      have yes_2 := Xyes.out.cell 2 _ rfl
      have yes_3 := Xyes.out.cell 3 _ rfl
      have lyes := Xyes.out.lt
      have nV : w.heap.size + 1 ≠ w13.heap.size := by omega
      have nV' : w13.heap.size ≠ w.heap.size + 1 := by omega
      have nstop : w11.heap.size ≠ w13.heap.size := by omega
      have nstop' : w13.heap.size ≠ w11.heap.size := by omega
      have nyes : w4.heap.size + 1 + 1 ≠ w13.heap.size := by omega
      have nyes' : w13.heap.size ≠ w4.heap.size + 1 + 1 := by omega
      have HEc : Hid (∀ (W : World) (vv : Value), Below w.heap.size w W → CSits W ⟨26, 0, 0, [coYes, (coBad (1 + y % 3) 2)]⟩ vv → Calls Tryz.prog 23 #[coV ⟨26, 0, 0, [coYes, (coBad (1 + y % 3) 2)]⟩ vv, envV E (.slice a1 E.wins.length c1) (.slice a2 E.crons.length c2)] W fun e w' => e = .returned (.tuple #[.agg #[.int .i64 0, .int .i64 1], .int .i64 0]) ∧ Below W.heap.size W w') := chid (fun W vv hW hsv => evc E ⟨26, 0, 0, [coYes, (coBad (1 + y % 3) 2)]⟩ vv _ _ W hsv (by rw [cn2]; rw [cn0, cn0]; omega) (HE.out.next hW) (GlE.next HG.out hW) _ (by exact ev_or1 E (1 + y % 3) hq1.out.1 hq1.out.2))
      have HOf : Hid (∀ (W : World), Below w.heap.size w W → Calls Tryz.prog 27 #[.int .i64 26, coV coYes (.slice none 0 0), coV (coBad (1 + y % 3) 2) (.slice none 0 0)] W fun e w' => ∃ v, e = .returned (coV ⟨26, 0, 0, [coYes, (coBad (1 + y % 3) 2)]⟩ v) ∧ CSits w' ⟨26, 0, 0, [coYes, (coBad (1 + y % 3) 2)]⟩ v ∧ Below W.heap.size W w') := chid (fun W hW => of_c 26 coYes (coBad (1 + y % 3) 2) (.slice none 0 0) (.slice none 0 0) W (by unfold C64; decide) (HYe.out _) (HB7.out _))
      obtain ⟨G, hG⟩ : ∃ G : Nat → World → Prop, Hid (G = fun dd w' => Box w' dd [.int .i64 0, .int .i64 1] ∧ Below w13.heap.size w13 w') := ⟨_, rfl⟩
      apply via G
      case hreg =>
        go_region_held3 (fun w' => (w'.cell? ⟨w.heap.size + 1, 0, none⟩ = some (.int .i64 E.rep) ∧ w'.cell? ⟨w.heap.size + 1, 1, none⟩ = some (.slice a1 E.wins.length c1) ∧ w'.cell? ⟨w.heap.size + 1, 2, none⟩ = some (.slice a2 E.crons.length c2)) ∧ (w'.cell? ⟨w11.heap.size, 0, none⟩ = some (.int .i64 6) ∧ w'.cell? ⟨w11.heap.size, 1, none⟩ = some (.int .i64 (1 + y % 3)) ∧ w'.cell? ⟨w11.heap.size, 2, none⟩ = some (.int .i64 2) ∧ w'.cell? ⟨w11.heap.size, 3, none⟩ = some (.slice none 0 0)) ∧ (w'.cell? ⟨w4.heap.size + 1 + 1, 0, none⟩ = some (.int .i64 2) ∧ w'.cell? ⟨w4.heap.size + 1 + 1, 1, none⟩ = some (.int .i64 1) ∧ w'.cell? ⟨w4.heap.size + 1 + 1, 2, none⟩ = some (.int .i64 0) ∧ w'.cell? ⟨w4.heap.size + 1 + 1, 3, none⟩ = some (.slice none 0 0))) (simp [go_sem, *]) (first | (go_at_call 27; refine Calls.mono (HOf.out _ (by exact cdrewN B13.out _)) ?_; rintro e u1 ⟨vv, rfl, sv, b⟩; have Hu1 : Hid (Below w13.heap.size w13 u1) := ⟨b.os, b.tape, b.output, b.size, b.block⟩; have yV := XV.out.next Hu1.out; replace V_0 := yV.cell 0 _ rfl; replace V_1 := yV.cell 1 _ rfl; replace V_2 := yV.cell 2 _ rfl; replace lV := yV.lt; have mV : w.heap.size + 1 ≠ u1.heap.size := Nat.ne_of_lt lV; have mV' : u1.heap.size ≠ w.heap.size + 1 := Nat.ne_of_gt lV; clear yV; have ystop := Xstop.out.next Hu1.out; replace stop_0 := ystop.cell 0 _ rfl; replace stop_1 := ystop.cell 1 _ rfl; replace stop_2 := ystop.cell 2 _ rfl; replace stop_3 := ystop.cell 3 _ rfl; replace lstop := ystop.lt; have mstop : w11.heap.size ≠ u1.heap.size := Nat.ne_of_lt lstop; have mstop' : u1.heap.size ≠ w11.heap.size := Nat.ne_of_gt lstop; clear ystop; have yyes := Xyes.out.next Hu1.out; replace yes_0 := yyes.cell 0 _ rfl; replace yes_1 := yyes.cell 1 _ rfl; replace yes_2 := yyes.cell 2 _ rfl; replace yes_3 := yyes.cell 3 _ rfl; replace lyes := yyes.lt; have myes : w4.heap.size + 1 + 1 ≠ u1.heap.size := Nat.ne_of_lt lyes; have myes' : u1.heap.size ≠ w4.heap.size + 1 + 1 := Nat.ne_of_gt lyes; clear yyes; have Bu1 := chid (cbelow_on B13.out Hu1.out B13.out.size); have HSv := chid sv; obtain ⟨aa, cc, rfl, -, -⟩ := sv.parts.shape; clear b sv) | (go_at_call 27; refine Calls.mono (HOf.out _ (by exact cbelow_on B13.out ((cdrewN (Below.refl w13.heap.size w13) _).alloc (Nat.le_refl _) _) B13.out.size)) ?_; rintro e u2 ⟨vv, rfl, sv, b⟩; have Hu2 : Hid (Below w13.heap.size w13 u2) := chid (cbelow_on ((cdrewN (Below.refl w13.heap.size w13) _).alloc (Nat.le_refl _) _) b ((cdrewN (Below.refl w13.heap.size w13) _).alloc (Nat.le_refl _) _).size); have Zz : Box u2 w13.heap.size [.int .i64 0, .int .i64 0] := Box.next (Box.new (w13.drewN _) [.int .i64 0, .int .i64 0] 51) b; have z0 := Zz.cell 0 _ rfl; have z1 := Zz.cell 1 _ rfl; have z2 := Zz.free 0 (by simp); have z3 := Zz.free 1 (by simp); have zl := Zz.lt; have HZ := chid Zz; clear Zz; have yV := XV.out.next Hu2.out; replace V_0 := yV.cell 0 _ rfl; replace V_1 := yV.cell 1 _ rfl; replace V_2 := yV.cell 2 _ rfl; replace lV := yV.lt; clear yV; have ystop := Xstop.out.next Hu2.out; replace stop_0 := ystop.cell 0 _ rfl; replace stop_1 := ystop.cell 1 _ rfl; replace stop_2 := ystop.cell 2 _ rfl; replace stop_3 := ystop.cell 3 _ rfl; replace lstop := ystop.lt; clear ystop; have yyes := Xyes.out.next Hu2.out; replace yes_0 := yyes.cell 0 _ rfl; replace yes_1 := yyes.cell 1 _ rfl; replace yes_2 := yyes.cell 2 _ rfl; replace yes_3 := yyes.cell 3 _ rfl; replace lyes := yyes.lt; clear yyes; have Bu2 := chid (cbelow_on B13.out Hu2.out B13.out.size); have HSv := chid sv; obtain ⟨aa, cc, rfl, -, -⟩ := sv.parts.shape; clear b sv) | (go_at_call 23; refine Calls.mono (HEc.out _ _ Bu1.out HSv.out) ?_; rintro e u3 ⟨rfl, b⟩; have Hu3 := chid (cbelow_on Hu1.out b Hu1.out.size); have yV := XV.out.next Hu3.out; replace V_0 := yV.cell 0 _ rfl; replace V_1 := yV.cell 1 _ rfl; replace V_2 := yV.cell 2 _ rfl; replace lV := yV.lt; clear yV; have ystop := Xstop.out.next Hu3.out; replace stop_0 := ystop.cell 0 _ rfl; replace stop_1 := ystop.cell 1 _ rfl; replace stop_2 := ystop.cell 2 _ rfl; replace stop_3 := ystop.cell 3 _ rfl; replace lstop := ystop.lt; clear ystop; have yyes := Xyes.out.next Hu3.out; replace yes_0 := yyes.cell 0 _ rfl; replace yes_1 := yyes.cell 1 _ rfl; replace yes_2 := yyes.cell 2 _ rfl; replace yes_3 := yyes.cell 3 _ rfl; replace lyes := yyes.lt; clear yyes; clear b) | (go_at_call 23; have ba := (Below.refl u1.heap.size u1).alloc (Nat.le_refl _) (.cells [.int .i64 0, .int .i64 0].toArray 51); refine Calls.mono (HEc.out _ _ (by exact cbelow_on Bu1.out ba Bu1.out.size) (by exact HSv.out.next ba)) ?_; rintro e u4 ⟨rfl, b⟩; have Hu4 : Hid (Below w13.heap.size w13 u4) := chid (cbelow_on (cbelow_on Hu1.out ba Hu1.out.size) b (Nat.le_trans Hu1.out.size ba.size)); have Zz : Box u4 u1.heap.size [.int .i64 0, .int .i64 0] := (Box.new u1 [.int .i64 0, .int .i64 0] 51).next b; have z0 := Zz.cell 0 _ rfl; have z1 := Zz.cell 1 _ rfl; have z2 := Zz.free 0 (by simp); have z3 := Zz.free 1 (by simp); have zl := Zz.lt; have HZ := chid Zz; clear Zz; have yV := XV.out.next Hu4.out; replace V_0 := yV.cell 0 _ rfl; replace V_1 := yV.cell 1 _ rfl; replace V_2 := yV.cell 2 _ rfl; replace lV := yV.lt; clear yV; have ystop := Xstop.out.next Hu4.out; replace stop_0 := ystop.cell 0 _ rfl; replace stop_1 := ystop.cell 1 _ rfl; replace stop_2 := ystop.cell 2 _ rfl; replace stop_3 := ystop.cell 3 _ rfl; replace lstop := ystop.lt; clear ystop; have yyes := Xyes.out.next Hu4.out; replace yes_0 := yyes.cell 0 _ rfl; replace yes_1 := yyes.cell 1 _ rfl; replace yes_2 := yyes.cell 2 _ rfl; replace yes_3 := yyes.cell 3 _ rfl; replace lyes := yyes.lt; clear yyes; clear b ba) | (go_at_call 23; refine Calls.mono (HEc.out _ _ Bu2.out HSv.out) ?_; rintro e u5 ⟨rfl, b⟩; have Hu5 := chid (cbelow_on Hu2.out b Hu2.out.size); have Zz := HZ.out.next b; clear z0 z1 z2 z3 zl HZ; have z0 := Zz.cell 0 _ rfl; have z1 := Zz.cell 1 _ rfl; have z2 := Zz.free 0 (by simp); have z3 := Zz.free 1 (by simp); have zl := Zz.lt; have HZ := chid Zz; clear Zz; have yV := XV.out.next Hu5.out; replace V_0 := yV.cell 0 _ rfl; replace V_1 := yV.cell 1 _ rfl; replace V_2 := yV.cell 2 _ rfl; replace lV := yV.lt; clear yV; have ystop := Xstop.out.next Hu5.out; replace stop_0 := ystop.cell 0 _ rfl; replace stop_1 := ystop.cell 1 _ rfl; replace stop_2 := ystop.cell 2 _ rfl; replace stop_3 := ystop.cell 3 _ rfl; replace lstop := ystop.lt; clear ystop; have yyes := Xyes.out.next Hu5.out; replace yes_0 := yyes.cell 0 _ rfl; replace yes_1 := yyes.cell 1 _ rfl; replace yes_2 := yyes.cell 2 _ rfl; replace yes_3 := yyes.cell 3 _ rfl; replace lyes := yyes.lt; clear yyes; clear b))
        · first | (obtain ⟨dd, hdd⟩ : ∃ dd, dd = u3.heap.size := ⟨_, rfl⟩; rw [← hdd]; refine ⟨dd, aa, cc, rfl, ?_⟩; rw [hG.out, hdd]; exact ⟨Box.new u3 [.int .i64 0, .int .i64 1] 51, Hu3.out.alloc Hu3.out.size _⟩) | (obtain ⟨dd, hdd⟩ : ∃ dd, dd = w13.heap.size := ⟨_, rfl⟩; rw [← hdd]; refine ⟨dd, aa, cc, rfl, ?_⟩; rw [hG.out, hdd]; exact ⟨(HZ.out.set 0 (by simp) (.int .i64 0)).set 1 (by simp) (.int .i64 1), (Hu5.out.setCell (p := ⟨_, 0, none⟩) (Nat.le_refl _) _).setCell (p := ⟨_, 1, none⟩) (Nat.le_refl _) _⟩) | (obtain ⟨dd, hdd⟩ : ∃ dd, dd = u1.heap.size := ⟨_, rfl⟩; rw [← hdd]; refine ⟨dd, aa, cc, rfl, ?_⟩; rw [hG.out, hdd]; exact ⟨(HZ.out.set 0 (by simp) (.int .i64 0)).set 1 (by simp) (.int .i64 1), (Hu4.out.setCell (p := ⟨_, 0, none⟩) Hu1.out.size _).setCell (p := ⟨_, 1, none⟩) Hu1.out.size _⟩)
        · first | (obtain ⟨dd, hdd⟩ : ∃ dd, dd = u3.heap.size := ⟨_, rfl⟩; rw [← hdd]; refine ⟨dd, aa, cc, rfl, ?_⟩; rw [hG.out, hdd]; exact ⟨Box.new u3 [.int .i64 0, .int .i64 1] 51, Hu3.out.alloc Hu3.out.size _⟩) | (obtain ⟨dd, hdd⟩ : ∃ dd, dd = w13.heap.size := ⟨_, rfl⟩; rw [← hdd]; refine ⟨dd, aa, cc, rfl, ?_⟩; rw [hG.out, hdd]; exact ⟨(HZ.out.set 0 (by simp) (.int .i64 0)).set 1 (by simp) (.int .i64 1), (Hu5.out.setCell (p := ⟨_, 0, none⟩) (Nat.le_refl _) _).setCell (p := ⟨_, 1, none⟩) (Nat.le_refl _) _⟩) | (obtain ⟨dd, hdd⟩ : ∃ dd, dd = u1.heap.size := ⟨_, rfl⟩; rw [← hdd]; refine ⟨dd, aa, cc, rfl, ?_⟩; rw [hG.out, hdd]; exact ⟨(HZ.out.set 0 (by simp) (.int .i64 0)).set 1 (by simp) (.int .i64 1), (Hu4.out.setCell (p := ⟨_, 0, none⟩) Hu1.out.size _).setCell (p := ⟨_, 1, none⟩) Hu1.out.size _⟩)
        · first | (obtain ⟨dd, hdd⟩ : ∃ dd, dd = u3.heap.size := ⟨_, rfl⟩; rw [← hdd]; refine ⟨dd, aa, cc, rfl, ?_⟩; rw [hG.out, hdd]; exact ⟨Box.new u3 [.int .i64 0, .int .i64 1] 51, Hu3.out.alloc Hu3.out.size _⟩) | (obtain ⟨dd, hdd⟩ : ∃ dd, dd = w13.heap.size := ⟨_, rfl⟩; rw [← hdd]; refine ⟨dd, aa, cc, rfl, ?_⟩; rw [hG.out, hdd]; exact ⟨(HZ.out.set 0 (by simp) (.int .i64 0)).set 1 (by simp) (.int .i64 1), (Hu5.out.setCell (p := ⟨_, 0, none⟩) (Nat.le_refl _) _).setCell (p := ⟨_, 1, none⟩) (Nat.le_refl _) _⟩) | (obtain ⟨dd, hdd⟩ : ∃ dd, dd = u1.heap.size := ⟨_, rfl⟩; rw [← hdd]; refine ⟨dd, aa, cc, rfl, ?_⟩; rw [hG.out, hdd]; exact ⟨(HZ.out.set 0 (by simp) (.int .i64 0)).set 1 (by simp) (.int .i64 1), (Hu4.out.setCell (p := ⟨_, 0, none⟩) Hu1.out.size _).setCell (p := ⟨_, 1, none⟩) Hu1.out.size _⟩)
      case hrest =>
      intro hD aa_h cc_h w14 hGd
      rw [hG.out] at hGd
      obtain ⟨Yh, ka⟩ := hGd
      clear V_0 V_1 V_2 lV stop_0 stop_1 stop_2 stop_3 lstop yes_0 yes_1 yes_2 yes_3 lyes
      clear hG G HEc HOf nV nV' nstop nstop' nyes nyes'
      have B14 := chid (cbelow_on B13.out ka B13.out.size)
      replace XC := chid (XC.out.next ka)
      replace XV := chid (XV.out.next ka)
      replace Xx := chid (Xx.out.next ka)
      replace Xbad := chid (Xbad.out.next ka)
      replace Xyes := chid (Xyes.out.next ka)
      replace Xno := chid (Xno.out.next ka)
      replace Xa := chid (Xa.out.next ka)
      replace Xb := chid (Xb.out.next ka)
      replace Xd := chid (Xd.out.next ka)
      replace Xf := chid (Xf.out.next ka)
      replace Xstop := chid (Xstop.out.next ka)
      replace Xg := chid (Xg.out.next ka)
      have Xh := chid Yh
      clear ka Yh B13
      go_wp2_with fail
      have V_0 := XV.out.cell 0 _ rfl
      have V_1 := XV.out.cell 1 _ rfl
      have V_2 := XV.out.cell 2 _ rfl
      have lV := XV.out.lt
      have stop_0 := Xstop.out.cell 0 _ rfl
      have stop_1 := Xstop.out.cell 1 _ rfl
      have stop_2 := Xstop.out.cell 2 _ rfl
      have stop_3 := Xstop.out.cell 3 _ rfl
      have lstop := Xstop.out.lt
      have yes_0 := Xyes.out.cell 0 _ rfl
      have yes_1 := Xyes.out.cell 1 _ rfl
      have yes_2 := Xyes.out.cell 2 _ rfl
      have yes_3 := Xyes.out.cell 3 _ rfl
      have lyes := Xyes.out.lt
      have nV : w.heap.size + 1 ≠ w14.heap.size := by omega
      have nV' : w14.heap.size ≠ w.heap.size + 1 := by omega
      have nstop : w11.heap.size ≠ w14.heap.size := by omega
      have nstop' : w14.heap.size ≠ w11.heap.size := by omega
      have nyes : w4.heap.size + 1 + 1 ≠ w14.heap.size := by omega
      have nyes' : w14.heap.size ≠ w4.heap.size + 1 + 1 := by omega
      have HEc : Hid (∀ (W : World) (vv : Value), Below w.heap.size w W → CSits W ⟨25, 0, 0, [coYes, (coBad (1 + y % 3) 2)]⟩ vv → Calls Tryz.prog 23 #[coV ⟨25, 0, 0, [coYes, (coBad (1 + y % 3) 2)]⟩ vv, envV E (.slice a1 E.wins.length c1) (.slice a2 E.crons.length c2)] W fun e w' => e = .returned (.tuple #[.agg #[.int .i64 (1 + y % 3), .int .i64 0], .int .i64 0]) ∧ Below W.heap.size W w') := chid (fun W vv hW hsv => evc E ⟨25, 0, 0, [coYes, (coBad (1 + y % 3) 2)]⟩ vv _ _ W hsv (by rw [cn2]; rw [cn0, cn0]; omega) (HE.out.next hW) (GlE.next HG.out hW) _ (by exact ev_and2 E (1 + y % 3) hq1.out.1 hq1.out.2))
      have HOf : Hid (∀ (W : World), Below w.heap.size w W → Calls Tryz.prog 27 #[.int .i64 25, coV coYes (.slice none 0 0), coV (coBad (1 + y % 3) 2) (.slice none 0 0)] W fun e w' => ∃ v, e = .returned (coV ⟨25, 0, 0, [coYes, (coBad (1 + y % 3) 2)]⟩ v) ∧ CSits w' ⟨25, 0, 0, [coYes, (coBad (1 + y % 3) 2)]⟩ v ∧ Below W.heap.size W w') := chid (fun W hW => of_c 25 coYes (coBad (1 + y % 3) 2) (.slice none 0 0) (.slice none 0 0) W (by unfold C64; decide) (HYe.out _) (HB7.out _))
      obtain ⟨G, hG⟩ : ∃ G : Nat → World → Prop, Hid (G = fun dd w' => Box w' dd [.int .i64 (1 + y % 3), .int .i64 0] ∧ Below w14.heap.size w14 w') := ⟨_, rfl⟩
      apply via G
      case hreg =>
        go_region_held3 (fun w' => (w'.cell? ⟨w.heap.size + 1, 0, none⟩ = some (.int .i64 E.rep) ∧ w'.cell? ⟨w.heap.size + 1, 1, none⟩ = some (.slice a1 E.wins.length c1) ∧ w'.cell? ⟨w.heap.size + 1, 2, none⟩ = some (.slice a2 E.crons.length c2)) ∧ (w'.cell? ⟨w11.heap.size, 0, none⟩ = some (.int .i64 6) ∧ w'.cell? ⟨w11.heap.size, 1, none⟩ = some (.int .i64 (1 + y % 3)) ∧ w'.cell? ⟨w11.heap.size, 2, none⟩ = some (.int .i64 2) ∧ w'.cell? ⟨w11.heap.size, 3, none⟩ = some (.slice none 0 0)) ∧ (w'.cell? ⟨w4.heap.size + 1 + 1, 0, none⟩ = some (.int .i64 2) ∧ w'.cell? ⟨w4.heap.size + 1 + 1, 1, none⟩ = some (.int .i64 1) ∧ w'.cell? ⟨w4.heap.size + 1 + 1, 2, none⟩ = some (.int .i64 0) ∧ w'.cell? ⟨w4.heap.size + 1 + 1, 3, none⟩ = some (.slice none 0 0))) (simp [go_sem, *]) (first | (go_at_call 27; refine Calls.mono (HOf.out _ (by exact cdrewN B14.out _)) ?_; rintro e u1 ⟨vv, rfl, sv, b⟩; have Hu1 : Hid (Below w14.heap.size w14 u1) := ⟨b.os, b.tape, b.output, b.size, b.block⟩; have yV := XV.out.next Hu1.out; replace V_0 := yV.cell 0 _ rfl; replace V_1 := yV.cell 1 _ rfl; replace V_2 := yV.cell 2 _ rfl; replace lV := yV.lt; have mV : w.heap.size + 1 ≠ u1.heap.size := Nat.ne_of_lt lV; have mV' : u1.heap.size ≠ w.heap.size + 1 := Nat.ne_of_gt lV; clear yV; have ystop := Xstop.out.next Hu1.out; replace stop_0 := ystop.cell 0 _ rfl; replace stop_1 := ystop.cell 1 _ rfl; replace stop_2 := ystop.cell 2 _ rfl; replace stop_3 := ystop.cell 3 _ rfl; replace lstop := ystop.lt; have mstop : w11.heap.size ≠ u1.heap.size := Nat.ne_of_lt lstop; have mstop' : u1.heap.size ≠ w11.heap.size := Nat.ne_of_gt lstop; clear ystop; have yyes := Xyes.out.next Hu1.out; replace yes_0 := yyes.cell 0 _ rfl; replace yes_1 := yyes.cell 1 _ rfl; replace yes_2 := yyes.cell 2 _ rfl; replace yes_3 := yyes.cell 3 _ rfl; replace lyes := yyes.lt; have myes : w4.heap.size + 1 + 1 ≠ u1.heap.size := Nat.ne_of_lt lyes; have myes' : u1.heap.size ≠ w4.heap.size + 1 + 1 := Nat.ne_of_gt lyes; clear yyes; have Bu1 := chid (cbelow_on B14.out Hu1.out B14.out.size); have HSv := chid sv; obtain ⟨aa, cc, rfl, -, -⟩ := sv.parts.shape; clear b sv) | (go_at_call 27; refine Calls.mono (HOf.out _ (by exact cbelow_on B14.out ((cdrewN (Below.refl w14.heap.size w14) _).alloc (Nat.le_refl _) _) B14.out.size)) ?_; rintro e u2 ⟨vv, rfl, sv, b⟩; have Hu2 : Hid (Below w14.heap.size w14 u2) := chid (cbelow_on ((cdrewN (Below.refl w14.heap.size w14) _).alloc (Nat.le_refl _) _) b ((cdrewN (Below.refl w14.heap.size w14) _).alloc (Nat.le_refl _) _).size); have Zz : Box u2 w14.heap.size [.int .i64 0, .int .i64 0] := Box.next (Box.new (w14.drewN _) [.int .i64 0, .int .i64 0] 51) b; have z0 := Zz.cell 0 _ rfl; have z1 := Zz.cell 1 _ rfl; have z2 := Zz.free 0 (by simp); have z3 := Zz.free 1 (by simp); have zl := Zz.lt; have HZ := chid Zz; clear Zz; have yV := XV.out.next Hu2.out; replace V_0 := yV.cell 0 _ rfl; replace V_1 := yV.cell 1 _ rfl; replace V_2 := yV.cell 2 _ rfl; replace lV := yV.lt; clear yV; have ystop := Xstop.out.next Hu2.out; replace stop_0 := ystop.cell 0 _ rfl; replace stop_1 := ystop.cell 1 _ rfl; replace stop_2 := ystop.cell 2 _ rfl; replace stop_3 := ystop.cell 3 _ rfl; replace lstop := ystop.lt; clear ystop; have yyes := Xyes.out.next Hu2.out; replace yes_0 := yyes.cell 0 _ rfl; replace yes_1 := yyes.cell 1 _ rfl; replace yes_2 := yyes.cell 2 _ rfl; replace yes_3 := yyes.cell 3 _ rfl; replace lyes := yyes.lt; clear yyes; have Bu2 := chid (cbelow_on B14.out Hu2.out B14.out.size); have HSv := chid sv; obtain ⟨aa, cc, rfl, -, -⟩ := sv.parts.shape; clear b sv) | (go_at_call 23; refine Calls.mono (HEc.out _ _ Bu1.out HSv.out) ?_; rintro e u3 ⟨rfl, b⟩; have Hu3 := chid (cbelow_on Hu1.out b Hu1.out.size); have yV := XV.out.next Hu3.out; replace V_0 := yV.cell 0 _ rfl; replace V_1 := yV.cell 1 _ rfl; replace V_2 := yV.cell 2 _ rfl; replace lV := yV.lt; clear yV; have ystop := Xstop.out.next Hu3.out; replace stop_0 := ystop.cell 0 _ rfl; replace stop_1 := ystop.cell 1 _ rfl; replace stop_2 := ystop.cell 2 _ rfl; replace stop_3 := ystop.cell 3 _ rfl; replace lstop := ystop.lt; clear ystop; have yyes := Xyes.out.next Hu3.out; replace yes_0 := yyes.cell 0 _ rfl; replace yes_1 := yyes.cell 1 _ rfl; replace yes_2 := yyes.cell 2 _ rfl; replace yes_3 := yyes.cell 3 _ rfl; replace lyes := yyes.lt; clear yyes; clear b) | (go_at_call 23; have ba := (Below.refl u1.heap.size u1).alloc (Nat.le_refl _) (.cells [.int .i64 0, .int .i64 0].toArray 51); refine Calls.mono (HEc.out _ _ (by exact cbelow_on Bu1.out ba Bu1.out.size) (by exact HSv.out.next ba)) ?_; rintro e u4 ⟨rfl, b⟩; have Hu4 : Hid (Below w14.heap.size w14 u4) := chid (cbelow_on (cbelow_on Hu1.out ba Hu1.out.size) b (Nat.le_trans Hu1.out.size ba.size)); have Zz : Box u4 u1.heap.size [.int .i64 0, .int .i64 0] := (Box.new u1 [.int .i64 0, .int .i64 0] 51).next b; have z0 := Zz.cell 0 _ rfl; have z1 := Zz.cell 1 _ rfl; have z2 := Zz.free 0 (by simp); have z3 := Zz.free 1 (by simp); have zl := Zz.lt; have HZ := chid Zz; clear Zz; have yV := XV.out.next Hu4.out; replace V_0 := yV.cell 0 _ rfl; replace V_1 := yV.cell 1 _ rfl; replace V_2 := yV.cell 2 _ rfl; replace lV := yV.lt; clear yV; have ystop := Xstop.out.next Hu4.out; replace stop_0 := ystop.cell 0 _ rfl; replace stop_1 := ystop.cell 1 _ rfl; replace stop_2 := ystop.cell 2 _ rfl; replace stop_3 := ystop.cell 3 _ rfl; replace lstop := ystop.lt; clear ystop; have yyes := Xyes.out.next Hu4.out; replace yes_0 := yyes.cell 0 _ rfl; replace yes_1 := yyes.cell 1 _ rfl; replace yes_2 := yyes.cell 2 _ rfl; replace yes_3 := yyes.cell 3 _ rfl; replace lyes := yyes.lt; clear yyes; clear b ba) | (go_at_call 23; refine Calls.mono (HEc.out _ _ Bu2.out HSv.out) ?_; rintro e u5 ⟨rfl, b⟩; have Hu5 := chid (cbelow_on Hu2.out b Hu2.out.size); have Zz := HZ.out.next b; clear z0 z1 z2 z3 zl HZ; have z0 := Zz.cell 0 _ rfl; have z1 := Zz.cell 1 _ rfl; have z2 := Zz.free 0 (by simp); have z3 := Zz.free 1 (by simp); have zl := Zz.lt; have HZ := chid Zz; clear Zz; have yV := XV.out.next Hu5.out; replace V_0 := yV.cell 0 _ rfl; replace V_1 := yV.cell 1 _ rfl; replace V_2 := yV.cell 2 _ rfl; replace lV := yV.lt; clear yV; have ystop := Xstop.out.next Hu5.out; replace stop_0 := ystop.cell 0 _ rfl; replace stop_1 := ystop.cell 1 _ rfl; replace stop_2 := ystop.cell 2 _ rfl; replace stop_3 := ystop.cell 3 _ rfl; replace lstop := ystop.lt; clear ystop; have yyes := Xyes.out.next Hu5.out; replace yes_0 := yyes.cell 0 _ rfl; replace yes_1 := yyes.cell 1 _ rfl; replace yes_2 := yyes.cell 2 _ rfl; replace yes_3 := yyes.cell 3 _ rfl; replace lyes := yyes.lt; clear yyes; clear b))
        · first | (obtain ⟨dd, hdd⟩ : ∃ dd, dd = u3.heap.size := ⟨_, rfl⟩; rw [← hdd]; refine ⟨dd, aa, cc, rfl, ?_⟩; rw [hG.out, hdd]; exact ⟨Box.new u3 [.int .i64 (1 + y % 3), .int .i64 0] 51, Hu3.out.alloc Hu3.out.size _⟩) | (obtain ⟨dd, hdd⟩ : ∃ dd, dd = w14.heap.size := ⟨_, rfl⟩; rw [← hdd]; refine ⟨dd, aa, cc, rfl, ?_⟩; rw [hG.out, hdd]; exact ⟨(HZ.out.set 0 (by simp) (.int .i64 (1 + y % 3))).set 1 (by simp) (.int .i64 0), (Hu5.out.setCell (p := ⟨_, 0, none⟩) (Nat.le_refl _) _).setCell (p := ⟨_, 1, none⟩) (Nat.le_refl _) _⟩) | (obtain ⟨dd, hdd⟩ : ∃ dd, dd = u1.heap.size := ⟨_, rfl⟩; rw [← hdd]; refine ⟨dd, aa, cc, rfl, ?_⟩; rw [hG.out, hdd]; exact ⟨(HZ.out.set 0 (by simp) (.int .i64 (1 + y % 3))).set 1 (by simp) (.int .i64 0), (Hu4.out.setCell (p := ⟨_, 0, none⟩) Hu1.out.size _).setCell (p := ⟨_, 1, none⟩) Hu1.out.size _⟩)
        · first | (obtain ⟨dd, hdd⟩ : ∃ dd, dd = u3.heap.size := ⟨_, rfl⟩; rw [← hdd]; refine ⟨dd, aa, cc, rfl, ?_⟩; rw [hG.out, hdd]; exact ⟨Box.new u3 [.int .i64 (1 + y % 3), .int .i64 0] 51, Hu3.out.alloc Hu3.out.size _⟩) | (obtain ⟨dd, hdd⟩ : ∃ dd, dd = w14.heap.size := ⟨_, rfl⟩; rw [← hdd]; refine ⟨dd, aa, cc, rfl, ?_⟩; rw [hG.out, hdd]; exact ⟨(HZ.out.set 0 (by simp) (.int .i64 (1 + y % 3))).set 1 (by simp) (.int .i64 0), (Hu5.out.setCell (p := ⟨_, 0, none⟩) (Nat.le_refl _) _).setCell (p := ⟨_, 1, none⟩) (Nat.le_refl _) _⟩) | (obtain ⟨dd, hdd⟩ : ∃ dd, dd = u1.heap.size := ⟨_, rfl⟩; rw [← hdd]; refine ⟨dd, aa, cc, rfl, ?_⟩; rw [hG.out, hdd]; exact ⟨(HZ.out.set 0 (by simp) (.int .i64 (1 + y % 3))).set 1 (by simp) (.int .i64 0), (Hu4.out.setCell (p := ⟨_, 0, none⟩) Hu1.out.size _).setCell (p := ⟨_, 1, none⟩) Hu1.out.size _⟩)
        · first | (obtain ⟨dd, hdd⟩ : ∃ dd, dd = u3.heap.size := ⟨_, rfl⟩; rw [← hdd]; refine ⟨dd, aa, cc, rfl, ?_⟩; rw [hG.out, hdd]; exact ⟨Box.new u3 [.int .i64 (1 + y % 3), .int .i64 0] 51, Hu3.out.alloc Hu3.out.size _⟩) | (obtain ⟨dd, hdd⟩ : ∃ dd, dd = w14.heap.size := ⟨_, rfl⟩; rw [← hdd]; refine ⟨dd, aa, cc, rfl, ?_⟩; rw [hG.out, hdd]; exact ⟨(HZ.out.set 0 (by simp) (.int .i64 (1 + y % 3))).set 1 (by simp) (.int .i64 0), (Hu5.out.setCell (p := ⟨_, 0, none⟩) (Nat.le_refl _) _).setCell (p := ⟨_, 1, none⟩) (Nat.le_refl _) _⟩) | (obtain ⟨dd, hdd⟩ : ∃ dd, dd = u1.heap.size := ⟨_, rfl⟩; rw [← hdd]; refine ⟨dd, aa, cc, rfl, ?_⟩; rw [hG.out, hdd]; exact ⟨(HZ.out.set 0 (by simp) (.int .i64 (1 + y % 3))).set 1 (by simp) (.int .i64 0), (Hu4.out.setCell (p := ⟨_, 0, none⟩) Hu1.out.size _).setCell (p := ⟨_, 1, none⟩) Hu1.out.size _⟩)
      case hrest =>
      intro iD aa_i cc_i w15 hGd
      rw [hG.out] at hGd
      obtain ⟨Yi, ka⟩ := hGd
      clear V_0 V_1 V_2 lV stop_0 stop_1 stop_2 stop_3 lstop yes_0 yes_1 yes_2 yes_3 lyes
      clear hG G HEc HOf nV nV' nstop nstop' nyes nyes'
      have B15 := chid (cbelow_on B14.out ka B14.out.size)
      replace XC := chid (XC.out.next ka)
      replace XV := chid (XV.out.next ka)
      replace Xx := chid (Xx.out.next ka)
      replace Xbad := chid (Xbad.out.next ka)
      replace Xyes := chid (Xyes.out.next ka)
      replace Xno := chid (Xno.out.next ka)
      replace Xa := chid (Xa.out.next ka)
      replace Xb := chid (Xb.out.next ka)
      replace Xd := chid (Xd.out.next ka)
      replace Xf := chid (Xf.out.next ka)
      replace Xstop := chid (Xstop.out.next ka)
      replace Xg := chid (Xg.out.next ka)
      replace Xh := chid (Xh.out.next ka)
      have Xi := chid Yi
      clear ka Yi B14
      go_wp2_with fail
      have V_0 := XV.out.cell 0 _ rfl
      have V_1 := XV.out.cell 1 _ rfl
      have V_2 := XV.out.cell 2 _ rfl
      have lV := XV.out.lt
      have no_0 := Xno.out.cell 0 _ rfl
      have no_1 := Xno.out.cell 1 _ rfl
      have no_2 := Xno.out.cell 2 _ rfl
      have no_3 := Xno.out.cell 3 _ rfl
      have lno := Xno.out.lt
      have stop_0 := Xstop.out.cell 0 _ rfl
      have stop_1 := Xstop.out.cell 1 _ rfl
      have stop_2 := Xstop.out.cell 2 _ rfl
      have stop_3 := Xstop.out.cell 3 _ rfl
      have lstop := Xstop.out.lt
      have nV : w.heap.size + 1 ≠ w15.heap.size := by omega
      have nV' : w15.heap.size ≠ w.heap.size + 1 := by omega
      have nno : w4.heap.size + 1 + 1 + 1 ≠ w15.heap.size := by omega
      have nno' : w15.heap.size ≠ w4.heap.size + 1 + 1 + 1 := by omega
      have nstop : w11.heap.size ≠ w15.heap.size := by omega
      have nstop' : w15.heap.size ≠ w11.heap.size := by omega
      have HEc : Hid (∀ (W : World) (vv : Value), Below w.heap.size w W → CSits W ⟨26, 0, 0, [coNo, (coBad (1 + y % 3) 2)]⟩ vv → Calls Tryz.prog 23 #[coV ⟨26, 0, 0, [coNo, (coBad (1 + y % 3) 2)]⟩ vv, envV E (.slice a1 E.wins.length c1) (.slice a2 E.crons.length c2)] W fun e w' => e = .returned (.tuple #[.agg #[.int .i64 (1 + y % 3), .int .i64 0], .int .i64 0]) ∧ Below W.heap.size W w') := chid (fun W vv hW hsv => evc E ⟨26, 0, 0, [coNo, (coBad (1 + y % 3) 2)]⟩ vv _ _ W hsv (by rw [cn2]; rw [cn0, cn0]; omega) (HE.out.next hW) (GlE.next HG.out hW) _ (by exact ev_or2 E (1 + y % 3) hq1.out.1 hq1.out.2))
      have HOf : Hid (∀ (W : World), Below w.heap.size w W → Calls Tryz.prog 27 #[.int .i64 26, coV coNo (.slice none 0 0), coV (coBad (1 + y % 3) 2) (.slice none 0 0)] W fun e w' => ∃ v, e = .returned (coV ⟨26, 0, 0, [coNo, (coBad (1 + y % 3) 2)]⟩ v) ∧ CSits w' ⟨26, 0, 0, [coNo, (coBad (1 + y % 3) 2)]⟩ v ∧ Below W.heap.size W w') := chid (fun W hW => of_c 26 coNo (coBad (1 + y % 3) 2) (.slice none 0 0) (.slice none 0 0) W (by unfold C64; decide) (HNo.out _) (HB7.out _))
      obtain ⟨G, hG⟩ : ∃ G : Nat → World → Prop, Hid (G = fun dd w' => Box w' dd [.int .i64 (1 + y % 3), .int .i64 0] ∧ Below w15.heap.size w15 w') := ⟨_, rfl⟩
      apply via G
      case hreg =>
        go_region_held3 (fun w' => (w'.cell? ⟨w.heap.size + 1, 0, none⟩ = some (.int .i64 E.rep) ∧ w'.cell? ⟨w.heap.size + 1, 1, none⟩ = some (.slice a1 E.wins.length c1) ∧ w'.cell? ⟨w.heap.size + 1, 2, none⟩ = some (.slice a2 E.crons.length c2)) ∧ (w'.cell? ⟨w4.heap.size + 1 + 1 + 1, 0, none⟩ = some (.int .i64 2) ∧ w'.cell? ⟨w4.heap.size + 1 + 1 + 1, 1, none⟩ = some (.int .i64 0) ∧ w'.cell? ⟨w4.heap.size + 1 + 1 + 1, 2, none⟩ = some (.int .i64 0) ∧ w'.cell? ⟨w4.heap.size + 1 + 1 + 1, 3, none⟩ = some (.slice none 0 0)) ∧ (w'.cell? ⟨w11.heap.size, 0, none⟩ = some (.int .i64 6) ∧ w'.cell? ⟨w11.heap.size, 1, none⟩ = some (.int .i64 (1 + y % 3)) ∧ w'.cell? ⟨w11.heap.size, 2, none⟩ = some (.int .i64 2) ∧ w'.cell? ⟨w11.heap.size, 3, none⟩ = some (.slice none 0 0))) (simp [go_sem, *]) (first | (go_at_call 27; refine Calls.mono (HOf.out _ (by exact cdrewN B15.out _)) ?_; rintro e u1 ⟨vv, rfl, sv, b⟩; have Hu1 : Hid (Below w15.heap.size w15 u1) := ⟨b.os, b.tape, b.output, b.size, b.block⟩; have yV := XV.out.next Hu1.out; replace V_0 := yV.cell 0 _ rfl; replace V_1 := yV.cell 1 _ rfl; replace V_2 := yV.cell 2 _ rfl; replace lV := yV.lt; have mV : w.heap.size + 1 ≠ u1.heap.size := Nat.ne_of_lt lV; have mV' : u1.heap.size ≠ w.heap.size + 1 := Nat.ne_of_gt lV; clear yV; have yno := Xno.out.next Hu1.out; replace no_0 := yno.cell 0 _ rfl; replace no_1 := yno.cell 1 _ rfl; replace no_2 := yno.cell 2 _ rfl; replace no_3 := yno.cell 3 _ rfl; replace lno := yno.lt; have mno : w4.heap.size + 1 + 1 + 1 ≠ u1.heap.size := Nat.ne_of_lt lno; have mno' : u1.heap.size ≠ w4.heap.size + 1 + 1 + 1 := Nat.ne_of_gt lno; clear yno; have ystop := Xstop.out.next Hu1.out; replace stop_0 := ystop.cell 0 _ rfl; replace stop_1 := ystop.cell 1 _ rfl; replace stop_2 := ystop.cell 2 _ rfl; replace stop_3 := ystop.cell 3 _ rfl; replace lstop := ystop.lt; have mstop : w11.heap.size ≠ u1.heap.size := Nat.ne_of_lt lstop; have mstop' : u1.heap.size ≠ w11.heap.size := Nat.ne_of_gt lstop; clear ystop; have Bu1 := chid (cbelow_on B15.out Hu1.out B15.out.size); have HSv := chid sv; obtain ⟨aa, cc, rfl, -, -⟩ := sv.parts.shape; clear b sv) | (go_at_call 27; refine Calls.mono (HOf.out _ (by exact cbelow_on B15.out ((cdrewN (Below.refl w15.heap.size w15) _).alloc (Nat.le_refl _) _) B15.out.size)) ?_; rintro e u2 ⟨vv, rfl, sv, b⟩; have Hu2 : Hid (Below w15.heap.size w15 u2) := chid (cbelow_on ((cdrewN (Below.refl w15.heap.size w15) _).alloc (Nat.le_refl _) _) b ((cdrewN (Below.refl w15.heap.size w15) _).alloc (Nat.le_refl _) _).size); have Zz : Box u2 w15.heap.size [.int .i64 0, .int .i64 0] := Box.next (Box.new (w15.drewN _) [.int .i64 0, .int .i64 0] 51) b; have z0 := Zz.cell 0 _ rfl; have z1 := Zz.cell 1 _ rfl; have z2 := Zz.free 0 (by simp); have z3 := Zz.free 1 (by simp); have zl := Zz.lt; have HZ := chid Zz; clear Zz; have yV := XV.out.next Hu2.out; replace V_0 := yV.cell 0 _ rfl; replace V_1 := yV.cell 1 _ rfl; replace V_2 := yV.cell 2 _ rfl; replace lV := yV.lt; clear yV; have yno := Xno.out.next Hu2.out; replace no_0 := yno.cell 0 _ rfl; replace no_1 := yno.cell 1 _ rfl; replace no_2 := yno.cell 2 _ rfl; replace no_3 := yno.cell 3 _ rfl; replace lno := yno.lt; clear yno; have ystop := Xstop.out.next Hu2.out; replace stop_0 := ystop.cell 0 _ rfl; replace stop_1 := ystop.cell 1 _ rfl; replace stop_2 := ystop.cell 2 _ rfl; replace stop_3 := ystop.cell 3 _ rfl; replace lstop := ystop.lt; clear ystop; have Bu2 := chid (cbelow_on B15.out Hu2.out B15.out.size); have HSv := chid sv; obtain ⟨aa, cc, rfl, -, -⟩ := sv.parts.shape; clear b sv) | (go_at_call 23; refine Calls.mono (HEc.out _ _ Bu1.out HSv.out) ?_; rintro e u3 ⟨rfl, b⟩; have Hu3 := chid (cbelow_on Hu1.out b Hu1.out.size); have yV := XV.out.next Hu3.out; replace V_0 := yV.cell 0 _ rfl; replace V_1 := yV.cell 1 _ rfl; replace V_2 := yV.cell 2 _ rfl; replace lV := yV.lt; clear yV; have yno := Xno.out.next Hu3.out; replace no_0 := yno.cell 0 _ rfl; replace no_1 := yno.cell 1 _ rfl; replace no_2 := yno.cell 2 _ rfl; replace no_3 := yno.cell 3 _ rfl; replace lno := yno.lt; clear yno; have ystop := Xstop.out.next Hu3.out; replace stop_0 := ystop.cell 0 _ rfl; replace stop_1 := ystop.cell 1 _ rfl; replace stop_2 := ystop.cell 2 _ rfl; replace stop_3 := ystop.cell 3 _ rfl; replace lstop := ystop.lt; clear ystop; clear b) | (go_at_call 23; have ba := (Below.refl u1.heap.size u1).alloc (Nat.le_refl _) (.cells [.int .i64 0, .int .i64 0].toArray 51); refine Calls.mono (HEc.out _ _ (by exact cbelow_on Bu1.out ba Bu1.out.size) (by exact HSv.out.next ba)) ?_; rintro e u4 ⟨rfl, b⟩; have Hu4 : Hid (Below w15.heap.size w15 u4) := chid (cbelow_on (cbelow_on Hu1.out ba Hu1.out.size) b (Nat.le_trans Hu1.out.size ba.size)); have Zz : Box u4 u1.heap.size [.int .i64 0, .int .i64 0] := (Box.new u1 [.int .i64 0, .int .i64 0] 51).next b; have z0 := Zz.cell 0 _ rfl; have z1 := Zz.cell 1 _ rfl; have z2 := Zz.free 0 (by simp); have z3 := Zz.free 1 (by simp); have zl := Zz.lt; have HZ := chid Zz; clear Zz; have yV := XV.out.next Hu4.out; replace V_0 := yV.cell 0 _ rfl; replace V_1 := yV.cell 1 _ rfl; replace V_2 := yV.cell 2 _ rfl; replace lV := yV.lt; clear yV; have yno := Xno.out.next Hu4.out; replace no_0 := yno.cell 0 _ rfl; replace no_1 := yno.cell 1 _ rfl; replace no_2 := yno.cell 2 _ rfl; replace no_3 := yno.cell 3 _ rfl; replace lno := yno.lt; clear yno; have ystop := Xstop.out.next Hu4.out; replace stop_0 := ystop.cell 0 _ rfl; replace stop_1 := ystop.cell 1 _ rfl; replace stop_2 := ystop.cell 2 _ rfl; replace stop_3 := ystop.cell 3 _ rfl; replace lstop := ystop.lt; clear ystop; clear b ba) | (go_at_call 23; refine Calls.mono (HEc.out _ _ Bu2.out HSv.out) ?_; rintro e u5 ⟨rfl, b⟩; have Hu5 := chid (cbelow_on Hu2.out b Hu2.out.size); have Zz := HZ.out.next b; clear z0 z1 z2 z3 zl HZ; have z0 := Zz.cell 0 _ rfl; have z1 := Zz.cell 1 _ rfl; have z2 := Zz.free 0 (by simp); have z3 := Zz.free 1 (by simp); have zl := Zz.lt; have HZ := chid Zz; clear Zz; have yV := XV.out.next Hu5.out; replace V_0 := yV.cell 0 _ rfl; replace V_1 := yV.cell 1 _ rfl; replace V_2 := yV.cell 2 _ rfl; replace lV := yV.lt; clear yV; have yno := Xno.out.next Hu5.out; replace no_0 := yno.cell 0 _ rfl; replace no_1 := yno.cell 1 _ rfl; replace no_2 := yno.cell 2 _ rfl; replace no_3 := yno.cell 3 _ rfl; replace lno := yno.lt; clear yno; have ystop := Xstop.out.next Hu5.out; replace stop_0 := ystop.cell 0 _ rfl; replace stop_1 := ystop.cell 1 _ rfl; replace stop_2 := ystop.cell 2 _ rfl; replace stop_3 := ystop.cell 3 _ rfl; replace lstop := ystop.lt; clear ystop; clear b))
        · first | (obtain ⟨dd, hdd⟩ : ∃ dd, dd = u3.heap.size := ⟨_, rfl⟩; rw [← hdd]; refine ⟨dd, aa, cc, rfl, ?_⟩; rw [hG.out, hdd]; exact ⟨Box.new u3 [.int .i64 (1 + y % 3), .int .i64 0] 51, Hu3.out.alloc Hu3.out.size _⟩) | (obtain ⟨dd, hdd⟩ : ∃ dd, dd = w15.heap.size := ⟨_, rfl⟩; rw [← hdd]; refine ⟨dd, aa, cc, rfl, ?_⟩; rw [hG.out, hdd]; exact ⟨(HZ.out.set 0 (by simp) (.int .i64 (1 + y % 3))).set 1 (by simp) (.int .i64 0), (Hu5.out.setCell (p := ⟨_, 0, none⟩) (Nat.le_refl _) _).setCell (p := ⟨_, 1, none⟩) (Nat.le_refl _) _⟩) | (obtain ⟨dd, hdd⟩ : ∃ dd, dd = u1.heap.size := ⟨_, rfl⟩; rw [← hdd]; refine ⟨dd, aa, cc, rfl, ?_⟩; rw [hG.out, hdd]; exact ⟨(HZ.out.set 0 (by simp) (.int .i64 (1 + y % 3))).set 1 (by simp) (.int .i64 0), (Hu4.out.setCell (p := ⟨_, 0, none⟩) Hu1.out.size _).setCell (p := ⟨_, 1, none⟩) Hu1.out.size _⟩)
        · first | (obtain ⟨dd, hdd⟩ : ∃ dd, dd = u3.heap.size := ⟨_, rfl⟩; rw [← hdd]; refine ⟨dd, aa, cc, rfl, ?_⟩; rw [hG.out, hdd]; exact ⟨Box.new u3 [.int .i64 (1 + y % 3), .int .i64 0] 51, Hu3.out.alloc Hu3.out.size _⟩) | (obtain ⟨dd, hdd⟩ : ∃ dd, dd = w15.heap.size := ⟨_, rfl⟩; rw [← hdd]; refine ⟨dd, aa, cc, rfl, ?_⟩; rw [hG.out, hdd]; exact ⟨(HZ.out.set 0 (by simp) (.int .i64 (1 + y % 3))).set 1 (by simp) (.int .i64 0), (Hu5.out.setCell (p := ⟨_, 0, none⟩) (Nat.le_refl _) _).setCell (p := ⟨_, 1, none⟩) (Nat.le_refl _) _⟩) | (obtain ⟨dd, hdd⟩ : ∃ dd, dd = u1.heap.size := ⟨_, rfl⟩; rw [← hdd]; refine ⟨dd, aa, cc, rfl, ?_⟩; rw [hG.out, hdd]; exact ⟨(HZ.out.set 0 (by simp) (.int .i64 (1 + y % 3))).set 1 (by simp) (.int .i64 0), (Hu4.out.setCell (p := ⟨_, 0, none⟩) Hu1.out.size _).setCell (p := ⟨_, 1, none⟩) Hu1.out.size _⟩)
        · first | (obtain ⟨dd, hdd⟩ : ∃ dd, dd = u3.heap.size := ⟨_, rfl⟩; rw [← hdd]; refine ⟨dd, aa, cc, rfl, ?_⟩; rw [hG.out, hdd]; exact ⟨Box.new u3 [.int .i64 (1 + y % 3), .int .i64 0] 51, Hu3.out.alloc Hu3.out.size _⟩) | (obtain ⟨dd, hdd⟩ : ∃ dd, dd = w15.heap.size := ⟨_, rfl⟩; rw [← hdd]; refine ⟨dd, aa, cc, rfl, ?_⟩; rw [hG.out, hdd]; exact ⟨(HZ.out.set 0 (by simp) (.int .i64 (1 + y % 3))).set 1 (by simp) (.int .i64 0), (Hu5.out.setCell (p := ⟨_, 0, none⟩) (Nat.le_refl _) _).setCell (p := ⟨_, 1, none⟩) (Nat.le_refl _) _⟩) | (obtain ⟨dd, hdd⟩ : ∃ dd, dd = u1.heap.size := ⟨_, rfl⟩; rw [← hdd]; refine ⟨dd, aa, cc, rfl, ?_⟩; rw [hG.out, hdd]; exact ⟨(HZ.out.set 0 (by simp) (.int .i64 (1 + y % 3))).set 1 (by simp) (.int .i64 0), (Hu4.out.setCell (p := ⟨_, 0, none⟩) Hu1.out.size _).setCell (p := ⟨_, 1, none⟩) Hu1.out.size _⟩)
      case hrest =>
      intro jD aa_j cc_j w16 hGd
      rw [hG.out] at hGd
      obtain ⟨Yj, ka⟩ := hGd
      clear V_0 V_1 V_2 lV no_0 no_1 no_2 no_3 lno stop_0 stop_1 stop_2 stop_3 lstop
      clear hG G HEc HOf nV nV' nno nno' nstop nstop'
      have B16 := chid (cbelow_on B15.out ka B15.out.size)
      replace XC := chid (XC.out.next ka)
      replace XV := chid (XV.out.next ka)
      replace Xx := chid (Xx.out.next ka)
      replace Xbad := chid (Xbad.out.next ka)
      replace Xyes := chid (Xyes.out.next ka)
      replace Xno := chid (Xno.out.next ka)
      replace Xa := chid (Xa.out.next ka)
      replace Xb := chid (Xb.out.next ka)
      replace Xd := chid (Xd.out.next ka)
      replace Xf := chid (Xf.out.next ka)
      replace Xstop := chid (Xstop.out.next ka)
      replace Xg := chid (Xg.out.next ka)
      replace Xh := chid (Xh.out.next ka)
      replace Xi := chid (Xi.out.next ka)
      have Xj := chid Yj
      clear ka Yj B15
      have g_0 := Xg.out.cell 0 _ rfl
      have g_1 := Xg.out.cell 1 _ rfl
      have lg := Xg.out.lt
      have lg_1 : gD < w16.heap.size + 1 := by omega
      have h_0 := Xh.out.cell 0 _ rfl
      have h_1 := Xh.out.cell 1 _ rfl
      have lh := Xh.out.lt
      have lh_1 : hD < w16.heap.size + 1 := by omega
      have i_0 := Xi.out.cell 0 _ rfl
      have i_1 := Xi.out.cell 1 _ rfl
      have li := Xi.out.lt
      have li_1 : iD < w16.heap.size + 1 := by omega
      have j_0 := Xj.out.cell 0 _ rfl
      have j_1 := Xj.out.cell 1 _ rfl
      have lj := Xj.out.lt
      have lj_1 : jD < w16.heap.size + 1 := by omega
      have HFin : Hid (∀ o, Below w.heap.size w (w16.alloc o)) := chid (fun o => B16.out.alloc B16.out.size o)
      go_wp2_with fail
      go_ret
      exact ⟨rfl, HFin.out _⟩
  · exact absurd hsd.out.symm HX.out
end Go.Proofs.YtkhdcojgcnomgaaGreatDoor
