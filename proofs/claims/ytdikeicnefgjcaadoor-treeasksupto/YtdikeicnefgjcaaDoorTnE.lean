/- TreeAsks: every tree's names, and what it says as a literal, are the chapter's. -/
import Derived.Test.YtdikeicnefgjcaaDoorTnD
import Derived.Test.YtdikeicnefgjcaaDoorTrW
namespace Go.Proofs.YtdikeicnefgjcaaDoor
open Go.RowKit Go.Maps

theorem six_t {w : World} {g : Nat} {t : Tm} {v : Value} (h : Box w g (tmL t v)) : w.cell? ⟨g, 0, none⟩ = some (.int .i64 t.kind) ∧ w.cell? ⟨g, 1, none⟩ = some (.string t.text) ∧ w.cell? ⟨g, 2, none⟩ = some (.int .i64 t.n) ∧ w.cell? ⟨g, 3, none⟩ = some (.int .i64 t.m) ∧ w.cell? ⟨g, 4, none⟩ = some (.int .i64 t.pl) ∧ w.cell? ⟨g, 5, none⟩ = some v :=
  ⟨h.cell 0 _ rfl, h.cell 1 _ rfl, h.cell 2 _ rfl, h.cell 3 _ rfl, h.cell 4 _ rfl, h.cell 5 _ rfl⟩
theorem rNames_c {z : Nat} (t : Tm) (v : Value) (w : World) (hs : Sits z w t v) (hn : nodes t ≤ 16384) : Calls Tryd.prog 24 #[tmV t v] w (NewS (namesT t) w) := by
  have HC := hid2 (fun (o : Obj) => rNam_all t w w.heap.size [] v (.slice none 0 0) (w.alloc o) hs ((Below.refl _ _).alloc (Nat.le_refl _) _) (Nat.le_refl _) (by simp) (World.ownsRow_nil _ _ _ _) (by simpa using hn))
  obtain ⟨ad, cap, rfl, -, -⟩ := hs.parts.shape
  clear hs hn
  go_enter Tryd.func24, Tryd.ntmps24
  go_wp2_with fail
  refine Calls.mono (HC.out _) ?_
  rintro e w1 ⟨lv, rfl, r1, t1, -⟩
  have B1 : Hid (Below w.heap.size w w1) := ((Below.refl _ _).alloc (Nat.le_refl _) _).trans (t1.below (fun k hk => by cases hk) (by simp))
  have R1 := hid2 r1
  obtain ⟨a, c, e⟩ := row_val r1
  obtain ⟨n, hn⟩ : ∃ n, Hid (n = ((pord t).foldl addN []).length) := ⟨_, rfl⟩
  rw [← hn.out] at e
  subst e
  clear r1 t1 HC
  go_wp2_with fail
  go_ret
  exact ⟨_, rfl, R1.out, B1.out⟩
set_option maxRecDepth 20000 in
set_option maxHeartbeats 2000000 in
theorem treeAsks_walk (t : Tm) (v : Value) (w : World) (hs : Sits 1048576 w t v) (hT : TabsAt w) : Calls Tryd.prog 6 #[tmV t v] w fun e w' => e = .returned (.bool true) ∧ Below w.heap.size w w' := by
  obtain ⟨ad, cap, rfl, -, -⟩ := hs.parts.shape
  have HS := hid2 hs
  have HA : Hid (∀ wx, Below w.heap.size w wx → Calls Tryd.prog 9 #[] wx fun e w' => e = .returned (.bool true) ∧ Below wx.heap.size wx w') := fun wx hi => awake_c wx (hT.next hi)
  have H1 : Hid (∀ wx, Below w.heap.size w wx → Calls Tryd.prog 10 #[tmV t (.slice ad t.parts.length cap)] wx fun e w' => e = .returned (.bool (decide (nodes t ≤ 16384))) ∧ Below wx.heap.size wx w') := fun wx hi => small_c t _ wx (hs.next hi)
  have HT1 := hid2 (fun wx (hi : Below w.heap.size w wx) => tLiteral_c (z := 1048576) (by decide) t (.slice ad t.parts.length cap) wx (hs.next hi) (hT.next hi))
  have HT2 := hid2 (fun wx (hi : Below w.heap.size w wx) => rLiteral_c (z := 1048576) (by decide) t (.slice ad t.parts.length cap) wx (hs.next hi))
  obtain ⟨X0, XB⟩ := one_box w 24 (tmL t (.slice ad t.parts.length cap))
  have BX := hid2 X0
  have BB := hid2 XB
  clear X0 XB hs hT
  obtain ⟨b1, hb1⟩ : ∃ b1 : Bool, Hid (b1 = decide (nodes t ≤ 16384)) := ⟨_, rfl⟩
  rw [← hb1.out] at H1
  go_enter Tryd.func6, Tryd.ntmps6
  go_wp2_with fail
  refine Calls.mono (HA.out _ BB.out) ?_
  rintro e w1 ⟨rfl, q1⟩
  have B1 := hid2 (below_on BB.out q1 BB.out.size)
  have x1 := hid2 (BX.out.next q1)
  clear q1 BX BB
  obtain ⟨s0, s1, s2, s3, s4, s5⟩ := six_t x1.out
  go_wp2_with fail
  refine Calls.mono (H1.out _ B1.out) ?_
  rintro e w2 ⟨rfl, q2⟩
  have B2 := hid2 (below_on B1.out q2 B1.out.size)
  have x2 := hid2 (x1.out.next q2)
  clear q2 x1 H1 s0 s1 s2 s3 s4 s5
  cases b1
  · go_wp2_with fail
    refine Calls.mono (HA.out _ B2.out) ?_
    rintro e w3 ⟨rfl, q3⟩
    have B3 := hid2 (below_on B2.out q3 B2.out.size)
    clear q3
    go_wp2_with fail
    go_ret
    exact ⟨rfl, B3.out⟩
  · have hnd := hid2 (of_decide_eq_true (p := nodes t ≤ 16384) hb1.out.symm)
    obtain ⟨s0, s1, s2, s3, s4, s5⟩ := six_t x2.out
    have HN := hid2 (names_c (z := 1048576) (by decide) t _ w2 (HS.out.next B2.out) hnd.out)
    clear hb1 HA
    go_wp2_with fail
    refine Calls.mono HN.out ?_
    rintro e w3 ⟨lv, rfl, r3, q3⟩
    obtain ⟨L, hL⟩ : ∃ L, Hid (L = namesT t) := ⟨_, rfl⟩
    rw [← hL.out] at r3
    have hLl : L.length ≤ 16384 := by
      have h1 := foldN_len (pord t) []
      have h2 := hnd.out
      unfold nodes at h2
      rw [hL.out]
      unfold namesT
      simp only [List.length_nil, Nat.zero_add] at h1
      omega
    have R3 := hid2 r3
    have B3 := hid2 (below_on B2.out q3 B2.out.size)
    have x3 := hid2 (x2.out.next q3)
    obtain ⟨la, lc, rfl⟩ := row_val r3
    clear r3 q3 HN x2 s0 s1 s2 s3 s4 s5
    obtain ⟨s0, s1, s2, s3, s4, s5⟩ := six_t x3.out
    have HN := hid2 (rNames_c t _ w3 (HS.out.next B3.out) hnd.out)
    rw [← hL.out] at HN
    go_wp2_with fail
    refine Calls.mono HN.out ?_
    rintro e w4 ⟨lw, rfl, r4, q4⟩
    have R4 := hid2 r4
    have R3' := hid2 (row_turn (S := []) R3.out (Turn.of_below q4) (by simp))
    have B4 := hid2 (below_on B3.out q4 B3.out.size)
    have x4 := hid2 (x3.out.next q4)
    obtain ⟨ma, mc, rfl⟩ := row_val r4
    clear r4 q4 HN x3 s0 s1 s2 s3 s4 s5 R3 B2 B3
    go_wp2_with fail
    go_loopw [5] (fun i wr => ∃ j : Nat, i = .int .i64 (j : Nat) ∧ j ≤ L.length ∧ Hid (Below w4.heap.size w4 wr)) (fun i _ => match i with | .int _ p => ((L.length : Int) - p).toNat | _ => 0)
    case atStart => exact ⟨0, rfl, by omega, Below.refl _ _⟩
    case round =>
      obtain ⟨j, rfl, hj, HBj⟩ := hrel
      by_cases hlt : j < L.length
      · have hlt' : (j : Int) < (L.length : Int) := by omega
        obtain ⟨g, c, s, hv, hs1, hs2, hs3⟩ := row_open (row_turn (S := []) R3'.out (Turn.of_below HBj.out) (by simp)) hlt
        simp only [Value.slice.injEq] at hv
        obtain ⟨rfl, -, rfl⟩ := hv
        obtain ⟨g', c', s', hv', hs1', hs2', hs3'⟩ := row_open (row_turn (S := []) R4.out (Turn.of_below HBj.out) (by simp)) hlt
        simp only [Value.slice.injEq] at hv'
        obtain ⟨rfl, -, rfl⟩ := hv'
        obtain rfl : s = s' := Option.some.inj (hs1.symm.trans hs1')
        have hs4 : ∃ y, s = .string y := by
          unfold strs at hs1
          rw [List.getElem?_map, List.getElem?_eq_getElem hlt] at hs1
          exact ⟨_, (Option.some.inj hs1).symm⟩
        obtain ⟨y, rfl⟩ := hs4
        clear hs1 hs1'
        go_wp2_with fail
        go_quiet (fail)
        go_wp2_with fail
        go_roundw
        case rel => exact ⟨j + 1, by go_num, by omega, hid2 (HBj.out.trans (below_drewN (Below.refl _ _) _))⟩
        case measure => simp; omega
      · have hlt' : ¬ (j : Int) < (L.length : Int) := by omega
        have x5 := hid2 (x4.out.next HBj.out)
        have B5 := hid2 (below_on B4.out HBj.out B4.out.size)
        obtain ⟨s0, s1, s2, s3, s4, s5⟩ := six_t x5.out
        have C1 := hid2 (HT1.out _ B5.out)
        clear HT1 R3' R4
        obtain ⟨n, s, o, hO⟩ : ∃ (n : Int) (s : ByteArray) (o : Bool), Hid (litOut (litR t) = .tuple #[.int .i64 n, .string s, .bool o]) := by
          unfold litOut
          cases litR t with
          | none => exact ⟨_, _, _, rfl⟩
          | some p => exact ⟨_, _, _, rfl⟩
        rw [hO.out] at C1
        go_wp2_with fail
        refine Calls.mono C1.out ?_
        rintro e w6 ⟨rfl, q6⟩
        have x6 := hid2 (x5.out.next q6)
        have B6 := hid2 (below_on B5.out q6 B5.out.size)
        clear q6 s0 s1 s2 s3 s4 s5 C1
        obtain ⟨s0, s1, s2, s3, s4, s5⟩ := six_t x6.out
        have C2 := hid2 (HT2.out _ B6.out)
        rw [hO.out] at C2
        go_wp2_with fail
        refine Calls.mono C2.out ?_
        rintro e w7 ⟨rfl, q7⟩
        have B7 := hid2 (below_on B6.out q7 B6.out.size)
        clear q7 s0 s1 s2 s3 s4 s5 C2
        go_wp2_with fail
        go_ret
        exact ⟨by simp, B7.out⟩
end Go.Proofs.YtdikeicnefgjcaaDoor
