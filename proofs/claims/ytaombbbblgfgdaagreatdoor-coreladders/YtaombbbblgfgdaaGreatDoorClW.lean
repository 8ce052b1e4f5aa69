/- The law CoreLadders, walked. -/
import Derived.Test.YtaombbbblgfgdaaGreatDoorClB
namespace Go.Proofs.YtaombbbblgfgdaaGreatDoor
open Go.RowKit

set_option maxHeartbeats 8000000 in
set_option maxRecDepth 20000 in
theorem coreLadders_w (v : Int) (hv : C64 v) (l : List Int) (rep : Nat) (hr : rep < 65536) (bs : Option Addr) (cap : Nat) (w : World) (hl : l.length ≤ 9223372036854775807) (hc : ∀ i (h : i < l.length), C64 l[i] ∧ ∃ b off, bs = some ⟨b, off, none⟩ ∧ w.cell? ⟨b, off + i, none⟩ = some (.int .i64 l[i])) (hF : FldAt w) (hg : GlE w) : Calls Tryz.prog 5 #[.int .i64 v, .slice bs l.length cap, .int .u16 rep] w fun e w' => e = .returned (.bool true) ∧ Below w.heap.size w w' := by
  have HAw := chid (fun W (hW : Below w.heap.size w W) => awake15_c W (GlE.next hg hW))
  have HNu := chid num_c
  obtain ⟨i0, hi, hz0, hz1, hz2⟩ := info_core'
  obtain ⟨L, hL⟩ : ∃ L, Hid (L = l.length) := ⟨_, rfl⟩
  rw [← hL.out] at hl ⊢
  go_enter Tryz.func5, Tryz.ntmps5
  go_wp2_with fail
  refine Calls.mono (HAw.out _ (Below.refl _ _)) ?_
  rintro e w1 ⟨rfl, b1⟩
  have B1 := chid b1
  by_cases h60 : 60 < L
  · have h60' : (60 : Int) < (L : Int) := by omega
    go_wp2_with fail
    refine Calls.mono (HAw.out _ b1) ?_
    rintro e w2 ⟨rfl, b2⟩
    go_wp2_with fail
    go_ret
    exact ⟨rfl, cbelow_on b1 b2 b1.size⟩
  · have h60' : ¬ (60 : Int) < (L : Int) := by omega
    clear b1
    go_wp2_with (go_at_call 15; refine Calls.mono (HNu.out _ _) ?_; rintro e w2 ⟨rfl, b2⟩)
    have B2 := chid (cbelow_on B1.out b2 B1.out.size)
    have hL0 : Hid (LdAt w2 (w2.heap.size + 1) (.slice (some ⟨w2.heap.size, 0, none⟩) 1 1) [(numC v, .slice none 0 0)] ((w2.alloc (.cells #[.int .i64 1, .int .i64 v, .int .i64 0, .slice none 0 0] 30)).alloc (.cells #[.int .i64 32, .int .i64 0, .int .i64 0, .slice (some ⟨w2.heap.size, 0, none⟩) 1 1] 30))) := by
      have ba := (Below.refl w2.heap.size w2).alloc (Nat.le_refl _) (.cells #[.int .i64 1, .int .i64 v, .int .i64 0, .slice none 0 0] 30)
      have bb := ba.alloc (o := .cells #[.int .i64 32, .int .i64 0, .int .i64 0, .slice (some ⟨w2.heap.size, 0, none⟩) 1 1] 30) (by simp)
      refine chid ⟨?_, ?_, ?_, by omega, ?_, bb⟩
      · have := Box.new (w2.alloc (.cells #[.int .i64 1, .int .i64 v, .int .i64 0, .slice none 0 0] 30)) [.int .i64 32, .int .i64 0, .int .i64 0, .slice (some ⟨w2.heap.size, 0, none⟩) 1 1] 30
        simpa using this
      · refine World.ownsRow.alloc ?_ _
        exact World.ownsRow_lit w2 #[.int .i64 1, .int .i64 v, .int .i64 0, .slice none 0 0] 1 (Nat.le_refl _) (by unfold maxLen; omega) rfl
      · show some w2.heap.size ≠ some (w2.heap.size + 1)
        intro e; have := Option.some.inj e; omega
      · intro x hx
        rw [List.mem_singleton.1 hx]
        exact .inl ⟨v, hv, rfl⟩
    obtain ⟨lb, hlb⟩ : ∃ lb, lb = w2.heap.size + 1 := ⟨_, rfl⟩
    rw [← hlb] at hL0 ⊢
    generalize (World.alloc _ _) = w3 at hL0 ⊢
    clear hlb b2 h60'
    go_loopw [8, 9, 10, 11] (fun la n wa i wr => ∃ (k : Nat) (bl : List Int) (u : Value) (xs : List (Co × Value)), i = .int .i64 (k : Nat) ∧ k ≤ L ∧ la = .int .i64 (lastB bl) ∧ n = .int .i64 (bl.length : Nat) ∧ wa = .int .i64 (wantF v 0 bl) ∧ bl.length ≤ k ∧ Hid (bl = selB [] (l.take k)) ∧ Hid (xs.map (·.1) = psL v bl) ∧ Hid (LdAt w2 lb u xs wr)) (fun _ _ _ i _ => match i with | .int _ p => ((L : Int) - p).toNat | _ => 0)
    case atStart => exact ⟨0, [], _, _, rfl, by omega, rfl, rfl, rfl, Nat.le_refl _, chid rfl, chid rfl, hL0⟩
    case round =>
      obtain ⟨k, bl, u, xs, rfl, hk, rfl, rfl, rfl, hbk, HBL, HX, HLd⟩ := hrel
      by_cases hlt : k < L
      · have hlt' : (k : Int) < (L : Int) := by omega
        have hl1 : k < l.length := by rw [← hL.out]; exact hlt
        obtain ⟨hc1, b, off, rfl, hc2⟩ := hc k hl1
        have HBw := chid (cbelow_on B2.out HLd.out.bel B2.out.size)
        have y0 := keepc HBw.out hc2
        have lbr : b < wr.heap.size := World.block_lt_of_cell? wr _ y0
        have HT : Hid (l.take (k + 1) = l.take k ++ [l[k]]) := chid (List.take_succ_eq_append_getElem hl1)
        have HC1 := chid hc1
        generalize l[k] = c at *
        by_cases hle : c ≤ lastB bl
        · go_wp2_with fail
          go_roundw
          · refine ⟨k + 1, bl, u, xs, by simp, by omega, rfl, rfl, rfl, by omega, ?_, HX, HLd⟩
            show _ = _
            rw [HT.out, selB_snoc, ← HBL.out]
            unfold nextB
            rw [if_pos hle]
          · simp; omega
        · have hxl : Hid (xs.length = 2 * bl.length + 1) := by have := congrArg List.length HX.out; rw [List.length_map, psL_len] at this; exact chid this
          obtain ⟨N, hN⟩ : ∃ N, Hid (N = xs.length) := ⟨_, rfl⟩
          obtain ⟨g0, cap0, rfl, hg0, hg1⟩ := HLd.out.own.form (by have := hxl.out; omega)
          rw [← hN.out] at HLd
          have x3 := HLd.out.box.cell 3 _ rfl
          have xl := HLd.out.box.lt
          have f3 := HLd.out.box.free 3 (by simp)
          go_wp2_with fail
          go_region_law (first
            | (refine step_num rfl c (by first | rfl | go_simp) ?_; intro w60 b60; have C60 := chid ((HLd.out.next (Below.refl _ _).drew).next b60); have c60 := C60.out.box.cell 3 _ rfl; have l60 := C60.out.box.lt; clear b60)
            | (refine step_append_lies _ rfl (.tmp 46) (.tmp 49) 28 rfl w2.heap.size 30 i0 (coV ⟨0, 0, 0, []⟩ (.slice none 0 0)) 4 48 Tryz.underlying28 hi hz0 hz1 hz2 rfl (by decide) (.slice (some ⟨g0, 0, none⟩) N cap0) xs.length (flC xs) (by simp [Act.eval]) (C60.out.own.alloc _) ⟨w60.heap.size, 0, none⟩ 1 1 [.int .i64 1, .int .i64 c, .int .i64 0, .slice none 0 0] (by simp [Act.eval]) rfl (ce_four_new _ _ _ _ _ _) (by intro u hu; simp at hu; rcases hu with rfl | rfl | rfl | rfl <;> rfl) (by decide) (by have := hxl.out; unfold maxLen; omega) (by have := hxl.out; omega) (by have := C60.out.bel.size; simp; omega) _ rfl ?_; intro g1 cap1 w61 o1 k1 a1 l1; have A1 := chid (LdAt.grow (x := (numC c, .slice none 0 0)) (C60.out.next ((Below.refl _ _).alloc (Nat.le_refl _) _)) (.inl ⟨c, HC1.out, rfl⟩) o1 k1 a1); have d60 := A1.out.1.free 3 (by simp); have e60 := A1.out.1.cell 3 _ rfl; have m60 := A1.out.1.lt; clear o1 k1 a1))
          all_goals go_wp2_with fail
          all_goals (
            have HL2 := chid A1.out.2
            clear A1 d60 e60 m60 C60 c60 l60 x3 xl f3
            generalize w61.setCell _ _ = w62 at *
            obtain ⟨xs1, hxs1⟩ : ∃ xs1 : List (Co × Value), Hid (xs1 = xs ++ [(numC c, Value.slice none 0 0)]) := ⟨_, rfl⟩
            obtain ⟨N1, hN1⟩ : ∃ N1, Hid (N1 = xs.length + 1) := ⟨_, rfl⟩
            rw [← hxs1.out, ← hN1.out] at HL2
            rw [← hN1.out]
            have hxl1 : Hid (xs1.length = xs.length + 1) := by rw [hxs1.out]; exact chid (by simp)
            have x3 := HL2.out.box.cell 3 _ rfl
            have xl := HL2.out.box.lt
            have hn64 : Hid (C64 ((((bl.length : Nat) : Int) + 1) * 1000000)) := by show C64 _; unfold C64; constructor <;> omega
            have hwm : IntKind.i64.wrap ((((bl.length : Nat) : Int) + 1) * 1000000) = (((bl.length : Nat) : Int) + 1) * 1000000 := by rw [IntKind.wrap_i64]; omega
            go_region_law (first
              | (refine step_num rfl ((((bl.length : Nat) : Int) + 1) * 1000000) (by first | rfl | go_simp) ?_; intro w60 b60; have C60 := chid ((HL2.out.next (Below.refl _ _).drew).next b60); have c60 := C60.out.box.cell 3 _ rfl; have l60 := C60.out.box.lt; clear b60)
              | (refine step_append_lies _ rfl (.tmp 53) (.tmp 59) 28 rfl w2.heap.size 30 i0 (coV ⟨0, 0, 0, []⟩ (.slice none 0 0)) 4 48 Tryz.underlying28 hi hz0 hz1 hz2 rfl (by decide) (.slice (some ⟨g1, 0, none⟩) N1 cap1) xs1.length (flC xs1) (by simp [Act.eval]) ((C60.out.own.alloc _).alloc _) ⟨w60.heap.size + 1, 0, none⟩ 1 1 [.int .i64 30, .int .i64 0, .int .i64 0, .slice (some ⟨w60.heap.size, 0, none⟩) 1 1] (by simp [Act.eval]) rfl (by intro jj uu hu; simpa using ce_four_new (w60.alloc _) _ _ _ _ _ jj uu hu) (by intro u hu; simp at hu; rcases hu with rfl | rfl | rfl | rfl <;> rfl) (by decide) (by have := hxl.out; have := hxl1.out; unfold maxLen; omega) (by have := hxl.out; have := hxl1.out; omega) (by have := C60.out.bel.size; simp; omega) _ rfl ?_; intro g2 cap2 w63 o1 k1 a1 l1; have A1 := chid (LdAt.grow (x := (toC ((((bl.length : Nat) : Int) + 1) * 1000000), .slice (some ⟨w60.heap.size, 0, none⟩) 1 1)) (C60.out.next (two_alloc w60 _ _)) (new_pt C60.out (by unfold C64; decide) hn64.out _) o1 k1 a1); have d60 := A1.out.1.free 3 (by simp); have e60 := A1.out.1.cell 3 _ rfl; have m60 := A1.out.1.lt; clear o1 k1 a1))
            all_goals (
              have HL3 := chid A1.out.2
              clear A1 d60 e60 m60 C60 c60 l60 x3 xl
              generalize w63.setCell _ _ = w64 at *
              have HF : Hid (bl ++ [c] = selB [] (l.take (k + 1)) ∧ (xs1 ++ [(toC ((((bl.length : Nat) : Int) + 1) * 1000000), Value.slice (some ⟨w60.heap.size, 0, none⟩) 1 1)]).map (·.1) = psL v (bl ++ [c])) := by
                refine chid ⟨?_, ?_⟩
                · rw [HT.out, selB_snoc, ← HBL.out]
                  unfold nextB
                  rw [if_neg (by omega)]
                · rw [psL_snoc, ← HX.out, hxs1.out]
                  simp
              have HWa := chid (want_step v c bl)
              have hwb := want_bd v bl 0
              by_cases h1 : v < c
              · by_cases h2 : wantF v 0 bl < 0
                · go_wp2_with fail
                  go_roundw
                  · exact ⟨k + 1, bl ++ [c], _, _, by simp, by omega, by rw [lastB_snoc], by simp, by rw [HWa.out, if_pos ⟨h1, h2⟩], by simp; omega, HF.out.1, HF.out.2, HL3⟩
                  · simp; omega
                · go_wp2_with fail
                  go_roundw
                  · exact ⟨k + 1, bl ++ [c], _, _, by simp, by omega, by rw [lastB_snoc], by simp, by rw [HWa.out, if_neg (fun h => h2 h.2)], by simp; omega, HF.out.1, HF.out.2, HL3⟩
                  · simp; omega
              · go_wp2_with fail
                go_roundw
                · exact ⟨k + 1, bl ++ [c], _, _, by simp, by omega, by rw [lastB_snoc], by simp, by rw [HWa.out, if_neg (fun h => h1 h.1)], by simp; omega, HF.out.1, HF.out.2, HL3⟩
                · simp; omega))
      · have hlt' : ¬ (k : Int) < (L : Int) := by omega
        have hkL : k = L := by omega
        subst hkL
        have hxl : Hid (xs.length = 2 * bl.length + 1) := by have := congrArg List.length HX.out; rw [List.length_map, psL_len] at this; exact chid this
        obtain ⟨N, hN⟩ : ∃ N, Hid (N = xs.length) := ⟨_, rfl⟩
        obtain ⟨g0, cap0, rfl, hg0, hg1⟩ := HLd.out.own.form (by have := hxl.out; omega)
        rw [← hN.out] at HLd
        have x3 := HLd.out.box.cell 3 _ rfl
        have xl := HLd.out.box.lt
        go_wp2_with fail
        go_region_law (first
          | (refine step_num rfl 1 (by first | rfl | go_simp) ?_; intro w60 b60; have C60 := chid ((HLd.out.next (Below.refl _ _).drew).next b60); have c60 := C60.out.box.cell 3 _ rfl; have l60 := C60.out.box.lt; clear b60)
          | (refine step_append_lies _ rfl (.tmp 71) (.tmp 75) 28 rfl w2.heap.size 30 i0 (coV ⟨0, 0, 0, []⟩ (.slice none 0 0)) 4 48 Tryz.underlying28 hi hz0 hz1 hz2 rfl (by decide) (.slice (some ⟨g0, 0, none⟩) N cap0) xs.length (flC xs) (by simp [Act.eval]) ((C60.out.own.alloc _).alloc _) ⟨w60.heap.size + 1, 0, none⟩ 1 1 [.int .i64 31, .int .i64 0, .int .i64 0, .slice (some ⟨w60.heap.size, 0, none⟩) 1 1] (by simp [Act.eval]) rfl (by intro jj uu hu; simpa using ce_four_new (w60.alloc _) _ _ _ _ _ jj uu hu) (by intro u hu; simp at hu; rcases hu with rfl | rfl | rfl | rfl <;> rfl) (by decide) (by have := hxl.out; unfold maxLen; omega) (by have := hxl.out; omega) (by have := C60.out.bel.size; simp; omega) _ rfl ?_; intro g2 cap2 w63 o1 k1 a1 l1; have A1 := chid (LdAt.grow (x := (byC, .slice (some ⟨w60.heap.size, 0, none⟩) 1 1)) (C60.out.next (two_alloc w60 _ _)) (new_pt C60.out (by unfold C64; decide) (by unfold C64; decide) _) o1 k1 a1); have d60 := A1.out.1.free 3 (by simp); have e60 := A1.out.1.cell 3 _ rfl; have m60 := A1.out.1.lt; clear o1 k1 a1))
        all_goals (
          have HL3 := chid A1.out.2
          clear A1 d60 e60 m60 C60 c60 l60 x3 xl
          generalize w63.setCell _ _ = w64 at *
          have HS : Hid (CSits w64 (ladC v bl) (.slice (some ⟨g2, 0, none⟩) (xs.length + 1) cap2)) := by
            have h := cat_of_own HL3.out.own (fun x hx => (HL3.out.sit x hx).sits)
            rw [List.map_append, HX.out] at h
            exact chid (csits_iff.2 ⟨⟨by show C64 32; unfold C64; decide, by show C64 0; unfold C64; decide, by show C64 0; unfold C64; decide⟩, h⟩)
          have HLx := chid HL3.out.box
          have B4 := chid (cbelow_on B2.out HL3.out.bel B2.out.size)
          have hN1 : xs.length + 1 = 2 * bl.length + 2 := by have := hxl.out; omega
          rw [hN1] at HS HLx ⊢
          have hwb := want_bd v bl 0
          have hris : Hid (RisB bl) := by rw [HBL.out]; exact chid (ris_sel _ _ (fun i hi => by simp at hi))
          clear HL3 hg0 hg1 HLd HX HBL hxl hN hN1
          have ba := (Below.refl w64.heap.size w64).alloc (Nat.le_refl _) (.cells #[.slice none 0 0, .int .i64 0, .int .i64 1, .int .i64 1, .int .i64 0, .int .i64 0, .slice none 0 0, .slice none 0 0, .int .i64 0, .slice none 0 0, .int .i64 32, .int .i64 0, .int .i64 0, .slice (some ⟨g2, 0, none⟩) (2 * bl.length + 2) cap2] 32)
          have B5 := chid (cbelow_on B4.out ba B4.out.size)
          have HD := chid (dec_lad v bl (by omega) hris.out rep hr _ _ (HS.out.next ba) (hF.later B5.out) (GlE.next hg B5.out))
          have x0 := HLx.out.cell 0 _ rfl
          have x1 := HLx.out.cell 1 _ rfl
          have x2 := HLx.out.cell 2 _ rfl
          have x3 := HLx.out.cell 3 _ rfl
          have xl := HLx.out.lt
          clear HS HLx B4 ba hris hF hg HAw HNu hL0 B1
          by_cases h1 : wantF v 0 bl < 0
          · rw [if_pos h1] at HD
            go_wp2_with fail
            refine Calls.mono HD.out ?_
            rintro e w70 ⟨rfl, b⟩
            have B6 := chid (cbelow_on B5.out b B5.out.size)
            clear b HD x0 x1 x2 x3
            go_wp2_with fail
            go_ret
            exact ⟨rfl, B6.out.alloc B6.out.size _⟩
          · rw [if_neg h1] at HD
            go_wp2_with fail
            refine Calls.mono HD.out ?_
            rintro e w70 ⟨rfl, b⟩
            have B6 := chid (cbelow_on B5.out b B5.out.size)
            clear b HD x0 x1 x2 x3
            go_wp2_with fail
            go_ret
            exact ⟨rfl, B6.out.alloc B6.out.size _⟩)
end Go.Proofs.YtaombbbblgfgdaaGreatDoor
