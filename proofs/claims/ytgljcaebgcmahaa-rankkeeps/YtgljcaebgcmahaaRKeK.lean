/- The walk of the statement RankKeeps. -/
import Derived.Test.YtgljcaebgcmahaaRkL
import Derived.Test.YtgljcaebgcmahaaRfL
namespace Go.Proofs.Ytgljcaebgcmahaa
open Go.RowKit

/-- A rank of the call's own, and a list beside it. -/
structure Pr (B : Nat) (w : World) (b g : Nat) (S : List Int) (lb : Value) (T : List Int) : Prop where
  own : Own B w b g S
  ls : (lb = .slice none 0 0 ∧ T = []) ∨ ∃ gb J, gb ≠ b ∧ gb ≠ g ∧ BAt w gb lb T J
theorem Pr.next {B : Nat} {w w' : World} {b g : Nat} {S T : List Int} {lb : Value} (x : Pr B w b g S lb T) (t : Below w.heap.size w w') : Pr B w' b g S lb T :=
  ⟨x.own.next t, x.ls.imp_right (fun h => h.elim fun gb h => h.elim fun J h => ⟨gb, J, h.1, h.2.1, h.2.2.next t⟩)⟩
theorem Pr.turns {B : Nat} {w w' : World} {b g : Nat} {S S' T : List Int} {lb : Value} (x : Pr B w b g S lb T) (ha : Asc S') (t : Turns w b g S' w') : ∃ g', Pr B w' b g' S' lb T ∧ Below B w w' := by
  obtain ⟨g', h1, h2, h3⟩ := t
  have o := x.own.own
  have s := x.own.start
  have z := h2.size
  refine ⟨g', ⟨⟨h1, ha, by omega, by omega⟩, ?_⟩, h2.below (by simp; omega) s⟩
  rcases x.ls with e | ⟨gb, J, e1, e2, e3⟩
  · exact .inl e
  · have := e3.blk.lt
    exact .inr ⟨gb, J, e1, by omega, e3.turn h2 (by simp [e1, e2])⟩
theorem Pr.rd {B : Nat} {w : World} {b g : Nat} {S T : List Int} {lb : Value} (x : Pr B w b g S lb T) : Rd w lb T := by
  rcases x.ls with ⟨rfl, rfl⟩ | ⟨gb, J, _, _, e⟩
  · exact ⟨none, 0, rfl, .inl rfl⟩
  · exact e.rd
/-- A list that is written to and put onto: of what was there, its first block alone has turned. -/
def Fst (wA : World) (g0 : Nat) (w : World) (la : Value) (A : List Int) : Prop := Turn [g0] wA w ∧ ∃ ga, (ga = g0 ∨ wA.heap.size ≤ ga) ∧ ((la = .slice none 0 0 ∧ A = []) ∨ ∃ J, BAt w ga la A J)
theorem Fst.shape {wA w : World} {g0 : Nat} {la : Value} {A : List Int} (h : Fst wA g0 w la A) : ∃ a c, la = .slice a A.length c := by
  obtain ⟨_, ga, _, ⟨rfl, rfl⟩ | ⟨J, h⟩⟩ := h
  · exact ⟨none, 0, rfl⟩
  · exact ⟨_, _, h.val⟩
theorem Fst.open {wA w : World} {g0 : Nat} {la : Value} {A : List Int} {k : Nat} (h : Fst wA g0 w la A) (hk : k < A.length) :
    ∃ ga q x, la = .slice (some ⟨ga, 0, none⟩) A.length q ∧ w.cell? ⟨ga, k, none⟩ = some (.int .i64 x) ∧ w.frozen? ⟨ga, k, none⟩ = false ∧ ga < w.heap.size ∧ ∀ y, Fst wA g0 (w.setCell ⟨ga, k, none⟩ (.int .i64 y)) la (A.set k y) := by
  obtain ⟨ht, ga, hg, ⟨rfl, rfl⟩ | ⟨J, h⟩⟩ := h
  · simp at hk
  · refine ⟨ga, _, _, h.val, h.cell (List.getElem?_eq_getElem hk), box_free h.blk.box (by simp; omega), h.blk.lt, fun y => ⟨ht.andSet _ _ ?_, ga, hg, .inr ⟨J, ?_, ?_, ?_⟩⟩⟩
    · rcases hg with e | e
      · exact .inl (by simp [e])
      · exact .inr e
    · rw [List.length_set]; exact h.val
    · have := h.blk.put k y
      rwa [List.set_append_left _ _ hk] at this
    · rw [List.length_set]; exact h.most
theorem Fst.pick {wA w : World} {g0 : Nat} {la : Value} {A : List Int} (h : Fst wA g0 w la A) : ∃ ga, (ga = g0 ∨ wA.heap.size ≤ ga) ∧ ((la = .slice none 0 0 ∧ A = []) ∨ ∃ J, BAt w ga la A J) := h.2
theorem Fst.grown {wA w wa w2 : World} {g0 ga : Nat} {la lv2 : Value} {A X : List Int} (h : Fst wA g0 w la A) (hga : ga = g0 ∨ wA.heap.size ≤ ga) (hwa : Below w.heap.size w wa) (h3 : Apd wa ga la lv2 X w2) : Fst wA g0 w2 lv2 X := by
  have sz := h.1.size
  have sa := hwa.size
  have ta := h.1.andBelow hwa
  rcases h3 with ⟨e1, e2, rfl⟩ | ⟨J', h4, h5, _⟩ | ⟨g', J', h4, h5, h6⟩
  · exact ⟨ta, ga, hga, .inl ⟨e1, e2⟩⟩
  · refine ⟨ta.trans h5 (fun i hi => ?_), ga, hga, .inr ⟨J', h4⟩⟩
    simp at hi
    subst hi
    rcases hga with e | e
    · exact .inl (by simp [e])
    · exact .inr e
  · exact ⟨ta.andBelow h5, g', .inr (by omega), .inr ⟨J', h4⟩⟩
/-- The two lists that were made. -/
theorem lists_made {B : Nat} {w w1 w2 : World} {b g : Nat} {S : List Int} {la lb : Value} (x : Own B w b g S) (h1 : Made w la S w1) (h2 : Made w1 lb S w2) :
    ∃ g0, B ≤ g0 ∧ Fst w2 g0 w2 la S ∧ ∀ w3, Turn [g0] w2 w3 → Pr B w3 b g S lb S ∧ Below B w w3 := by
  have l1 := x.rk.lt
  have l2 := x.rk.glt
  have z1 := h1.2.size
  have z2 := h2.2.size
  have st := x.start
  have o2 := (x.next h1.2).next h2.2
  have hb : ∀ g0 w3, B ≤ g0 → Turn [g0] w2 w3 → Below B w w3 := fun g0 w3 hg t => ((h1.2.mono st).trans (h2.2.mono (by omega))).trans (t.below (by simpa using hg) (by omega))
  rcases h1.1 with ⟨rfl, rfl⟩ | ⟨g0, J, h3, h4⟩
  · refine ⟨w2.heap.size, by omega, ⟨Turn.refl _ _, w2.heap.size, .inl rfl, .inl ⟨rfl, rfl⟩⟩, fun w3 t => ⟨⟨⟨o2.rk.turn t (by simp; omega) (by simp; omega), x.asc, x.own, by have := t.size; omega⟩, ?_⟩, hb _ _ (by omega) t⟩⟩
    rcases h2.1 with e | ⟨gb, J, h5, h6⟩
    · exact .inl e
    · have := h5.blk.lt
      exact .inr ⟨gb, J, by omega, by omega, h5.turn t (by simp; omega)⟩
  · have lg := h3.blk.lt
    refine ⟨g0, by omega, ⟨Turn.refl _ _, g0, .inl rfl, .inr ⟨J, h3.next h2.2⟩⟩, fun w3 t => ⟨⟨⟨o2.rk.turn t (by simp; omega) (by simp; omega), x.asc, x.own, by have := t.size; omega⟩, ?_⟩, hb _ _ (by omega) t⟩⟩
    rcases h2.1 with e | ⟨gb, J, h5, h6⟩
    · exact .inl e
    · have := h5.blk.lt
      exact .inr ⟨gb, J, by omega, by omega, h5.turn t (by simp; omega)⟩
set_option maxRecDepth 20000 in
set_option maxHeartbeats 2000000 in
theorem rankKeeps_any (a : Option Addr) (len cap : Nat) (Z : List Int) (v : Int) (w : World) (hR : Rd w (.slice a len cap) Z) :
    Calls Try.prog 5 #[.slice a len cap, .int .i64 v] w fun e w' => e = .returned (.bool true) ∧ Below w.heap.size w w' := by
  have hlen : len = Z.length := by obtain ⟨_, _, e, _⟩ := hR; cases e; rfl
  have HR := hid hR
  have HLEN := hid hlen
  clear hR hlen
  go_enter Try.func5, Try.ntmps5
  go_wp2_with fail
  refine (awake_any w).mono ?_
  rintro e w1 ⟨rfl, hb1⟩
  go_wp2_with fail
  refine Calls.mono (oNew w1 w.heap.size hb1.size) ?_
  rintro e w2 ⟨rfl, hm2, hb2⟩
  obtain ⟨b, hb⟩ : ∃ b, b = w1.heap.size := ⟨_, rfl⟩
  have HW2 := hid (hb1.trans (hb2.mono hb1.size))
  rw [← hb] at hm2 ⊢
  have HM2 := hid hm2
  clear hm2 hb1 hb2 hb
  by_cases h300 : len ≤ 300
  · have h300' : ¬ (300 : Int) < (len : Int) := by omega
    go_wp2_with fail
    go_loopw [6] (fun p wr => ∃ (k g : Nat), p = .int .i64 (k : Nat) ∧ k ≤ len ∧ Own w.heap.size wr b g (srt (Z.take k)) ∧ Below w.heap.size w wr) (fun p _ => len - (intOf p).toNat)
    case atStart => exact ⟨0, b, rfl, by omega, HM2.out, HW2.out⟩
    case round =>
      obtain ⟨k, g, rfl, hk, hO, hB⟩ := hrel
      have HO := hid hO
      have HB := hid hB
      clear hO hB HM2 HW2
      by_cases hlt : k < len
      · obtain ⟨x, hx⟩ : ∃ x, Z[k]? = some x := ⟨_, List.getElem?_eq_getElem (by have := HLEN.out; omega)⟩
        obtain ⟨a0, c0, he, hr⟩ := HR.out
        rcases hr with e | ⟨ga, off, e2, hga, hcell⟩
        · rw [e] at hx; simp at hx
        simp only [Value.slice.injEq] at he
        obtain ⟨e1, -, -⟩ := he
        subst e2
        subst e1
        have d0 := (HB.out.cell (p := ⟨ga, off + k, none⟩) hga).trans (hcell k x hx)
        have hlt' : (k : Int) < (len : Int) := by omega
        have HX := hid hx
        clear hx hcell
        go_wp2_with fail
        refine Calls.mono (oPut _ b g _ x wr HO.out (by rw [srt_length]; have := HLEN.out; simp; omega)) ?_
        rintro e w4 ⟨rfl, g4, h4, t4⟩
        rw [← srt_step HX.out] at h4
        have H4 := hid h4
        have T4 := hid t4
        clear h4 t4 d0
        go_wp2_with fail
        go_roundw
        case rel => exact ⟨k + 1, g4, by simp, by omega, H4.out, HB.out.trans T4.out⟩
        case measure => simp [intOf]; omega
      · obtain rfl : k = len := by omega
        have hZ : Z.take k = Z := List.take_of_length_le (by have := HLEN.out; omega)
        rw [hZ] at HO
        have hSl : (srt Z).length = k := by rw [srt_length]; exact HLEN.out.symm
        clear hZ
        obtain ⟨S, hS⟩ : ∃ S, S = srt Z := ⟨_, rfl⟩
        rw [← hS] at HO hSl
        have HSL := hid hSl
        have HSS := hid hS
        clear hSl hS
        go_wp2_with fail
        refine Calls.mono (rList b g S wr HO.out.rk (by rw [HSL.out]; omega)) ?_
        rintro e w3 ⟨la, rfl, hma⟩
        have HMA := hid hma
        clear hma
        go_wp2_with fail
        refine Calls.mono (rList b g S w3 (HO.out.next HMA.out.2).rk (by rw [HSL.out]; omega)) ?_
        rintro e w4 ⟨lb, rfl, hmb⟩
        obtain ⟨g0, hg0, hF, hP⟩ := lists_made HO.out HMA.out hmb
        obtain ⟨al, cl, rfl⟩ := hF.shape
        rw [HSL.out] at hF ⊢
        have HF := hid hF
        have HP := hid hP
        have HG0 := hid hg0
        clear hmb hF hP hg0
        go_wp2_with fail
        go_loopw [9] (fun p wr => ∃ (j : Nat) (A : List Int), p = .int .i64 (j : Nat) ∧ j ≤ k ∧ A.length = k ∧ Fst w4 g0 wr (.slice al k cl) A) (fun p _ => k - (intOf p).toNat)
        case atStart => exact ⟨0, S, rfl, by omega, HSL.out, HF.out⟩
        case round =>
          obtain ⟨j, A, rfl, hj, hAl, hF2⟩ := hrel
          clear HF
          by_cases hjk : j < k
          · obtain ⟨ga, q, y, ev, c0, f0, hgl, hput⟩ := hF2.open (k := j) (by omega)
            simp only [Value.slice.injEq] at ev
            obtain ⟨rfl, -, rfl⟩ := ev
            have hjk' : (j : Int) < (k : Int) := by omega
            have HPUT := hid hput
            have HAL := hid hAl
            clear hput hF2 hAl
            go_wp2_with fail
            go_roundw
            case rel => exact ⟨j + 1, A.set j 77, by simp, by omega, by rw [List.length_set]; exact HAL.out, HPUT.out 77⟩
            case measure => simp [intOf]; omega
          · have HF2 := hid hF2
            have HAL := hid hAl
            clear hF2 hAl
            go_wp2_with fail
            go_loopw [7, 10] (fun p q wr => ∃ (j : Nat) (A : List Int), q = .int .i64 (j : Nat) ∧ j ≤ 9 ∧ A.length = k + j ∧ Fst w4 g0 wr p A) (fun _ q _ => 9 - (intOf q).toNat)
            case atStart => exact ⟨0, A, rfl, by omega, HAL.out, HF2.out⟩
            case round =>
              obtain ⟨j, A3, rfl, hj9, hA3, hF3⟩ := hrel
              obtain ⟨al3, cl3, rfl⟩ := hF3.shape
              rw [hA3] at hF3 ⊢
              have HF3 := hid hF3
              have HA3 := hid hA3
              clear hF3 hA3 HF2 HAL
              by_cases hj3 : j < 9
              · have hj3' : (j : Int) < 9 := by omega
                obtain ⟨ga, hga, hso⟩ := HF3.out.pick
                have HSO := hid hso
                clear hso
                go_wp2_with (at_builtin; refine wpList_append_b _ rfl _ _ rfl ga (.slice al3 (k + j) cl3) A3 rfl (HSO.out.imp_right (fun h => h.elim fun J h => ⟨J, h.next ((Below.refl _ _).alloc (Nat.le_refl _) _)⟩)) (.slice (some ⟨wr.heap.size, 0, none⟩) 1 1) [78] rfl (cell_arg_one wr 78) (by rw [HA3.out]; simp; omega) ?_; intro lv2 w5 h2; have HG := hid (HF3.out.grown hga ((Below.refl _ _).alloc (Nat.le_refl _) _) h2); obtain ⟨al5, cl5, hv5⟩ := HG.out.shape; subst hv5; clear h2)
                go_roundw
                case rel => exact ⟨j + 1, A3 ++ [78], by simp, by omega, by simp [HA3.out]; omega, by have h := HG.out; rw [List.length_append] at h; exact h⟩
                case measure => simp [intOf]; omega
              · obtain ⟨hp3, hb3⟩ := HP.out wr HF3.out.1
                have HP3 := hid hp3
                have HB3 := hid (HB.out.trans hb3)
                clear hp3 hb3 HF3 HA3 HMA HP
                have hj9' : ¬ (j : Int) < 9 := by omega
                go_wp2_with fail
                refine Calls.mono (rPut b g S v wr HP3.out.own.rk HP3.out.own.asc (by rw [HSL.out]; omega)) ?_
                rintro e w6 ⟨rfl, h6⟩
                obtain ⟨g6, p6, t6⟩ := HP3.out.turns (ins_asc HP3.out.own.asc v) h6
                have HP6 := hid p6
                have HB6 := hid (HB3.out.trans t6)
                clear h6 p6 t6
                go_wp2_with fail
                refine Calls.mono (rList b g6 (ins v S) w6 HP6.out.own.rk (by rw [ins_length, HSL.out]; omega)) ?_
                rintro e w7 ⟨lc, rfl, hmc⟩
                obtain ⟨ac, cc, rfl⟩ : ∃ ac cc, lc = .slice ac (k + 1) cc := by
                  obtain ⟨ac, cc, e, _⟩ := hmc.rd
                  rw [ins_length, HSL.out] at e
                  exact ⟨ac, cc, e⟩
                have HP7 := hid (HP6.out.next hmc.2)
                have HB7 := hid (HB6.out.trans (hmc.2.mono HB6.out.size))
                clear hmc
                go_wp2_with fail
                refine Calls.mono (rTake_yes b g6 (ins v S) v w7 HP7.out.own.rk HP7.out.own.asc (by rw [ins_length, HSL.out]; omega) (by simp [ins])) ?_
                rintro e w8 ⟨rfl, h8⟩
                rw [rem_ins HP3.out.own.asc] at h8
                obtain ⟨g8, p8, t8⟩ := HP7.out.turns HP3.out.own.asc h8
                have HP8 := hid p8
                have HB8 := hid (HB7.out.trans t8)
                clear h8 p8 t8
                go_wp2_with fail
                refine Calls.mono (fList _ Z w8 (HR.out.next HB8.out) (by have := HLEN.out; omega)) ?_
                rintro e w9 ⟨lw, rfl, hw9, hb9⟩
                rw [← HSS.out] at hw9
                have HW9 := hid hw9
                have HP9 := hid (HP8.out.next hb9)
                have HB9 := hid (HB8.out.trans (hb9.mono HB8.out.size))
                clear hw9 hb9
                go_wp2_with fail
                refine Calls.mono (same_yes lb lw S w9 HP9.out.rd HW9.out.rd (by rw [HSL.out]; omega)) ?_
                rintro e w10 ⟨rfl, m10, rfl⟩
                have hb10 := drewN_below w9 m10
                have HP10 := hid (HP9.out.next hb10)
                have HW10 := hid (HW9.out.next hb10)
                have HB10 := hid (HB9.out.trans (hb10.mono HB9.out.size))
                clear hb10 HP9 HW9 HB9
                generalize w9.drewN m10 = W10 at *
                go_wp2_with fail
                refine Calls.mono (rList b g8 S W10 HP10.out.own.rk (by rw [HSL.out]; omega)) ?_
                rintro e w11 ⟨ld, rfl, hmd⟩
                have HRD := hid hmd.rd
                have HW11 := hid (HW10.out.next hmd.2)
                have HB11 := hid (HB10.out.trans (hmd.2.mono HB10.out.size))
                clear hmd
                go_wp2_with fail
                refine Calls.mono (same_yes ld lw S w11 HRD.out HW11.out.rd (by rw [HSL.out]; omega)) ?_
                rintro e w12 ⟨rfl, m12, rfl⟩
                have HB12 := hid (HB11.out.trans ((drewN_below w11 m12).mono HB11.out.size))
                go_wp2_with fail
                go_ret
                exact ⟨rfl, HB12.out⟩
  · have h300' : (300 : Int) < (len : Int) := by omega
    go_wp2_with fail
    go_ret
    exact ⟨rfl, HW2.out⟩
theorem rankKeeps_walk (a : Option Addr) (len cap : Nat) (Z : List Int) (v : Int) (w : World) (hR : Rd w (.slice a len cap) Z) (_hc : len ≤ cap) (_hw : ∀ x, x ∈ Z → (Lit.int .i64 x).wf = true) (_hl : len * 8 ≤ reachBytes) (_hv : (Lit.int .i64 v).wf = true) :
    Calls Try.prog 5 #[.slice a len cap, .int .i64 v] w fun e w' => e = .returned (.bool true) ∧ Below w.heap.size w w' := rankKeeps_any a len cap Z v w hR
end Go.Proofs.Ytgljcaebgcmahaa
