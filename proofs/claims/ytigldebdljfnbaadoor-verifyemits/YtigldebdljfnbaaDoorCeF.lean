/- The document's Formed. -/
import Derived.Test.YtigldebdljfnbaaDoorNbQ
import Derived.Test.YtigldebdljfnbaaDoorMhL
import Derived.Test.YtigldebdljfnbaaDoorCrL
namespace Go.Proofs.YtigldebdljfnbaaDoor
open Go.RowKit

theorem rSort_d (wn cn ln : Int) (h64 : C64 wn ∧ C64 cn ∧ C64 ln) (t : Co) : RSo wn cn ln t := by
  induction t using Co.ind with
  | h t ih => exact rSort_step wn cn ln h64 t ih
theorem made_four (n : Nat) : (madeCells (coV ⟨0, 0, 0, []⟩ (.slice none 0 0)).cells (n * 4)).toList = flC (List.replicate n ((⟨0, 0, 0, []⟩ : Co), Value.slice none 0 0)) := by
  apply List.ext_getElem?
  intro i
  by_cases hi : i < n * 4
  · have h1 : i / 4 < (List.replicate n ((⟨0, 0, 0, []⟩ : Co), Value.slice none 0 0)).length := by simp; omega
    have hm : i % 4 = 0 ∨ i % 4 = 1 ∨ i % 4 = 2 ∨ i % 4 = 3 := by omega
    have hd : i / 4 * 4 + i % 4 = i := by omega
    have hL : (madeCells (coV ⟨0, 0, 0, []⟩ (.slice none 0 0)).cells (n * 4)).toList[i]? = some ((coV ⟨0, 0, 0, []⟩ (.slice none 0 0)).cells[i % 4]!) := by
      have : (coV ⟨0, 0, 0, []⟩ (.slice none 0 0)).cells.size = 4 := rfl
      simp [madeCells, hi, this]
    rw [hL]
    have hR := flC_at (List.replicate n ((⟨0, 0, 0, []⟩ : Co), Value.slice none 0 0)) (i / 4) h1 (i % 4)
    rw [hd] at hR
    symm
    apply hR
    rw [List.getElem_replicate]
    rcases hm with h | h | h | h <;> rw [h] <;> rfl
  · rw [List.getElem?_eq_none (by simp [size_madeCells]; omega), List.getElem?_eq_none (by rw [flC_len]; simp; omega)]
theorem held_new {W w : World} {g : Nat} (h : Box w g (flC (List.replicate 256 ((⟨0, 0, 0, []⟩ : Co), Value.slice none 0 0)))) : HeldMs W w g [] := by
  refine ⟨_, List.length_replicate, h, fun x hx => ?_, fun n hn => ⟨fun _ => by rw [List.getElem_replicate], fun c hc => by cases hc⟩⟩
  rw [List.eq_of_mem_replicate hx]
  exact csits_iff.2 ⟨⟨by unfold C64; decide, by unfold C64; decide, by unfold C64; decide⟩, none, 0, rfl, Nat.le_refl _, by omega, .inl rfl⟩
theorem crunV_cut {σ : Type} {vs : σ → Co → σ × Bool} {l : List Co} {k : Nat} (hk : k < l.length) {s : σ} (h1 : (crunV vs ((l.take k).map cpord).flatten s).2 = true) : crunV vs ((l.take (k + 1)).map cpord).flatten s = crunV vs (cpord l[k]) (crunV vs ((l.take k).map cpord).flatten s).1 ∧ ((crunV vs (cpord l[k]) (crunV vs ((l.take k).map cpord).flatten s).1).2 = false → (crunV vs (l.map cpord).flatten s).2 = false) := by
  refine ⟨by rw [cflat_take l k hk, crunV_append, if_pos h1], fun h => ?_⟩
  rw [cflat_split l k hk, crunV_append, if_pos h1, crunV_append, if_neg (by rw [h]; simp)]
set_option maxHeartbeats 8000000 in
set_option maxRecDepth 20000 in
theorem rFormed_c (q : Co → Co → Bool) (hq : ∀ a b, q a b = true ↔ a = b) (p : PlP) (v : PlV) (w : World) (hs : PlAt w p v) (hL : p.gs.length * 96 ≤ 140737488355328) : Calls Tryd.prog 10 #[plV p v] w fun e w' => e = .returned (.bool (formedP q p)) ∧ Below w.heap.size w w' := by
  have HS := chid hs
  have HRi := chid (fun W => rRight_c p.ru W)
  have HCo := chid (fun W (hW : Below w.heap.size w W) => rCores_c p v W (hs.next hW) hL)
  have HWi := chid hs.wi
  have HCr := chid hs.cr
  have HCk := chid hs.cok
  have HWk := chid hs.wok
  have HLo := chid hs.loc
  obtain ⟨a1, c1, a2, c2, a3, c3, a4, c4, a5, c5, rfl, g1, g2, g3, g4⟩ := hs.shapes
  dsimp only at HWi HCr
  obtain ⟨Q, hQ⟩ : ∃ Q, Hid (Q = formedP q p) := ⟨_, rfl⟩
  rw [← hQ.out]
  have Y0 := chid (Box.new w (plL p ⟨.slice a1 p.mets.length c1, .slice a2 p.wins.length c2, .slice a3 p.crons.length c3, .slice a4 p.gs.length c4, .slice a5 p.fin.parts.length c5⟩) 32)
  have B0 := chid ((Below.refl w.heap.size w).alloc (Nat.le_refl _) (.cells (plL p ⟨.slice a1 p.mets.length c1, .slice a2 p.wins.length c2, .slice a3 p.crons.length c3, .slice a4 p.gs.length c4, .slice a5 p.fin.parts.length c5⟩).toArray 32))
  have noS : Hid (sizesB p = false → Q = false) := fun h1 => by rw [hQ.out, formedP, h1]; simp
  have noR : Hid (ruB p.ru = false → Q = false) := fun h1 => by rw [hQ.out, formedP, h1]; simp
  have noW : Hid (p.wins.all (wiB p.mets.length) = false → Q = false) := fun h1 => by rw [hQ.out, formedP, listsB, h1]; simp
  have noC : Hid (p.crons.all cfB = false → Q = false) := fun h1 => by rw [hQ.out, formedP, listsB, h1]; simp
  have noF : Hid (fewB p = false → Q = false) := fun h1 => by rw [hQ.out, formedP, h1]; simp
  have noO : Hid (sortsB p = false → Q = false) := fun h1 => by rw [hQ.out, formedP, h1]; simp
  have noA : Hid (alikeB q p = false → Q = false) := fun h1 => by rw [hQ.out, formedP, h1]; simp
  have yes : Hid (sizesB p = true → ruB p.ru = true → p.wins.all (wiB p.mets.length) = true → p.crons.all cfB = true → fewB p = true → sortsB p = true → alikeB q p = true → Q = true) := fun h1 h2 h3 h4 h5 h6 h7 => by rw [hQ.out, formedP, listsB, h1, h2, h3, h4, h5, h6, h7]; rfl
  clear hs hL hQ
  by_cases h1 : p.mets.length ≤ 64
  case neg =>
    have e1 : Hid (Q = false) := noS.out (decide_eq_false (fun h => h1 h.1))
    have h1' : 64 < (p.mets.length : Int) := by omega
    go_enter Tryd.func10, Tryd.ntmps10
    go_wp2_with fail
    go_ret
    exact ⟨by rw [e1.out]; rfl, B0.out⟩
  have h1' : ¬ 64 < (p.mets.length : Int) := by omega
  by_cases h2 : p.wins.length ≤ 256
  case neg =>
    have e1 : Hid (Q = false) := noS.out (decide_eq_false (fun h => h2 h.2.1))
    have h2' : 256 < (p.wins.length : Int) := by omega
    go_enter Tryd.func10, Tryd.ntmps10
    go_wp2_with fail
    go_ret
    exact ⟨by rw [e1.out]; rfl, B0.out⟩
  have h2' : ¬ 256 < (p.wins.length : Int) := by omega
  by_cases h3 : p.crons.length ≤ 256
  case neg =>
    have e1 : Hid (Q = false) := noS.out (decide_eq_false (fun h => h3 h.2.2.1))
    have h3' : 256 < (p.crons.length : Int) := by omega
    go_enter Tryd.func10, Tryd.ntmps10
    go_wp2_with fail
    go_ret
    exact ⟨by rw [e1.out]; rfl, B0.out⟩
  have h3' : ¬ 256 < (p.crons.length : Int) := by omega
  obtain ⟨y3, hy3⟩ : ∃ y3, Hid (ruB p.ru = y3) := ⟨_, rfl⟩
  rw [hy3.out] at HRi noR yes
  cases y3 with
  | false =>
    have e1 : Hid (Q = false) := noR.out (by first | rfl | trivial)
    go_enter Tryd.func10, Tryd.ntmps10
    go_wp2_with fail
    refine Calls.mono (HRi.out _) ?_
    rintro e w1 ⟨rfl, b1⟩
    have B1 := chid (cbelow_on B0.out b1 B0.out.size)
    have Y1 := chid (Y0.out.next b1)
    have t8 := Y1.out.cell 8 _ rfl
    have tl := Y1.out.lt
    clear b1 Y0
    go_wp2_with fail
    go_ret
    exact ⟨by rw [e1.out]; rfl, B1.out⟩
  | true =>
  by_cases h4 : 0 ≤ p.loc
  case neg =>
    have e1 : Hid (Q = false) := noS.out (decide_eq_false (fun h => h4 h.2.2.2.1))
    have hx : p.loc < 0 := by omega
    go_enter Tryd.func10, Tryd.ntmps10
    go_wp2_with fail
    refine Calls.mono (HRi.out _) ?_
    rintro e w1 ⟨rfl, b1⟩
    have B1 := chid (cbelow_on B0.out b1 B0.out.size)
    have Y1 := chid (Y0.out.next b1)
    have t8 := Y1.out.cell 8 _ rfl
    have tl := Y1.out.lt
    clear b1 Y0
    go_wp2_with fail
    go_ret
    exact ⟨by rw [e1.out]; rfl, B1.out⟩
  by_cases h5 : p.loc ≤ 256
  case neg =>
    have e1 : Hid (Q = false) := noS.out (decide_eq_false (fun h => h5 h.2.2.2.2))
    have hx : 256 < p.loc := by omega
    go_enter Tryd.func10, Tryd.ntmps10
    go_wp2_with fail
    refine Calls.mono (HRi.out _) ?_
    rintro e w1 ⟨rfl, b1⟩
    have B1 := chid (cbelow_on B0.out b1 B0.out.size)
    have Y1 := chid (Y0.out.next b1)
    have t8 := Y1.out.cell 8 _ rfl
    have tl := Y1.out.lt
    clear b1 Y0
    go_wp2_with fail
    go_ret
    exact ⟨by rw [e1.out]; rfl, B1.out⟩
  have h4' : ¬ p.loc < 0 := by omega
  have h5' : ¬ 256 < p.loc := by omega
  have hsz : Hid (sizesB p = true) := chid (decide_eq_true ⟨h1, h2, h3, h4, h5⟩)
  have h64 : Hid (C64 p.wins.length ∧ C64 p.crons.length ∧ C64 p.loc) := ⟨⟨by omega, by omega⟩, ⟨by omega, by omega⟩, HLo.out⟩
  have H256 := chid h5
  have yes2 : Hid (p.wins.all (wiB p.mets.length) = true → p.crons.all cfB = true → fewB p = true → sortsB p = true → alikeB q p = true → Q = true) := fun a b c d e => yes.out hsz.out (by first | rfl | trivial) a b c d e
  have noO2 := noO
  clear h1 h2 h3 h4 h5 yes hsz noS noR hy3 HLo
  obtain ⟨NW, hNW⟩ : ∃ N, Hid (N = p.wins.length) := ⟨_, rfl⟩
  obtain ⟨NC, hNC⟩ : ∃ N, Hid (N = p.crons.length) := ⟨_, rfl⟩
  obtain ⟨NM, hNM⟩ : ∃ N, Hid (N = p.mets.length) := ⟨_, rfl⟩
  have HSo := chid (fun t => rSort_d p.wins.length p.crons.length p.loc h64.out t)
  rw [← hNW.out] at h2' Y0 B0 HCo g2 HWi HSo ⊢
  rw [← hNC.out] at h3' Y0 B0 HCo g3 HCr HSo ⊢
  rw [← hNM.out] at h1' Y0 B0 HCo g1 noW yes2 ⊢
  go_enter Tryd.func10, Tryd.ntmps10
  go_wp2_with fail
  refine Calls.mono (HRi.out _) ?_
  rintro e w1 ⟨rfl, b1⟩
  have B1 := chid (cbelow_on B0.out b1 B0.out.size)
  have Y1 := chid (Y0.out.next b1)
  have t8 := Y1.out.cell 8 _ rfl
  have tl := Y1.out.lt
  clear b1 Y0
  have t6 := Y1.out.cell 6 _ rfl
  go_wp2_with fail
  clear t8 h1' h2' h3' h4' h5' t6
  go_loopw [3] (fun i wr => ∃ k : Nat, i = .int .i64 (k : Nat) ∧ k ≤ NW ∧ Hid ((p.wins.take k).all (wiB NM) = true) ∧ Hid (Below w1.heap.size w1 wr)) (fun i _ => match i with | .int _ p => ((NW : Int) - p).toNat | _ => 0)
  case atStart => exact ⟨0, rfl, by omega, chid rfl, Below.refl _ _⟩
  case round =>
  obtain ⟨k, rfl, hk, HK, HB⟩ := hrel
  have BW := chid (cbelow_on B1.out HB.out B1.out.size)
  have X := Y1.out.next HB.out
  have x0 := X.cell 0 _ rfl
  have x6 := X.cell 6 _ rfl
  have x7 := X.cell 7 _ rfl
  have xl := X.lt
  by_cases hlt : k < NW
  case pos =>
    have hlt' : (k : Int) < (NW : Int) := by omega
    have hl1 : k < p.wins.length := by rw [← hNW.out]; exact hlt
    obtain ⟨b, off, cap', hv, hle, -, hbl, hx⟩ := RowsK.open HWi.out (by omega)
    simp only [Value.slice.injEq] at hv
    obtain ⟨rfl, -, rfl⟩ := hv
    have hxk := hx k hl1
    rw [cgetD hl1] at hxk
    have y0 : wr.cell? ⟨b, off + k * 4, none⟩ = _ := keepc BW.out (hxk 0 _ rfl)
    have y1 := keepc BW.out (hxk 1 _ rfl)
    have y2 := keepc BW.out (hxk 2 _ rfl)
    have y3 := keepc BW.out (hxk 3 _ rfl)
    have lbr : b < wr.heap.size := Nat.lt_of_lt_of_le hbl BW.out.size
    have HC := chid (fun W => fRight p.wins[k].m p.wins[k].a p.wins[k].s p.wins[k].p W)
    have HT := chid (all_take (f := wiB NM) hl1)
    have HNo := chid (fun h => noW.out (all_no (f := wiB NM) hl1 h))
    have hM2 := HWk.out _ (List.getElem_mem hl1)
    clear hxk hx hle
    generalize p.wins[k] = x at *
    clear hl1
    obtain ⟨m, a, s, pp⟩ := x
    dsimp only at *
    have hm1 := hM2.m
    obtain ⟨y, hy⟩ : ∃ y, Hid (rightB m a s pp = y) := ⟨_, rfl⟩
    unfold tv at HC
    rw [hy.out] at HC
    have hwi : Hid (wiB NM ⟨m, a, s, pp⟩ = (y && decide (m < (NM : Int)))) := by show (rightB m a s pp && _) = _; rw [hy.out]
    rw [hwi.out] at HT HNo
    clear hwi hM2
    cases y with
    | false =>
      have hq0 : Hid (Q = false) := chid (HNo.out rfl)
      go_wp2_with fail
      obtain ⟨f, hf1, hf2⟩ := calm wr
      have HF1 := chid hf1
      have HF2 := chid hf2
      have x0' := fun n => keepc (hf1 n) x0
      have x6' := fun n => keepc (hf1 n) x6
      have y0' := fun n => keepc (hf1 n) y0
      have y1' := fun n => keepc (hf1 n) y1
      have y2' := fun n => keepc (hf1 n) y2
      have y3' := fun n => keepc (hf1 n) y3
      clear hf1 hf2 x0 x6 x7 y0 y1 y2 y3 X
      refine wp_region_calm f (by kernel_rfl) (by kernel_rfl) (HF2.out _ (Below.refl _ _).drew) ?_
      repeat (go_big_quiet_step (first | (go_at_call 17; with_reducible refine Calls.mono (HC.out _) ?_; rintro e W1 ⟨rfl, b5⟩; exact ⟨rfl, HF2.out _ (cbelow_on (HF1.out _) b5 (HF1.out _).size)⟩)))
      refine wpQuiet_nil ?_
      intro w6 hw6
      obtain ⟨n6, rfl⟩ := hw6
      have B2 := chid (cbelow_on HB.out (HF1.out n6) HB.out.size)
      have B2w := chid (cbelow_on B1.out B2.out B1.out.size)
      clear x0' x6' y0' y1' y2' y3'
      generalize f n6 = w6 at *
      go_wp2_with fail
      go_ret
      exact ⟨by rw [hq0.out]; rfl, B2w.out⟩
    | true =>
      by_cases hmM : m < (NM : Int)
      · have H3 : Hid ((p.wins.take (k + 1)).all (wiB NM) = true) := chid (by rw [HT.out, HK.out, decide_eq_true hmM]; rfl)
        clear HT HNo
        have hm2 : ¬ (NM : Int) ≤ m := by omega
        have hm3 : decide ((NM : Int) ≤ m) = false := decide_eq_false hm2
        go_wp2_with fail
        obtain ⟨f, hf1, hf2⟩ := calm wr
        have HF1 := chid hf1
        have HF2 := chid hf2
        have x0' := fun n => keepc (hf1 n) x0
        have x6' := fun n => keepc (hf1 n) x6
        have y0' := fun n => keepc (hf1 n) y0
        have y1' := fun n => keepc (hf1 n) y1
        have y2' := fun n => keepc (hf1 n) y2
        have y3' := fun n => keepc (hf1 n) y3
        clear hf1 hf2 x0 x6 x7 y0 y1 y2 y3 X
        refine wp_region_calm f (by kernel_rfl) (by kernel_rfl) (HF2.out _ (Below.refl _ _).drew) ?_
        repeat (go_big_quiet_step (first | (go_at_call 17; with_reducible refine Calls.mono (HC.out _) ?_; rintro e W1 ⟨rfl, b5⟩; exact ⟨rfl, HF2.out _ (cbelow_on (HF1.out _) b5 (HF1.out _).size)⟩)))
        refine wpQuiet_nil ?_
        intro w6 hw6
        obtain ⟨n6, rfl⟩ := hw6
        have B2 := chid (cbelow_on HB.out (HF1.out n6) HB.out.size)
        have B2w := chid (cbelow_on B1.out B2.out B1.out.size)
        clear x0' x6' y0' y1' y2' y3'
        generalize f n6 = w6 at *
        go_wp2_with fail
        go_roundw
        case rel => exact ⟨k + 1, by go_num, by omega, H3.out, B2.out⟩
        case measure => simp; omega
      · have hq0 : Hid (Q = false) := chid (HNo.out (by rw [decide_eq_false hmM]; rfl))
        clear HT HNo
        have hm2 : (NM : Int) ≤ m := by omega
        have hm3 : decide ((NM : Int) ≤ m) = true := decide_eq_true hm2
        go_wp2_with fail
        obtain ⟨f, hf1, hf2⟩ := calm wr
        have HF1 := chid hf1
        have HF2 := chid hf2
        have x0' := fun n => keepc (hf1 n) x0
        have x6' := fun n => keepc (hf1 n) x6
        have y0' := fun n => keepc (hf1 n) y0
        have y1' := fun n => keepc (hf1 n) y1
        have y2' := fun n => keepc (hf1 n) y2
        have y3' := fun n => keepc (hf1 n) y3
        clear hf1 hf2 x0 x6 x7 y0 y1 y2 y3 X
        refine wp_region_calm f (by kernel_rfl) (by kernel_rfl) (HF2.out _ (Below.refl _ _).drew) ?_
        repeat (go_big_quiet_step (first | (go_at_call 17; with_reducible refine Calls.mono (HC.out _) ?_; rintro e W1 ⟨rfl, b5⟩; exact ⟨rfl, HF2.out _ (cbelow_on (HF1.out _) b5 (HF1.out _).size)⟩)))
        refine wpQuiet_nil ?_
        intro w6 hw6
        obtain ⟨n6, rfl⟩ := hw6
        have B2 := chid (cbelow_on HB.out (HF1.out n6) HB.out.size)
        have B2w := chid (cbelow_on B1.out B2.out B1.out.size)
        clear x0' x6' y0' y1' y2' y3'
        generalize f n6 = w6 at *
        go_wp2_with fail
        go_ret
        exact ⟨by rw [hq0.out]; rfl, B2w.out⟩
  have hlt' : ¬ (k : Int) < (NW : Int) := by omega
  have hkN : k = NW := by omega
  have e1 : p.wins.take k = p.wins := by rw [hkN, hNW.out]; exact List.take_length
  rw [e1] at HK
  have yes3 : Hid (p.crons.all cfB = true → fewB p = true → sortsB p = true → alikeB q p = true → Q = true) := fun b c d e => yes2.out HK.out b c d e
  clear e1 HK yes2 noW hkN x0
  go_wp2_with fail
  clear x6 x7 xl X hlt hlt'
  obtain ⟨w3, hw3⟩ : ∃ w3, w3 = wr := ⟨_, rfl⟩
  rw [← hw3] at HB BW ⊢
  clear hw3
  go_loopw [4] (fun i wr => ∃ k : Nat, i = .int .i64 (k : Nat) ∧ k ≤ NC ∧ Hid ((p.crons.take k).all cfB = true) ∧ Hid (Below w3.heap.size w3 wr)) (fun i _ => match i with | .int _ p => ((NC : Int) - p).toNat | _ => 0)
  case atStart => exact ⟨0, rfl, by omega, chid rfl, Below.refl _ _⟩
  case round =>
  obtain ⟨k2, rfl, hk2, HK2, HB2⟩ := hrel
  have B3 := chid (cbelow_on HB.out HB2.out HB.out.size)
  have B3w := chid (cbelow_on BW.out HB2.out BW.out.size)
  have X := Y1.out.next B3.out
  have x6 := X.cell 6 _ rfl
  have x7 := X.cell 7 _ rfl
  have xl := X.lt
  by_cases hlt : k2 < NC
  case pos =>
    have hlt' : (k2 : Int) < (NC : Int) := by omega
    have hl1 : k2 < p.crons.length := by rw [← hNC.out]; exact hlt
    obtain ⟨b, off, cap', hv, hle, -, hbl, hx⟩ := RowsK.open HCr.out (by omega)
    simp only [Value.slice.injEq] at hv
    obtain ⟨rfl, -, rfl⟩ := hv
    have hxk := hx k2 hl1
    rw [cgetD hl1] at hxk
    have y0 : wr.cell? ⟨b, off + k2 * 5, none⟩ = _ := keepc B3w.out (hxk 0 _ rfl)
    have y1 := keepc B3w.out (hxk 1 _ rfl)
    have y2 := keepc B3w.out (hxk 2 _ rfl)
    have y3 := keepc B3w.out (hxk 3 _ rfl)
    have y4 := keepc B3w.out (hxk 4 _ rfl)
    have lbr : b < wr.heap.size := Nat.lt_of_lt_of_le hbl B3w.out.size
    have HC := chid (fun W => rFormed_any p.crons[k2] (HCk.out _ (List.getElem_mem hl1)) W)
    have HT := chid (all_take (f := cfB) hl1)
    have HNo := chid (fun h => noC.out (all_no (f := cfB) hl1 h))
    clear hxk hx hle
    generalize p.crons[k2] = x at *
    clear hl1
    obtain ⟨y, hy⟩ : ∃ y, Hid (cfB x = y) := ⟨_, rfl⟩
    unfold FormedPost at HC
    rw [hy.out] at HC HT HNo
    go_wp2_with fail
    refine Calls.mono (HC.out _) ?_
    rintro e w4 ⟨rfl, b1⟩
    have B4 := chid (cbelow_on HB2.out b1 HB2.out.size)
    have B4w := chid (cbelow_on B3w.out b1 B3w.out.size)
    clear b1 y0 y1 y2 y3 y4 x6 x7 xl X
    cases y with
    | false =>
      have hq0 : Hid (Q = false) := chid (HNo.out rfl)
      go_wp2_with fail
      go_ret
      exact ⟨by rw [hq0.out]; rfl, B4w.out⟩
    | true =>
      have H3 : Hid ((p.crons.take (k2 + 1)).all cfB = true) := chid (by rw [HT.out, HK2.out]; rfl)
      clear HT HNo
      go_wp2_with fail
      go_roundw
      case rel => exact ⟨k2 + 1, by go_num, by omega, H3.out, B4.out⟩
      case measure => simp; omega
  have hlt' : ¬ (k2 : Int) < (NC : Int) := by omega
  have hkN : k2 = NC := by omega
  have e1 : p.crons.take k2 = p.crons := by rw [hkN, hNC.out]; exact List.take_length
  rw [e1] at HK2
  have yes4 : Hid (fewB p = true → sortsB p = true → alikeB q p = true → Q = true) := fun c d e => yes3.out HK2.out c d e
  clear e1 HK2 yes3 noC hkN
  have x0 := X.cell 0 _ rfl
  have x1 := X.cell 1 _ rfl
  have x2 := X.cell 2 _ rfl
  have x3 := X.cell 3 _ rfl
  have x4 := X.cell 4 _ rfl
  have x5 := X.cell 5 _ rfl
  have x8 := X.cell 8 _ rfl
  have x9 := X.cell 9 _ rfl
  have x10 := X.cell 10 _ rfl
  have x11 := X.cell 11 _ rfl
  have x12 := X.cell 12 _ rfl
  have x13 := X.cell 13 _ rfl
  go_wp2_with fail
  refine Calls.mono (HCo.out _ B3w.out) ?_
  rintro e w5 ⟨u, rfl, hu, b5⟩
  have B5 := chid (cbelow_on B3.out b5 B3.out.size)
  have B5w := chid (cbelow_on B3w.out b5 B3w.out.size)
  have HU := chid hu
  obtain ⟨ad, cap, rfl, hc1, hc2⟩ := hu.shape
  obtain ⟨C, hC⟩ : ∃ C, Hid (C = coresP p) := ⟨_, rfl⟩
  rw [← hC.out] at HU hc1 ⊢
  obtain ⟨N, hN⟩ : ∃ N, Hid (N = C.length) := ⟨_, rfl⟩
  rw [← hN.out] at HU hc1 ⊢
  have hNp : 1 ≤ N := by rw [hN.out, hC.out, cores_len]; omega
  have hplo : Hid (plord p = (C.map cpord).flatten) := chid (by rw [hC.out]; exact plord_cores p)
  clear hu b5 HCo x0 x1 x2 x3 x4 x5 x6 x7 x8 x9 x10 x11 x12 x13 xl X hlt hlt' B3 B3w HB2 HB BW
  go_wp2_with fail
  go_loopw [6, 7] (fun n i wr => ∃ (k m : Nat), i = .int .i64 (k : Nat) ∧ n = .int .i64 (m : Nat) ∧ k ≤ N ∧ m ≤ 4096 ∧ Hid (m = cnodesL (C.take k)) ∧ Hid (Below w5.heap.size w5 wr)) (fun _ i _ => match i with | .int _ p => ((N : Int) - p).toNat | _ => 0)
  case atStart => exact ⟨0, 0, rfl, rfl, by omega, by omega, chid rfl, Below.refl _ _⟩
  case round =>
  obtain ⟨k3, m, rfl, rfl, hk3, hm, HM, HB3⟩ := hrel
  have B6 := chid (cbelow_on B5.out HB3.out B5.out.size)
  have B6w := chid (cbelow_on B5w.out HB3.out B5w.out.size)
  by_cases hlt : k3 < N
  case pos =>
    have hlt' : (k3 : Int) < (N : Int) := by omega
    have hl1 : k3 < C.length := by rw [← hN.out]; exact hlt
    obtain ⟨b, off, cap', hv, -, -, hbl, hx⟩ := HU.out.open (by omega)
    simp only [Value.slice.injEq] at hv
    obtain ⟨rfl, -, rfl⟩ := hv
    obtain ⟨u, h6, hu⟩ := hx k3 hl1
    have y0 := keepc HB3.out h6.c0
    have y1 := keepc HB3.out h6.c1
    have y2 := keepc HB3.out h6.c2
    have y3 := keepc HB3.out h6.c3
    have lbr : b < wr.heap.size := Nat.lt_of_lt_of_le hbl HB3.out.size
    have HCl := chid (crNodes_c C[k3] u wr (hu.next HB3.out))
    unfold cndsV at HCl
    have HT : Hid (cnodesL (C.take (k3 + 1)) = cnodesL (C.take k3) + cnodes C[k3]) := by
      show _ = _
      rw [List.take_succ_eq_append_getElem hl1, cnodesL_append, cnodesL_cons]; simp [cnodesL_nil]
    have HNo : Hid (4096 < cnodesL (C.take k3) + cnodes C[k3] → Q = false) := fun h => by
      apply noF.out
      unfold fewB
      rw [hplo.out]
      apply decide_eq_false
      have e : cnodesL C = cnodesL (C.take (k3 + 1)) + cnodesL (C.drop (k3 + 1)) := by rw [← cnodesL_append, List.take_append_drop]
      have e2 : ((C.map cpord).flatten).length = cnodesL C := rfl
      rw [e2, e, HT.out]
      omega
    obtain ⟨au, cu, rfl, -, -⟩ := hu.parts.shape
    clear hx h6 hu
    generalize cnodes C[k3] = Z at *
    have hmn : min Z 4097 ≤ 4097 := Nat.min_le_right _ _
    obtain ⟨M, hM⟩ : ∃ M, Hid (M = min Z 4097) := ⟨_, chid rfl⟩
    rw [← hM.out] at HCl hmn
    generalize C[k3] = x at *
    clear hl1
    obtain ⟨xk, xn, xm, xps⟩ := x
    dsimp only at *
    generalize xps.length = L at *
    go_wp2_with fail
    refine Calls.mono HCl.out ?_
    rintro e w7 ⟨rfl, b2⟩
    have B7 := chid (cbelow_on HB3.out b2 HB3.out.size)
    have B7w := chid (cbelow_on B6w.out b2 B6w.out.size)
    clear b2 HCl y0 y1 y2 y3
    obtain ⟨S, hS⟩ : ∃ S, Hid (S = m + M) := ⟨_, chid rfl⟩
    have i3 : (m : Int) + (M : Int) = (S : Int) := by have := hS.out; omega
    have i4 : (S : Int) ≤ 8193 := by have := hS.out; omega
    have hm2 := chid hm
    have hmn2 := chid hmn
    clear hmn hm
    by_cases hS4 : S ≤ 4096
    · have hS5 : ¬ 4096 < (S : Int) := by omega
      have H3 : Hid (S = cnodesL (C.take (k3 + 1))) := chid (by rw [HT.out]; have := hS.out; have := hM.out; have := HM.out; omega)
      clear HT HNo
      go_wp2_with fail
      go_roundw
      case rel => exact ⟨k3 + 1, S, by go_num, rfl, by omega, hS4, H3.out, B7.out⟩
      case measure => simp; omega
    · have hS5 : 4096 < (S : Int) := by omega
      have hq0 : Hid (Q = false) := chid (HNo.out (by have := hS.out; have := hM.out; have := HM.out; omega))
      clear HT HNo
      go_wp2_with fail
      go_ret
      exact ⟨by rw [hq0.out]; rfl, B7w.out⟩
  have hlt' : ¬ (k3 : Int) < (N : Int) := by omega
  have hkN : k3 = N := by omega
  have e1 : C.take k3 = C := by rw [hkN, hN.out]; exact List.take_length
  rw [e1] at HM
  have hfew : Hid (fewB p = true) := by
    show _ = _
    unfold fewB
    rw [hplo.out]
    apply decide_eq_true
    have e2 : ((C.map cpord).flatten).length = cnodesL C := rfl
    rw [e2, ← HM.out]
    exact hm
  have hsm : Hid (∀ i (h : i < C.length), cnodes C[i] ≤ 8192) := fun i h => by
    have h1 := cnodesL_mem (List.getElem_mem h)
    have h2 := HM.out
    omega
  have yes5 : Hid (sortsB p = true → alikeB q p = true → Q = true) := fun d e => yes4.out hfew.out d e
  have X := Y1.out.next B6.out
  have x6 := X.cell 6 _ rfl
  have x7 := X.cell 7 _ rfl
  have x8 := X.cell 8 _ rfl
  have xl := X.lt
  clear e1 HM yes4 noF hkN hfew
  go_wp2_with fail
  clear x6 x7 x8 xl X hlt hlt'
  have R8 := chid (Box.new wr [.int .i64 (NW : Int), .int .i64 (NC : Int), .int .i64 p.loc] 78)
  have A8 : Below wr.heap.size wr (wr.alloc (.cells [.int .i64 (NW : Int), .int .i64 (NC : Int), .int .i64 p.loc].toArray 78)) := (Below.refl _ _).alloc (Nat.le_refl _) _
  have B8 := chid (cbelow_on HB3.out A8 HB3.out.size)
  have B8w := chid (cbelow_on B6w.out A8 B6w.out.size)
  obtain ⟨RB, hRB⟩ : ∃ RB, Hid (RB = wr.heap.size) := ⟨_, rfl⟩
  rw [← hRB.out] at R8 ⊢
  clear A8 B6 B6w HB3 hRB
  generalize wr.alloc _ = w8 at *
  have hN64 : (N : Int) ≤ 9223372036854775807 := by omega
  go_loopw [9, 10] (fun i _ wr => ∃ k4 : Nat, i = .int .i64 (k4 : Nat) ∧ k4 ≤ N ∧ Hid (∀ i (h : i < C.length), i < k4 → soP p C[i] = wantN N i) ∧ Hid (Below w8.heap.size w8 wr)) (fun i _ _ => match i with | .int _ p => ((N : Int) - p).toNat | _ => 0)
  case atStart => exact ⟨0, rfl, by omega, (fun i h hi => absurd hi (by omega)), Below.refl _ _⟩
  case round =>
  obtain ⟨k4, rfl, hk4, HK4, HB4⟩ := hrel
  have B9 := chid (cbelow_on B8.out HB4.out B8.out.size)
  have B9w := chid (cbelow_on B8w.out HB4.out B8w.out.size)
  have R9 := R8.out.next HB4.out
  have z0 := R9.cell 0 _ rfl
  have z1 := R9.cell 1 _ rfl
  have z2 := R9.cell 2 _ rfl
  have zl := R9.lt
  by_cases hlt : k4 < N
  case pos =>
    have hlt' : (k4 : Int) < (N : Int) := by omega
    have hl1 : k4 < C.length := by rw [← hN.out]; exact hlt
    obtain ⟨b, off, cap', hv, -, -, hbl, hx⟩ := HU.out.open (by omega)
    simp only [Value.slice.injEq] at hv
    obtain ⟨rfl, -, rfl⟩ := hv
    obtain ⟨u, h6, hu⟩ := hx k4 hl1
    have y0 := keepc B9.out h6.c0
    have y1 := keepc B9.out h6.c1
    have y2 := keepc B9.out h6.c2
    have y3 := keepc B9.out h6.c3
    have lbr : b < wr.heap.size := Nat.lt_of_lt_of_le hbl B9.out.size
    have HCl := chid (fun W (hW : Below w5.heap.size w5 W) => HSo.out C[k4] u W (hu.next hW) (hsm.out k4 hl1))
    have HT : Hid (soP p C[k4] = wantN N k4 → ∀ i (h : i < C.length), i < k4 + 1 → soP p C[i] = wantN N i) := fun h i hi hik => by
      by_cases e : i = k4
      · subst e; exact h
      · exact HK4.out i hi (by omega)
    have HNo : Hid (soP p C[k4] ≠ wantN N k4 → Q = false) := fun h => by
      apply noO.out
      cases hb : sortsB p with
      | false => rfl
      | true =>
        have := (sorts_iff p).1 hb k4 (by rw [← hC.out]; exact hl1)
        simp only [← hC.out, ← hN.out] at this
        exact absurd this h
    have hso : Hid (soP p C[k4] = csort ladF NW NC p.loc C[k4]) := chid (by rw [hNW.out, hNC.out])
    rw [hso.out] at HT HNo
    generalize csort ladF NW NC p.loc C[k4] = sv at *
    clear hso
    obtain ⟨au, cu, rfl, -, -⟩ := hu.parts.shape
    clear hx h6 hu
    generalize C[k4] = x at *
    clear hl1
    obtain ⟨xk, xn, xm, xps⟩ := x
    dsimp only at *
    generalize xps.length = L at *
    have ht : (k4 : Int).tmod 2 = ((k4 % 2 : Nat) : Int) := by rw [Int.tmod_eq_emod_of_nonneg (by omega)]; omega
    unfold roomV at HCl
    obtain ⟨wn, hwn⟩ : ∃ wn, Hid (wn = wantN N k4) := ⟨_, rfl⟩
    rw [← hwn.out] at HT HNo
    have key : ((k4 % 2 = 0 ∧ k4 + 1 < N) ∧ wn = 2) ∨ ((k4 % 2 = 0 ∧ ¬ k4 + 1 < N) ∧ wn = 3) ∨ (k4 % 2 = 1 ∧ wn = 3) := by
      rw [hwn.out]
      unfold wantN
      by_cases h1 : k4 % 2 = 0
      · by_cases h2 : k4 + 1 < N
        · exact .inl ⟨⟨h1, h2⟩, if_pos ⟨h1, h2⟩⟩
        · exact .inr (.inl ⟨⟨h1, h2⟩, if_neg (fun h => h2 h.2)⟩)
      · exact .inr (.inr ⟨by omega, if_neg (fun h => h1 h.1)⟩)
    clear hwn
    rcases key with ⟨⟨m1, m2⟩, rfl⟩ | ⟨⟨m1, m2⟩, rfl⟩ | ⟨m1, rfl⟩
    · have m1' : ((k4 % 2 : Nat) : Int) = 0 := by omega
      have m2' : (k4 : Int) < (N : Int) - 1 := by omega
      rw [m1'] at ht
      clear m1 m1' hk4 hN64
      by_cases hsv : sv = 2
      · subst hsv
        go_wp2_with fail
        obtain ⟨f, hf1, hf2⟩ := calm wr
        have HF1 := chid hf1
        have HF2 := chid hf2
        have z0' := fun n => keepc (hf1 n) z0
        have z1' := fun n => keepc (hf1 n) z1
        have z2' := fun n => keepc (hf1 n) z2
        have y0' := fun n => keepc (hf1 n) y0
        have y1' := fun n => keepc (hf1 n) y1
        have y2' := fun n => keepc (hf1 n) y2
        have y3' := fun n => keepc (hf1 n) y3
        clear hf1 hf2 z0 z1 z2 y0 y1 y2 y3 R9
        refine wp_region_calm f (by kernel_rfl) (by kernel_rfl) (HF2.out _ (Below.refl _ _).drew) ?_
        repeat (go_big_quiet_step (first | (go_at_call 20; with_reducible refine Calls.mono (HCl.out _ (cbelow_on B9.out (HF1.out _) B9.out.size)) ?_; rintro e W1 ⟨rfl, b5⟩; exact ⟨rfl, HF2.out _ (cbelow_on (HF1.out _) b5 (HF1.out _).size)⟩)))
        refine wpQuiet_nil ?_
        intro w6 hw6
        obtain ⟨n6, rfl⟩ := hw6
        have B10 := chid (cbelow_on HB4.out (HF1.out n6) HB4.out.size)
        clear z0' z1' z2' y0' y1' y2' y3' HCl
        generalize f n6 = w6 at *
        have H3 := chid (HT.out (by first | rfl | trivial))
        clear HT HNo
        go_wp2_with fail
        go_roundw
        case rel => exact ⟨k4 + 1, by go_num, by omega, H3.out, B10.out⟩
        case measure => simp; omega
      · have hsv' : (sv != 2) = true := by simpa using hsv
        have hq0 : Hid (Q = false) := chid (HNo.out hsv)
        go_wp2_with fail
        obtain ⟨f, hf1, hf2⟩ := calm wr
        have HF1 := chid hf1
        have HF2 := chid hf2
        have z0' := fun n => keepc (hf1 n) z0
        have z1' := fun n => keepc (hf1 n) z1
        have z2' := fun n => keepc (hf1 n) z2
        have y0' := fun n => keepc (hf1 n) y0
        have y1' := fun n => keepc (hf1 n) y1
        have y2' := fun n => keepc (hf1 n) y2
        have y3' := fun n => keepc (hf1 n) y3
        clear hf1 hf2 z0 z1 z2 y0 y1 y2 y3 R9
        refine wp_region_calm f (by kernel_rfl) (by kernel_rfl) (HF2.out _ (Below.refl _ _).drew) ?_
        repeat (go_big_quiet_step (first | (go_at_call 20; with_reducible refine Calls.mono (HCl.out _ (cbelow_on B9.out (HF1.out _) B9.out.size)) ?_; rintro e W1 ⟨rfl, b5⟩; exact ⟨rfl, HF2.out _ (cbelow_on (HF1.out _) b5 (HF1.out _).size)⟩)))
        refine wpQuiet_nil ?_
        intro w6 hw6
        obtain ⟨n6, rfl⟩ := hw6
        have B10 := chid (cbelow_on B9w.out (HF1.out n6) B9w.out.size)
        clear z0' z1' z2' y0' y1' y2' y3' HCl
        generalize f n6 = w6 at *
        clear HT HNo
        go_wp2_with fail
        go_ret
        exact ⟨by rw [hq0.out]; rfl, B10.out⟩
    · have m1' : ((k4 % 2 : Nat) : Int) = 0 := by omega
      have m2' : ¬ (k4 : Int) < (N : Int) - 1 := by omega
      rw [m1'] at ht
      clear m1 m1' hk4 hN64
      by_cases hsv : sv = 3
      · subst hsv
        go_wp2_with fail
        obtain ⟨f, hf1, hf2⟩ := calm wr
        have HF1 := chid hf1
        have HF2 := chid hf2
        have z0' := fun n => keepc (hf1 n) z0
        have z1' := fun n => keepc (hf1 n) z1
        have z2' := fun n => keepc (hf1 n) z2
        have y0' := fun n => keepc (hf1 n) y0
        have y1' := fun n => keepc (hf1 n) y1
        have y2' := fun n => keepc (hf1 n) y2
        have y3' := fun n => keepc (hf1 n) y3
        clear hf1 hf2 z0 z1 z2 y0 y1 y2 y3 R9
        refine wp_region_calm f (by kernel_rfl) (by kernel_rfl) (HF2.out _ (Below.refl _ _).drew) ?_
        repeat (go_big_quiet_step (first | (go_at_call 20; with_reducible refine Calls.mono (HCl.out _ (cbelow_on B9.out (HF1.out _) B9.out.size)) ?_; rintro e W1 ⟨rfl, b5⟩; exact ⟨rfl, HF2.out _ (cbelow_on (HF1.out _) b5 (HF1.out _).size)⟩)))
        refine wpQuiet_nil ?_
        intro w6 hw6
        obtain ⟨n6, rfl⟩ := hw6
        have B10 := chid (cbelow_on HB4.out (HF1.out n6) HB4.out.size)
        clear z0' z1' z2' y0' y1' y2' y3' HCl
        generalize f n6 = w6 at *
        have H3 := chid (HT.out (by first | rfl | trivial))
        clear HT HNo
        go_wp2_with fail
        go_roundw
        case rel => exact ⟨k4 + 1, by go_num, by omega, H3.out, B10.out⟩
        case measure => simp; omega
      · have hsv' : (sv != 3) = true := by simpa using hsv
        have hq0 : Hid (Q = false) := chid (HNo.out hsv)
        go_wp2_with fail
        obtain ⟨f, hf1, hf2⟩ := calm wr
        have HF1 := chid hf1
        have HF2 := chid hf2
        have z0' := fun n => keepc (hf1 n) z0
        have z1' := fun n => keepc (hf1 n) z1
        have z2' := fun n => keepc (hf1 n) z2
        have y0' := fun n => keepc (hf1 n) y0
        have y1' := fun n => keepc (hf1 n) y1
        have y2' := fun n => keepc (hf1 n) y2
        have y3' := fun n => keepc (hf1 n) y3
        clear hf1 hf2 z0 z1 z2 y0 y1 y2 y3 R9
        refine wp_region_calm f (by kernel_rfl) (by kernel_rfl) (HF2.out _ (Below.refl _ _).drew) ?_
        repeat (go_big_quiet_step (first | (go_at_call 20; with_reducible refine Calls.mono (HCl.out _ (cbelow_on B9.out (HF1.out _) B9.out.size)) ?_; rintro e W1 ⟨rfl, b5⟩; exact ⟨rfl, HF2.out _ (cbelow_on (HF1.out _) b5 (HF1.out _).size)⟩)))
        refine wpQuiet_nil ?_
        intro w6 hw6
        obtain ⟨n6, rfl⟩ := hw6
        have B10 := chid (cbelow_on B9w.out (HF1.out n6) B9w.out.size)
        clear z0' z1' z2' y0' y1' y2' y3' HCl
        generalize f n6 = w6 at *
        clear HT HNo
        go_wp2_with fail
        go_ret
        exact ⟨by rw [hq0.out]; rfl, B10.out⟩
    · have m1' : ((k4 % 2 : Nat) : Int) = 1 := by omega
      rw [m1'] at ht
      clear m1 m1' hk4 hN64
      by_cases hsv : sv = 3
      · subst hsv
        go_wp2_with fail
        obtain ⟨f, hf1, hf2⟩ := calm wr
        have HF1 := chid hf1
        have HF2 := chid hf2
        have z0' := fun n => keepc (hf1 n) z0
        have z1' := fun n => keepc (hf1 n) z1
        have z2' := fun n => keepc (hf1 n) z2
        have y0' := fun n => keepc (hf1 n) y0
        have y1' := fun n => keepc (hf1 n) y1
        have y2' := fun n => keepc (hf1 n) y2
        have y3' := fun n => keepc (hf1 n) y3
        clear hf1 hf2 z0 z1 z2 y0 y1 y2 y3 R9
        refine wp_region_calm f (by kernel_rfl) (by kernel_rfl) (HF2.out _ (Below.refl _ _).drew) ?_
        repeat (go_big_quiet_step (first | (go_at_call 20; with_reducible refine Calls.mono (HCl.out _ (cbelow_on B9.out (HF1.out _) B9.out.size)) ?_; rintro e W1 ⟨rfl, b5⟩; exact ⟨rfl, HF2.out _ (cbelow_on (HF1.out _) b5 (HF1.out _).size)⟩)))
        refine wpQuiet_nil ?_
        intro w6 hw6
        obtain ⟨n6, rfl⟩ := hw6
        have B10 := chid (cbelow_on HB4.out (HF1.out n6) HB4.out.size)
        clear z0' z1' z2' y0' y1' y2' y3' HCl
        generalize f n6 = w6 at *
        have H3 := chid (HT.out (by first | rfl | trivial))
        clear HT HNo
        go_wp2_with fail
        go_roundw
        case rel => exact ⟨k4 + 1, by go_num, by omega, H3.out, B10.out⟩
        case measure => simp; omega
      · have hsv' : (sv != 3) = true := by simpa using hsv
        have hq0 : Hid (Q = false) := chid (HNo.out hsv)
        go_wp2_with fail
        obtain ⟨f, hf1, hf2⟩ := calm wr
        have HF1 := chid hf1
        have HF2 := chid hf2
        have z0' := fun n => keepc (hf1 n) z0
        have z1' := fun n => keepc (hf1 n) z1
        have z2' := fun n => keepc (hf1 n) z2
        have y0' := fun n => keepc (hf1 n) y0
        have y1' := fun n => keepc (hf1 n) y1
        have y2' := fun n => keepc (hf1 n) y2
        have y3' := fun n => keepc (hf1 n) y3
        clear hf1 hf2 z0 z1 z2 y0 y1 y2 y3 R9
        refine wp_region_calm f (by kernel_rfl) (by kernel_rfl) (HF2.out _ (Below.refl _ _).drew) ?_
        repeat (go_big_quiet_step (first | (go_at_call 20; with_reducible refine Calls.mono (HCl.out _ (cbelow_on B9.out (HF1.out _) B9.out.size)) ?_; rintro e W1 ⟨rfl, b5⟩; exact ⟨rfl, HF2.out _ (cbelow_on (HF1.out _) b5 (HF1.out _).size)⟩)))
        refine wpQuiet_nil ?_
        intro w6 hw6
        obtain ⟨n6, rfl⟩ := hw6
        have B10 := chid (cbelow_on B9w.out (HF1.out n6) B9w.out.size)
        clear z0' z1' z2' y0' y1' y2' y3' HCl
        generalize f n6 = w6 at *
        clear HT HNo
        go_wp2_with fail
        go_ret
        exact ⟨by rw [hq0.out]; rfl, B10.out⟩
  have hlt' : ¬ (k4 : Int) < (N : Int) := by omega
  have hkN : k4 = N := by omega
  have hsrt : Hid (sortsB p = true) := by
    apply (sorts_iff p).2
    intro i hi
    have := HK4.out i (by rw [hC.out]; exact hi) (by rw [hkN, hN.out, hC.out]; exact hi)
    simp only [hC.out, hN.out] at this
    exact this
  have hDp : Hid (∀ x, x ∈ plord p → MemD x) := memD_plan hsrt.out H256.out
  have yes6 : Hid (alikeB q p = true → Q = true) := fun e => yes5.out hsrt.out e
  have hal : Hid (alikeB q p = (crunV (memV q) (C.map cpord).flatten []).2) := by show _ = _; unfold alikeB; rw [hplo.out]
  rw [hal.out] at yes6 noA
  have hDc : Hid (∀ i (h : i < C.length), ∀ y, y ∈ cpord C[i] → MemD y) := fun i h y hy => hDp.out y (by rw [hplo.out]; exact List.mem_flatten.2 ⟨_, List.mem_map.2 ⟨_, List.getElem_mem h, rfl⟩, hy⟩)
  obtain ⟨i0, hi, hz0, hz1, hz2⟩ := info_core'
  clear HK4 hkN hsrt yes5 hal hDp noO z0 z1 z2 zl R9 hsm
  go_wp2_with (at_make; refine wpList_make_full _ rfl _ _ 28 rfl wr.heap.size 30 i0 (coV ⟨0, 0, 0, []⟩ (.slice none 0 0)) 4 Tryd.underlying28 hi hz0 hz1 _ _ _ _ 256 rfl rfl rfl rfl (by rw [hz2]; decide) (by unfold maxLen; omega) (Nat.le_refl _) ?_; intro w10 hown hgrow; have hb10 : Below wr.heap.size wr w10 := (Below.refl _ _).grown hgrow (Nat.le_refl _) (by simp); have HB10 := chid hb10; have HO := chid hown; clear hb10 hown hgrow)
  have HBx : Hid (Box w10 wr.heap.size (flC (List.replicate 256 ((⟨0, 0, 0, []⟩ : Co), Value.slice none 0 0)))) := by
    rcases cown_box HO.out with ⟨h, _⟩ | ⟨g, c, h, _, hb⟩
    · cases h
    · simp only [Value.slice.injEq, Option.some.injEq, Addr.mk.injEq, and_true] at h
      obtain ⟨⟨rfl, _⟩, _⟩ := h
      rw [made_four] at hb
      exact hb
  have B10 := chid (cbelow_on B9.out HB10.out B9.out.size)
  have B10w := chid (cbelow_on B9w.out HB10.out B9w.out.size)
  obtain ⟨G, hG⟩ : ∃ G, Hid (G = wr.heap.size) := ⟨_, rfl⟩
  have hGw : Hid (w5.heap.size ≤ G) := chid (by rw [hG.out]; exact B9.out.size)
  rw [← hG.out] at HBx ⊢
  have HH0 : Hid (HeldMs w5 w10 G []) := held_new HBx.out
  have hGw2 : Hid (w.heap.size ≤ G) := Nat.le_trans B5w.out.size hGw.out
  clear HO HB10 hG HBx B9 B9w HB4 hlt hlt' hi hz0 hz1 hz2
  go_loopw [12] (fun i wr => ∃ k5 : Nat, i = .int .i64 (k5 : Nat) ∧ k5 ≤ N ∧ Hid ((crunV (memV q) ((C.take k5).map cpord).flatten []).2 = true) ∧ Hid (HeldMs w5 wr G (crunV (memV q) ((C.take k5).map cpord).flatten []).1) ∧ Hid (Turn [G] w10 wr)) (fun i _ => match i with | .int _ p => ((N : Int) - p).toNat | _ => 0)
  case atStart => exact ⟨0, rfl, by omega, chid rfl, HH0.out, Turn.refl _ _⟩
  case round =>
  obtain ⟨k5, rfl, hk5, HK5, HH5, HT5⟩ := hrel
  have B11 := chid (cbelow_turn B10.out HT5.out (fun b hm => by simp at hm; have := hGw.out; omega))
  have B11w := chid (B10w.out.trans (HT5.out.below (fun b hm => by simp at hm; have := hGw2.out; omega) B10w.out.size))
  by_cases hlt : k5 < N
  case pos =>
    have hlt' : (k5 : Int) < (N : Int) := by omega
    have hl1 : k5 < C.length := by rw [← hN.out]; exact hlt
    obtain ⟨b, off, cap', hv, -, -, hbl, hx⟩ := HU.out.open (by omega)
    simp only [Value.slice.injEq] at hv
    obtain ⟨rfl, -, rfl⟩ := hv
    obtain ⟨u, h6, hu⟩ := hx k5 hl1
    have y0 := keepc B11.out h6.c0
    have y1 := keepc B11.out h6.c1
    have y2 := keepc B11.out h6.c2
    have y3 := keepc B11.out h6.c3
    have lbr : b < wr.heap.size := Nat.lt_of_lt_of_le hbl B11.out.size
    have HCl := chid (rmem_c q hq w5 G C[k5] (hDc.out k5 hl1) (crunV (memV q) ((C.take k5).map cpord).flatten []).1 u wr HH5.out B11.out hGw.out hu)
    have HCut := chid (crunV_cut (vs := memV q) hl1 HK5.out)
    obtain ⟨au, cu, rfl, -, -⟩ := hu.parts.shape
    clear hx h6 hu
    generalize C[k5] = x at *
    clear hl1
    obtain ⟨xk, xn, xm, xps⟩ := x
    dsimp only at *
    generalize xps.length = L at *
    unfold RMem at HCl
    generalize crunV (memV q) (cpord ⟨xk, xn, xm, xps⟩) (crunV (memV q) ((C.take k5).map cpord).flatten []).1 = qq at *
    go_wp2_with fail
    refine Calls.mono HCl.out ?_
    rintro e w12 ⟨rfl, hh, t2⟩
    have HT6 := chid (cturn_one HT5.out t2)
    have B12w := chid (B11w.out.trans (t2.below (fun b hm => by simp at hm; have := hGw2.out; omega) B11w.out.size))
    have Hh := chid hh
    clear hh t2 y0 y1 y2 y3 HCl
    obtain ⟨qs, qb⟩ := qq
    cases qb with
    | false =>
      have hq0 : Hid (Q = false) := chid (noA.out (HCut.out.2 rfl))
      clear HCut
      simp only []
      go_wp2_with fail
      go_ret
      exact ⟨by rw [hq0.out]; rfl, B12w.out⟩
    | true =>
      have H3 : Hid ((crunV (memV q) ((C.take (k5 + 1)).map cpord).flatten []).2 = true) := by show _ = _; rw [HCut.out.1]
      have H4 : Hid (HeldMs w5 w12 G (crunV (memV q) ((C.take (k5 + 1)).map cpord).flatten []).1) := by rw [HCut.out.1]; exact Hh.out (by first | rfl | trivial)
      clear HCut Hh
      simp only []
      go_wp2_with fail
      go_roundw
      case rel => exact ⟨k5 + 1, by go_num, by omega, H3.out, H4.out, HT6.out⟩
      case measure => simp; omega
  have hlt' : ¬ (k5 : Int) < (N : Int) := by omega
  have hkN : k5 = N := by omega
  have e1 : C.take k5 = C := by rw [hkN, hN.out]; exact List.take_length
  rw [e1] at HK5
  have hq1 : Hid (Q = true) := chid (yes6.out HK5.out)
  clear e1 HK5 HH5 HH0 hkN yes6 noA
  go_wp2_with fail
  go_ret
  exact ⟨by rw [hq1.out]; rfl, B11w.out⟩
end Go.Proofs.YtigldebdljfnbaaDoor
