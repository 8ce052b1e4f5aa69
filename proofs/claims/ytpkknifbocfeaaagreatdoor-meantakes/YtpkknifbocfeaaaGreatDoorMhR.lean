import Derived.Test.YtpkknifbocfeaaaGreatDoorMaC
import Derived.Deep.DeepAppendWide
namespace Go.Proofs.YtpkknifbocfeaaaGreatDoor
open Go.RowKit

/-- The document's clock. -/
def RClk (w : World) (cb : Nat) (c : Int) : Prop := ∃ T bg, Box w cb [.int .i64 T, .bool bg] ∧ ((bg = true ∧ T = c) ∨ (bg = false ∧ c = minI))
theorem knownB_iff {M : Int} {e : EvP} : knownB M e = true ↔ (e.kind = 1 ∧ 0 ≤ e.id ∧ e.id < M) ∨ e.kind = 2 := by
  unfold knownB
  by_cases h : e.kind = 1
  · rw [if_pos h]; simp [h]
  · rw [if_neg h]; simp [h]
set_option maxHeartbeats 4000000 in
set_option maxRecDepth 20000 in
theorem rTakes_c (M c : Int) (e : EvP) (he : EvOk e) (cb : Nat) (w : World) (h : RClk w cb c) :
    Calls Tryz.prog 39 #[.pointer (some ⟨cb, 0, none⟩), evtV e, .int .i64 M] w fun r w' => r = .returned (.bool (takB M c e)) ∧ RClk w' cb (if takB M c e = true then e.time else c) ∧ Turn [cb] w w' := by
  obtain ⟨T, bg, hb, hc⟩ := h
  obtain ⟨R, hR⟩ : ∃ R, Hid (R = takB M c e) := ⟨_, rfl⟩
  rw [← hR.out]
  obtain ⟨C, hC⟩ : ∃ C, Hid (C = if R = true then e.time else c) := ⟨_, rfl⟩
  rw [← hC.out]
  have X0 := Box.new w (evtL e) 51
  have HX := chid X0
  have ba := (Below.refl w.heap.size w).alloc (Nat.le_refl _) (.cells (evtL e).toArray 51)
  have HB := chid (hb.next ba)
  have HT : Hid (Turn [cb] w (w.alloc (.cells (evtL e).toArray 51))) := Turn.of_below ba
  have x0 := X0.cell 0 _ rfl
  have x1 := X0.cell 1 _ rfl
  have x3 := X0.cell 3 _ rfl
  have xl := X0.lt
  have b0 := HB.out.cell 0 _ rfl
  have b1 := HB.out.cell 1 _ rfl
  have f0 := HB.out.free 0 (by simp)
  have f1 := HB.out.free 1 (by simp)
  have bl := HB.out.lt
  have hne : ¬ cb = w.heap.size := by have := hb.lt; omega
  have hne' : ¬ w.heap.size = cb := fun h => hne h.symm
  have t12 := he.time
  unfold C64 at t12
  obtain ⟨ek, ei, ev, et⟩ := e
  dsimp only at *
  have HC := chid hc
  by_cases hk1 : ek = 1
  · subst hk1
    by_cases hi0 : 0 ≤ ei
    · have hi0' : ¬ ei < 0 := by omega
      by_cases hi1 : ei < M
      · have hi1' : ¬ M ≤ ei := by omega
        have hkn : Hid (knownB M ⟨1, ei, ev, et⟩ = true) := chid (knownB_iff.2 (.inl ⟨rfl, hi0, hi1⟩))
        cases bg with
        | false =>
          have hcm : c = minI := by rcases HC.out with ⟨h, -⟩ | ⟨-, h⟩; cases h; exact h
          have hr : Hid (R = true) := chid (by rw [hR.out]; unfold takB; rw [hkn.out, hcm]; simp only [Bool.true_and, Bool.not_eq_true', decide_eq_false_iff_not]; unfold minI; omega)
          have hC2 : Hid (C = et) := chid (by rw [hC.out, hr.out]; simp)
          go_enter Tryz.func39, Tryz.ntmps39
          go_wp2_with fail
          go_quiet (fail)
          go_wp2_with fail
          go_ret
          exact ⟨by rw [hr.out]; rfl, by rw [hC2.out]; exact ⟨et, true, ((HB.out.next (cdrewN (Below.refl _ _) _)).set 0 (by simp) _).set 1 (by simp) _, .inl ⟨rfl, rfl⟩⟩, turn_tr (turn_tr (turn_below HT.out (cdrewN (Below.refl _ _) _)) (Turn.set _ ⟨cb, 0, none⟩ _ (by simp))) (Turn.set _ ⟨cb, 1, none⟩ _ (by simp))⟩
        | true =>
          have hcT : T = c := by rcases HC.out with ⟨-, h⟩ | ⟨h, -⟩; exact h; cases h
          subst hcT
          by_cases hlt : et < T
          · have hr : Hid (R = false) := chid (by rw [hR.out]; unfold takB; rw [hkn.out, decide_eq_true hlt]; rfl)
            have hC2 : Hid (C = T) := chid (by rw [hC.out, hr.out]; simp)
            go_enter Tryz.func39, Tryz.ntmps39
            go_wp2_with fail
            go_quiet (fail)
            go_wp2_with fail
            go_ret
            exact ⟨by rw [hr.out]; rfl, by rw [hC2.out]; exact ⟨T, true, HB.out.next (cdrewN (Below.refl _ _) _), .inl ⟨rfl, rfl⟩⟩, turn_below HT.out (cdrewN (Below.refl _ _) _)⟩
          · have hr : Hid (R = true) := chid (by rw [hR.out]; unfold takB; rw [hkn.out, decide_eq_false hlt]; rfl)
            have hC2 : Hid (C = et) := chid (by rw [hC.out, hr.out]; simp)
            go_enter Tryz.func39, Tryz.ntmps39
            go_wp2_with fail
            go_quiet (fail)
            go_wp2_with fail
            go_ret
            exact ⟨by rw [hr.out]; rfl, by rw [hC2.out]; exact ⟨et, true, ((HB.out.next (cdrewN (Below.refl _ _) _)).set 0 (by simp) _).set 1 (by simp) _, .inl ⟨rfl, rfl⟩⟩, turn_tr (turn_tr (turn_below HT.out (cdrewN (Below.refl _ _) _)) (Turn.set _ ⟨cb, 0, none⟩ _ (by simp))) (Turn.set _ ⟨cb, 1, none⟩ _ (by simp))⟩
      · have hi1' : M ≤ ei := by omega
        have hr : Hid (R = false) := chid (by rw [hR.out]; unfold takB; rw [show knownB M _ = false from by have := mt (knownB_iff (M := M) (e := ⟨1, ei, ev, et⟩)).1; simpa using this (by simp; omega)]; rfl)
        have hC2 : Hid (C = c) := chid (by rw [hC.out, hr.out]; simp)
        go_enter Tryz.func39, Tryz.ntmps39
        go_wp2_with fail
        go_ret
        exact ⟨by rw [hr.out]; rfl, by rw [hC2.out]; exact ⟨T, bg, HB.out, HC.out⟩, HT.out⟩
    · have hi0' : ei < 0 := by omega
      have hr : Hid (R = false) := chid (by rw [hR.out]; unfold takB; rw [show knownB M _ = false from by have := mt (knownB_iff (M := M) (e := ⟨1, ei, ev, et⟩)).1; simpa using this (by simp; omega)]; rfl)
      have hC2 : Hid (C = c) := chid (by rw [hC.out, hr.out]; simp)
      go_enter Tryz.func39, Tryz.ntmps39
      go_wp2_with fail
      go_ret
      exact ⟨by rw [hr.out]; rfl, by rw [hC2.out]; exact ⟨T, bg, HB.out, HC.out⟩, HT.out⟩
  · have k1 : (ek == 1) = false := by simpa using hk1
    have k1' : (ek != 1) = true := by simpa using hk1
    by_cases hk2 : ek = 2
    · subst hk2
      have hkn : Hid (knownB M ⟨2, ei, ev, et⟩ = true) := chid (knownB_iff.2 (.inr rfl))
      cases bg with
      | false =>
        have hcm : c = minI := by rcases HC.out with ⟨h, -⟩ | ⟨-, h⟩; cases h; exact h
        have hr : Hid (R = true) := chid (by rw [hR.out]; unfold takB; rw [hkn.out, hcm]; simp only [Bool.true_and, Bool.not_eq_true', decide_eq_false_iff_not]; unfold minI; omega)
        have hC2 : Hid (C = et) := chid (by rw [hC.out, hr.out]; simp)
        go_enter Tryz.func39, Tryz.ntmps39
        go_wp2_with fail
        go_quiet (fail)
        go_wp2_with fail
        go_ret
        exact ⟨by rw [hr.out]; rfl, by rw [hC2.out]; exact ⟨et, true, ((HB.out.next (cdrewN (Below.refl _ _) _)).set 0 (by simp) _).set 1 (by simp) _, .inl ⟨rfl, rfl⟩⟩, turn_tr (turn_tr (turn_below HT.out (cdrewN (Below.refl _ _) _)) (Turn.set _ ⟨cb, 0, none⟩ _ (by simp))) (Turn.set _ ⟨cb, 1, none⟩ _ (by simp))⟩
      | true =>
        have hcT : T = c := by rcases HC.out with ⟨-, h⟩ | ⟨h, -⟩; exact h; cases h
        subst hcT
        by_cases hlt : et < T
        · have hr : Hid (R = false) := chid (by rw [hR.out]; unfold takB; rw [hkn.out, decide_eq_true hlt]; rfl)
          have hC2 : Hid (C = T) := chid (by rw [hC.out, hr.out]; simp)
          go_enter Tryz.func39, Tryz.ntmps39
          go_wp2_with fail
          go_quiet (fail)
          go_wp2_with fail
          go_ret
          exact ⟨by rw [hr.out]; rfl, by rw [hC2.out]; exact ⟨T, true, HB.out.next (cdrewN (Below.refl _ _) _), .inl ⟨rfl, rfl⟩⟩, turn_below HT.out (cdrewN (Below.refl _ _) _)⟩
        · have hr : Hid (R = true) := chid (by rw [hR.out]; unfold takB; rw [hkn.out, decide_eq_false hlt]; rfl)
          have hC2 : Hid (C = et) := chid (by rw [hC.out, hr.out]; simp)
          go_enter Tryz.func39, Tryz.ntmps39
          go_wp2_with fail
          go_quiet (fail)
          go_wp2_with fail
          go_ret
          exact ⟨by rw [hr.out]; rfl, by rw [hC2.out]; exact ⟨et, true, ((HB.out.next (cdrewN (Below.refl _ _) _)).set 0 (by simp) _).set 1 (by simp) _, .inl ⟨rfl, rfl⟩⟩, turn_tr (turn_tr (turn_below HT.out (cdrewN (Below.refl _ _) _)) (Turn.set _ ⟨cb, 0, none⟩ _ (by simp))) (Turn.set _ ⟨cb, 1, none⟩ _ (by simp))⟩
    · have k2' : (ek != 2) = true := by simpa using hk2
      have hr : Hid (R = false) := chid (by rw [hR.out]; unfold takB; rw [show knownB M _ = false from by have := mt (knownB_iff (M := M) (e := ⟨ek, ei, ev, et⟩)).1; simpa using this (by simp; omega)]; rfl)
      have hC2 : Hid (C = c) := chid (by rw [hC.out, hr.out]; simp)
      go_enter Tryz.func39, Tryz.ntmps39
      go_wp2_with fail
      go_ret
      exact ⟨by rw [hr.out]; rfl, by rw [hC2.out]; exact ⟨T, bg, HB.out, HC.out⟩, HT.out⟩

set_option maxHeartbeats 4000000 in
set_option maxRecDepth 20000 in
theorem rTaken_c (M : Int) (l : List EvP) (u : Value) (w : World) (hE : EvsAt w u l) (hok : ∀ e, e ∈ l → EvOk e) (hL : l.length * 32 ≤ 140737488355328) :
    Calls Tryz.prog 16 #[.int .i64 M, u] w fun r w' => ∃ x, r = .returned x ∧ w'.ownsRow w.heap.size 51 4 x (takenF M l).length (flE (takenF M l)) ∧ Below w.heap.size w w' := by
  obtain ⟨ad, cap, rfl, hle, hcap, hp⟩ := hE
  obtain ⟨N, hNn⟩ : ∃ N, Hid (N = l.length) := ⟨_, rfl⟩
  rw [← hNn.out] at hL hle hp ⊢
  have HP := chid hp
  have HOk := chid hok
  obtain ⟨i0, hi, hz0, hz1, hz2⟩ := info_ev'
  have X0 := chid (Box.new w [.int .i64 0, .bool false] 90)
  have B0 := chid ((Below.refl w.heap.size w).alloc (Nat.le_refl _) (.cells #[.int .i64 0, .bool false] 90))
  have hs0 : (w.alloc (.cells #[.int .i64 0, .bool false] 90)).heap.size = w.heap.size + 1 := by simp
  clear hp hok
  go_enter Tryz.func16, Tryz.ntmps16
  go_wp2_with fail
  generalize hw0 : w.alloc _ = w0 at *
  clear hw0
  have HR0 : Hid (RClk w0 w.heap.size minI) := ⟨0, false, X0.out, .inr ⟨rfl, rfl⟩⟩
  go_loopw [5, 7] (fun o i wr => ∃ (k : Nat), i = .int .i64 (k : Nat) ∧ k ≤ N ∧ Hid (wr.ownsRow (w.heap.size + 1) 51 4 o (takK M l k).length (flE (takK M l k))) ∧ Hid (RClk wr w.heap.size (clkK M l k)) ∧ Hid (Turn [w.heap.size] w0 wr)) (fun _ i _ => match i with | .int _ z => ((N : Int) - z).toNat | _ => 0)
  case atStart => exact ⟨0, rfl, by omega, World.ownsRow_nil _ _ _ _, HR0, Turn.refl _ _⟩
  case round =>
    obtain ⟨k, rfl, hk, HO, HC, HT⟩ := hrel
    have HBr : Hid (Below w.heap.size w wr) := by
      have b := B0.out
      have t := HT.out
      exact chid ⟨t.os.trans b.os, t.tape.trans b.tape, t.output.trans b.output, Nat.le_trans b.size t.size, fun q hq => (t.block q (Nat.lt_of_lt_of_le hq b.size) (by simp; omega)).trans (b.block q hq)⟩
    obtain ⟨oa, oc, rfl⟩ := own_shape HO.out
    by_cases hlt : k < N
    · have hlt' : (k : Int) < (N : Int) := by omega
      have hl1 : k < l.length := by rw [← hNn.out]; exact hlt
      obtain ⟨b, off, e, hbl, hx⟩ : ∃ b off, ad = some ⟨b, off, none⟩ ∧ b < w.heap.size ∧ ∀ i, i < N → ∀ j x, (evtL (l.getD i ev0))[j]? = some x → w.cell? ⟨b, off + i * 4 + j, none⟩ = some x := by
        rcases HP.out with h | h
        · omega
        · exact h
      subst e
      have hgd : l.getD k ev0 = l[k] := by simp [List.getD, hl1]
      have c0 := hx k hlt 0 _ rfl
      have c1 := hx k hlt 1 _ rfl
      have c2 := hx k hlt 2 _ rfl
      have c3 := hx k hlt 3 _ rfl
      rw [hgd] at c0 c1 c2 c3
      rw [Nat.add_zero] at c0
      have y0 := keepc HBr.out c0
      have y1 := keepc HBr.out c1
      have y2 := keepc HBr.out c2
      have y3 := keepc HBr.out c3
      have lb : b < wr.heap.size := Nat.lt_of_lt_of_le hbl HBr.out.size
      have HTk := chid (fun W h => rTakes_c M (clkK M l k) l[k] (HOk.out _ (List.getElem_mem hl1)) w.heap.size W h)
      have HTs := chid (takK_succ M l k hl1)
      have HCs := chid (clkK_succ M l k hl1)
      have HKl := chid (takK_len M l k)
      generalize l[k] = e at *
      clear hx hgd
      go_wp2_with fail
      refine Calls.mono (HTk.out _ HC.out) ?_
      rintro r w2 ⟨rfl, hc2, t2⟩
      obtain ⟨tk, htk⟩ : ∃ tk, Hid (takB M (clkK M l k) e = tk) := ⟨_, rfl⟩
      rw [htk.out] at HTs HCs hc2 ⊢
      have HC2 := chid hc2
      have HT2 := chid (turn_tr HT.out t2)
      have hzt := HT.out.size
      have HO2 : Hid (w2.ownsRow (w.heap.size + 1) 51 4 (.slice oa (takK M l k).length oc) (takK M l k).length (flE (takK M l k))) := own_kept HO.out (grown_turn t2) (fun r e2 h => by cases e2; have := (own_typed HO.out h).1; omega)
      have B2 : Hid (Below w.heap.size w w2) := by
        have b := HBr.out
        exact chid ⟨t2.os.trans b.os, t2.tape.trans b.tape, t2.output.trans b.output, Nat.le_trans b.size t2.size, fun q hq => (t2.block q (Nat.lt_of_lt_of_le hq b.size) (by simp; omega)).trans (b.block q hq)⟩
      clear hc2 t2 y0 y1 y2 y3 lb HO HC
      cases tk with
      | false =>
        have q1 : Hid (takK M l (k + 1) = takK M l k) := chid (by rw [HTs.out]; simp)
        have q2 : Hid (clkK M l (k + 1) = clkK M l k) := chid (by rw [HCs.out]; simp)
        go_wp2_with fail
        go_roundw
        case rel => exact ⟨k + 1, by go_num, by omega, by rw [q1.out]; exact HO2, by rw [q2.out]; exact chid (by simpa using HC2.out), HT2⟩
        case measure => simp; omega
      | true =>
        have q1 : Hid (takK M l (k + 1) = takK M l k ++ [e]) := chid (by rw [HTs.out]; simp)
        have q2 : Hid (clkK M l (k + 1) = e.time) := chid (by rw [HCs.out]; simp)
        have z0 := keepc B2.out c0
        have z1 := keepc B2.out c1
        have z2 := keepc B2.out c2
        have z3 := keepc B2.out c3
        have lb : b < w2.heap.size := Nat.lt_of_lt_of_le hbl B2.out.size
        have hkl := HKl.out
        have hz3 := HT2.out.size
        go_wp2_with (at_builtin; refine wpList_append_own_wide _ rfl _ _ 46 rfl (w.heap.size + 1) 51 i0 (evtV ev0) 4 32 Tryz.underlying46 hi hz0 hz1 hz2 rfl (by decide) _ _ _ rfl (HO2.out.alloc _) ⟨_, 0, none⟩ 1 1 (evtL e) rfl rfl (by exact ma_new_cells' _ _ _ _ rfl) (by intro u hu; simp only [List.mem_cons, List.not_mem_nil, or_false] at hu; rcases hu with rfl | rfl | rfl | rfl <;> rfl) (by unfold maxLen; omega) (by omega) (by simp; omega) ?_)
        intro v3 w3 ho3 hg3 _
        have q3 : Hid (w3.ownsRow (w.heap.size + 1) 51 4 v3 (takK M l (k + 1)).length (flE (takK M l (k + 1)))) := by rw [q1.out, flE_snoc, List.length_append]; exact chid ho3
        have hne : some w.heap.size ≠ (Value.slice oa (takK M l k).length oc).ownBlock := fun e2 => by have := (own_typed HO2.out e2.symm).1; omega
        have q4 : Hid (RClk w3 w.heap.size (clkK M l (k + 1))) := by
          rw [q2.out]
          obtain ⟨T, bg, hb, hc⟩ := HC2.out
          have hb2 := hb.next ((Below.refl w2.heap.size w2).alloc (Nat.le_refl _) (.cells (evtL e).toArray 51))
          have he := hg3.block w.heap.size hb2.lt hne
          exact chid ⟨T, bg, ⟨fun i v hv => (World.cell?_of_block (a := ⟨w.heap.size, i, none⟩) he).trans (hb2.cell i v hv), fun i hi => (World.frozen?_of_block (a := ⟨w.heap.size, i, none⟩) he).trans (hb2.free i hi), Nat.lt_of_lt_of_le hb2.lt hg3.size⟩, by simpa using hc⟩
        have q5 : Hid (Turn [w.heap.size] w0 w3) := by
          have t := HT2.out
          have al := (Below.refl w2.heap.size w2).alloc (Nat.le_refl _) (.cells (evtL e).toArray 51)
          exact chid ⟨hg3.os.trans (al.os.trans t.os), hg3.tape.trans (al.tape.trans t.tape), hg3.output.trans (al.output.trans t.output), Nat.le_trans t.size (Nat.le_trans al.size hg3.size), fun q hq hn => (hg3.block q (Nat.lt_of_lt_of_le (Nat.lt_of_lt_of_le hq t.size) al.size) (fun e2 => by have := (own_typed HO2.out e2.symm).1; have hq' := hq; rw [hs0] at hq'; omega)).trans ((al.block q (Nat.lt_of_lt_of_le hq t.size)).trans (t.block q hq hn))⟩
        obtain ⟨va, vc, rfl⟩ := own_shape ho3
        clear ho3 hg3 z0 z1 z2 z3 lb
        go_wp2_with fail
        go_roundw
        case rel => exact ⟨k + 1, by go_num, by omega, q3, q4, q5⟩
        case measure => simp; omega
    · have hkN : k = N := by omega
      have hE : Hid (takK M l k = takenF M l) := chid (by rw [hkN, hNn.out]; exact takK_all M l)
      rw [hE.out] at HO ⊢
      go_wp2_with fail
      go_ret
      exact ⟨_, rfl, own_low _ HO.out (by omega), HBr.out⟩

set_option maxHeartbeats 4000000 in
set_option maxRecDepth 20000 in
theorem same17_c (l : List EvP) (u v : Value) (w : World) (hu : EvsAt w u l) (hv : EvsAt w v l) : Calls Tryz.prog 18 #[u, v] w fun r w' => r = .returned (.bool true) ∧ Below w.heap.size w w' := by
  have HU := chid hu
  have HV := chid hv
  obtain ⟨ad, cap, rfl, h1, h2, -⟩ := hu
  obtain ⟨ad', cap', rfl, h1', h2', -⟩ := hv
  obtain ⟨N, hN⟩ : ∃ N, Hid (N = l.length) := ⟨_, rfl⟩
  have HU2 : Hid (RowsK w (.slice ad l.length cap) l.length 4 (fun i => evtL (l.getD i ev0))) := HU.out
  have HV2 : Hid (RowsK w (.slice ad' l.length cap') l.length 4 (fun i => evtL (l.getD i ev0))) := HV.out
  rw [← hN.out] at h1 h1' HU2 HV2 ⊢
  clear HU HV
  go_enter Tryz.func18, Tryz.ntmps18
  go_wp2_with fail
  go_loopw [5] (fun i wr => ∃ k : Nat, i = .int .i64 (k : Nat) ∧ k ≤ N ∧ Hid (Below w.heap.size w wr)) (fun i _ => match i with | .int _ z => ((N : Int) - z).toNat | _ => 0)
  case atStart => exact ⟨0, rfl, by omega, Below.refl _ _⟩
  case round =>
    obtain ⟨k, rfl, hk, HB⟩ := hrel
    by_cases hlt : k < N
    · have hlt' : (k : Int) < (N : Int) := by omega
      obtain ⟨b, off, cap2, hv, hle, -, hbl, hx⟩ := RowsK.open HU2.out (by omega)
      obtain ⟨b', off', cap2', hv', hle', -, hbl', hx'⟩ := RowsK.open HV2.out (by omega)
      simp only [Value.slice.injEq] at hv hv'
      obtain ⟨rfl, -, rfl⟩ := hv
      obtain ⟨rfl, -, rfl⟩ := hv'
      have lb : b < wr.heap.size := Nat.lt_of_lt_of_le hbl HB.out.size
      have lb' : b' < wr.heap.size := Nat.lt_of_lt_of_le hbl' HB.out.size
      have z0 := keepc HB.out (hx k hlt 0 _ rfl)
      have z1 := keepc HB.out (hx k hlt 1 _ rfl)
      have z2 := keepc HB.out (hx k hlt 2 _ rfl)
      have z3 := keepc HB.out (hx k hlt 3 _ rfl)
      have t0 := keepc HB.out (hx' k hlt 0 _ rfl)
      have t1 := keepc HB.out (hx' k hlt 1 _ rfl)
      have t2 := keepc HB.out (hx' k hlt 2 _ rfl)
      have t3 := keepc HB.out (hx' k hlt 3 _ rfl)
      clear hx hx'
      rw [Nat.add_zero] at z0 t0
      go_wp2_with fail
      go_quiet (fail)
      go_wp2_with fail
      go_roundw
      case rel => exact ⟨k + 1, by go_num, by omega, chid (cdrewN HB.out _)⟩
      case measure => simp; omega
    · have hlt' : ¬ (k : Int) < (N : Int) := by omega
      go_wp2_with fail
      go_ret
      exact ⟨rfl, HB.out⟩
end Go.Proofs.YtpkknifbocfeaaaGreatDoor
