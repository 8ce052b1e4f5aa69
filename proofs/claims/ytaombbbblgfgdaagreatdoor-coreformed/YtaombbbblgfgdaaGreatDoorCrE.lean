/- The document's Sort, walked. -/
import Derived.Test.YtaombbbblgfgdaaGreatDoorCrC
import Derived.Test.YtaombbbblgfgdaaGreatDoorMgG
namespace Go.Proofs.YtaombbbblgfgdaaGreatDoor
open Go.RowKit

theorem csort_out (wn cn ln : Int) (t : Co) (h : ¬ (1 ≤ t.op ∧ t.op ≤ 32)) : csort ladF wn cn ln t = 0 := by rw [csort_eq, if_neg h]
theorem csort_unfit (wn cn ln : Int) (t : Co) (h : fitsB t.op.toNat wn cn ln t = false) : csort ladF wn cn ln t = 0 := by
  rw [csort_eq]
  split
  · rw [if_neg (by rw [h]; decide)]
  · rfl
theorem ar_ne : ∀ k, 1 ≤ k → k ≤ 32 → (arT.getD k (-2) == -2) = false := op_cases rfl rfl rfl rfl rfl rfl rfl rfl rfl rfl rfl rfl rfl rfl rfl rfl rfl rfl rfl rfl rfl rfl rfl rfl rfl rfl rfl rfl rfl rfl rfl rfl
theorem ar_nat : ∀ k, 1 ≤ k → k ≤ 32 → k ≠ 32 → ∃ q : Nat, q ≤ 3 ∧ arT.getD k (-2) = (q : Int) := by
  have h : ∀ k : Fin 33, 1 ≤ k.val → k.val ≠ 32 → ∃ q : Fin 4, arT.getD k.val (-2) = ((q.val : Nat) : Int) := by decide
  intro k h1 h2 h3
  obtain ⟨q, hq⟩ := h ⟨k, by omega⟩ h1 h3
  exact ⟨q.val, by have := q.isLt; omega, hq⟩
theorem mk_len : ∀ k : Fin 33, ∀ x, mkT.getD k.val none = some x → arT.getD k.val (-2) = (x.2.length : Int) := by
  intro k x h
  have key : (List.range 33).all (fun k => match mkT.getD k none with | some x => arT.getD k (-2) == (x.2.length : Int) | none => true) = true := by decide
  have h1 := List.all_eq_true.1 key k.val (List.mem_range.2 k.isLt)
  rw [h] at h1
  simpa using h1
theorem mkF_len {a : Int} {ts ss : List Int} (h : ss.length ≠ ts.length) : mkF a ts ss = 0 := if_neg (fun e => h (by rw [e]))
theorem csort_len (wn cn ln : Int) (t : Co) (q : Nat) (hq : (q : Int) = arT.getD t.op.toNat (-2)) (h : ¬ t.parts.length = q) : csort ladF wn cn ln t = 0 := by
  rw [csort_eq]
  split
  next hk =>
    split
    next hf =>
      split
      · rfl
      · generalize hs : t.parts.map (csort ladF wn cn ln) = ss
        have hl : ss.length = t.parts.length := by rw [← hs]; simp
        unfold sortF
        have hk33 : t.op.toNat < 33 := by omega
        have hk1 : 1 ≤ t.op.toNat := by omega
        clear hk hf
        generalize t.op.toNat = k at *
        cases hm : mkT.getD k none with
        | some x =>
          have h7 : arT.getD k (-2) = (x.2.length : Int) := mk_len ⟨k, hk33⟩ x hm
          exact mkF_len (by omega)
        | none =>
          rcases mk_none ⟨k, hk33⟩ hk1 hm with e | e | e | e | e <;> dsimp only at e <;> subst e
          · have : (q : Int) = 0 := hq
            show (if ss = [] then t.m else 0) = 0
            exact if_neg (fun e => by rw [e] at hl; simp at hl; omega)
          · have : (q : Int) = 1 := hq
            exact alikeF_no (fun e => by have := e.1; omega)
          · have : (q : Int) = 2 := hq
            exact alikeF_no (fun e => by have := e.1; omega)
          · have : (q : Int) = 3 := hq
            show choiceF ss = 0
            unfold choiceF
            split
            · cases ss with
              | nil => exact alikeF_no (fun e => by have := e.1; simp at this)
              | cons x r => exact alikeF_no (fun e => by have := e.1; simp at this hl; omega)
            · rfl
          · exfalso
            have : (q : Int) = -1 := hq
            omega
    · rfl
  · rfl
def padL (ss : List Int) (j : Nat) : List Value := [.int .i64 (if 0 < j then ss.getD 0 0 else 0), .int .i64 (if 1 < j then ss.getD 1 0 else 0), .int .i64 (if 2 < j then ss.getD 2 0 else 0)]
theorem padL_next (ss : List Int) (j : Nat) (h : j < 3) : (padL ss j).set j (.int .i64 (ss.getD j 0)) = padL ss (j + 1) := by
  have hj : j = 0 ∨ j = 1 ∨ j = 2 := by omega
  rcases hj with rfl | rfl | rfl <;> rfl
theorem pad_cell {w : World} {g : Nat} {ss : List Int} {i j : Nat} (h : Box w g (padL ss i)) (hj : j < 3) : ∃ y, w.cell? ⟨g, j, none⟩ = some (.int .i64 y) ∧ w.frozen? ⟨g, j, none⟩ = false := by
  have hj' : j = 0 ∨ j = 1 ∨ j = 2 := by omega
  rcases hj' with rfl | rfl | rfl
  · exact ⟨_, h.cell 0 _ rfl, h.free 0 hj⟩
  · exact ⟨_, h.cell 1 _ rfl, h.free 1 hj⟩
  · exact ⟨_, h.cell 2 _ rfl, h.free 2 hj⟩
theorem csort_fit (wn cn ln : Int) (t : Co) (k : Nat) (ho : t.op = (k : Int)) (h1 : 1 ≤ k) (h2 : k ≤ 32) (hf : fitsB k wn cn ln t = true) (ss : List Int) (hs : ss = t.parts.map (csort ladF wn cn ln)) : csort ladF wn cn ln t = if ss.contains 0 = true then 0 else sortF ladF k t ss := by
  rw [csort_eq, ho, if_pos ⟨by omega, by omega⟩, Int.toNat_natCast, if_pos hf, hs]
theorem mk_rng : ∀ k : Nat, ∀ x, mkT.getD k none = some x → 1 ≤ x.1 ∧ x.1 ≤ 3 := by
  intro k x h
  rcases Nat.lt_or_ge k 33 with hk | hk
  · have key : (List.range 33).all (fun k => match mkT.getD k none with | some x => decide (1 ≤ x.1 ∧ x.1 ≤ 3) | none => true) = true := by decide
    have h1 := List.all_eq_true.1 key k (List.mem_range.2 hk)
    rw [h] at h1
    exact of_decide_eq_true h1
  · have : mkT.getD k none = none := by rw [List.getD_eq_getElem?_getD, List.getElem?_eq_none (by exact hk)]; rfl
    rw [this] at h
    cases h
theorem alike_rng {q : Nat} {ss : List Int} (h : ∀ x, x ∈ ss → 0 ≤ x ∧ x ≤ 3) : 0 ≤ alikeF q ss ∧ alikeF q ss ≤ 3 := by
  unfold alikeF
  split
  next e =>
    cases ss with
    | nil => exact ⟨by decide, by decide⟩
    | cons x r => exact h x (by simp)
  · exact ⟨by decide, by decide⟩
theorem csort_range (wn cn ln : Int) (t : Co) : 0 ≤ csort ladF wn cn ln t ∧ csort ladF wn cn ln t ≤ 3 := by
  induction t using Co.ind with
  | h t ih =>
    have z : (0 : Int) ≤ 0 ∧ (0 : Int) ≤ 3 := ⟨by decide, by decide⟩
    have hm : ∀ x, x ∈ t.parts.map (csort ladF wn cn ln) → 0 ≤ x ∧ x ≤ 3 := fun x hx => by
      obtain ⟨y, hy, rfl⟩ := List.mem_map.1 hx
      exact ih y hy
    rw [csort_eq]
    split
    next hk =>
      split
      next hf =>
        split
        · exact z
        · unfold sortF
          split
          next x hx =>
            unfold mkF
            split
            · have := mk_rng _ _ hx; omega
            · exact z
          · split
            next h6 =>
              split
              · rw [h6] at hf
                simp [fitsB] at hf
                omega
              · exact z
            · split
              · exact alike_rng hm
              · split
                · exact alike_rng hm
                · split
                  · unfold choiceF
                    split
                    · exact alike_rng (fun x hx => hm x (List.mem_of_mem_tail hx))
                    · exact z
                  · unfold ladF
                    split
                    · exact ⟨by decide, by decide⟩
                    · exact z
      · exact z
    · exact z
theorem one_list {α : Type} : ∀ (c : List α), c.length = 1 → ∃ v0, c = [v0]
  | [v0], _ => ⟨v0, rfl⟩
theorem two_list {α : Type} : ∀ (c : List α), c.length = 2 → ∃ v0 v1, c = [v0, v1]
  | [v0, v1], _ => ⟨v0, v1, rfl⟩
theorem three_list {α : Type} : ∀ (c : List α), c.length = 3 → ∃ v0 v1 v2, c = [v0, v1, v2]
  | [v0, v1, v2], _ => ⟨v0, v1, v2, rfl⟩
theorem ladder_ex (p : Prop) : ∃ T : Bool, (T = true ↔ p) := by
  rcases Classical.em p with h | h
  · exact ⟨true, ⟨fun _ => h, fun _ => rfl⟩⟩
  · exact ⟨false, ⟨fun hh => absurd hh (by simp), fun hh => absurd hh h⟩⟩
theorem csort_lad (wn cn ln : Int) (t : Co) (T : Bool) (ho : t.op = 32) (hf : fitsB 32 wn cn ln t = true) (hT : T = true ↔ LadD t (t.parts.map (csort ladF wn cn ln))) : csort ladF wn cn ln t = if T = true then 3 else 0 := by
  rw [csort_eq, ho, if_pos ⟨by decide, by decide⟩, if_pos (by exact hf)]
  rw [ladD_iff] at hT
  by_cases h0 : (t.parts.map (csort ladF wn cn ln)).contains 0 = true
  · rw [if_pos h0, if_neg (fun h => by have := (hT.1 h).1; rw [h0] at this; cases this)]
  · rw [if_neg h0]
    show ladF t _ = _
    by_cases h1 : LadOk t (t.parts.map (csort ladF wn cn ln))
    · rw [ladF_yes h1, if_pos (hT.2 ⟨by simpa using h0, h1⟩)]
    · rw [ladF_no h1, if_neg (fun h => h1 (hT.1 h).2)]
set_option maxHeartbeats 8000000 in
set_option maxRecDepth 20000 in
theorem rSort_front (wn cn ln : Int) (h64 : C64 wn ∧ C64 cn ∧ C64 ln) (t : Co) (ih : ∀ x, x ∈ t.parts → RSo wn cn ln x) (hF : ∀ k : Nat, t.op = (k : Int) → fitsB k wn cn ln t = true → ¬ k = 32 → ∀ q : Nat, arT.getD k (-2) = (q : Int) → ¬ t.parts.length = q) : RSo wn cn ln t := by
  intro v w hs hn
  have HF := chid hs.fit
  have HI := chid ih
  have HS := chid hs
  have H64 := chid h64
  obtain ⟨ad, cap, rfl, hc1, hc2⟩ := hs.parts.shape
  obtain ⟨L, hL⟩ : ∃ L, Hid (L = t.parts.length) := ⟨_, chid rfl⟩
  rw [← hL.out] at hc1 HS ⊢
  obtain ⟨R, hR⟩ : ∃ R, Hid (R = csort ladF wn cn ln t) := ⟨_, chid rfl⟩
  rw [← hR.out]
  obtain ⟨Y0, Y1, B0⟩ := two_boxes w 74 30 [.int .i64 wn, .int .i64 cn, .int .i64 ln] (coL t (.slice ad L cap))
  obtain ⟨w0, hw0⟩ : ∃ w0, Hid (w0 = (w.alloc (.cells [.int .i64 wn, .int .i64 cn, .int .i64 ln].toArray 74)).alloc (.cells (coL t (.slice ad L cap)).toArray 30)) := ⟨_, chid rfl⟩
  rw [← hw0.out] at Y0 Y1 B0
  have X0 := chid Y0
  have X1 := chid Y1
  have HB0 := chid B0
  clear hs ih h64 Y0 Y1 B0
  have a0 := X0.out.cell 0 _ rfl
  have a1 := X0.out.cell 1 _ rfl
  have a2 := X0.out.cell 2 _ rfl
  have c0 := X1.out.cell 0 _ rfl
  have c1 := X1.out.cell 1 _ rfl
  have c2 := X1.out.cell 2 _ rfl
  have c3 := X1.out.cell 3 _ rfl
  have l0 := X0.out.lt
  have l1 := X1.out.lt
  by_cases hk : 1 ≤ t.op ∧ t.op ≤ 32
  case neg =>
    have h0 : R = 0 := by rw [hR.out]; exact csort_out wn cn ln t hk
    subst h0
    have HAr := chid (arity_out t.op hk)
    clear hk hF
    go_enter Tryz.func30, Tryz.ntmps30
    go_wp2_with fail
    refine Calls.mono (HAr.out _) ?_
    rintro e w1 ⟨rfl, rfl⟩
    rw [← hw0.out]
    go_wp2_with fail
    go_ret
    exact ⟨rfl, HB0.out⟩
  obtain ⟨k, hkk⟩ : ∃ k : Nat, t.op = (k : Int) := ⟨t.op.toNat, by omega⟩
  have HK := chid (show 1 ≤ k ∧ k ≤ 32 by omega)
  obtain ⟨n0, hn0⟩ : ∃ n0, Hid (n0 = arT.getD k (-2)) := ⟨_, chid rfl⟩
  have HAr : Hid (∀ W, Calls Tryz.prog 61 #[.int .i64 t.op] W fun e w' => e = .returned (.int .i64 n0) ∧ w' = W) := by rw [hkk, hn0.out]; exact chid (arity_in k HK.out.1 HK.out.2)
  have HFi := chid (fun W => rfields_c k wn cn ln H64.out t hkk HF.out ad L cap W)
  have hF2 := hF k hkk
  have HKo := chid hkk
  clear hkk hk hF
  by_cases hfit : fitsB k wn cn ln t = true
  case neg =>
    have hfit2 : fitsB k wn cn ln t = false := by simpa using hfit
    have h0 : R = 0 := by rw [hR.out]; exact csort_unfit wn cn ln t (by rw [HKo.out]; exact hfit2)
    subst h0
    rw [hfit2] at HFi
    have e0 : (n0 == -2) = false := by rw [hn0.out]; exact ar_ne k HK.out.1 HK.out.2
    clear hfit hfit2 hF2
    go_enter Tryz.func30, Tryz.ntmps30
    go_wp2_with fail
    refine Calls.mono (HAr.out _) ?_
    rintro e w1 ⟨rfl, rfl⟩
    rw [← hw0.out]
    go_wp2_with fail
    refine Calls.mono (HFi.out _) ?_
    rintro e w5 ⟨rfl, b5⟩
    have HB5 := chid (cbelow_on HB0.out b5 HB0.out.size)
    replace X0 := chid (X0.out.next b5)
    replace X1 := chid (X1.out.next b5)
    clear a0 a1 a2 c0 c1 c2 c3 l0 l1
    clear b5
    have a0 := X0.out.cell 0 _ rfl
    have a1 := X0.out.cell 1 _ rfl
    have a2 := X0.out.cell 2 _ rfl
    have c0 := X1.out.cell 0 _ rfl
    have c1 := X1.out.cell 1 _ rfl
    have c2 := X1.out.cell 2 _ rfl
    have c3 := X1.out.cell 3 _ rfl
    have l0 := X0.out.lt
    have l1 := X1.out.lt
    go_wp2_with fail
    go_ret
    exact ⟨rfl, HB5.out⟩
  rw [hfit] at HFi
  by_cases k32 : k = 32
  case pos =>
    have e0 : n0 = -1 := by rw [hn0.out, k32]; rfl
    subst e0
    obtain ⟨T, hT⟩ : ∃ T : Bool, (T = true ↔ LadD t (t.parts.map (csort ladF wn cn ln))) := ladder_ex _
    have HLd := chid (fun W (hW : Below w.heap.size w W) => rladder_c wn cn ln t hn HI.out _ W (HS.out.parts.next hW) T hT)
    have hRT : Hid (R = if T = true then 3 else 0) := by show _ = _; rw [hR.out]; exact csort_lad wn cn ln t T (by rw [HKo.out, k32]; rfl) (by rw [k32] at hfit; exact hfit) hT
    clear hT hfit k32 hF2
    go_enter Tryz.func30, Tryz.ntmps30
    go_wp2_with fail
    refine Calls.mono (HAr.out _) ?_
    rintro e w1 ⟨rfl, rfl⟩
    rw [← hw0.out]
    go_wp2_with fail
    refine Calls.mono (HFi.out _) ?_
    rintro e w5 ⟨rfl, b5⟩
    have HB5 := chid (cbelow_on HB0.out b5 HB0.out.size)
    replace X0 := chid (X0.out.next b5)
    replace X1 := chid (X1.out.next b5)
    clear a0 a1 a2 c0 c1 c2 c3 l0 l1
    clear b5
    have a0 := X0.out.cell 0 _ rfl
    have a1 := X0.out.cell 1 _ rfl
    have a2 := X0.out.cell 2 _ rfl
    have c0 := X1.out.cell 0 _ rfl
    have c1 := X1.out.cell 1 _ rfl
    have c2 := X1.out.cell 2 _ rfl
    have c3 := X1.out.cell 3 _ rfl
    have l0 := X0.out.lt
    have l1 := X1.out.lt
    go_wp2_with fail
    refine Calls.mono (HLd.out _ HB5.out) ?_
    rintro e w6 ⟨rfl, b6⟩
    have HB6 := chid (cbelow_on HB5.out b6 HB5.out.size)
    clear b6
    clear a0 a1 a2 c0 c1 c2 c3 l0 l1
    cases T
    · have h0 : R = 0 := hRT.out
      subst h0
      go_wp2_with fail
      go_ret
      exact ⟨rfl, HB6.out⟩
    · have h0 : R = 3 := hRT.out
      subst h0
      go_wp2_with fail
      go_ret
      exact ⟨rfl, HB6.out⟩
  obtain ⟨q, hq3, hq⟩ : ∃ q : Nat, q ≤ 3 ∧ n0 = (q : Int) := by rw [hn0.out]; exact ar_nat k HK.out.1 HK.out.2 k32
  have hlen : ¬ L = q := by rw [hL.out]; exact hF2 hfit k32 q (by rw [← hn0.out, hq])
  subst hq
  have h0 : R = 0 := by rw [hR.out]; exact csort_len wn cn ln t q (by rw [HKo.out]; exact hn0.out) (by rw [← hL.out]; exact hlen)
  subst h0
  have e1 : ((L : Int) != (q : Int)) = true := by simp; omega
  clear hF2
  go_enter Tryz.func30, Tryz.ntmps30
  go_wp2_with fail
  refine Calls.mono (HAr.out _) ?_
  rintro e w1 ⟨rfl, rfl⟩
  rw [← hw0.out]
  go_wp2_with fail
  refine Calls.mono (HFi.out _) ?_
  rintro e w5 ⟨rfl, b5⟩
  have HB5 := chid (cbelow_on HB0.out b5 HB0.out.size)
  replace X0 := chid (X0.out.next b5)
  replace X1 := chid (X1.out.next b5)
  clear a0 a1 a2 c0 c1 c2 c3 l0 l1
  clear b5
  have a0 := X0.out.cell 0 _ rfl
  have a1 := X0.out.cell 1 _ rfl
  have a2 := X0.out.cell 2 _ rfl
  have c0 := X1.out.cell 0 _ rfl
  have c1 := X1.out.cell 1 _ rfl
  have c2 := X1.out.cell 2 _ rfl
  have c3 := X1.out.cell 3 _ rfl
  have l0 := X0.out.lt
  have l1 := X1.out.lt
  go_wp2_with fail
  go_ret
  exact ⟨rfl, HB5.out⟩
end Go.Proofs.YtaombbbblgfgdaaGreatDoor
