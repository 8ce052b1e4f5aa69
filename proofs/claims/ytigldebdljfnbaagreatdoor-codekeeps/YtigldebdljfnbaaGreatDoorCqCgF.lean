/- Package core: walk, with any visitor. -/
import Derived.Test.YtigldebdljfnbaaGreatDoorCqMgC
namespace Go.Proofs.YtigldebdljfnbaaGreatDoor
open Go.RowKit

theorem cpord_self (t : Co) : t ∈ cpord t := by rw [cpord_eq]; simp
theorem cpord_part {t x y : Co} (hx : x ∈ t.parts) (hy : y ∈ cpord x) : y ∈ cpord t := by
  rw [cpord_eq]
  exact List.mem_cons_of_mem _ (List.mem_flatten.2 ⟨_, List.mem_map.2 ⟨x, hx, rfl⟩, hy⟩)
abbrev vfV (f : Nat) (q : Array Value) : Value := .func (.func f) #[] q
structure GVis {σ : Type} (W : World) (R : σ → List Nat → World → Prop) (vs : σ → Co → σ × Bool) (G : σ → Prop) (D : Co → Prop) (f : Nat) (q : Array Value) : Prop where
  next : ∀ s F w w', R s F w → Below w.heap.size w w' → R s F w'
  lt : ∀ s F w, R s F w → ∀ b, b ∈ F → W.heap.size ≤ b ∧ b < w.heap.size
  good : ∀ s t, G s → (vs s t).2 = true → G (vs s t).1
  call : ∀ s F t v w, D t → G s → R s F w → Below W.heap.size W w → CSits W t v → Calls Tryz.prog f (#[coV t v] ++ q) w (CVPost R (vs s t) F w)
def GWalk {σ : Type} (W : World) (R : σ → List Nat → World → Prop) (vs : σ → Co → σ × Bool) (f : Nat) (q : Array Value) (G : σ → Prop) (t : Co) : Prop :=
  ∀ (s : σ) (F : List Nat) (v : Value) (w : World), G s → R s F w → Below W.heap.size W w → CSits W t v → Calls Tryz.prog 120 #[coV t v, vfV f q] w (CVPost R (crunV vs (cpord t) s) F w)
section
variable {σ : Type} {W : World} {R : σ → List Nat → World → Prop} {vs : σ → Co → σ × Bool} {G : σ → Prop} {D : Co → Prop} {f : Nat} {q : Array Value}
theorem gwalk1 (t : Co) (ih : GWalk W R vs f q G t) (hV : GVis W R vs G D f q) (s : σ) (F : List Nat) (v : Value) (p : Nat) (w : World) (hG : G s) (hR : R s F w) (hb : Below W.heap.size W w) (hs : CSits W t v) (hp : Box w p [vfV f q]) :
    Calls Tryz.prog 146 #[coV t v, .pointer (some ⟨p, 0, none⟩)] w (CVPost R (crunV vs (cpord t) s) F w) := by
  have A : ∀ o, Below w.heap.size w (w.alloc o) := fun o => (Below.refl _ _).alloc (Nat.le_refl _) _
  have HI := chid (fun o => ih s F v (w.alloc o) hG (hV.next _ _ _ _ hR (A o)) (hb.alloc hb.size o) hs)
  have HA := chid A
  have c0 := hp.cell 0 _ rfl
  have lp := hp.lt
  obtain ⟨ad, cap, rfl, -, -⟩ := hs.parts.shape
  clear ih hV hG hR hb hs hp A
  generalize crunV vs (cpord t) s = Q at *
  go_enter Tryz.func146, Tryz.ntmps146
  go_wp2_with fail
  refine Calls.mono (HI.out _) ?_
  intro e w1 h1
  have h2 := chid (h1.pre (HA.out _))
  obtain ⟨he, -⟩ := h1
  subst he
  go_wp2_with fail
  go_ret
  exact h2.out
set_option maxHeartbeats 1000000 in
theorem gcallAll (l : List Co) (ih : ∀ x, x ∈ l → GWalk W R vs f q G x) (hV : GVis W R vs G D f q) (s : σ) (F : List Nat) (v : Value) (p : Nat) (w : World) (hG : G s) (hR : R s F w) (hb : Below W.heap.size W w) (hs : CAt W v l) (hp : Box w p [vfV f q]) (hpF : p ∉ F) :
    Calls Tryz.prog 145 #[v, .func (.func 146) #[] #[.pointer (some ⟨p, 0, none⟩)]] w (CVPost R (crunV vs (l.map cpord).flatten s) F w) := by
  by_cases hn : l = []
  · subst hn
    obtain ⟨ad, cap, rfl, -, -⟩ := hs.shape
    have h2 : Hid (CVPost R (crunV vs (([] : List Co).map cpord).flatten s) F w (.returned (.bool true)) w) := ⟨rfl, F, hR, Turn.refl _ _, fun b hm => .inl hm⟩
    clear ih hV hG hR hb hs hp hpF
    go_enter Tryz.func145, Tryz.ntmps145
    go_wp2_with fail
    refine wp_loop_rounds 1 ?_
    rw [rounds_succ]
    go_wp2_with fail
    go_ret
    exact h2.out
  · obtain ⟨b, off, cap, rfl, hle, hc, hbl, hx⟩ := hs.open (List.length_pos_iff.2 hn)
    have HX := chid hx
    have HI := chid ih
    have HV := chid hV
    have HG := chid hG
    have HP := chid hp
    have HPF := chid hpF
    have HB := chid hb
    have hbl' : b < w.heap.size := Nat.lt_of_lt_of_le hbl hb.size
    have HR := chid hR
    obtain ⟨N, hN⟩ : ∃ N, Hid (N = l.length) := ⟨_, rfl⟩
    have hpos : 0 < N := by rw [hN.out]; exact List.length_pos_iff.2 hn
    rw [← hN.out] at hle ⊢
    obtain ⟨Q, hQ⟩ : ∃ Q, Hid (Q = crunV vs (l.map cpord).flatten s) := ⟨_, rfl⟩
    rw [← hQ.out]
    clear ih hV hG hR hb hs hp hpF hn hx
    go_enter Tryz.func145, Tryz.ntmps145
    go_wp2_with fail
    go_loopw [9] (fun i wr => ∃ (k : Nat) (F1 : List Nat), i = .int .i64 (k : Nat) ∧ k ≤ N ∧ Hid ((crunV vs ((l.take k).map cpord).flatten s).2 = true) ∧ Hid (R (crunV vs ((l.take k).map cpord).flatten s).1 F1 wr) ∧ Hid (Turn F w wr) ∧ Hid (∀ b, b ∈ F1 → b ∈ F ∨ w.heap.size ≤ b)) (fun i _ => match i with | .int _ p => ((N : Int) - p).toNat | _ => 0)
    case atStart => exact ⟨0, F, rfl, by omega, chid rfl, chid HR.out, Turn.refl _ _, fun b hm => .inl hm⟩
    case round =>
      obtain ⟨k, F1, rfl, hk, HK, HR1, HT1, HF1⟩ := hrel
      by_cases hlt : k < N
      · have hlt' : (k : Int) < (N : Int) := by omega
        have hl1 : k < l.length := by rw [← hN.out]; exact hlt
        obtain ⟨u, h6, hu⟩ := HX.out k hl1
        have FW : ∀ b, b ∈ F → W.heap.size ≤ b := fun b hm => (HV.out.lt _ _ _ HR.out b hm).1
        have HBr := chid (cbelow_turn HB.out HT1.out FW)
        have k6 := h6.keep (w' := wr) (fun j => HBr.out.cell (p := ⟨b, j, none⟩) hbl)
        obtain ⟨c0, c1, c2, c3⟩ := k6
        have lbr : b < wr.heap.size := Nat.lt_of_lt_of_le hbl HBr.out.size
        have HPr := chid (HP.out.turn HT1.out HPF.out)
        have HS2 : Hid (crunV vs ((l.take (k + 1)).map cpord).flatten s = crunV vs (cpord l[k]) (crunV vs ((l.take k).map cpord).flatten s).1) := by
          show _ = _
          rw [cflat_take l k hl1, crunV_append, if_pos HK.out]
        have HQ2 : Hid (Q = if (crunV vs (cpord l[k]) (crunV vs ((l.take k).map cpord).flatten s).1).2 = true then crunV vs ((l.drop (k + 1)).map cpord).flatten (crunV vs (cpord l[k]) (crunV vs ((l.take k).map cpord).flatten s).1).1 else ((crunV vs (cpord l[k]) (crunV vs ((l.take k).map cpord).flatten s).1).1, false)) := by
          show _ = _
          rw [hQ.out, cflat_split l k hl1, crunV_append, if_pos HK.out, crunV_append]
        have HW := chid (fun o => gwalk1 l[k] (HI.out _ (List.getElem_mem hl1)) HV.out (crunV vs ((l.take k).map cpord).flatten s).1 F1 u p (wr.alloc o) (crunV_good HV.out.good _ _ HG.out HK.out) (HV.out.next _ _ _ _ HR1.out ((Below.refl _ _).alloc (Nat.le_refl _) _)) (HBr.out.alloc HBr.out.size o) hu (HPr.out.next ((Below.refl _ _).alloc (Nat.le_refl _) _)))
        obtain ⟨au, cu, rfl, -, -⟩ := hu.parts.shape
        clear h6 hu HX FW
        generalize l[k] = x at *
        clear hl1
        generalize crunV vs (cpord x) (crunV vs ((l.take k).map cpord).flatten s).1 = qq at *
        go_wp2_with fail
        refine Calls.mono (HW.out _) ?_
        intro e w1 h1
        have h2 := chid ((h1.pre ((Below.refl _ _).alloc (Nat.le_refl _) _)).then HT1.out HF1.out)
        obtain ⟨he, -⟩ := h1
        subst he
        obtain ⟨qs, qb⟩ := qq
        cases qb with
        | false =>
          have h3 : Hid (CVPost R Q F w (.returned (.bool false)) w1) := by rw [HQ2.out]; exact h2.out
          clear h2 HQ2 HS2
          simp only []
          go_wp2_with fail
          go_ret
          exact h3.out
        | true =>
          obtain ⟨-, F2, r2, t2, f2⟩ := h2.out
          have H3 : Hid ((crunV vs ((l.take (k + 1)).map cpord).flatten s).2 = true) := by show _ = _; rw [HS2.out]
          have H4 : Hid (R (crunV vs ((l.take (k + 1)).map cpord).flatten s).1 F2 w1) := by rw [HS2.out]; exact r2
          have H5 := chid t2
          have H6 := chid f2
          clear h2 HQ2 HS2 r2 t2 f2
          simp only []
          go_wp2_with fail
          go_roundw
          case rel => exact ⟨k + 1, F2, by go_num, by omega, H3.out, H4.out, H5.out, H6.out⟩
          case measure => simp; omega
      · have hlt' : ¬ (k : Int) < (N : Int) := by omega
        have hkN : k = N := by omega
        subst hkN
        have e1 : l.take k = l := by rw [hN.out]; exact List.take_length
        rw [e1, ← hQ.out] at HK HR1
        have h2 : Hid (CVPost R Q F w (.returned (.bool true)) wr) := ⟨by rw [HK.out], F1, HR1.out, HT1.out, HF1.out⟩
        go_wp2_with fail
        go_ret
        exact h2.out
theorem gwalk_c (hE : Ent f) (hV : GVis W R vs G D f q) (t : Co) : (∀ x, x ∈ cpord t → D x) → GWalk W R vs f q G t := by
  induction t using Co.ind with
  | h t ih0 =>
    intro hD s F v w hG hR hb hs
    have ih : ∀ x, x ∈ t.parts → GWalk W R vs f q G x := fun x hx => ih0 x hx (fun y hy => hD y (cpord_part hx hy))
    have hDt := hD t (cpord_self t)
    clear ih0 hD
    have A : ∀ o o', Below w.heap.size w ((w.alloc o).alloc o') := fun o o' => ((Below.refl _ _).alloc (Nat.le_refl _) _).alloc (by simp) _
    have HC := chid (fun o o' => hV.call s F t v ((w.alloc o).alloc o') hDt hG (hV.next _ _ _ _ hR (A o o')) (hb.trans ((A o o').mono hb.size)) hs)
    have HA := chid A
    have HV := chid hV
    have HI := chid ih
    have HG := chid hG
    have HPa := chid hs.parts
    have HF := chid (fun b (hm : b ∈ F) => hV.lt s F w hR b hm)
    have HB := chid hb
    obtain ⟨ad, cap, rfl, -, -⟩ := hs.parts.shape
    obtain ⟨Q, hQ⟩ : ∃ Q, Hid (Q = crunV vs (cpord t) s) := ⟨_, rfl⟩
    rw [← hQ.out]
    have hQ2 : Hid (Q = if (vs s t).2 = true then crunV vs (t.parts.map cpord).flatten (vs s t).1 else ((vs s t).1, false)) := by
      show _ = _
      rw [hQ.out, cpord_eq]; rfl
    have HGo : Hid ((vs s t).2 = true → G (vs s t).1) := hV.good s t hG
    clear A hV ih hG hR hb hs hQ hDt
    obtain ⟨qq, hq⟩ : ∃ qq, Hid (qq = vs s t) := ⟨_, rfl⟩
    rw [← hq.out] at HC hQ2 HGo
    clear hq
    unfold Ent at hE
    go_enter Tryz.func120, Tryz.ntmps120
    go_wp2_with fail
    refine Calls.mono (HC.out _ _) ?_
    intro e w1 h1
    have h2 := chid (h1.pre (HA.out _ _))
    obtain ⟨he, F1, r1, t1, f1⟩ := h1
    subst he
    obtain ⟨qs, qb⟩ := qq
    cases qb with
    | false =>
      have h3 : Hid (CVPost R Q F w (.returned (.bool false)) w1) := by rw [hQ2.out]; exact h2.out
      clear h2 hQ2 r1 t1 f1
      simp only []
      go_wp2_with fail
      go_ret
      exact h3.out
    | true =>
      have hQ3 : Hid (Q = crunV vs (t.parts.map cpord).flatten qs) := hQ2.out
      obtain ⟨Y0, Y1, -⟩ := two_boxes w 30 94 (coL t (.slice ad t.parts.length cap)) [vfV f q]
      have n0 : w.heap.size ∉ F := fun hm => by have := (HF.out _ hm).2; omega
      have n1 : w.heap.size + 1 ∉ F := fun hm => by have := (HF.out _ hm).2; omega
      have Z0 := Y0.turn t1 n0
      have Z1 := chid (Y1.turn t1 n1)
      have n2 : w.heap.size + 1 ∉ F1 := fun hm => by
        rcases f1 _ hm with k | k
        · exact n1 k
        · simp at k; omega
      have k3 := Z0.cell 3 _ rfl
      have l5 := Z0.lt
      have HB1 : Hid (Below W.heap.size W w1) := cbelow_turn (HB.out.trans ((HA.out _ _).mono HB.out.size)) t1 (fun b hm => (HF.out b hm).1)
      have HAll := chid (gcallAll t.parts HI.out HV.out qs F1 _ (w.heap.size + 1) w1 (HGo.out rfl) r1 HB1.out HPa.out Z1.out n2)
      obtain ⟨-, F2, r2, t2, f2⟩ := h2.out
      have HT := chid ((Turn.of_below (S := F) (HA.out _ _)).trans t1 (fun _ hi => .inl hi))
      have HF1 : Hid (∀ b, b ∈ F1 → b ∈ F ∨ w.heap.size ≤ b) := fun b hm => by
        rcases f1 b hm with k | k
        · exact .inl k
        · exact .inr (by simp at k; omega)
      rw [← hQ3.out] at HAll
      clear h2 hQ2 r1 t1 f1 r2 t2 f2 Y0 Y1 Z0 n0 n1 n2 HGo
      simp only []
      go_wp2_with fail
      refine Calls.mono HAll.out ?_
      intro e w2 h3
      have h4 := chid (h3.then HT.out HF1.out)
      obtain ⟨he, -⟩ := h3
      subst he
      go_wp2_with fail
      go_ret
      exact h4.out
end
end Go.Proofs.YtigldebdljfnbaaGreatDoor
