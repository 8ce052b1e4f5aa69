/- Package tree: walk, with the visitor of Nodes. -/
import Derived.Test.YtdikeicnefgjcaaDoorTrV
namespace Go.Proofs.YtdikeicnefgjcaaDoor
open Go.RowKit

abbrev fvC (g : Nat) : Value := .func (.func 38) #[] #[.pointer (some ⟨g, 0, none⟩)]
/-- The visitor does as vs says. -/
structure VisC {σ : Type} (z : Nat) (W : World) (R : σ → List Nat → World → Prop) (vs : σ → Tm → σ × Bool) (G : σ → Prop) (g : Nat) : Prop where
  next : ∀ s F w w', R s F w → Below w.heap.size w w' → R s F w'
  lt : ∀ s F w, R s F w → ∀ b, b ∈ F → W.heap.size ≤ b ∧ b < w.heap.size
  good : ∀ s t, G s → (vs s t).2 = true → G (vs s t).1
  call : ∀ s F t v w, G s → R s F w → Below W.heap.size W w → Sits z W t v → Calls Tryd.prog 38 #[tmV t v, .pointer (some ⟨g, 0, none⟩)] w (VPost R (vs s t) F w)
theorem below_turn {W w w' : World} {F : List Nat} (hb : Below W.heap.size W w) (t : Turn F w w') (hF : ∀ b, b ∈ F → W.heap.size ≤ b) : Below W.heap.size W w' :=
  hb.trans (t.below hF hb.size)
def WalkC {σ : Type} (z : Nat) (W : World) (R : σ → List Nat → World → Prop) (vs : σ → Tm → σ × Bool) (G : σ → Prop) (g : Nat) (t : Tm) : Prop :=
  ∀ (s : σ) (F : List Nat) (v : Value) (w : World), G s → R s F w → Below W.heap.size W w → Sits z W t v → Calls Tryd.prog 37 #[tmV t v, fvC g] w (VPost R (runV vs (pord t) s) F w)
section
variable {σ : Type} {z : Nat} {W : World} {R : σ → List Nat → World → Prop} {vs : σ → Tm → σ × Bool} {G : σ → Prop} {g : Nat}
theorem walk1C (t : Tm) (ih : WalkC z W R vs G g t) (hV : VisC z W R vs G g) (s : σ) (F : List Nat) (v : Value) (p : Nat) (w : World) (hG : G s) (hR : R s F w) (hb : Below W.heap.size W w) (hs : Sits z W t v) (hp : Box w p [fvC g]) :
    Calls Tryd.prog 64 #[tmV t v, .pointer (some ⟨p, 0, none⟩)] w (VPost R (runV vs (pord t) s) F w) := by
  have A : ∀ o, Below w.heap.size w (w.alloc o) := fun o => (Below.refl _ _).alloc (Nat.le_refl _) _
  have HI := hid2 (fun o => ih s F v (w.alloc o) hG (hV.next _ _ _ _ hR (A o)) (hb.alloc hb.size o) hs)
  have HA := hid2 A
  have c0 := hp.cell 0 _ rfl
  have lp := hp.lt
  obtain ⟨ad, cap, rfl, -, -⟩ := hs.parts.shape
  clear ih hV hG hR hb hs hp A
  generalize runV vs (pord t) s = Q at *
  go_enter Tryd.func64, Tryd.ntmps64
  go_wp2_with fail
  refine Calls.mono (HI.out _) ?_
  intro e w1 h1
  have h2 := hid2 (h1.pre (HA.out _))
  obtain ⟨he, -⟩ := h1
  subst he
  go_wp2_with fail
  go_ret
  exact h2.out
set_option maxHeartbeats 1000000 in
theorem allC (l : List Tm) (ih : ∀ x, x ∈ l → WalkC z W R vs G g x) (hV : VisC z W R vs G g) (s : σ) (F : List Nat) (v : Value) (p : Nat) (w : World) (hG : G s) (hR : R s F w) (hb : Below W.heap.size W w) (hs : PAt z W v l) (hp : Box w p [fvC g]) (hpF : p ∉ F) :
    Calls Tryd.prog 63 #[v, .func (.func 64) #[] #[.pointer (some ⟨p, 0, none⟩)]] w (VPost R (runV vs (l.map pord).flatten s) F w) := by
  by_cases hn : l = []
  · subst hn
    obtain ⟨ad, cap, rfl, -, -⟩ := hs.shape
    have h2 : Hid (VPost R (runV vs (([] : List Tm).map pord).flatten s) F w (.returned (.bool true)) w) := ⟨rfl, F, hR, Turn.refl _ _, fun b hm => .inl hm⟩
    clear ih hV hG hR hb hs hp hpF
    go_enter Tryd.func63, Tryd.ntmps63
    go_wp2_with fail
    refine wp_loop_rounds 1 ?_
    rw [rounds_succ]
    go_wp2_with fail
    go_ret
    exact h2.out
  · obtain ⟨b, off, cap, rfl, hle, hc, hbl, hx⟩ := hs.open (List.length_pos_iff.2 hn)
    have HX := hid2 hx
    have HI := hid2 ih
    have HV := hid2 hV
    have HG := hid2 hG
    have HP := hid2 hp
    have HPF := hid2 hpF
    have HB := hid2 hb
    have hbl' : b < w.heap.size := Nat.lt_of_lt_of_le hbl hb.size
    have HR := hid2 hR
    obtain ⟨N, hN⟩ : ∃ N, Hid (N = l.length) := ⟨_, rfl⟩
    have hpos : 0 < N := by rw [hN.out]; exact List.length_pos_iff.2 hn
    rw [← hN.out] at hle ⊢
    obtain ⟨Q, hQ⟩ : ∃ Q, Hid (Q = runV vs (l.map pord).flatten s) := ⟨_, rfl⟩
    rw [← hQ.out]
    clear ih hV hG hR hb hs hp hpF hn hx
    go_enter Tryd.func63, Tryd.ntmps63
    go_wp2_with fail
    go_loopw [9] (fun i wr => ∃ (k : Nat) (F1 : List Nat), i = .int .i64 (k : Nat) ∧ k ≤ N ∧ Hid ((runV vs ((l.take k).map pord).flatten s).2 = true) ∧ Hid (R (runV vs ((l.take k).map pord).flatten s).1 F1 wr) ∧ Hid (Turn F w wr) ∧ Hid (∀ b, b ∈ F1 → b ∈ F ∨ w.heap.size ≤ b)) (fun i _ => match i with | .int _ p => ((N : Int) - p).toNat | _ => 0)
    case atStart => exact ⟨0, F, rfl, by omega, hid2 rfl, hid2 HR.out, Turn.refl _ _, fun b hm => .inl hm⟩
    case round =>
      obtain ⟨k, F1, rfl, hk, HK, HR1, HT1, HF1⟩ := hrel
      by_cases hlt : k < N
      · have hlt' : (k : Int) < (N : Int) := by omega
        have hl1 : k < l.length := by rw [← hN.out]; exact hlt
        obtain ⟨u, h6, hu⟩ := HX.out k hl1
        have FW : ∀ b, b ∈ F → W.heap.size ≤ b := fun b hm => (HV.out.lt _ _ _ HR.out b hm).1
        have HBr := hid2 (below_turn HB.out HT1.out FW)
        have k6 := h6.keep (w' := wr) (fun q => HBr.out.cell (p := ⟨b, q, none⟩) hbl)
        obtain ⟨c0, c1, c2, c3, c4, c5⟩ := k6
        have lbr : b < wr.heap.size := Nat.lt_of_lt_of_le hbl HBr.out.size
        have HPr := hid2 (HP.out.turn HT1.out HPF.out)
        have HS2 : Hid (runV vs ((l.take (k + 1)).map pord).flatten s = runV vs (pord l[k]) (runV vs ((l.take k).map pord).flatten s).1) := by
          show _ = _
          rw [flat_take l k hl1, runV_append, if_pos HK.out]
        have HQ2 : Hid (Q = if (runV vs (pord l[k]) (runV vs ((l.take k).map pord).flatten s).1).2 = true then runV vs ((l.drop (k + 1)).map pord).flatten (runV vs (pord l[k]) (runV vs ((l.take k).map pord).flatten s).1).1 else ((runV vs (pord l[k]) (runV vs ((l.take k).map pord).flatten s).1).1, false)) := by
          show _ = _
          rw [hQ.out, flat_split l k hl1, runV_append, if_pos HK.out, runV_append]
        have HW := hid2 (fun o => walk1C l[k] (HI.out _ (List.getElem_mem hl1)) HV.out (runV vs ((l.take k).map pord).flatten s).1 F1 u p (wr.alloc o) (runV_good HV.out.good _ _ HG.out HK.out) (HV.out.next _ _ _ _ HR1.out ((Below.refl _ _).alloc (Nat.le_refl _) _)) (HBr.out.alloc HBr.out.size o) hu (HPr.out.next ((Below.refl _ _).alloc (Nat.le_refl _) _)))
        obtain ⟨au, cu, rfl, -, -⟩ := hu.parts.shape
        clear h6 hu HX FW
        generalize l[k] = x at *
        clear hl1
        generalize runV vs (pord x) (runV vs ((l.take k).map pord).flatten s).1 = q at *
        go_wp2_with fail
        refine Calls.mono (HW.out _) ?_
        intro e w1 h1
        have h2 := hid2 ((h1.pre ((Below.refl _ _).alloc (Nat.le_refl _) _)).then HT1.out HF1.out)
        obtain ⟨he, -⟩ := h1
        subst he
        obtain ⟨qs, qb⟩ := q
        cases qb with
        | false =>
          have h3 : Hid (VPost R Q F w (.returned (.bool false)) w1) := by rw [HQ2.out]; exact h2.out
          clear h2 HQ2 HS2
          simp only []
          go_wp2_with fail
          go_ret
          exact h3.out
        | true =>
          obtain ⟨-, F2, r2, t2, f2⟩ := h2.out
          have H3 : Hid ((runV vs ((l.take (k + 1)).map pord).flatten s).2 = true) := by show _ = _; rw [HS2.out]
          have H4 : Hid (R (runV vs ((l.take (k + 1)).map pord).flatten s).1 F2 w1) := by rw [HS2.out]; exact r2
          have H5 := hid2 t2
          have H6 := hid2 f2
          clear h2 HQ2 HS2 r2 t2 f2
          simp only []
          go_wp2_with fail
          go_roundw
          case rel => exact ⟨k + 1, F2, by go_num, by omega, H3.out, H4.out, H5.out, H6.out⟩
          case measure => simp; omega
      · have hlt' : ¬ (k : Int) < (N : Int) := by omega
        have hkN : k = N := by omega
        subst hkN
        have e1 : l.take k = l := by rw [hN.out]; exact List.take_length
        rw [e1, ← hQ.out] at HK HR1
        have h2 : Hid (VPost R Q F w (.returned (.bool true)) wr) := ⟨by rw [HK.out], F1, HR1.out, HT1.out, HF1.out⟩
        go_wp2_with fail
        go_ret
        exact h2.out
theorem walkC (hV : VisC z W R vs G g) (t : Tm) : WalkC z W R vs G g t := by
  induction t using Tm.ind with
  | h t ih =>
    intro s F v w hG hR hb hs
    have A : ∀ o o', Below w.heap.size w ((w.alloc o).alloc o') := fun o o' => ((Below.refl _ _).alloc (Nat.le_refl _) _).alloc (by simp) _
    have HC := hid2 (fun o o' => hV.call s F t v ((w.alloc o).alloc o') hG (hV.next _ _ _ _ hR (A o o')) (hb.trans ((A o o').mono hb.size)) hs)
    have HA := hid2 A
    have HV := hid2 hV
    have HI := hid2 ih
    have HG := hid2 hG
    have HPa := hid2 hs.parts
    have HF := hid2 (fun b (hm : b ∈ F) => hV.lt s F w hR b hm)
    have HB := hid2 hb
    obtain ⟨ad, cap, rfl, -, -⟩ := hs.parts.shape
    obtain ⟨Q, hQ⟩ : ∃ Q, Hid (Q = runV vs (pord t) s) := ⟨_, rfl⟩
    rw [← hQ.out]
    have hQ2 : Hid (Q = if (vs s t).2 = true then runV vs (t.parts.map pord).flatten (vs s t).1 else ((vs s t).1, false)) := by
      show _ = _
      rw [hQ.out, pord_eq]; rfl
    have HGo : Hid ((vs s t).2 = true → G (vs s t).1) := hV.good s t hG
    clear A hV ih hG hR hb hs hQ
    obtain ⟨q, hq⟩ : ∃ q, Hid (q = vs s t) := ⟨_, rfl⟩
    rw [← hq.out] at HC hQ2 HGo
    clear hq
    go_enter Tryd.func37, Tryd.ntmps37
    go_wp2_with fail
    refine Calls.mono (HC.out _ _) ?_
    intro e w1 h1
    have h2 := hid2 (h1.pre (HA.out _ _))
    obtain ⟨he, F1, r1, t1, f1⟩ := h1
    subst he
    obtain ⟨qs, qb⟩ := q
    cases qb with
    | false =>
      have h3 : Hid (VPost R Q F w (.returned (.bool false)) w1) := by rw [hQ2.out]; exact h2.out
      clear h2 hQ2 r1 t1 f1
      simp only []
      go_wp2_with fail
      go_ret
      exact h3.out
    | true =>
      have hQ3 : Hid (Q = runV vs (t.parts.map pord).flatten qs) := hQ2.out
      obtain ⟨Y0, Y1, -⟩ := two_boxes w 24 26 (tmL t (.slice ad t.parts.length cap)) [fvC g]
      have n0 : w.heap.size ∉ F := fun hm => by have := (HF.out _ hm).2; omega
      have n1 : w.heap.size + 1 ∉ F := fun hm => by have := (HF.out _ hm).2; omega
      have Z0 := Y0.turn t1 n0
      have Z1 := hid2 (Y1.turn t1 n1)
      have n2 : w.heap.size + 1 ∉ F1 := fun hm => by
        rcases f1 _ hm with k | k
        · exact n1 k
        · simp at k; omega
      have k5 := Z0.cell 5 _ rfl
      have l5 := Z0.lt
      have HB1 : Hid (Below W.heap.size W w1) := below_turn (HB.out.trans ((HA.out _ _).mono HB.out.size)) t1 (fun b hm => (HF.out b hm).1)
      have HAll := hid2 (allC t.parts HI.out HV.out qs F1 _ (w.heap.size + 1) w1 (HGo.out rfl) r1 HB1.out HPa.out Z1.out n2)
      obtain ⟨-, F2, r2, t2, f2⟩ := h2.out
      have HT := hid2 ((Turn.of_below (S := F) (HA.out _ _)).trans t1 (fun _ hi => .inl hi))
      have HF1 : Hid (∀ b, b ∈ F1 → b ∈ F ∨ w.heap.size ≤ b) := fun b hm => by
        rcases f1 b hm with k | k
        · exact .inl k
        · exact .inr (by simp at k; omega)
      rw [← hQ3.out] at HAll
      clear h2 hQ2 r1 t1 f1 r2 t2 f2 Y0 Y1 Z0 n0 n1 n2 HGo
      simp only []
      go_wp2_with fail
      refine Calls.mono HAll.out ?_
      intro e w2 h3
      have h4 := hid2 (h3.then HT.out HF1.out)
      obtain ⟨he, -⟩ := h3
      subst he
      go_wp2_with fail
      go_ret
      exact h4.out
end
end Go.Proofs.YtdikeicnefgjcaaDoor
