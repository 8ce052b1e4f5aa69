/- Going through nodes with a visitor: what is visited, plain; what may turn. Package tree: walk, with the visitor of Nodes. Package tree: Nodes; the document's Nodes; small, num. Items in memory; zeroTerm, zeroItem; the document's void. -/
import Derived.Test.YtbhmffgmbabkkaaGreatDoorMgL
import Derived.Test.YtbhmffgmbabkkaaGreatDoorTqA
import Derived.Deep.WholeRow
import Derived.Laws.CopyOwn
section
namespace Go.Proofs.YtbhmffgmbabkkaaGreatDoor
open Go.RowKit

def runV {σ : Type} (vs : σ → Tm → σ × Bool) : List Tm → σ → σ × Bool
  | [], s => (s, true)
  | t :: r, s => if (vs s t).2 = true then runV vs r (vs s t).1 else ((vs s t).1, false)
theorem runV_append {σ : Type} (vs : σ → Tm → σ × Bool) : ∀ (a b : List Tm) (s : σ), runV vs (a ++ b) s = if (runV vs a s).2 = true then runV vs b (runV vs a s).1 else ((runV vs a s).1, false)
  | [], b, s => by simp [runV]
  | t :: a, b, s => by
    rw [List.cons_append, runV, runV]
    by_cases h : (vs s t).2 = true
    · rw [if_pos h, if_pos h]; exact runV_append vs a b _
    · rw [if_neg h, if_neg h]; simp
theorem runV_good {σ : Type} {vs : σ → Tm → σ × Bool} {G : σ → Prop} (hG : ∀ s t, G s → (vs s t).2 = true → G (vs s t).1) : ∀ (l : List Tm) (s : σ), G s → (runV vs l s).2 = true → G (runV vs l s).1
  | [], s, h, _ => h
  | t :: r, s, h, k => by
    rw [runV] at k ⊢
    by_cases hc : (vs s t).2 = true
    · rw [if_pos hc] at k ⊢; exact runV_good hG r _ (hG s t h hc) k
    · rw [if_neg hc] at k; cases k
theorem pair_false {σ : Type} {q : σ × Bool} (h : q.2 = false) : q = (q.1, false) := by cases q; simp at h; rw [h]
/-- What a visit leaves: its answer, its state, and which blocks may have turned. -/
def VPost {σ : Type} (R : σ → List Nat → World → Prop) (q : σ × Bool) (F : List Nat) (w : World) (e : Ending) (w' : World) : Prop :=
  e = .returned (.bool q.2) ∧ ∃ F', R q.1 F' w' ∧ Turn F w w' ∧ ∀ b, b ∈ F' → b ∈ F ∨ w.heap.size ≤ b
theorem VPost.pre {σ : Type} {R : σ → List Nat → World → Prop} {q : σ × Bool} {F : List Nat} {w w1 w' : World} {e : Ending} (h : VPost R q F w1 e w') (hb : Below w.heap.size w w1) : VPost R q F w e w' := by
  obtain ⟨he, F', hr, ht, hf⟩ := h
  refine ⟨he, F', hr, (Turn.of_below (S := F) hb).trans ht (fun _ hi => .inl hi), fun b hm => ?_⟩
  rcases hf b hm with k | k
  · exact .inl k
  · exact .inr (Nat.le_trans hb.size k)
theorem VPost.then {σ : Type} {R : σ → List Nat → World → Prop} {q : σ × Bool} {F F1 : List Nat} {w w1 w' : World} {e : Ending} (h : VPost R q F1 w1 e w') (ht1 : Turn F w w1) (hf1 : ∀ b, b ∈ F1 → b ∈ F ∨ w.heap.size ≤ b) : VPost R q F w e w' := by
  obtain ⟨he, F', hr, ht, hf⟩ := h
  refine ⟨he, F', hr, ht1.trans ht (fun b hi => hf1 b hi), fun b hm => ?_⟩
  rcases hf b hm with k | k
  · exact hf1 b k
  · exact .inr (Nat.le_trans ht1.size k)
/-- A block that was there and is none of the visitor's stays. -/
theorem Box.over {F : List Nat} {w w' : World} {g : Nat} {vs : List Value} (h : Box w g vs) (t : Turn F w w') (hn : g ∉ F) : Box w' g vs := h.turn t hn
theorem flat_take (l : List Tm) (k : Nat) (hk : k < l.length) : ((l.take (k + 1)).map pord).flatten = ((l.take k).map pord).flatten ++ pord l[k] := by
  rw [List.take_succ_eq_append_getElem hk]; simp only [List.map_append, List.flatten_append, List.map_cons, List.map_nil, List.flatten_cons, List.flatten_nil, List.append_nil]
theorem flat_split (l : List Tm) (k : Nat) (hk : k < l.length) : (l.map pord).flatten = ((l.take k).map pord).flatten ++ (pord l[k] ++ ((l.drop (k + 1)).map pord).flatten) := by
  have e : l = l.take k ++ (l[k] :: l.drop (k + 1)) := by rw [← List.drop_eq_getElem_cons hk, List.take_append_drop]
  conv => lhs; rw [e]
  simp only [List.map_append, List.flatten_append, List.map_cons, List.flatten_cons]
end Go.Proofs.YtbhmffgmbabkkaaGreatDoor
end
section
namespace Go.Proofs.YtbhmffgmbabkkaaGreatDoor
open Go.RowKit

abbrev fvC (g : Nat) : Value := .func (.func 178) #[] #[.pointer (some ⟨g, 0, none⟩)]
/-- The visitor does as vs says. -/
structure VisC {σ : Type} (z : Nat) (W : World) (R : σ → List Nat → World → Prop) (vs : σ → Tm → σ × Bool) (G : σ → Prop) (g : Nat) : Prop where
  next : ∀ s F w w', R s F w → Below w.heap.size w w' → R s F w'
  lt : ∀ s F w, R s F w → ∀ b, b ∈ F → W.heap.size ≤ b ∧ b < w.heap.size
  good : ∀ s t, G s → (vs s t).2 = true → G (vs s t).1
  call : ∀ s F t v w, G s → R s F w → Below W.heap.size W w → Sits z W t v → Calls Tryz.prog 178 #[tmV t v, .pointer (some ⟨g, 0, none⟩)] w (VPost R (vs s t) F w)
theorem below_turn {W w w' : World} {F : List Nat} (hb : Below W.heap.size W w) (t : Turn F w w') (hF : ∀ b, b ∈ F → W.heap.size ≤ b) : Below W.heap.size W w' :=
  hb.trans (t.below hF hb.size)
def WalkC {σ : Type} (z : Nat) (W : World) (R : σ → List Nat → World → Prop) (vs : σ → Tm → σ × Bool) (G : σ → Prop) (g : Nat) (t : Tm) : Prop :=
  ∀ (s : σ) (F : List Nat) (v : Value) (w : World), G s → R s F w → Below W.heap.size W w → Sits z W t v → Calls Tryz.prog 177 #[tmV t v, fvC g] w (VPost R (runV vs (pord t) s) F w)
section
variable {σ : Type} {z : Nat} {W : World} {R : σ → List Nat → World → Prop} {vs : σ → Tm → σ × Bool} {G : σ → Prop} {g : Nat}
theorem walk1C (t : Tm) (ih : WalkC z W R vs G g t) (hV : VisC z W R vs G g) (s : σ) (F : List Nat) (v : Value) (p : Nat) (w : World) (hG : G s) (hR : R s F w) (hb : Below W.heap.size W w) (hs : Sits z W t v) (hp : Box w p [fvC g]) :
    Calls Tryz.prog 214 #[tmV t v, .pointer (some ⟨p, 0, none⟩)] w (VPost R (runV vs (pord t) s) F w) := by
  have A : ∀ o, Below w.heap.size w (w.alloc o) := fun o => (Below.refl _ _).alloc (Nat.le_refl _) _
  have HI := hid2 (fun o => ih s F v (w.alloc o) hG (hV.next _ _ _ _ hR (A o)) (hb.alloc hb.size o) hs)
  have HA := hid2 A
  have c0 := hp.cell 0 _ rfl
  have lp := hp.lt
  obtain ⟨ad, cap, rfl, -, -⟩ := hs.parts.shape
  clear ih hV hG hR hb hs hp A
  generalize runV vs (pord t) s = Q at *
  go_enter Tryz.func214, Tryz.ntmps214
  go_wp2_with fail
  refine Calls.mono (HI.out _) ?_
  intro e w1 h1
  have h2 := hid2 (h1.pre (HA.out _))
  obtain ⟨he, -⟩ := h1
  subst he
  go_wp2_with fail
  go_ret
  exact h2.out
set_option maxHeartbeats 1000000 in
theorem allC (l : List Tm) (ih : ∀ x, x ∈ l → WalkC z W R vs G g x) (hV : VisC z W R vs G g) (s : σ) (F : List Nat) (v : Value) (p : Nat) (w : World) (hG : G s) (hR : R s F w) (hb : Below W.heap.size W w) (hs : PAt z W v l) (hp : Box w p [fvC g]) (hpF : p ∉ F) :
    Calls Tryz.prog 213 #[v, .func (.func 214) #[] #[.pointer (some ⟨p, 0, none⟩)]] w (VPost R (runV vs (l.map pord).flatten s) F w) := by
  by_cases hn : l = []
  · subst hn
    obtain ⟨ad, cap, rfl, -, -⟩ := hs.shape
    have h2 : Hid (VPost R (runV vs (([] : List Tm).map pord).flatten s) F w (.returned (.bool true)) w) := ⟨rfl, F, hR, Turn.refl _ _, fun b hm => .inl hm⟩
    clear ih hV hG hR hb hs hp hpF
    go_enter Tryz.func213, Tryz.ntmps213
    go_wp2_with fail
    refine wp_loop_rounds 1 ?_
    rw [rounds_succ]
    go_wp2_with fail
    go_ret
    exact h2.out
  · obtain ⟨b, off, cap, rfl, hle, hc, hbl, hx⟩ := hs.open (List.length_pos_iff.2 hn)
    have HX := hid2 hx
    have HI := hid2 ih
    have HV := hid2 hV
    have HG := hid2 hG
    have HP := hid2 hp
    have HPF := hid2 hpF
    have HB := hid2 hb
    have hbl' : b < w.heap.size := Nat.lt_of_lt_of_le hbl hb.size
    have HR := hid2 hR
    obtain ⟨N, hN⟩ : ∃ N, Hid (N = l.length) := ⟨_, rfl⟩
    have hpos : 0 < N := by rw [hN.out]; exact List.length_pos_iff.2 hn
    rw [← hN.out] at hle ⊢
    obtain ⟨Q, hQ⟩ : ∃ Q, Hid (Q = runV vs (l.map pord).flatten s) := ⟨_, rfl⟩
    rw [← hQ.out]
    clear ih hV hG hR hb hs hp hpF hn hx
    go_enter Tryz.func213, Tryz.ntmps213
    go_wp2_with fail
    go_loopw [9] (fun i wr => ∃ (k : Nat) (F1 : List Nat), i = .int .i64 (k : Nat) ∧ k ≤ N ∧ Hid ((runV vs ((l.take k).map pord).flatten s).2 = true) ∧ Hid (R (runV vs ((l.take k).map pord).flatten s).1 F1 wr) ∧ Hid (Turn F w wr) ∧ Hid (∀ b, b ∈ F1 → b ∈ F ∨ w.heap.size ≤ b)) (fun i _ => match i with | .int _ p => ((N : Int) - p).toNat | _ => 0)
    case atStart => exact ⟨0, F, rfl, by omega, hid2 rfl, hid2 HR.out, Turn.refl _ _, fun b hm => .inl hm⟩
    case round =>
      obtain ⟨k, F1, rfl, hk, HK, HR1, HT1, HF1⟩ := hrel
      by_cases hlt : k < N
      · have hlt' : (k : Int) < (N : Int) := by omega
        have hl1 : k < l.length := by rw [← hN.out]; exact hlt
        obtain ⟨u, h6, hu⟩ := HX.out k hl1
        have FW : ∀ b, b ∈ F → W.heap.size ≤ b := fun b hm => (HV.out.lt _ _ _ HR.out b hm).1
        have HBr := hid2 (below_turn HB.out HT1.out FW)
        have k6 := h6.keep (w' := wr) (fun q => HBr.out.cell (p := ⟨b, q, none⟩) hbl)
        obtain ⟨c0, c1, c2, c3, c4, c5⟩ := k6
        have lbr : b < wr.heap.size := Nat.lt_of_lt_of_le hbl HBr.out.size
        have HPr := hid2 (HP.out.turn HT1.out HPF.out)
        have HS2 : Hid (runV vs ((l.take (k + 1)).map pord).flatten s = runV vs (pord l[k]) (runV vs ((l.take k).map pord).flatten s).1) := by
          show _ = _
          rw [flat_take l k hl1, runV_append, if_pos HK.out]
        have HQ2 : Hid (Q = if (runV vs (pord l[k]) (runV vs ((l.take k).map pord).flatten s).1).2 = true then runV vs ((l.drop (k + 1)).map pord).flatten (runV vs (pord l[k]) (runV vs ((l.take k).map pord).flatten s).1).1 else ((runV vs (pord l[k]) (runV vs ((l.take k).map pord).flatten s).1).1, false)) := by
          show _ = _
          rw [hQ.out, flat_split l k hl1, runV_append, if_pos HK.out, runV_append]
        have HW := hid2 (fun o => walk1C l[k] (HI.out _ (List.getElem_mem hl1)) HV.out (runV vs ((l.take k).map pord).flatten s).1 F1 u p (wr.alloc o) (runV_good HV.out.good _ _ HG.out HK.out) (HV.out.next _ _ _ _ HR1.out ((Below.refl _ _).alloc (Nat.le_refl _) _)) (HBr.out.alloc HBr.out.size o) hu (HPr.out.next ((Below.refl _ _).alloc (Nat.le_refl _) _)))
        obtain ⟨au, cu, rfl, -, -⟩ := hu.parts.shape
        clear h6 hu HX FW
        generalize l[k] = x at *
        clear hl1
        generalize runV vs (pord x) (runV vs ((l.take k).map pord).flatten s).1 = q at *
        go_wp2_with fail
        refine Calls.mono (HW.out _) ?_
        intro e w1 h1
        have h2 := hid2 ((h1.pre ((Below.refl _ _).alloc (Nat.le_refl _) _)).then HT1.out HF1.out)
        obtain ⟨he, -⟩ := h1
        subst he
        obtain ⟨qs, qb⟩ := q
        cases qb with
        | false =>
          have h3 : Hid (VPost R Q F w (.returned (.bool false)) w1) := by rw [HQ2.out]; exact h2.out
          clear h2 HQ2 HS2
          simp only []
          go_wp2_with fail
          go_ret
          exact h3.out
        | true =>
          obtain ⟨-, F2, r2, t2, f2⟩ := h2.out
          have H3 : Hid ((runV vs ((l.take (k + 1)).map pord).flatten s).2 = true) := by show _ = _; rw [HS2.out]
          have H4 : Hid (R (runV vs ((l.take (k + 1)).map pord).flatten s).1 F2 w1) := by rw [HS2.out]; exact r2
          have H5 := hid2 t2
          have H6 := hid2 f2
          clear h2 HQ2 HS2 r2 t2 f2
          simp only []
          go_wp2_with fail
          go_roundw
          case rel => exact ⟨k + 1, F2, by go_num, by omega, H3.out, H4.out, H5.out, H6.out⟩
          case measure => simp; omega
      · have hlt' : ¬ (k : Int) < (N : Int) := by omega
        have hkN : k = N := by omega
        subst hkN
        have e1 : l.take k = l := by rw [hN.out]; exact List.take_length
        rw [e1, ← hQ.out] at HK HR1
        have h2 : Hid (VPost R Q F w (.returned (.bool true)) wr) := ⟨by rw [HK.out], F1, HR1.out, HT1.out, HF1.out⟩
        go_wp2_with fail
        go_ret
        exact h2.out
theorem walkC (hV : VisC z W R vs G g) (t : Tm) : WalkC z W R vs G g t := by
  induction t using Tm.ind with
  | h t ih =>
    intro s F v w hG hR hb hs
    have A : ∀ o o', Below w.heap.size w ((w.alloc o).alloc o') := fun o o' => ((Below.refl _ _).alloc (Nat.le_refl _) _).alloc (by simp) _
    have HC := hid2 (fun o o' => hV.call s F t v ((w.alloc o).alloc o') hG (hV.next _ _ _ _ hR (A o o')) (hb.trans ((A o o').mono hb.size)) hs)
    have HA := hid2 A
    have HV := hid2 hV
    have HI := hid2 ih
    have HG := hid2 hG
    have HPa := hid2 hs.parts
    have HF := hid2 (fun b (hm : b ∈ F) => hV.lt s F w hR b hm)
    have HB := hid2 hb
    obtain ⟨ad, cap, rfl, -, -⟩ := hs.parts.shape
    obtain ⟨Q, hQ⟩ : ∃ Q, Hid (Q = runV vs (pord t) s) := ⟨_, rfl⟩
    rw [← hQ.out]
    have hQ2 : Hid (Q = if (vs s t).2 = true then runV vs (t.parts.map pord).flatten (vs s t).1 else ((vs s t).1, false)) := by
      show _ = _
      rw [hQ.out, pord_eq]; rfl
    have HGo : Hid ((vs s t).2 = true → G (vs s t).1) := hV.good s t hG
    clear A hV ih hG hR hb hs hQ
    obtain ⟨q, hq⟩ : ∃ q, Hid (q = vs s t) := ⟨_, rfl⟩
    rw [← hq.out] at HC hQ2 HGo
    clear hq
    go_enter Tryz.func177, Tryz.ntmps177
    go_wp2_with fail
    refine Calls.mono (HC.out _ _) ?_
    intro e w1 h1
    have h2 := hid2 (h1.pre (HA.out _ _))
    obtain ⟨he, F1, r1, t1, f1⟩ := h1
    subst he
    obtain ⟨qs, qb⟩ := q
    cases qb with
    | false =>
      have h3 : Hid (VPost R Q F w (.returned (.bool false)) w1) := by rw [hQ2.out]; exact h2.out
      clear h2 hQ2 r1 t1 f1
      simp only []
      go_wp2_with fail
      go_ret
      exact h3.out
    | true =>
      have hQ3 : Hid (Q = runV vs (t.parts.map pord).flatten qs) := hQ2.out
      obtain ⟨Y0, Y1, -⟩ := two_boxes w 33 38 (tmL t (.slice ad t.parts.length cap)) [fvC g]
      have n0 : w.heap.size ∉ F := fun hm => by have := (HF.out _ hm).2; omega
      have n1 : w.heap.size + 1 ∉ F := fun hm => by have := (HF.out _ hm).2; omega
      have Z0 := Y0.turn t1 n0
      have Z1 := hid2 (Y1.turn t1 n1)
      have n2 : w.heap.size + 1 ∉ F1 := fun hm => by
        rcases f1 _ hm with k | k
        · exact n1 k
        · simp at k; omega
      have k5 := Z0.cell 5 _ rfl
      have l5 := Z0.lt
      have HB1 : Hid (Below W.heap.size W w1) := below_turn (HB.out.trans ((HA.out _ _).mono HB.out.size)) t1 (fun b hm => (HF.out b hm).1)
      have HAll := hid2 (allC t.parts HI.out HV.out qs F1 _ (w.heap.size + 1) w1 (HGo.out rfl) r1 HB1.out HPa.out Z1.out n2)
      obtain ⟨-, F2, r2, t2, f2⟩ := h2.out
      have HT := hid2 ((Turn.of_below (S := F) (HA.out _ _)).trans t1 (fun _ hi => .inl hi))
      have HF1 : Hid (∀ b, b ∈ F1 → b ∈ F ∨ w.heap.size ≤ b) := fun b hm => by
        rcases f1 b hm with k | k
        · exact .inl k
        · exact .inr (by simp at k; omega)
      rw [← hQ3.out] at HAll
      clear h2 hQ2 r1 t1 f1 r2 t2 f2 Y0 Y1 Z0 n0 n1 n2 HGo
      simp only []
      go_wp2_with fail
      refine Calls.mono HAll.out ?_
      intro e w2 h3
      have h4 := hid2 (h3.then HT.out HF1.out)
      obtain ⟨he, -⟩ := h3
      subst he
      go_wp2_with fail
      go_ret
      exact h4.out
end
end Go.Proofs.YtbhmffgmbabkkaaGreatDoor
end
section
namespace Go.Proofs.YtbhmffgmbabkkaaGreatDoor
open Go.RowKit

def cntV (s : Nat) (_ : Tm) : Nat × Bool := (s + 1, decide (s + 1 ≤ 16384))
theorem cnt_run : ∀ (l : List Tm) (s : Nat), s ≤ 16384 → (runV cntV l s).1 = min (s + l.length) 16385
  | [], s, h => by simp [runV]; omega
  | t :: r, s, h => by
    rw [runV]
    by_cases hs : s + 1 ≤ 16384
    · rw [if_pos (by simp [cntV, hs])]
      have := cnt_run r (s + 1) hs
      show (runV cntV r (s + 1)).1 = _
      rw [this, List.length_cons]; congr 1; omega
    · rw [if_neg (by simp [cntV, hs])]
      show s + 1 = _
      rw [List.length_cons]; omega
/-- The variable that counts. -/
def CntR (W : World) (g : Nat) (s : Nat) (F : List Nat) (w : World) : Prop := F = [g] ∧ Box w g [.int .i64 (s : Nat)] ∧ W.heap.size ≤ g
theorem cnt_call (z : Nat) (W : World) (g s : Nat) (F : List Nat) (t : Tm) (v : Value) (w : World) (hG : s ≤ 16384) (hR : CntR W g s F w) (hs : Sits z W t v) : Calls Tryz.prog 178 #[tmV t v, .pointer (some ⟨g, 0, none⟩)] w (VPost (CntR W g) (cntV s t) F w) := by
  obtain ⟨rfl, hb, hW⟩ := hR
  obtain ⟨ad, cap, rfl, -, -⟩ := hs.parts.shape
  have c0 := hb.cell 0 _ rfl
  have f0 := hb.free 0 (by simp)
  have l0 := hb.lt
  have HB := hid2 hb
  have i1 : (s : Int) + 1 = ((s + 1 : Nat) : Int) := by omega
  have ng : g ≠ w.heap.size := by omega
  have hi : (s : Int) ≤ 16384 := by omega
  clear hs hb
  obtain ⟨S, hS⟩ : ∃ S, Hid (S = s + 1) := ⟨_, rfl⟩
  rw [← hS.out] at i1
  have hP : Hid (∀ o, VPost (CntR W g) (cntV s t) [g] w (.returned (.bool (decide ((S : Int) ≤ 16384)))) ((w.setCell ⟨g, 0, none⟩ (.int .i64 (S : Nat))).alloc o)) := fun o => by
    have hd : decide ((S : Int) ≤ 16384) = decide (s + 1 ≤ 16384) := decide_eq_decide.2 (by have := hS.out; omega)
    refine ⟨by rw [hd]; rfl, [g], ⟨rfl, ?_, hW⟩, ?_, fun b hm => .inl hm⟩
    · have := (HB.out.set 0 (by simp) (.int .i64 (S : Nat))).next ((Below.refl _ _).alloc (Nat.le_refl _) o)
      rw [hS.out] at this ⊢
      exact this
    · exact (Turn.set w ⟨g, 0, none⟩ _ (by simp)).andBelow ((Below.refl _ _).alloc (Nat.le_refl _) o)
  clear hG
  go_enter Tryz.func178, Tryz.ntmps178
  go_wp2_with fail
  go_ret
  exact hP.out _
theorem cnt_vis (z : Nat) (W : World) (g : Nat) : VisC z W (CntR W g) cntV (fun s => s ≤ 16384) g where
  next := fun s F w w' ⟨a, b, c⟩ hb => ⟨a, b.next hb, c⟩
  lt := fun s F w ⟨a, b, c⟩ k hk => by
    subst a
    simp at hk
    subst hk
    exact ⟨c, b.lt⟩
  good := fun s t hs hb => by simp [cntV] at hb; simpa [cntV] using hb
  call := fun s F t v w hG hR _ hs => cnt_call z W g s F t v w hG hR hs
def ndsV (t : Tm) : Value := .int .i64 ((min (nodes t) 16385 : Nat) : Int)
theorem nodes_c {z : Nat} (t : Tm) (v : Value) (w : World) (hs : Sits z w t v) : Calls Tryz.prog 141 #[tmV t v] w fun e w' => e = .returned (ndsV t) ∧ Below w.heap.size w w' := by
  have A : ∀ o o', Below w.heap.size w ((w.alloc o).alloc o') := fun o o' => ((Below.refl _ _).alloc (Nat.le_refl _) _).alloc (by simp) _
  have HW := hid2 (fun (o : Obj) (ty : TypeId) => walkC (cnt_vis z w (w.heap.size + 1)) t 0 [w.heap.size + 1] v ((w.alloc o).alloc (.cells #[.int .i64 0] ty)) (by omega) ⟨rfl, by simpa using Box.new (w.alloc o) [.int .i64 0] ty, by omega⟩ (A _ _) hs)
  obtain ⟨ad, cap, rfl, -, -⟩ := hs.parts.shape
  have hr := cnt_run (pord t) 0 (by omega)
  rw [Nat.zero_add] at hr
  obtain ⟨V, hV⟩ : ∃ V, Hid (V = ndsV t) := ⟨_, rfl⟩
  rw [← hV.out]
  have HE : Hid (Value.int .i64 (((runV cntV (pord t) 0).1 : Nat) : Int) = V) := by rw [hr, hV.out]; rfl
  have HA := hid2 A
  clear hr hs A
  go_enter Tryz.func141, Tryz.ntmps141
  go_wp2_with fail
  refine Calls.mono (HW.out _ _) ?_
  rintro e w1 ⟨rfl, F', ⟨rfl, hb, -⟩, t1, -⟩
  have c0 := hb.cell 0 _ rfl
  have l0 := hb.lt
  have B1 : Hid (Below w.heap.size w w1) := (HA.out _ _).trans (t1.below (fun k hk => by simp at hk; omega) (by simp; omega))
  rw [HE.out] at c0
  clear hb t1 HW
  have hV2 : ∃ n : Int, V = .int .i64 n := ⟨_, hV.out⟩
  clear HE hV
  obtain ⟨n, rfl⟩ := hV2
  go_wp2_with fail
  go_ret
  exact ⟨rfl, B1.out⟩
theorem min_cast (n : Nat) : min (n : Int) 16385 = ((min n 16385 : Nat) : Int) := by omega
set_option maxHeartbeats 1000000 in
theorem rNodes_c {z : Nat} (t : Tm) : ∀ (v : Value) (w : World), Sits z w t v → Calls Tryz.prog 24 #[tmV t v] w fun e w' => e = .returned (ndsV t) ∧ Below w.heap.size w w' := by
  induction t using Tm.ind with
  | h t ih =>
    intro v w hs
    have HP := hid2 hs.parts
    have HI := hid2 ih
    obtain ⟨ad, cap, rfl, hlc, hc⟩ := hs.parts.shape
    obtain ⟨V, hV⟩ : ∃ V, Hid (V = ndsV t) := ⟨_, rfl⟩
    rw [← hV.out]
    obtain ⟨N, hN⟩ : ∃ N, Hid (N = t.parts.length) := ⟨_, rfl⟩
    rw [← hN.out] at hlc HP ⊢
    clear hs ih
    go_enter Tryz.func24, Tryz.ntmps24
    go_wp2_with fail
    have BX : Hid (Box (w.alloc (.cells (tmL t (.slice ad N cap)).toArray 33)) w.heap.size (tmL t (.slice ad N cap))) := Box.new _ _ _
    go_loopw [3, 4] (fun c i wr => ∃ (k m : Nat), i = .int .i64 (k : Nat) ∧ c = .int .i64 (m : Nat) ∧ k ≤ N ∧ m ≤ 32769 ∧ Hid (min m 16385 = min (1 + nodesL (t.parts.take k)) 16385) ∧ Hid (Below (w.heap.size + 1) (w.alloc (.cells (tmL t (.slice ad N cap)).toArray 33)) wr)) (fun _ i _ => match i with | .int _ p => ((N : Int) - p).toNat | _ => 0)
    case atStart => exact ⟨0, 1, rfl, rfl, by omega, by omega, hid2 rfl, Below.refl _ _⟩
    case round =>
      obtain ⟨k, m, rfl, rfl, hk, hm, HM, HB⟩ := hrel
      have HBw : Hid (Below w.heap.size w wr) := ((Below.refl _ _).alloc (Nat.le_refl _) _).trans (HB.out.mono (by omega))
      have X := BX.out.later HB.out (by omega)
      have k5 := X.cell 5 _ rfl
      by_cases hlt : k < N
      · have hlt' : (k : Int) < (N : Int) := by omega
        by_cases h16 : m ≤ 16384
        · have h16' : (m : Int) ≤ 16384 := by omega
          have hl1 : k < t.parts.length := by rw [← hN.out]; exact hlt
          obtain ⟨b, off, cap', hv, -, -, hbl, hx⟩ := HP.out.open (by omega)
          simp only [Value.slice.injEq] at hv
          obtain ⟨rfl, -, rfl⟩ := hv
          obtain ⟨u, h6, hu⟩ := hx k hl1
          obtain ⟨c0, c1, c2, c3, c4, c5⟩ := h6.keep (w' := wr) (fun q => HBw.out.cell (p := ⟨b, q, none⟩) hbl)
          have HC := hid2 (HI.out _ (List.getElem_mem hl1) u wr (hu.next HBw.out))
          have HS : Hid (nodesL (t.parts.take (k + 1)) = nodesL (t.parts.take k) + nodes t.parts[k]) := by
            show _ = _
            rw [List.take_succ_eq_append_getElem hl1, nodesL_append, nodesL_cons]; simp [nodesL_nil]
          clear hx h6 hu X
          unfold ndsV at HC
          have hmn : min (nodes t.parts[k]) 16385 ≤ 16385 := Nat.min_le_right _ _
          obtain ⟨M, hM⟩ : ∃ M, Hid (M = min (nodes t.parts[k]) 16385) := ⟨_, hid2 rfl⟩
          rw [← hM.out] at HC hmn
          generalize t.parts[k] = x at *
          clear hl1
          go_wp2_with fail
          refine Calls.mono HC.out ?_
          rintro e w1 ⟨rfl, b1⟩
          have B1 := hid2 (HB.out.trans (b1.mono (by have := HB.out.size; simp at this; omega)))
          clear b1 HC
          obtain ⟨S, hS⟩ : ∃ S, Hid (S = m + M) := ⟨_, hid2 rfl⟩
          have i3 : (m : Int) + (M : Int) = (S : Int) := by have := hS.out; omega
          have i4 : (S : Int) ≤ 32769 := by have := hS.out; omega
          have hmn2 := hid2 hmn
          have h162 := hid2 h16
          clear hmn h16
          go_wp2_with fail
          go_roundw
          case rel => exact ⟨k + 1, S, by go_num, rfl, by omega, by omega, (by show _ = _; rw [HS.out, hS.out]; have := HM.out; have := hM.out; have := h162.out; omega), B1.out⟩
          case measure => simp; omega
        · have h16' : ¬ (m : Int) ≤ 16384 := by omega
          have hVV : Hid (V = .int .i64 ((min m 16385 : Nat) : Int)) := by
            show _ = _
            rw [hV.out, ndsV, nodes_eq]
            have e : nodesL t.parts = nodesL (t.parts.take k) + nodesL (t.parts.drop k) := by rw [← nodesL_append, List.take_append_drop]
            have := HM.out
            congr 2
            omega
          go_wp2_with fail
          go_ret
          exact ⟨by rw [hVV.out, ← min_cast]; rfl, HBw.out⟩
      · have hlt' : ¬ (k : Int) < (N : Int) := by omega
        have hkN : k = N := by omega
        have hVV : Hid (V = .int .i64 ((min m 16385 : Nat) : Int)) := by
          show _ = _
          rw [hV.out, ndsV, nodes_eq]
          have e1 : t.parts.take k = t.parts := by rw [hkN, hN.out]; exact List.take_length
          have := HM.out
          rw [e1] at this
          rw [this]
        go_wp2_with fail
        go_ret
        exact ⟨by rw [hVV.out, ← min_cast]; rfl, HBw.out⟩
end Go.Proofs.YtbhmffgmbabkkaaGreatDoor
end
section
namespace Go.Proofs.YtbhmffgmbabkkaaGreatDoor
open Go.RowKit

abbrev itC (i : It) (vx vy : Value) : List Value := [.int .i64 i.kind, .string i.name, .string i.unit, .int .i64 i.a, .int .i64 i.b, .int .i64 i.c, .int .i64 i.x.kind, .string i.x.text, .int .i64 i.x.n, .int .i64 i.x.m, .int .i64 i.x.pl, vx, .int .i64 i.y.kind, .string i.y.text, .int .i64 i.y.n, .int .i64 i.y.m, .int .i64 i.y.pl, vy, .int .i64 i.pl]
abbrev itA (i : It) (vx vy : Value) : Value := .agg #[.int .i64 i.kind, .string i.name, .string i.unit, .int .i64 i.a, .int .i64 i.b, .int .i64 i.c, .int .i64 i.x.kind, .string i.x.text, .int .i64 i.x.n, .int .i64 i.x.m, .int .i64 i.x.pl, vx, .int .i64 i.y.kind, .string i.y.text, .int .i64 i.y.n, .int .i64 i.y.m, .int .i64 i.y.pl, vy, .int .i64 i.pl]
/-- What an item's terms hold lies in memory; no text is longer than z. -/
structure ItAt (z : Nat) (w : World) (i : It) (vx vy : Value) : Prop where
  sx : Sits z w i.x vx
  sy : Sits z w i.y vy
  nm : i.name.size ≤ z
  un : i.unit.size ≤ z
theorem ItAt.next {z : Nat} {w w' : World} {i : It} {vx vy : Value} (h : ItAt z w i vx vy) (hb : Below w.heap.size w w') : ItAt z w' i vx vy := ⟨h.sx.next hb, h.sy.next hb, h.nm, h.un⟩
/-- The items l lie in the slice v. -/
def IAt (z : Nat) (w : World) (v : Value) (l : List It) : Prop := ∃ ad cap, v = .slice ad l.length cap ∧ l.length ≤ cap ∧ cap ≤ 9223372036854775807 ∧
      (l.length = 0 ∨ ∃ b off, ad = some ⟨b, off, none⟩ ∧ b < w.heap.size ∧ ∀ i (h : i < l.length), ∃ vx vy, (∀ q u, (itC l[i] vx vy)[q]? = some u → w.cell? ⟨b, off + i * 19 + q, none⟩ = some u) ∧ ItAt z w l[i] vx vy)
theorem IAt.shape {z : Nat} {w : World} {v : Value} {l : List It} (h : IAt z w v l) : ∃ ad cap, v = .slice ad l.length cap ∧ l.length ≤ cap ∧ cap ≤ 9223372036854775807 := by
  obtain ⟨ad, cap, hv, h1, h2, _⟩ := h
  exact ⟨ad, cap, hv, h1, h2⟩
theorem IAt.next {z : Nat} {w w' : World} {v : Value} {l : List It} (h : IAt z w v l) (hb : Below w.heap.size w w') : IAt z w' v l := by
  obtain ⟨ad, cap, hv, h1, h2, hp⟩ := h
  refine ⟨ad, cap, hv, h1, h2, ?_⟩
  rcases hp with hp | ⟨b, off, ha, hlt, hp⟩
  · exact .inl hp
  · refine .inr ⟨b, off, ha, Nat.lt_of_lt_of_le hlt hb.size, fun i hi => ?_⟩
    obtain ⟨vx, vy, hc, hi2⟩ := hp i hi
    exact ⟨vx, vy, fun q u hu => (hb.cell (p := ⟨b, off + i * 19 + q, none⟩) hlt).trans (hc q u hu), hi2.next hb⟩
theorem IAt.open {z : Nat} {w : World} {v : Value} {l : List It} (h : IAt z w v l) (hn : 0 < l.length) : ∃ b off cap, v = .slice (some ⟨b, off, none⟩) l.length cap ∧ l.length ≤ cap ∧ cap ≤ 9223372036854775807 ∧ b < w.heap.size ∧
    ∀ i (h : i < l.length), ∃ vx vy, (∀ q u, (itC l[i] vx vy)[q]? = some u → w.cell? ⟨b, off + i * 19 + q, none⟩ = some u) ∧ ItAt z w l[i] vx vy := by
  obtain ⟨ad, cap, hv, hl, hc, hp⟩ := h
  rcases hp with hp | ⟨b, off, rfl, hlt, hp⟩
  · omega
  · exact ⟨b, off, cap, hv, hl, hc, hlt, hp⟩
/-- A row of cells read whole, from whatever place. -/
theorem ld_at {w : World} {b o : Nat} {L : List Value} {X : Array Value} (h : ∀ q u, L[q]? = some u → w.cell? ⟨b, o + q, none⟩ = some u) (hX : X = L.toArray) {n : Nat} (hn : n = L.length) : (loadCellsFrom ⟨b, o, none⟩ 0 n #[]).run Tryz.prog w = .ok X w := by
  subst hn hX
  have := run_loadCells_list (P := Tryz.prog) w ⟨b, o, none⟩ L (fun j v hv => by
    have hadd : (⟨b, o, none⟩ : Addr).add j = ⟨b, o + j, none⟩ := by unfold Addr.add; split <;> simp_all
    rw [hadd]
    exact h j v hv)
  simpa [loadCells] using this
def zeroI : Array Value := #[.int .i64 0, .string ⟨#[]⟩, .string ⟨#[]⟩, .int .i64 0, .int .i64 0, .int .i64 0, .int .i64 0, .string ⟨#[]⟩, .int .i64 0, .int .i64 0, .int .i64 0, .slice none 0 0, .int .i64 0, .string ⟨#[]⟩, .int .i64 0, .int .i64 0, .int .i64 0, .slice none 0 0, .int .i64 0]
theorem info_it : (Tryz.prog.info? 41).map (fun i => (i.zero, i.size)) = some (some (.agg zeroI), 19) := by kernel_rfl
theorem st_it (w : World) {X : Array Value} (hs : X.size = 19) (h1 : X.all (·.oneCell') = true) : (storeCells ⟨w.heap.size, 0, none⟩ X.toList 0).run Tryz.prog (w.alloc (.cells zeroI 41)) = .ok () (w.alloc (.cells X 41)) :=
  run_storeCells_new (P := Tryz.prog) w 41 zeroI X (by rw [hs]; exact (zero_of_info info_it).2) (by rw [hs]; rfl) h1
theorem itC_one {z : Nat} {w : World} {i : It} {vx vy : Value} (h : ItAt z w i vx vy) : (itC i vx vy).toArray.all (·.oneCell') = true := by
  obtain ⟨a1, c1, rfl, -, -⟩ := h.sx.parts.shape
  obtain ⟨a2, c2, rfl, -, -⟩ := h.sy.parts.shape
  kernel_rfl
set_option maxHeartbeats 1000000 in
theorem zeroTerm_c {z : Nat} (t : Tm) (v : Value) (w : World) (hs : Sits z w t v) : Calls Tryz.prog 140 #[tmV t v] w fun e w' => e = .returned (.bool (voidB t)) ∧ Below w.heap.size w w' := by
  obtain ⟨ad, cap, rfl, -, -⟩ := hs.parts.shape
  clear hs
  have HB : Hid (∀ o, Below w.heap.size w (w.alloc o)) := fun o => (Below.refl _ _).alloc (Nat.le_refl _) _
  go_enter Tryz.func140, Tryz.ntmps140
  go_wp2_with fail
  all_goals go_ret
  all_goals refine ⟨ret_bool ?_, HB.out _⟩
  all_goals (unfold voidB; first | (simp [*]; done) | (clear HB; simp_all; done) | (clear HB; simp_all; exact Bool.eq_iff_iff.2 (by simp)))
set_option maxHeartbeats 1000000 in
theorem rVoid_c {z : Nat} (t : Tm) (v : Value) (w : World) (hs : Sits z w t v) : Calls Tryz.prog 77 #[tmV t v] w fun e w' => e = .returned (.bool (voidB t)) ∧ Below w.heap.size w w' := by
  obtain ⟨ad, cap, rfl, -, -⟩ := hs.parts.shape
  clear hs
  have HB : Hid (∀ o, Below w.heap.size w (w.alloc o)) := fun o => (Below.refl _ _).alloc (Nat.le_refl _) _
  go_enter Tryz.func77, Tryz.ntmps77
  go_wp2_with fail
  all_goals go_ret
  all_goals refine ⟨ret_bool ?_, HB.out _⟩
  all_goals (unfold voidB; first | (simp [*]; done) | (clear HB; simp_all; done) | (clear HB; simp_all; exact Bool.eq_iff_iff.2 (by simp)))
theorem ld_bx {w : World} {g : Nat} {L : List Value} {X : Array Value} (h : Box w g L) (hX : X = L.toArray) {n : Nat} (hn : n = L.length) : (loadCellsFrom ⟨g, 0, none⟩ 0 n #[]).run Tryz.prog w = .ok X w :=
  ld_at (fun q u hu => by rw [Nat.zero_add]; exact h.cell q u hu) hX hn
def SmallI (l : List It) : Prop := ∀ i, i ∈ l → nodes i.x ≤ 16384 ∧ nodes i.y ≤ 16384
end Go.Proofs.YtbhmffgmbabkkaaGreatDoor
end
