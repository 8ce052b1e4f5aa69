import Derived.Test.YtigldebdljfnbaaGreatDoorCqMgP
import Derived.Test.YtigldebdljfnbaaGreatDoorCqMgB
import Derived.Maps.OwnSet
import Derived.Maps.Views
import Derived.Test.YtigldebdljfnbaaGreatDoorCqMhN
section
namespace Go.Proofs.YtigldebdljfnbaaGreatDoor
open Go.RowKit

abbrev guL (g : Co × Co) (u1 u2 : Value) : List Value := coL g.1 u1 ++ coL g.2 u2
abbrev guV (g : Co × Co) (u1 u2 : Value) : Value := .agg (guL g u1 u2).toArray
section
variable {σ : Type} {W : World} {R : σ → List Nat → World → Prop} {vs : σ → Co → σ × Bool} {G : σ → Prop} {D : Co → Prop} {f : Nat} {q : Array Value}
set_option maxHeartbeats 1000000 in
theorem gplan1 (hE : Ent f) (hV : GVis W R vs G D f q) (g : Co × Co) (hD : ∀ x, x ∈ gord g → D x) (s : σ) (F : List Nat) (u1 u2 : Value) (p : Nat) (w : World) (hG : G s) (hR : R s F w) (hb : Below W.heap.size W w) (hs1 : CSits W g.1 u1) (hs2 : CSits W g.2 u2) (hp : Box w p [vfV f q]) (hpF : p ∉ F) :
    Calls Tryz.prog 119 #[guV g u1 u2, .pointer (some ⟨p, 0, none⟩)] w (CVPost R (crunV vs (gord g) s) F w) := by
  have A : ∀ o, Below w.heap.size w (w.alloc o) := fun o => (Below.refl _ _).alloc (Nat.le_refl _) _
  have HW1 := chid (fun o => gwalk_c hE hV g.1 (fun x hx => hD x (List.mem_append_left _ hx)) s F u1 (w.alloc o) hG (hV.next _ _ _ _ hR (A o)) (hb.alloc hb.size o) hs1)
  have HW2 := chid (fun s F w hG hR hb => gwalk_c hE hV g.2 (fun x hx => hD x (List.mem_append_right _ hx)) s F u2 w hG hR hb hs2)
  have HA := chid A
  have HB := chid hb
  have HGo : Hid ((crunV vs (cpord g.1) s).2 = true → G (crunV vs (cpord g.1) s).1) := fun h => crunV_good hV.good _ _ hG h
  have HF := chid (fun b (hm : b ∈ F) => hV.lt s F w hR b hm)
  have HP := chid hp
  have HPF := chid hpF
  have c0 := hp.cell 0 _ rfl
  have lp := hp.lt
  obtain ⟨a1, c1, rfl, -, -⟩ := hs1.parts.shape
  obtain ⟨a2, c2, rfl, -, -⟩ := hs2.parts.shape
  obtain ⟨Q, hQ⟩ : ∃ Q, Hid (Q = crunV vs (gord g) s) := ⟨_, rfl⟩
  rw [← hQ.out]
  have hQ2 : Hid (Q = if (crunV vs (cpord g.1) s).2 = true then crunV vs (cpord g.2) (crunV vs (cpord g.1) s).1 else ((crunV vs (cpord g.1) s).1, false)) := by
    show _ = _
    rw [hQ.out, gord, crunV_append]
  obtain ⟨⟨k1, n1, m1, ps1⟩, ⟨k2, n2, m2, ps2⟩⟩ := g
  dsimp only at *
  generalize ps1.length = L1 at *
  generalize ps2.length = L2 at *
  clear hV hG hR hb hs1 hs2 hp hpF A hD hQ
  generalize crunV vs (cpord ⟨k1, n1, m1, ps1⟩) s = qq at *
  have Y0 := chid (Box.new w [.int .i64 k1, .int .i64 n1, .int .i64 m1, .slice a1 L1 c1, .int .i64 k2, .int .i64 n2, .int .i64 m2, .slice a2 L2 c2] 66)
  go_enter Tryz.func119, Tryz.ntmps119
  go_wp2_with fail
  refine Calls.mono (HW1.out _) ?_
  intro e w1 h1
  have h2 := chid (h1.pre (HA.out _))
  obtain ⟨he, F1, r1, t1, f1⟩ := h1
  subst he
  obtain ⟨qs, qb⟩ := qq
  cases qb with
  | false =>
    have h3 : Hid (CVPost R Q F w (.returned (.bool false)) w1) := by rw [hQ2.out]; exact h2.out
    clear h2 hQ2 r1 t1 f1
    simp only []
    go_wp2_with fail
    go_ret
    exact h3.out
  | true =>
    have hQ3 : Hid (Q = crunV vs (cpord ⟨k2, n2, m2, ps2⟩) qs) := hQ2.out
    have n0 : w.heap.size ∉ F := fun hm => by have := (HF.out _ hm).2; omega
    have Z0 := Y0.out.turn t1 n0
    have P1 := (HP.out.next (HA.out _)).turn t1 HPF.out
    have d0 := P1.cell 0 _ rfl
    have dl := P1.lt
    have k4 := Z0.cell 4 _ rfl
    have k5 := Z0.cell 5 _ rfl
    have k6 := Z0.cell 6 _ rfl
    have k7 := Z0.cell 7 _ rfl
    have l5 := Z0.lt
    have HB1 : Hid (Below W.heap.size W w1) := cbelow_turn (HB.out.trans ((HA.out _).mono HB.out.size)) t1 (fun b hm => (HF.out b hm).1)
    have HC2 := chid (HW2.out qs F1 w1 (HGo.out rfl) r1 HB1.out)
    have HT := chid ((Turn.of_below (S := F) (HA.out _)).trans t1 (fun _ hi => .inl hi))
    have HF1 : Hid (∀ b, b ∈ F1 → b ∈ F ∨ w.heap.size ≤ b) := fun b hm => by
      rcases f1 b hm with k | k
      · exact .inl k
      · exact .inr (by simp at k; omega)
    rw [← hQ3.out] at HC2
    clear h2 hQ2 r1 t1 f1 Z0 P1 n0 HGo
    simp only []
    go_wp2_with fail
    refine Calls.mono HC2.out ?_
    intro e w2 h3
    have h4 := chid (h3.then HT.out HF1.out)
    obtain ⟨he, -⟩ := h3
    subst he
    go_wp2_with fail
    go_ret
    exact h4.out
theorem gflat_take (l : List (Co × Co)) (k : Nat) (hk : k < l.length) : ((l.take (k + 1)).map gord).flatten = ((l.take k).map gord).flatten ++ gord l[k] := by
  rw [List.take_succ_eq_append_getElem hk]; simp only [List.map_append, List.flatten_append, List.map_cons, List.map_nil, List.flatten_cons, List.flatten_nil, List.append_nil]
theorem gflat_split (l : List (Co × Co)) (k : Nat) (hk : k < l.length) : (l.map gord).flatten = ((l.take k).map gord).flatten ++ (gord l[k] ++ ((l.drop (k + 1)).map gord).flatten) := by
  have e : l = l.take k ++ (l[k] :: l.drop (k + 1)) := by rw [← List.drop_eq_getElem_cons hk, List.take_append_drop]
  conv => lhs; rw [e]
  simp only [List.map_append, List.flatten_append, List.map_cons, List.flatten_cons]
set_option maxHeartbeats 1000000 in
theorem gplanAll (hE : Ent f) (hV : GVis W R vs G D f q) (l : List (Co × Co)) (hD : ∀ g, g ∈ l → ∀ x, x ∈ gord g → D x) (s : σ) (F : List Nat) (v : Value) (p : Nat) (w : World) (hG : G s) (hR : R s F w) (hb : Below W.heap.size W w) (hs : GsAt W v l) (hp : Box w p [vfV f q]) (hpF : p ∉ F) :
    Calls Tryz.prog 46 #[v, .func (.func 119) #[] #[.pointer (some ⟨p, 0, none⟩)]] w (CVPost R (crunV vs (l.map gord).flatten s) F w) := by
  by_cases hn : l = []
  · subst hn
    obtain ⟨ad, cap, rfl, -, -⟩ := hs.shape
    have h2 : Hid (CVPost R (crunV vs (([] : List (Co × Co)).map gord).flatten s) F w (.returned (.bool true)) w) := ⟨rfl, F, hR, Turn.refl _ _, fun b hm => .inl hm⟩
    clear hV hG hR hb hs hp hpF hD
    go_enter Tryz.func46, Tryz.ntmps46
    go_wp2_with fail
    refine wp_loop_rounds 1 ?_
    rw [rounds_succ]
    go_wp2_with fail
    go_ret
    exact h2.out
  · obtain ⟨b, off, cap, rfl, hle, hc, hbl, hx⟩ := hs.open (List.length_pos_iff.2 hn)
    have HX := chid hx
    have HDd := chid hD
    have HE := chid hE
    have HV := chid hV
    have HG := chid hG
    have HP := chid hp
    have HPF := chid hpF
    have HB := chid hb
    have hbl' : b < w.heap.size := Nat.lt_of_lt_of_le hbl hb.size
    have HR := chid hR
    obtain ⟨N, hN⟩ : ∃ N, Hid (N = l.length) := ⟨_, rfl⟩
    have hpos : 0 < N := by rw [hN.out]; exact List.length_pos_iff.2 hn
    rw [← hN.out] at hle ⊢
    obtain ⟨Q, hQ⟩ : ∃ Q, Hid (Q = crunV vs (l.map gord).flatten s) := ⟨_, rfl⟩
    rw [← hQ.out]
    clear hE hV hG hR hb hs hp hpF hn hx hD
    go_enter Tryz.func46, Tryz.ntmps46
    go_wp2_with fail
    go_loopw [9] (fun i wr => ∃ (k : Nat) (F1 : List Nat), i = .int .i64 (k : Nat) ∧ k ≤ N ∧ Hid ((crunV vs ((l.take k).map gord).flatten s).2 = true) ∧ Hid (R (crunV vs ((l.take k).map gord).flatten s).1 F1 wr) ∧ Hid (Turn F w wr) ∧ Hid (∀ b, b ∈ F1 → b ∈ F ∨ w.heap.size ≤ b)) (fun i _ => match i with | .int _ p => ((N : Int) - p).toNat | _ => 0)
    case atStart => exact ⟨0, F, rfl, by omega, chid rfl, chid HR.out, Turn.refl _ _, fun b hm => .inl hm⟩
    case round =>
      obtain ⟨k, F1, rfl, hk, HK, HR1, HT1, HF1⟩ := hrel
      by_cases hlt : k < N
      · have hlt' : (k : Int) < (N : Int) := by omega
        have hl1 : k < l.length := by rw [← hN.out]; exact hlt
        obtain ⟨u1, u2, h6, h7, hu1, hu2⟩ := HX.out k hl1
        have FW : ∀ b, b ∈ F → W.heap.size ≤ b := fun b hm => (HV.out.lt _ _ _ HR.out b hm).1
        have HBr := chid (cbelow_turn HB.out HT1.out FW)
        have k6 := h6.keep (w' := wr) (fun j => HBr.out.cell (p := ⟨b, j, none⟩) hbl)
        have k7 := h7.keep (w' := wr) (fun j => HBr.out.cell (p := ⟨b, j, none⟩) hbl)
        obtain ⟨c0, c1, c2, c3⟩ := k6
        obtain ⟨c4, c5, c6, c7⟩ := k7
        replace c5 : wr.cell? ⟨b, off + k * 8 + 5, none⟩ = _ := c5
        replace c6 : wr.cell? ⟨b, off + k * 8 + 6, none⟩ = _ := c6
        replace c7 : wr.cell? ⟨b, off + k * 8 + 7, none⟩ = _ := c7
        have lbr : b < wr.heap.size := Nat.lt_of_lt_of_le hbl HBr.out.size
        have HPr := chid (HP.out.turn HT1.out HPF.out)
        have hpl : p < w.heap.size := HP.out.lt
        have hpF1 : Hid (p ∉ F1) := fun hm => by rcases HF1.out p hm with k | k; exact HPF.out k; omega
        have HS2 : Hid (crunV vs ((l.take (k + 1)).map gord).flatten s = crunV vs (gord l[k]) (crunV vs ((l.take k).map gord).flatten s).1) := by
          show _ = _
          rw [gflat_take l k hl1, crunV_append, if_pos HK.out]
        have HQ2 : Hid (Q = if (crunV vs (gord l[k]) (crunV vs ((l.take k).map gord).flatten s).1).2 = true then crunV vs ((l.drop (k + 1)).map gord).flatten (crunV vs (gord l[k]) (crunV vs ((l.take k).map gord).flatten s).1).1 else ((crunV vs (gord l[k]) (crunV vs ((l.take k).map gord).flatten s).1).1, false)) := by
          show _ = _
          rw [hQ.out, gflat_split l k hl1, crunV_append, if_pos HK.out, crunV_append]
        have HW := chid (fun o => gplan1 HE.out HV.out l[k] (HDd.out _ (List.getElem_mem hl1)) (crunV vs ((l.take k).map gord).flatten s).1 F1 u1 u2 p (wr.alloc o) (crunV_good HV.out.good _ _ HG.out HK.out) (HV.out.next _ _ _ _ HR1.out ((Below.refl _ _).alloc (Nat.le_refl _) _)) (HBr.out.alloc HBr.out.size o) hu1 hu2 (HPr.out.next ((Below.refl _ _).alloc (Nat.le_refl _) _)) hpF1.out)
        obtain ⟨au, cu, rfl, -, -⟩ := hu1.parts.shape
        obtain ⟨av, cv, rfl, -, -⟩ := hu2.parts.shape
        clear h6 h7 hu1 hu2 HX FW hpl
        generalize l[k] = x at *
        clear hl1
        obtain ⟨⟨k1, n1, m1, ps1⟩, ⟨k2, n2, m2, ps2⟩⟩ := x
        dsimp only at *
        generalize ps1.length = L1 at *
        generalize ps2.length = L2 at *
        generalize crunV vs (gord (⟨k1, n1, m1, ps1⟩, ⟨k2, n2, m2, ps2⟩)) (crunV vs ((l.take k).map gord).flatten s).1 = qq at *
        go_wp2_with fail
        refine Calls.mono (HW.out _) ?_
        intro e w1 h1
        have h2 := chid ((h1.pre ((Below.refl _ _).alloc (Nat.le_refl _) _)).then HT1.out HF1.out)
        obtain ⟨he, -⟩ := h1
        subst he
        obtain ⟨qs, qb⟩ := qq
        cases qb with
        | false =>
          have h3 : Hid (CVPost R Q F w (.returned (.bool false)) w1) := by rw [HQ2.out]; exact h2.out
          clear h2 HQ2 HS2
          simp only []
          go_wp2_with fail
          go_ret
          exact h3.out
        | true =>
          obtain ⟨-, F2, r2, t2, f2⟩ := h2.out
          have H3 : Hid ((crunV vs ((l.take (k + 1)).map gord).flatten s).2 = true) := by show _ = _; rw [HS2.out]
          have H4 : Hid (R (crunV vs ((l.take (k + 1)).map gord).flatten s).1 F2 w1) := by rw [HS2.out]; exact r2
          have H5 := chid t2
          have H6 := chid f2
          clear h2 HQ2 HS2 r2 t2 f2
          simp only []
          go_wp2_with fail
          go_roundw
          case rel => exact ⟨k + 1, F2, by go_num, by omega, H3.out, H4.out, H5.out, H6.out⟩
          case measure => simp; omega
      · have hlt' : ¬ (k : Int) < (N : Int) := by omega
        have hkN : k = N := by omega
        subst hkN
        have e1 : l.take k = l := by rw [hN.out]; exact List.take_length
        rw [e1, ← hQ.out] at HK HR1
        have h2 : Hid (CVPost R Q F w (.returned (.bool true)) wr) := ⟨by rw [HK.out], F1, HR1.out, HT1.out, HF1.out⟩
        go_wp2_with fail
        go_ret
        exact h2.out
set_option maxHeartbeats 1000000 in
theorem gplan_c (hE : Ent f) (hV : GVis W R vs G D f q) (p : PlP) (v : PlV) (hD : ∀ x, x ∈ plord p → D x) (s : σ) (F : List Nat) (w : World) (hG : G s) (hR : R s F w) (hb : Below W.heap.size W w) (hs : PlAt W p v) :
    Calls Tryz.prog 49 #[plV p v, vfV f q] w (CVPost R (crunV vs (plord p) s) F w) := by
  have A : ∀ o o', Below w.heap.size w ((w.alloc o).alloc o') := fun o o' => ((Below.refl _ _).alloc (Nat.le_refl _) _).alloc (by simp) _
  have hDg : ∀ g, g ∈ p.gs → ∀ x, x ∈ gord g → D x := fun g hg x hx => hD x (List.mem_append_left _ (List.mem_flatten.2 ⟨_, List.mem_map.2 ⟨g, hg, rfl⟩, hx⟩))
  have hDf : ∀ x, x ∈ cpord p.fin → D x := fun x hx => hD x (List.mem_append_right _ hx)
  have HPa := chid (fun g w' hR hb hp hpF => gplanAll hE hV p.gs hDg s F v.gs g w' hG hR hb hs.gs hp hpF)
  have HWf := chid (fun s F w hG hR hb => gwalk_c hE hV p.fin hDf s F v.fi w hG hR hb hs.fi)
  have HA := chid A
  have HB := chid hb
  have HGd := chid hG
  have HRd := chid hR
  have HN := chid (fun (w' : World) (k : Below w.heap.size w w') => hV.next s F w w' hR k)
  have HGo : Hid ((crunV vs (p.gs.map gord).flatten s).2 = true → G (crunV vs (p.gs.map gord).flatten s).1) := fun h => crunV_good hV.good _ _ hG h
  have HF := chid (fun b (hm : b ∈ F) => hV.lt s F w hR b hm)
  obtain ⟨Q, hQ⟩ : ∃ Q, Hid (Q = crunV vs (plord p) s) := ⟨_, rfl⟩
  rw [← hQ.out]
  have hQ2 : Hid (Q = if (crunV vs (p.gs.map gord).flatten s).2 = true then crunV vs (cpord p.fin) (crunV vs (p.gs.map gord).flatten s).1 else ((crunV vs (p.gs.map gord).flatten s).1, false)) := by
    show _ = _
    rw [hQ.out, plord, crunV_append]
  obtain ⟨a1, c1, e1, -, -⟩ := hs.me.shape
  obtain ⟨a2, c2, e2, -, -⟩ := hs.wi.shape
  obtain ⟨a3, c3, e3, -, -⟩ := hs.cr.shape
  obtain ⟨a4, c4, e4, -, -⟩ := hs.gs.shape
  obtain ⟨a5, c5, e5, -, -⟩ := hs.fi.parts.shape
  obtain ⟨me, wi, cr, gs, fi⟩ := v
  dsimp only at e1 e2 e3 e4 e5
  subst e1 e2 e3 e4 e5
  obtain ⟨mets, ⟨r1, r2, r3, r4, r5⟩, wins, crons, loc, gs, ⟨fk, fn, fm, fps⟩⟩ := p
  dsimp only at *
  clear hV hG hR hb hs A hDg hDf hQ hD hE
  generalize mets.length = L1 at *
  generalize wins.length = L2 at *
  generalize crons.length = L3 at *
  generalize gs.length = L4 at *
  generalize fps.length = L5 at *
  generalize crunV vs (gs.map gord).flatten s = qq at *
  obtain ⟨Y0, Y1, -⟩ := two_boxes w 32 94 [.slice a1 L1 c1, .int .i64 r1, .int .i64 r2, .int .i64 r3, .int .i64 r4, .int .i64 r5, .slice a2 L2 c2, .slice a3 L3 c3, .int .i64 loc, .slice a4 L4 c4, .int .i64 fk, .int .i64 fn, .int .i64 fm, .slice a5 L5 c5] [vfV f q]
  have HY0 := chid Y0
  have HY1 := chid Y1
  clear Y0 Y1
  have n0 : Hid (w.heap.size ∉ F) := fun hm => by have := (HF.out _ hm).2; omega
  have n1 : Hid (w.heap.size + 1 ∉ F) := fun hm => by have := (HF.out _ hm).2; omega
  go_enter Tryz.func49, Tryz.ntmps49
  go_wp2_with fail
  refine Calls.mono (HPa.out (w.heap.size + 1) _ (HN.out _ (HA.out _ _)) (HB.out.trans ((HA.out _ _).mono HB.out.size)) HY1.out n1.out) ?_
  intro e w1 h1
  have h2 := chid (h1.pre (HA.out _ _))
  obtain ⟨he, F1, rr, t1, f1⟩ := h1
  subst he
  obtain ⟨qs, qb⟩ := qq
  cases qb with
  | false =>
    have h3 : Hid (CVPost R Q F w (.returned (.bool false)) w1) := by rw [hQ2.out]; exact h2.out
    clear h2 hQ2 rr t1 f1
    simp only []
    go_wp2_with fail
    go_ret
    exact h3.out
  | true =>
    have hQ3 : Hid (Q = crunV vs (cpord ⟨fk, fn, fm, fps⟩) qs) := hQ2.out
    have Z0 := HY0.out.turn t1 n0.out
    have Z1 := HY1.out.turn t1 n1.out
    have d0 := Z1.cell 0 _ rfl
    have dl := Z1.lt
    have k0 := Z0.cell 10 _ rfl
    have k1 := Z0.cell 11 _ rfl
    have k2 := Z0.cell 12 _ rfl
    have k3 := Z0.cell 13 _ rfl
    have l5 := Z0.lt
    have HB1 : Hid (Below W.heap.size W w1) := cbelow_turn (HB.out.trans ((HA.out _ _).mono HB.out.size)) t1 (fun b hm => (HF.out b hm).1)
    have HC2 := chid (HWf.out qs F1 w1 (HGo.out rfl) rr HB1.out)
    have HT := chid ((Turn.of_below (S := F) (HA.out _ _)).trans t1 (fun _ hi => .inl hi))
    have HF1 : Hid (∀ b, b ∈ F1 → b ∈ F ∨ w.heap.size ≤ b) := fun b hm => by
      rcases f1 b hm with k | k
      · exact .inl k
      · exact .inr (by simp at k; omega)
    rw [← hQ3.out] at HC2
    clear h2 hQ2 rr t1 f1 Z0 Z1 n0 n1 HGo HPa HWf HN
    simp only []
    go_wp2_with fail
    refine Calls.mono HC2.out ?_
    intro e w2 h3
    have h4 := chid (h3.then HT.out HF1.out)
    obtain ⟨he, -⟩ := h3
    subst he
    go_wp2_with fail
    go_ret
    exact h4.out
end
end Go.Proofs.YtigldebdljfnbaaGreatDoor
end
section
namespace Go.Proofs.YtigldebdljfnbaaGreatDoor
open Go.RowKit Go.ChangeMaps

abbrev heldR (v : Value) : Option (DataW Value × List MemPlace) := some (.held v, [])
def MpAt (k : TypeId) (w : World) (b : Nat) (l : List (Int × Value)) : Prop := ∃ D : DataW Value, w.ownsMap Tryz.prog k heldR b l.length D ∧ ∀ n : Int, C64 n → Maps.has D (.int .i64 n) = (l.lookup n).isSome ∧ ∀ z : Value, D.atKey (.int .i64 n) (.held z) = .held ((l.lookup n).getD z)
theorem MpAt.made (k : TypeId) (w : World) : MpAt k (w.alloc (.map #[] 0)) w.heap.size [] :=
  ⟨_, World.ownsMap_made w Tryz.prog k heldR, fun _ _ => ⟨rfl, fun _ => rfl⟩⟩
theorem MpAt.lt {k : TypeId} {w : World} {b : Nat} {l : List (Int × Value)} (h : MpAt k w b l) : b < w.heap.size := by
  obtain ⟨D, hD, _⟩ := h
  exact hD.lt
theorem MpAt.same {k : TypeId} {w w' : World} {b : Nat} {l : List (Int × Value)} (h : MpAt k w b l) (hb : w'.heap[b]? = w.heap[b]?) : MpAt k w' b l := by
  obtain ⟨D, ⟨es, c, h1, h2⟩, h3⟩ := h
  exact ⟨D, ⟨es, c, hb.trans h1, h2⟩, h3⟩
theorem MpAt.next {k : TypeId} {w w' : World} {b : Nat} {l : List (Int × Value)} (h : MpAt k w b l) (hb : Below w.heap.size w w') : MpAt k w' b l := h.same (hb.block b h.lt)
theorem wf64 {n : Int} (h : C64 n) : (Lit.int .i64 n).wf = true := WalkArith.wf_i64 ⟨h.1, h.2⟩
theorem MpAt.look {k t e : TypeId} {w : World} {b : Nat} {l : List (Int × Value)} (h : MpAt k w b l) (hk : Tryz.prog.underlying k = some (.int .i64)) (ht : Tryz.prog.underlying t = some (.map k e)) {z : Value} (hz : (zeroValue e).run Tryz.prog w = .ok z w) {n : Int} (hn : C64 n) :
    (Instr.lookup t (.map (some b)) (.int .i64 n) true).run Tryz.prog w = .ok (.tuple #[(l.lookup n).getD z, .bool (l.lookup n).isSome]) w := by
  obtain ⟨D, hD, hl⟩ := h
  obtain ⟨v, ps, hr, hv⟩ := hD.look_ok (Maps.int_keyed hk) ht hz (zd := .held z) (zp := []) rfl (Maps.keyOf_int_mk hk (wf64 hn))
  obtain ⟨h1, h2⟩ := hl n hn
  rw [h2 z] at hv
  simp only [heldR, Option.some.injEq, Prod.mk.injEq, DataW.held.injEq] at hv
  rw [hr, h1, hv.1]
theorem MpAt.store {k t e : TypeId} {w : World} {b : Nat} {l : List (Int × Value)} (h : MpAt k w b l) (hk : Tryz.prog.underlying k = some (.int .i64)) (ht : Tryz.prog.underlying t = some (.map k e)) (hn : l.length < 9223372036854775807) {n : Int} (h64 : C64 n) (x : Value) :
    ∃ w', (Instr.mapUpdate t (.map (some b)) (.int .i64 n) x).run Tryz.prog w = .ok () w' ∧ MpAt k w' b ((n, x) :: l) ∧ Turn [b] w w' := by
  obtain ⟨D, hD, hl⟩ := h
  obtain ⟨w', hr, hD', hg⟩ := hD.update (Maps.int_keyed hk) ht hn (Maps.keyOf_int_mk hk (wf64 h64)) (d := .held x) (ps := []) rfl
  refine ⟨w', hr, ⟨_, hD', fun m hm => ?_⟩, ⟨hg.os, hg.tape, hg.output, hg.size, fun i hi hn => hg.block i hi (fun e => hn (by simp at e; simp [e]))⟩⟩
  by_cases he : m = n
  · subst he
    refine ⟨?_, fun z => ?_⟩
    · rw [Maps.has_put_same hD.isMap (show WideAt.IsKeyLit (.int .i64 m) from trivial)]; simp [List.lookup]
    · rw [Maps.atKey_put_same hD.isMap (show WideAt.IsKeyLit (.int .i64 m) from trivial)]; simp [List.lookup]
  · have hne : (Lit.int .i64 m) ≠ .int .i64 n := fun e => he (by cases e; rfl)
    have hb : (m == n) = false := by simpa using he
    obtain ⟨h1, h2⟩ := hl m hm
    refine ⟨?_, fun z => ?_⟩
    · rw [Maps.has_put_other hne, h1]; simp [List.lookup, hb]
    · rw [Maps.atKey_put_other hne, h2 z]; simp [List.lookup, hb]
end Go.Proofs.YtigldebdljfnbaaGreatDoor
end
section
namespace Go.Proofs.YtigldebdljfnbaaGreatDoor
open Go.RowKit

theorem ccnt_snd : ∀ (l : List Co) (s : Nat), s ≤ 4096 → (crunV ccntV l s).2 = decide (s + l.length ≤ 4096)
  | [], s, h => by simp [crunV, h]
  | t :: r, s, h => by
    rw [crunV]
    by_cases hs : s + 1 ≤ 4096
    · rw [if_pos (by simp [ccntV, hs])]
      have := ccnt_snd r (s + 1) hs
      show (crunV ccntV r (s + 1)).2 = _
      rw [this, List.length_cons]; congr 2; omega
    · rw [if_neg (by simp [ccntV, hs])]
      show false = _
      rw [List.length_cons]; exact (decide_eq_false (by omega)).symm
def FewR (W : World) (g : Nat) (s : Nat) (F : List Nat) (w : World) : Prop := F = [g] ∧ Box w g [.int .i64 (4096 - (s : Int))] ∧ W.heap.size ≤ g
theorem few_call (W : World) (g s : Nat) (F : List Nat) (t : Co) (v : Value) (w : World) (hG : s ≤ 4096) (hR : FewR W g s F w) (hs : CSits W t v) : Calls Tryz.prog 69 (#[coV t v] ++ #[.pointer (some ⟨g, 0, none⟩)]) w (CVPost (FewR W g) (ccntV s t) F w) := by
  obtain ⟨rfl, hb, hW⟩ := hR
  obtain ⟨ad, cap, rfl, -, -⟩ := hs.parts.shape
  have c0 := hb.cell 0 _ rfl
  have f0 := hb.free 0 (by simp)
  have l0 := hb.lt
  have HB := chid hb
  obtain ⟨S, hS⟩ : ∃ S : Int, Hid (S = 4096 - (s : Int)) := ⟨_, rfl⟩
  rw [← hS.out] at c0
  have ng : g ≠ w.heap.size := by omega
  have hi1 : 0 ≤ S := by have := hS.out; omega
  have hi2 : S ≤ 4096 := by have := hS.out; omega
  clear hs hb
  have hP : Hid (∀ o, CVPost (FewR W g) (ccntV s t) [g] w (.returned (.bool (decide (1 ≤ S)))) ((w.setCell ⟨g, 0, none⟩ (.int .i64 (S - 1))).alloc o)) := fun o => by
    have hd : decide (1 ≤ S) = decide (s + 1 ≤ 4096) := decide_eq_decide.2 (by have := hS.out; omega)
    refine ⟨by rw [hd]; rfl, [g], ⟨rfl, ?_, hW⟩, ?_, fun b hm => .inl hm⟩
    · have := (HB.out.set 0 (by simp) (.int .i64 (S - 1))).next ((Below.refl _ _).alloc (Nat.le_refl _) o)
      have e1 : (4096 - ((ccntV s t).1 : Int)) = S - 1 := by show (4096 - ((s + 1 : Nat) : Int)) = _; have := hS.out; omega
      rw [e1]
      exact this
    · exact (Turn.set w ⟨g, 0, none⟩ _ (by simp)).andBelow ((Below.refl _ _).alloc (Nat.le_refl _) o)
  clear hG
  show Calls Tryz.prog 69 #[coV t (.slice ad t.parts.length cap), .pointer (some ⟨g, 0, none⟩)] w _
  go_enter Tryz.func69, Tryz.ntmps69
  go_wp2_with fail
  go_ret
  exact hP.out _
theorem few_vis (W : World) (g : Nat) : GVis W (FewR W g) ccntV (fun s => s ≤ 4096) (fun _ => True) 69 #[.pointer (some ⟨g, 0, none⟩)] where
  next := fun s F w w' ⟨a, b, c⟩ hb => ⟨a, b.next hb, c⟩
  lt := fun s F w ⟨a, b, c⟩ k hk => by
    subst a
    simp at hk
    subst hk
    exact ⟨c, b.lt⟩
  good := fun s t hs hb => by simp [ccntV] at hb; simpa [ccntV] using hb
  call := fun s F t v w _ hG hR _ hs => few_call W g s F t v w hG hR hs
theorem ent_few : Ent 69 := by intro args W; kernel_rfl
theorem PlAt.shapes {w : World} {p : PlP} {v : PlV} (h : PlAt w p v) : ∃ a1 c1 a2 c2 a3 c3 a4 c4 a5 c5, v = ⟨.slice a1 p.mets.length c1, .slice a2 p.wins.length c2, .slice a3 p.crons.length c3, .slice a4 p.gs.length c4, .slice a5 p.fin.parts.length c5⟩ ∧ p.mets.length ≤ 9223372036854775807 ∧ p.wins.length ≤ 9223372036854775807 ∧ p.crons.length ≤ 9223372036854775807 ∧ p.gs.length ≤ 9223372036854775807 := by
  obtain ⟨a1, c1, e1, u1, t1⟩ := RowsK.shape h.me
  obtain ⟨a2, c2, e2, u2, t2⟩ := RowsK.shape h.wi
  obtain ⟨a3, c3, e3, u3, t3⟩ := RowsK.shape h.cr
  obtain ⟨a4, c4, e4, u4, t4⟩ := h.gs.shape
  obtain ⟨a5, c5, e5, u5, t5⟩ := h.fi.parts.shape
  obtain ⟨me, wi, cr, gs, fi⟩ := v
  dsimp only at *
  exact ⟨a1, c1, a2, c2, a3, c3, a4, c4, a5, c5, by rw [e1, e2, e3, e4, e5], by omega, by omega, by omega, by omega⟩
set_option maxHeartbeats 1000000 in
theorem fewNodes_c (p : PlP) (v : PlV) (w : World) (hs : PlAt w p v) : Calls Tryz.prog 40 #[plV p v] w fun e w' => e = .returned (.bool (fewB p)) ∧ Below w.heap.size w w' := by
  have A : ∀ o o', Below w.heap.size w ((w.alloc o).alloc o') := fun o o' => ((Below.refl _ _).alloc (Nat.le_refl _) _).alloc (by simp) _
  have HW := chid (fun (o : Obj) (ty : TypeId) => gplan_c ent_few (few_vis w (w.heap.size + 1)) p v (fun _ _ => trivial) 0 [w.heap.size + 1] ((w.alloc o).alloc (.cells #[.int .i64 4096] ty)) (by omega) ⟨rfl, by simpa using Box.new (w.alloc o) [.int .i64 4096] ty, by omega⟩ (A _ _) hs)
  obtain ⟨a1, c1, a2, c2, a3, c3, a4, c4, a5, c5, rfl, -⟩ := hs.shapes
  have HE : Hid ((crunV ccntV (plord p) 0).2 = fewB p) := by
    show _ = _
    rw [ccnt_snd _ 0 (by omega), Nat.zero_add]
    rfl
  have HA := chid A
  clear hs A
  generalize fewB p = B at *
  go_enter Tryz.func40, Tryz.ntmps40
  go_wp2_with fail
  refine Calls.mono (HW.out _ _) ?_
  rintro e w1 ⟨he, F', -, t1, -⟩
  rw [HE.out] at he
  subst he
  have B1 : Hid (Below w.heap.size w w1) := (HA.out _ _).trans (t1.below (fun k hk => by simp at hk; omega) (by simp; omega))
  clear t1 HW
  go_wp2_with fail
  go_ret
  exact ⟨rfl, B1.out⟩
end Go.Proofs.YtigldebdljfnbaaGreatDoor
end
