import Derived.Test.YtbddbnjhmdbkbaaGreatDoorCaMhC
namespace Go.Proofs.YtbddbnjhmdbkbaaGreatDoor
open Go.RowKit

set_option maxHeartbeats 1000000 in
set_option maxRecDepth 20000 in
theorem two_c (E : EnvP) (k tn tm : Int) (x0 x1 : Co) (g p : Nat) (F : Int → Int → Int) (hE : Ent g) (H0 : TeC E x0) (H1 : TeC E x1) (HS : ∀ W : World, Calls Tryz.prog g #[.int .i64 (telV E x0).1, .int .i64 (telV E x1).1] W fun e w' => e = .returned (.int .i64 (F (telV E x0).1 (telV E x1).1)) ∧ Below W.heap.size W w') (v : Value) (tb b : Nat) (w : World) (hs : CSits w ⟨k, tn, tm, [x0, x1]⟩ v) (ht : TlAt w tb b E) (hp : FnF w p (.func (.func g) #[] #[])) :
    Calls Tryz.prog 222 #[.pointer (some ⟨tb, 0, none⟩), coV ⟨k, tn, tm, [x0, x1]⟩ v, .pointer (some ⟨p, 0, none⟩)] w fun e w' => e = .returned (resV (ofTwoR (fun a b => okR (F a b)) (telV E x0) (telV E x1))) ∧ Below w.heap.size w w' := by
  obtain ⟨Rv, hRv⟩ : ∃ Rv, Hid (Rv = resV (ofTwoR (fun a b => okR (F a b)) (telV E x0) (telV E x1))) := ⟨_, rfl⟩
  rw [← hRv.out]
  have HC := chid (fun W (hW : Below w.heap.size w W) => pair_c E k tn tm x0 x1 H0 H1 v tb b W (hs.next hW) (ht.next hW))
  obtain ⟨pb, off, cap, u0, u1, rfl, -, -, -, -, -⟩ := parts2 hs.parts
  have HA : Hid (∀ o, Below w.heap.size w (w.alloc o)) := fun o => (Below.refl _ _).alloc (Nat.le_refl _) _
  have HSs := chid HS
  clear hs ht HS H0 H1
  generalize telV E x0 = r0 at *
  generalize telV E x1 = r1 at *
  obtain ⟨n0', e0⟩ := r0
  obtain ⟨n1', e1⟩ := r1
  dsimp only at HSs
  by_cases he : e0 = 0
  case neg =>
    have hR : Hid (Rv = Value.tuple #[.int .i64 0, .iface 238 (.agg #[.int .i64 e0])]) := by show _ = _; rw [hRv.out]; unfold ofTwoR; rw [if_neg he]; exact resV_err _ he
    have ep : pairV (n0', e0) (n1', e1) = .tuple #[.int .i64 0, .int .i64 0, .iface 238 (.agg #[.int .i64 e0])] := by unfold pairV; rw [if_neg he, errV_n he]
    simp only [ep] at HC
    clear hRv ep
    go_enter Tryz.func222, Tryz.ntmps222
    go_wp2_with fail
    refine Calls.mono (HC.out _ (HA.out _)) ?_
    rintro e w1 ⟨rfl, b1⟩
    have HB := chid (cbelow_on (HA.out _) b1 (by simp))
    clear b1 HC
    go_wp2_with fail
    go_ret2
    exact ⟨by rw [hR.out]; rfl, HB.out⟩
  subst he
  by_cases he : e1 = 0
  case neg =>
    have hR : Hid (Rv = Value.tuple #[.int .i64 0, .iface 238 (.agg #[.int .i64 e1])]) := by show _ = _; rw [hRv.out]; unfold ofTwoR; rw [if_pos rfl, if_neg he]; exact resV_err _ he
    have ep : pairV (n0', 0) (n1', e1) = .tuple #[.int .i64 n0', .int .i64 n1', .iface 238 (.agg #[.int .i64 e1])] := by unfold pairV; rw [if_pos rfl, errV_n he]
    simp only [ep] at HC
    clear hRv ep
    go_enter Tryz.func222, Tryz.ntmps222
    go_wp2_with fail
    refine Calls.mono (HC.out _ (HA.out _)) ?_
    rintro e w1 ⟨rfl, b1⟩
    have HB := chid (cbelow_on (HA.out _) b1 (by simp))
    clear b1 HC
    go_wp2_with fail
    go_ret2
    exact ⟨by rw [hR.out]; rfl, HB.out⟩
  subst he
  have ep : pairV (n0', 0) (n1', 0) = .tuple #[.int .i64 n0', .int .i64 n1', .nilIface] := by unfold pairV; rw [if_pos rfl, errV_0]
  simp only [ep] at HC
  clear ep
  have hR : Hid (Rv = Value.tuple #[.int .i64 (F n0' n1'), .nilIface]) := by show _ = _; rw [hRv.out]; unfold ofTwoR; rw [if_pos rfl, if_pos rfl]; exact resV_ok _ rfl
  have HP := chid hp
  unfold Ent at hE
  clear hRv hp
  go_enter Tryz.func222, Tryz.ntmps222
  go_wp2_with fail
  refine Calls.mono (HC.out _ (HA.out _)) ?_
  rintro e w1 ⟨rfl, b1⟩
  have HB := chid (cbelow_on (HA.out _) b1 (by simp))
  clear b1 HC
  obtain ⟨lp2, fp2⟩ := HP.out.next HB.out
  go_wp2_with fail
  refine Calls.mono (HSs.out _) ?_
  rintro e w3 ⟨rfl, b3⟩
  have HB3 := chid (cbelow_on HB.out b3 HB.out.size)
  clear b3 HSs
  go_wp2_with fail
  go_ret2
  exact ⟨by rw [hR.out]; rfl, HB3.out⟩
set_option maxHeartbeats 1000000 in
set_option maxRecDepth 20000 in
theorem div_c (E : EnvP) (k tn tm : Int) (x0 x1 : Co) (H0 : TeC E x0) (H1 : TeC E x1) (HS : ∀ W : World, Calls Tryz.prog 230 #[.int .i64 (telV E x0).1, .int .i64 (telV E x1).1] W fun e w' => e = .returned (.tuple #[.int .i64 (if (telV E x1).1 = 0 then 0 else held (fl ((telV E x0).1 * 1000000) (telV E x1).1)), .bool (decide ((telV E x1).1 ≠ 0))]) ∧ Below W.heap.size W w') (v : Value) (tb b : Nat) (w : World) (hs : CSits w ⟨k, tn, tm, [x0, x1]⟩ v) (ht : TlAt w tb b E) :
    Calls Tryz.prog 158 #[.pointer (some ⟨tb, 0, none⟩), coV ⟨k, tn, tm, [x0, x1]⟩ v] w fun e w' => e = .returned (resV (ofTwoR divR (telV E x0) (telV E x1))) ∧ Below w.heap.size w w' := by
  obtain ⟨Rv, hRv⟩ : ∃ Rv, Hid (Rv = resV (ofTwoR divR (telV E x0) (telV E x1))) := ⟨_, rfl⟩
  rw [← hRv.out]
  have HC := chid (fun W (hW : Below w.heap.size w W) => pair_c E k tn tm x0 x1 H0 H1 v tb b W (hs.next hW) (ht.next hW))
  obtain ⟨pb, off, cap, u0, u1, rfl, -, -, -, -, -⟩ := parts2 hs.parts
  have HA : Hid (∀ o, Below w.heap.size w (w.alloc o)) := fun o => (Below.refl _ _).alloc (Nat.le_refl _) _
  have HSs := chid HS
  clear hs ht HS H0 H1
  generalize telV E x0 = r0 at *
  generalize telV E x1 = r1 at *
  obtain ⟨n0', e0⟩ := r0
  obtain ⟨n1', e1⟩ := r1
  dsimp only at HSs
  by_cases he : e0 = 0
  case neg =>
    have hR : Hid (Rv = Value.tuple #[.int .i64 0, .iface 238 (.agg #[.int .i64 e0])]) := by show _ = _; rw [hRv.out]; unfold ofTwoR; rw [if_neg he]; exact resV_err _ he
    have ep : pairV (n0', e0) (n1', e1) = .tuple #[.int .i64 0, .int .i64 0, .iface 238 (.agg #[.int .i64 e0])] := by unfold pairV; rw [if_neg he, errV_n he]
    simp only [ep] at HC
    clear hRv ep
    go_enter Tryz.func158, Tryz.ntmps158
    go_wp2_with fail
    refine Calls.mono (HC.out _ (HA.out _)) ?_
    rintro e w1 ⟨rfl, b1⟩
    have HB := chid (cbelow_on (HA.out _) b1 (by simp))
    clear b1 HC
    go_wp2_with fail
    go_ret2
    exact ⟨by rw [hR.out]; rfl, HB.out⟩
  subst he
  by_cases he : e1 = 0
  case neg =>
    have hR : Hid (Rv = Value.tuple #[.int .i64 0, .iface 238 (.agg #[.int .i64 e1])]) := by show _ = _; rw [hRv.out]; unfold ofTwoR; rw [if_pos rfl, if_neg he]; exact resV_err _ he
    have ep : pairV (n0', 0) (n1', e1) = .tuple #[.int .i64 n0', .int .i64 n1', .iface 238 (.agg #[.int .i64 e1])] := by unfold pairV; rw [if_pos rfl, errV_n he]
    simp only [ep] at HC
    clear hRv ep
    go_enter Tryz.func158, Tryz.ntmps158
    go_wp2_with fail
    refine Calls.mono (HC.out _ (HA.out _)) ?_
    rintro e w1 ⟨rfl, b1⟩
    have HB := chid (cbelow_on (HA.out _) b1 (by simp))
    clear b1 HC
    go_wp2_with fail
    go_ret2
    exact ⟨by rw [hR.out]; rfl, HB.out⟩
  subst he
  have ep : pairV (n0', 0) (n1', 0) = .tuple #[.int .i64 n0', .int .i64 n1', .nilIface] := by unfold pairV; rw [if_pos rfl, errV_0]
  simp only [ep] at HC
  clear ep
  by_cases hz : n1' = 0
  · have hR : Hid (Rv = Value.tuple #[.int .i64 0, .iface 238 (.agg #[.int .i64 2])]) := by show _ = _; rw [hRv.out]; unfold ofTwoR; rw [if_pos rfl, if_pos rfl]; unfold divR; rw [if_pos hz]; exact resV_err _ (by decide)
    have d : decide (n1' ≠ 0) = false := decide_eq_false (fun h => h hz)
    rw [if_pos hz, d] at HSs
    clear hRv d
    subst hz
    go_enter Tryz.func158, Tryz.ntmps158
    go_wp2_with fail
    refine Calls.mono (HC.out _ (HA.out _)) ?_
    rintro e w1 ⟨rfl, b1⟩
    have HB := chid (cbelow_on (HA.out _) b1 (by simp))
    clear b1 HC
    go_wp2_with fail
    refine Calls.mono (HSs.out _) ?_
    rintro e w3 ⟨rfl, b3⟩
    have HB3 := chid (cbelow_on HB.out b3 HB.out.size)
    clear b3 HSs
    go_wp2_with fail
    go_ret2
    exact ⟨by rw [hR.out]; rfl, HB3.out⟩
  · have hR : Hid (Rv = Value.tuple #[.int .i64 (held (fl (n0' * 1000000) n1')), .nilIface]) := by show _ = _; rw [hRv.out]; unfold ofTwoR; rw [if_pos rfl, if_pos rfl]; unfold divR; rw [if_neg hz]; exact resV_ok _ rfl
    have d : decide (n1' ≠ 0) = true := decide_eq_true hz
    rw [if_neg hz, d] at HSs
    clear hRv d
    go_enter Tryz.func158, Tryz.ntmps158
    go_wp2_with fail
    refine Calls.mono (HC.out _ (HA.out _)) ?_
    rintro e w1 ⟨rfl, b1⟩
    have HB := chid (cbelow_on (HA.out _) b1 (by simp))
    clear b1 HC
    go_wp2_with fail
    refine Calls.mono (HSs.out _) ?_
    rintro e w3 ⟨rfl, b3⟩
    have HB3 := chid (cbelow_on HB.out b3 HB.out.size)
    clear b3 HSs
    go_wp2_with fail
    go_ret2
    exact ⟨by rw [hR.out]; rfl, HB3.out⟩
theorem ladI_end {ps : List Co} {v : Int} {L f i : Nat} (h : ¬ i + 1 < L) (hf : 0 < f) : ladI ps v L f i = L - 1 := by
  obtain ⟨f', rfl⟩ : ∃ f', f = f' + 1 := ⟨f - 1, by omega⟩
  rw [ladI, if_neg h]
theorem ladI_hit {ps : List Co} {v : Int} {L f i : Nat} (h : i + 1 < L) (hv : v < (ps.getD i co0).n) (hf : 0 < f) : ladI ps v L f i = i + 1 := by
  obtain ⟨f', rfl⟩ : ∃ f', f = f' + 1 := ⟨f - 1, by omega⟩
  rw [ladI, if_pos h, if_pos hv]
theorem ladI_on {ps : List Co} {v : Int} {L f i : Nat} (h : i + 1 < L) (hv : ¬ v < (ps.getD i co0).n) : ladI ps v L (f + 1) i = ladI ps v L f (i + 2) := by
  rw [ladI, if_pos h, if_neg hv]
/-- What a ladder comes to. -/
def ladR (ps : List Co) (rs : List Rs) : Rs := if (rs.getD 0 (0, 0)).2 = 0 then rs.getD (ladI ps (rs.getD 0 (0, 0)).1 ps.length ps.length 1) (0, 0) else noR (rs.getD 0 (0, 0)).2
set_option maxHeartbeats 4000000 in
set_option maxRecDepth 20000 in
theorem ladder_c (E : EnvP) (k tn tm : Int) (ps : List Co) (h2 : 2 ≤ ps.length) (hev : ps.length % 2 = 0) (hmx : ps.length ≤ 8192) (H : ∀ x, x ∈ ps → TeC E x) (v : Value) (tb b : Nat) (w : World) (hs : CSits w ⟨k, tn, tm, ps⟩ v) (ht : TlAt w tb b E) :
    Calls Tryz.prog 176 #[.pointer (some ⟨tb, 0, none⟩), coV ⟨k, tn, tm, ps⟩ v] w fun e w' => e = .returned (resV (ladR ps (ps.map (telV E)))) ∧ Below w.heap.size w w' := by
  obtain ⟨Rv, hRv⟩ : ∃ Rv, Hid (Rv = resV (ladR ps (ps.map (telV E)))) := ⟨_, rfl⟩
  rw [← hRv.out]
  obtain ⟨pb, off, cap, rfl, k1, k2, lp, hx⟩ := hs.parts.open (by show 0 < ps.length; omega)
  dsimp only at k1 k2 hx
  have gR : ∀ i (h : i < ps.length), (ps.map (telV E)).getD i (0, 0) = telV E ps[i] := fun i h => by simp [List.getD, List.getElem?_map, List.getElem?_eq_getElem h]
  have gP : ∀ i (h : i < ps.length), ps.getD i co0 = ps[i] := fun i h => by simp [List.getD, List.getElem?_eq_getElem h]
  have HC : Hid (∀ i (h : i < ps.length) W, Below w.heap.size w W → ∃ a n, Four w pb (off + i * 4) ps[i] (.slice a ps[i].parts.length n) ∧ Calls Tryz.prog 199 #[.pointer (some ⟨tb, 0, none⟩), coV ps[i] (.slice a ps[i].parts.length n)] W fun e w' => e = .returned (resV (telV E ps[i])) ∧ Below W.heap.size W w') := fun i h W hW => by
    obtain ⟨u, f6, s6⟩ := hx i h
    obtain ⟨a, n, rfl, -, -⟩ := s6.parts.shape
    exact ⟨a, n, f6, H _ (List.getElem_mem h) _ tb b W (s6.next hW) (ht.next hW)⟩
  have HA : Hid (∀ o, Below w.heap.size w (w.alloc o)) := fun o => (Below.refl _ _).alloc (Nat.le_refl _) _
  have HX := chid (Box.new w (coL ⟨k, tn, tm, ps⟩ (.slice (some ⟨pb, off, none⟩) ps.length cap)) 30)
  obtain ⟨a0, n0, f0, -⟩ := HC.out 0 (by omega) w (Below.refl _ _)
  obtain ⟨p0, p1, p2, p3⟩ := f0
  simp only [Nat.zero_mul, Nat.add_zero] at p0 p1 p2 p3
  obtain ⟨L, hL⟩ : ∃ L, Hid (L = ps.length) := ⟨_, rfl⟩
  have hl0 : 0 < L := by rw [hL.out]; omega
  have hl0' : (0 : Int) < (L : Int) := by omega
  have h1 : Hid (∀ W, Below w.heap.size w W → Calls Tryz.prog 199 #[.pointer (some ⟨tb, 0, none⟩), coV ps[0] (.slice a0 ps[0].parts.length n0)] W fun e w' => e = .returned (resV (telV E ps[0])) ∧ Below W.heap.size W w') := fun W hW => by
    obtain ⟨a, n, f6, c6⟩ := HC.out 0 (by omega) W hW
    have e := f6.c3
    simp only [Nat.zero_mul, Nat.add_zero] at e
    rw [p3] at e
    simp only [Option.some.injEq, Value.slice.injEq, true_and] at e
    obtain ⟨rfl, rfl⟩ := e
    exact c6
  have hRe : Hid (Rv = resV (if (telV E ps[0]).2 = 0 then (ps.map (telV E)).getD (ladI ps (telV E ps[0]).1 ps.length ps.length 1) (0, 0) else noR (telV E ps[0]).2)) := by
    show _ = _
    rw [hRv.out]; unfold ladR; rw [gR 0 (by omega)]
  have HGR := chid gR
  have HGP := chid gP
  clear hs ht hx gR gP hRv
  generalize telV E ps[0] = r0 at *
  generalize ps[0] = x0 at *
  show Calls _ _ #[_, coV ⟨k, tn, tm, ps⟩ (.slice (some ⟨pb, off, none⟩) ps.length cap)] _ _
  rw [← hL.out] at HX k1 hRe h2 hev hmx ⊢
  obtain ⟨n0', e0⟩ := r0
  dsimp only at hRe
  by_cases he : e0 = 0
  case neg =>
    have hR : Hid (Rv = Value.tuple #[.int .i64 0, .iface 238 (.agg #[.int .i64 e0])]) := by show _ = _; rw [hRe.out, if_neg he]; exact resV_err _ he
    go_enter Tryz.func176, Tryz.ntmps176
    go_wp2_with fail
    refine Calls.mono (h1.out _ (HA.out _)) ?_
    rintro e w1 ⟨he1, b1⟩
    rw [resV_err n0' he] at he1
    subst he1
    have HB := chid (cbelow_on (HA.out _) b1 (by simp))
    clear b1 hRe h1 HX p0 p1 p2 p3
    go_wp2_with fail
    go_ret2
    exact ⟨by rw [hR.out]; rfl, HB.out⟩
  subst he
  have hRe2 : Hid (Rv = resV ((ps.map (telV E)).getD (ladI ps n0' L L 1) (0, 0))) := hRe.out
  clear hRe
  go_enter Tryz.func176, Tryz.ntmps176
  go_wp2_with fail
  refine Calls.mono (h1.out _ (HA.out _)) ?_
  rintro e w1 ⟨he1, b1⟩
  rw [resV_ok (n0', 0) rfl] at he1
  subst he1
  have HB := chid (cbelow_on (HA.out _) b1 (by simp))
  have X1 := HX.out.next b1
  have c3 := X1.cell 3 _ rfl
  have x1l := X1.lt
  clear b1 HX X1 p0 p1 p2 p3 h1
  obtain ⟨M, rfl⟩ : ∃ M, L = M + 1 := ⟨L - 1, by omega⟩
  have lp1 := Nat.lt_of_lt_of_le lp HB.out.size
  go_wp2_with fail
  go_loopw [9] (fun x wr => ∃ (i f : Nat), x = .int .i64 (i : Nat) ∧ i ≤ M ∧ Hid (i % 2 = 1) ∧ Hid (M + 1 ≤ i + 2 * f) ∧ Hid (ladI ps n0' (M + 1) f i = ladI ps n0' (M + 1) (M + 1) 1) ∧ wr = w1) (fun x _ => match x with | .int _ p => ((M : Int) - p).toNat | _ => 0)
  case atStart => exact ⟨1, M + 1, rfl, by omega, chid rfl, chid (by omega), chid rfl, rfl⟩
  case round =>
    obtain ⟨i, f, rfl, hj, HO, HF, HJ, rfl⟩ := hrel
    by_cases hlt : i < M
    · have hlt' : (i : Int) < (M : Int) := by omega
      have hi1 : i < ps.length := by rw [← hL.out]; omega
      have hi2 : i + 1 < ps.length := by rw [← hL.out]; omega
      obtain ⟨a5, n5, f5, -⟩ := HC.out i hi1 wr HB.out
      have q1 := (f5.keep (w' := wr) (fun j => HB.out.cell (p := ⟨pb, j, none⟩) lp)).c1
      have gp := HGP.out i hi1
      have hil : (i : Int) < (M : Int) + 1 := by omega
      by_cases hv : n0' < ps[i].n
      · have hJ2 : ladI ps n0' (M + 1) f i = i + 1 := ladI_hit (by omega) (by rw [gp]; exact hv) (by have := HF.out; omega)
        obtain ⟨a6, n6, f6, c6⟩ := HC.out (i + 1) hi2 wr HB.out
        obtain ⟨p0, p1, p2, p3⟩ := f6.keep (w' := wr) (fun j => HB.out.cell (p := ⟨pb, j, none⟩) lp)
        have hR : Hid (Rv = resV (telV E ps[i + 1])) := by show _ = _; rw [hRe2.out, ← HJ.out, hJ2, HGR.out (i + 1) hi2]
        have HC6 := chid c6
        have hil2 : (i : Int) + 1 < (M : Int) + 1 := by omega
        clear hRe2 HJ hJ2 gp f5 f6 c6 HC
        generalize telV E ps[i + 1] = r6 at *
        generalize ps[i + 1] = x6 at *
        generalize ps[i].n = n7 at *
        go_wp2_with fail
        refine Calls.mono HC6.out ?_
        rintro e w2 ⟨rfl, b2⟩
        have HB2 := chid (cbelow_on HB.out b2 HB.out.size)
        clear b2 p0 p1 p2 p3
        go_wp2_with fail
        go_ret2
        exact ⟨by rw [hR.out]; rfl, HB2.out⟩
      · obtain ⟨f', rfl⟩ : ∃ f', f = f' + 1 := ⟨f - 1, by have := HF.out; omega⟩
        have hJ2 : Hid (ladI ps n0' (M + 1) f' (i + 2) = ladI ps n0' (M + 1) (M + 1) 1) := by
          show _ = _
          rw [← HJ.out, ladI_on (by omega) (by rw [gp]; exact hv)]
        clear hRe2 HJ gp f5 HC
        generalize ps[i].n = n7 at *
        go_wp2_with fail
        go_roundw
        case rel => exact ⟨i + 2, f', by go_num, by have := HO.out; omega, chid (by have := HO.out; omega), chid (by have := HF.out; omega), hJ2.out, by first | rfl | trivial⟩
        case measure => simp; omega
    · have hlt' : ¬ (i : Int) < (M : Int) := by omega
      obtain rfl : i = M := by omega
      have hiM : i < ps.length := by rw [← hL.out]; omega
      have hJ2 : ladI ps n0' (i + 1) f i = i := ladI_end (by omega) (by have := HF.out; omega)
      obtain ⟨a6, n6, f6, c6⟩ := HC.out i hiM wr HB.out
      obtain ⟨p0, p1, p2, p3⟩ := f6.keep (w' := wr) (fun j => HB.out.cell (p := ⟨pb, j, none⟩) lp)
      have hR : Hid (Rv = resV (telV E ps[i])) := by show _ = _; rw [hRe2.out, ← HJ.out, hJ2, HGR.out i hiM]
      have HC6 := chid c6
      clear hRe2 HJ hJ2 f6 c6 HC
      generalize telV E ps[i] = r6 at *
      generalize ps[i] = x6 at *
      go_wp2_with fail
      refine Calls.mono HC6.out ?_
      rintro e w2 ⟨rfl, b2⟩
      have HB2 := chid (cbelow_on HB.out b2 HB.out.size)
      clear b2 p0 p1 p2 p3
      go_wp2_with fail
      go_ret2
      exact ⟨by rw [hR.out]; rfl, HB2.out⟩

/-- A function of the program reckons F of one number. -/
def UnC (g : Nat) (P : Int → Prop) (F : Int → Int) : Prop := Ent g ∧ ∀ (a : Int) (W : World), C64 a → P a → Calls Tryz.prog g #[.int .i64 a] W fun e w' => e = .returned (.int .i64 (F a)) ∧ Below W.heap.size W w'
/-- A function of the program reckons F of two numbers. -/
def BiC (g : Nat) (F : Int → Int → Int) : Prop := Ent g ∧ ∀ (a b : Int) (W : World), C64 a → C64 b → Calls Tryz.prog g #[.int .i64 a, .int .i64 b] W fun e w' => e = .returned (.int .i64 (F a b)) ∧ Below W.heap.size W w'
theorem lt64 {a : Int} (h : C64 a) : a < 9223372036854775808 := by have := h.2; omega
theorem un_neg : UnC 147 (fun _ => True) (uF 8) := ⟨fun _ _ => by kernel_rfl, fun a W h _ => Neg_any a h.1 (lt64 h) W⟩
theorem un_abs : UnC 149 (fun _ => True) (uF 10) := ⟨fun _ _ => by kernel_rfl, fun a W h _ => Abs_any a h.1 (lt64 h) W⟩
theorem un_ceil : UnC 150 (fun _ => True) (uF 11) := ⟨fun _ _ => by kernel_rfl, fun a W h _ => Ceil_any a h.1 (lt64 h) W⟩
theorem un_floor : UnC 151 (fun _ => True) (uF 12) := ⟨fun _ _ => by kernel_rfl, fun a W h _ => Floor_any a h.1 (lt64 h) W⟩
theorem un_not : UnC 148 (fun a => a = 0 ∨ a = 1) (uF 9) := ⟨fun _ _ => by kernel_rfl, fun a W h hp => by
  show Calls Tryz.prog 148 #[.int .i64 a] W fun e w' => e = .returned (.int .i64 (1 - a)) ∧ Below W.heap.size W w'
  rcases hp with rfl | rfl
  · go_enter Tryz.func148, Tryz.ntmps148
    go_wp2_with fail
    go_ret
    exact ⟨rfl, Below.refl _ _⟩
  · go_enter Tryz.func148, Tryz.ntmps148
    go_wp2_with fail
    go_ret
    exact ⟨rfl, Below.refl _ _⟩⟩
theorem bi_add : BiC 155 (bF 14) := ⟨fun _ _ => by kernel_rfl, fun a b W ha hb => Add_any a b ha.1 (lt64 ha) hb.1 (lt64 hb) W⟩
theorem bi_sub : BiC 156 (bF 15) := ⟨fun _ _ => by kernel_rfl, fun a b W ha hb => Sub_any a b ha.1 (lt64 ha) hb.1 (lt64 hb) W⟩
theorem bi_mul : BiC 157 (bF 16) := ⟨fun _ _ => by kernel_rfl, fun a b W ha hb => Mul_of a b ha.1 (lt64 ha) hb.1 (lt64 hb) (divOK_any _ _ (by decide) (by decide)) W⟩
theorem bi_less : BiC 159 (bF 18) := ⟨fun _ _ => by kernel_rfl, fun a b W ha hb => by
  show Calls Tryz.prog 159 #[.int .i64 a, .int .i64 b] W fun e w' => e = .returned (.int .i64 (b2i (decide (a < b)))) ∧ Below W.heap.size W w'
  clear ha hb
  have HC := chid (fun x W => truthOf_c x W)
  by_cases h : a < b
  · rw [decide_eq_true h]
    skip
    go_enter Tryz.func159, Tryz.ntmps159
    go_wp2_with fail
    refine Calls.mono (HC.out _ _) ?_
    rintro e w1 ⟨rfl, rfl⟩
    go_wp2_with fail
    go_ret
    exact ⟨rfl, Below.refl _ _⟩
  · rw [decide_eq_false h]
    skip
    go_enter Tryz.func159, Tryz.ntmps159
    go_wp2_with fail
    refine Calls.mono (HC.out _ _) ?_
    rintro e w1 ⟨rfl, rfl⟩
    go_wp2_with fail
    go_ret
    exact ⟨rfl, Below.refl _ _⟩⟩
theorem bi_leq : BiC 160 (bF 19) := ⟨fun _ _ => by kernel_rfl, fun a b W ha hb => by
  show Calls Tryz.prog 160 #[.int .i64 a, .int .i64 b] W fun e w' => e = .returned (.int .i64 (b2i (decide (a ≤ b)))) ∧ Below W.heap.size W w'
  clear ha hb
  have HC := chid (fun x W => truthOf_c x W)
  by_cases h : a ≤ b
  · rw [decide_eq_true h]
    skip
    go_enter Tryz.func160, Tryz.ntmps160
    go_wp2_with fail
    refine Calls.mono (HC.out _ _) ?_
    rintro e w1 ⟨rfl, rfl⟩
    go_wp2_with fail
    go_ret
    exact ⟨rfl, Below.refl _ _⟩
  · rw [decide_eq_false h]
    skip
    go_enter Tryz.func160, Tryz.ntmps160
    go_wp2_with fail
    refine Calls.mono (HC.out _ _) ?_
    rintro e w1 ⟨rfl, rfl⟩
    go_wp2_with fail
    go_ret
    exact ⟨rfl, Below.refl _ _⟩⟩
theorem bi_eq : BiC 161 (bF 20) := ⟨fun _ _ => by kernel_rfl, fun a b W ha hb => by
  show Calls Tryz.prog 161 #[.int .i64 a, .int .i64 b] W fun e w' => e = .returned (.int .i64 (b2i (decide (a = b)))) ∧ Below W.heap.size W w'
  clear ha hb
  have HC := chid (fun x W => truthOf_c x W)
  by_cases h : a = b
  · rw [decide_eq_true h]
    subst h
    go_enter Tryz.func161, Tryz.ntmps161
    go_wp2_with fail
    refine Calls.mono (HC.out _ _) ?_
    rintro e w1 ⟨rfl, rfl⟩
    go_wp2_with fail
    go_ret
    exact ⟨rfl, Below.refl _ _⟩
  · rw [decide_eq_false h]
    have k : (a == b) = false := by simpa using h
    go_enter Tryz.func161, Tryz.ntmps161
    go_wp2_with fail
    refine Calls.mono (HC.out _ _) ?_
    rintro e w1 ⟨rfl, rfl⟩
    go_wp2_with fail
    go_ret
    exact ⟨rfl, Below.refl _ _⟩⟩
theorem bi_more : BiC 162 (bF 21) := ⟨fun _ _ => by kernel_rfl, fun a b W ha hb => by
  show Calls Tryz.prog 162 #[.int .i64 a, .int .i64 b] W fun e w' => e = .returned (.int .i64 (b2i (decide (b < a)))) ∧ Below W.heap.size W w'
  clear ha hb
  have HC := chid (fun x W => truthOf_c x W)
  by_cases h : b < a
  · rw [decide_eq_true h]
    skip
    go_enter Tryz.func162, Tryz.ntmps162
    go_wp2_with fail
    refine Calls.mono (HC.out _ _) ?_
    rintro e w1 ⟨rfl, rfl⟩
    go_wp2_with fail
    go_ret
    exact ⟨rfl, Below.refl _ _⟩
  · rw [decide_eq_false h]
    skip
    go_enter Tryz.func162, Tryz.ntmps162
    go_wp2_with fail
    refine Calls.mono (HC.out _ _) ?_
    rintro e w1 ⟨rfl, rfl⟩
    go_wp2_with fail
    go_ret
    exact ⟨rfl, Below.refl _ _⟩⟩
theorem bi_meq : BiC 163 (bF 22) := ⟨fun _ _ => by kernel_rfl, fun a b W ha hb => by
  show Calls Tryz.prog 163 #[.int .i64 a, .int .i64 b] W fun e w' => e = .returned (.int .i64 (b2i (decide (b ≤ a)))) ∧ Below W.heap.size W w'
  clear ha hb
  have HC := chid (fun x W => truthOf_c x W)
  by_cases h : b ≤ a
  · rw [decide_eq_true h]
    skip
    go_enter Tryz.func163, Tryz.ntmps163
    go_wp2_with fail
    refine Calls.mono (HC.out _ _) ?_
    rintro e w1 ⟨rfl, rfl⟩
    go_wp2_with fail
    go_ret
    exact ⟨rfl, Below.refl _ _⟩
  · rw [decide_eq_false h]
    skip
    go_enter Tryz.func163, Tryz.ntmps163
    go_wp2_with fail
    refine Calls.mono (HC.out _ _) ?_
    rintro e w1 ⟨rfl, rfl⟩
    go_wp2_with fail
    go_ret
    exact ⟨rfl, Below.refl _ _⟩⟩
theorem bi_lesser : BiC 164 (bF 23) := ⟨fun _ _ => by kernel_rfl, fun a b W ha hb => by
  show Calls Tryz.prog 164 #[.int .i64 a, .int .i64 b] W fun e w' => e = .returned (.int .i64 (min a b)) ∧ Below W.heap.size W w'
  clear ha hb
  rcases Int.lt_trichotomy a b with h | h | h
  · rw [Int.min_eq_left (Int.le_of_lt h)]
    have h2 : ¬ b < a := by omega
    have h3 : ¬ b ≤ a := by omega
    go_enter Tryz.func164, Tryz.ntmps164
    go_wp2_with fail
    go_ret
    exact ⟨rfl, Below.refl _ _⟩
  · subst h
    rw [Int.min_eq_left (Int.le_refl a)]
    go_enter Tryz.func164, Tryz.ntmps164
    go_wp2_with fail
    go_ret
    exact ⟨rfl, Below.refl _ _⟩
  · rw [Int.min_eq_right (Int.le_of_lt h)]
    have h2 : ¬ a < b := by omega
    have h3 : ¬ a ≤ b := by omega
    go_enter Tryz.func164, Tryz.ntmps164
    go_wp2_with fail
    go_ret
    exact ⟨rfl, Below.refl _ _⟩⟩
theorem bi_greater : BiC 165 (bF 24) := ⟨fun _ _ => by kernel_rfl, fun a b W ha hb => by
  show Calls Tryz.prog 165 #[.int .i64 a, .int .i64 b] W fun e w' => e = .returned (.int .i64 (max a b)) ∧ Below W.heap.size W w'
  clear ha hb
  rcases Int.lt_trichotomy a b with h | h | h
  · rw [Int.max_eq_right (Int.le_of_lt h)]
    have h2 : ¬ b < a := by omega
    have h3 : ¬ b ≤ a := by omega
    go_enter Tryz.func165, Tryz.ntmps165
    go_wp2_with fail
    go_ret
    exact ⟨rfl, Below.refl _ _⟩
  · subst h
    rw [Int.max_eq_right (Int.le_refl a)]
    go_enter Tryz.func165, Tryz.ntmps165
    go_wp2_with fail
    go_ret
    exact ⟨rfl, Below.refl _ _⟩
  · rw [Int.max_eq_left (Int.le_of_lt h)]
    have h2 : ¬ a < b := by omega
    have h3 : ¬ a ≤ b := by omega
    go_enter Tryz.func165, Tryz.ntmps165
    go_wp2_with fail
    go_ret
    exact ⟨rfl, Below.refl _ _⟩⟩

theorem formed_of {E : EnvP} {t : Co} (h : srt E t ≠ 0) : ∃ k : Nat, t.op = (k : Int) ∧ 1 ≤ k ∧ k ≤ 32 ∧ fitsB k E.wins.length E.crons.length 256 t = true ∧ (∀ x, x ∈ t.parts → srt E x ≠ 0) ∧ srt E t = sortF ladF k t (t.parts.map (srt E)) := by
  have e := csort_eq ladF E.wins.length E.crons.length 256 t
  unfold srt at h ⊢
  by_cases h1 : 1 ≤ t.op ∧ t.op ≤ 32
  · rw [if_pos h1] at e
    by_cases h2 : fitsB t.op.toNat E.wins.length E.crons.length 256 t = true
    · rw [if_pos h2] at e
      by_cases h3 : (t.parts.map (csort ladF E.wins.length E.crons.length 256)).contains 0 = true
      · rw [if_pos h3] at e; exact absurd e h
      · rw [if_neg h3] at e
        refine ⟨t.op.toNat, by omega, by omega, by omega, h2, fun x hx hz => h3 ?_, e⟩
        rw [List.contains_iff_mem, List.mem_map]
        exact ⟨x, hx, hz⟩
    · rw [if_neg h2] at e; exact absurd e h
  · rw [if_neg h1] at e; exact absurd e h
theorem mk_of {k : Nat} {c : Co} {ss : List Int} {r : Int} {ts : List Int} (hm : mkT.getD k none = some (r, ts)) (h : sortF ladF k c ss ≠ 0) : ss = ts ∧ sortF ladF k c ss = r := by
  unfold sortF at h ⊢
  rw [hm] at h ⊢
  dsimp only [mkF] at h ⊢
  by_cases e : ss = ts
  · exact ⟨e, if_pos e⟩
  · rw [if_neg e] at h; exact absurd rfl h
theorem map0 {E : EnvP} {l : List Co} (h : l.map (srt E) = []) : l = [] := by simpa using h
theorem map1 {E : EnvP} {l : List Co} {a : Int} (h : l.map (srt E) = [a]) : ∃ x, l = [x] ∧ srt E x = a := by
  match l, h with
  | [x], h => exact ⟨x, rfl, by simpa using h⟩
theorem map2 {E : EnvP} {l : List Co} {a b : Int} (h : l.map (srt E) = [a, b]) : ∃ x y, l = [x, y] ∧ srt E x = a ∧ srt E y = b := by
  match l, h with
  | [x, y], h => exact ⟨x, y, rfl, by simpa using h⟩
theorem len1 {l : List Co} (h : l.length = 1) : ∃ x, l = [x] := by
  match l, h with
  | [x], h => exact ⟨x, rfl⟩
theorem len2 {l : List Co} (h : l.length = 2) : ∃ x y, l = [x, y] := by
  match l, h with
  | [x, y], h => exact ⟨x, y, rfl⟩
theorem len3 {l : List Co} (h : l.length = 3) : ∃ x y z, l = [x, y, z] := by
  match l, h with
  | [x, y, z], h => exact ⟨x, y, z, rfl⟩
theorem alike_of {k : Nat} {ss : List Int} (h : alikeF k ss ≠ 0) : ss.length = k ∧ ss.headD 0 ≠ 3 ∧ (∀ x, x ∈ ss → x = ss.headD 0) ∧ alikeF k ss = ss.headD 0 := by
  by_cases e : ss.length = k ∧ ss.headD 0 ≠ 3 ∧ ∀ x, x ∈ ss → x = ss.headD 0
  · exact ⟨e.1, e.2.1, e.2.2, alikeF_yes e⟩
  · exact absurd (alikeF_no e) h
theorem choice_of {ss : List Int} (h : choiceF ss ≠ 0) : ∃ a, ss = [2, a, a] ∧ choiceF ss = a := by
  unfold choiceF at h ⊢
  by_cases e : ss.headD 0 = 2
  · rw [if_pos e] at h ⊢
    obtain ⟨h1, h2, h3, h4⟩ := alike_of h
    match ss, e, h1, h3, h4 with
    | [x, a, b], e, h1, h3, h4 =>
      have hb : b = a := h3 b (by simp)
      have hx : x = 2 := e
      subst hb hx
      exact ⟨b, rfl, h4⟩
  · rw [if_neg e] at h; exact absurd rfl h
/-- A number that Go may hold; a truth is 0 or 1. -/
def Good (E : EnvP) (t : Co) : Prop := C64 (telV E t).1 ∧ (srt E t = 2 → (telV E t).1 = 0 ∨ (telV E t).1 = 1)
theorem held64 (n : Int) : C64 (held n) := held_bd n
theorem b2i_01 (b : Bool) : b2i b = 0 ∨ b2i b = 1 := by cases b <;> simp [b2i]
theorem b2i_64 (b : Bool) : C64 (b2i b) := by rcases b2i_01 b with h | h <;> rw [h] <;> (unfold C64; decide)
theorem ofOne_fst (f : Int → Int) (a : Rs) : (ofOneR f a).1 = f a.1 ∨ (ofOneR f a).1 = 0 := by unfold ofOneR; split <;> simp
theorem ofTwo_fst (f : Int → Int → Rs) (a b : Rs) : (ofTwoR f a b).1 = (f a.1 b.1).1 ∨ (ofTwoR f a b).1 = 0 := by unfold ofTwoR; split <;> (try split) <;> simp
theorem zero_64 : C64 0 := by unfold C64; decide
theorem uF_64 (k : Nat) (a : Int) (h : k = 9 → a = 0 ∨ a = 1) : C64 (uF k a) := by
  unfold uF
  split
  · exact held64 _
  · split
    · next e => rcases h e with h | h <;> rw [h] <;> (unfold C64; decide)
    · split
      · exact held64 _
      · split <;> exact held64 _
theorem bF_64 (k : Nat) (a b : Int) (ha : C64 a) (hb : C64 b) : C64 (bF k a b) := by
  have hm : C64 (min a b) := by rcases Int.le_total a b with h | h <;> simp [Int.min_eq_left, Int.min_eq_right, h, ha, hb]
  have hM : C64 (max a b) := by rcases Int.le_total a b with h | h <;> simp [Int.max_eq_left, Int.max_eq_right, h, ha, hb]
  unfold bF
  repeat' split
  all_goals first | exact held64 _ | exact b2i_64 _ | exact hm | exact hM
theorem bF_01 (k : Nat) (a b : Int) (h1 : 18 ≤ k) (h2 : k ≤ 22) : bF k a b = 0 ∨ bF k a b = 1 := by
  unfold bF
  repeat' split
  all_goals first | exact b2i_01 _ | omega
theorem count_64 (a : Int) : C64 (countF a) := by
  have h := held64 (-((-a) / 1000000) * 1000000)
  unfold countF
  generalize held (-((-a) / 1000000) * 1000000) = x at h
  obtain ⟨h1, h2⟩ := h
  exact ⟨by omega, by omega⟩

def GK (E : EnvP) (k : Nat) : Prop := EnvOk E → ∀ t : Co, t.op = (k : Int) → CFit t → fitsB k E.wins.length E.crons.length 256 t = true → (∀ x, x ∈ t.parts → Good E x) → sortF ladF k t (t.parts.map (srt E)) ≠ 0 → srt E t = sortF ladF k t (t.parts.map (srt E)) → Good E t
theorem good_num {E : EnvP} {t : Co} {r : Int} (h : srt E t = r) (hr : r ≠ 2) (hc : C64 (telV E t).1) : Good E t := ⟨hc, fun e => absurd (h.symm.trans e) hr⟩
theorem good_bool {E : EnvP} {t : Co} (h : (telV E t).1 = 0 ∨ (telV E t).1 = 1) : Good E t := ⟨by rcases h with h | h <;> rw [h] <;> (unfold C64; decide), fun _ => h⟩
theorem good_of {E : EnvP} {t x : Co} (hs : srt E t = srt E x) (hx : Good E x) (h : (telV E t).1 = (telV E x).1 ∨ (telV E t).1 = 0) : Good E t := by
  rcases h with h | h
  · exact ⟨by rw [h]; exact hx.1, fun e => by rw [h]; exact hx.2 (hs.symm.trans e)⟩
  · exact good_bool (.inl h)
theorem gk_1 (E : EnvP) : GK E 1 := by
  intro hE t hop hf hb hg hz hs
  obtain ⟨op, n, m, ps⟩ := t
  obtain rfl : op = 1 := hop
  dsimp only at *
  obtain ⟨e1, e2⟩ := mk_of (k := 1) (r := 1) (ts := []) rfl hz
  obtain rfl := map0 e1
  have e : telV E ⟨1, n, m, []⟩ = okR n := by rw [telV_eq]; rfl
  exact good_num (hs.trans e2) (by decide) (by rw [e]; exact hf.n)
theorem gk_2 (E : EnvP) : GK E 2 := by
  intro hE t hop hf hb hg hz hs
  obtain ⟨op, n, m, ps⟩ := t
  obtain rfl : op = 2 := hop
  dsimp only at *
  obtain ⟨e1, e2⟩ := mk_of (k := 2) (r := 2) (ts := []) rfl hz
  obtain rfl := map0 e1
  have e : telV E ⟨2, n, m, []⟩ = okR n := by rw [telV_eq]; rfl
  have hb' : (belowB n 2 && decide (m = 0)) = true := hb
  simp only [belowB, Bool.and_eq_true, decide_eq_true_eq] at hb'
  exact good_bool (by rw [e]; show n = 0 ∨ n = 1; omega)
theorem gk_3 (E : EnvP) : GK E 3 := by
  intro hE t hop hf hb hg hz hs
  obtain ⟨op, n, m, ps⟩ := t
  obtain rfl : op = 3 := hop
  dsimp only at *
  obtain ⟨e1, e2⟩ := mk_of (k := 3) (r := 1) (ts := []) rfl hz
  obtain rfl := map0 e1
  have e : telV E ⟨3, n, m, []⟩ = okR (held (E.rep * 1000000)) := by rw [telV_eq]; rfl
  exact good_num (hs.trans e2) (by decide) (by rw [e]; exact held64 _)
theorem gk_4 (E : EnvP) : GK E 4 := by
  intro hE t hop hf hb hg hz hs
  obtain ⟨op, n, m, ps⟩ := t
  obtain rfl : op = 4 := hop
  dsimp only at *
  obtain ⟨e1, e2⟩ := mk_of (k := 4) (r := 1) (ts := []) rfl hz
  obtain rfl := map0 e1
  have e : telV E ⟨4, n, m, []⟩ = if (E.wins.getD n.toNat (0, 0)).1 = 0 then okR (E.wins.getD n.toNat (0, 0)).2 else noR (E.wins.getD n.toNat (0, 0)).1 := by rw [telV_eq]; rfl
  refine good_num (hs.trans e2) (by decide) ?_
  rw [e]
  split
  · exact (hE.wins _).2
  · exact zero_64
theorem gk_5 (E : EnvP) : GK E 5 := by
  intro hE t hop hf hb hg hz hs
  obtain ⟨op, n, m, ps⟩ := t
  obtain rfl : op = 5 := hop
  dsimp only at *
  obtain ⟨e1, e2⟩ := mk_of (k := 5) (r := 2) (ts := []) rfl hz
  obtain rfl := map0 e1
  have e : telV E ⟨5, n, m, []⟩ = okR (b2i (E.crons.getD n.toNat false)) := by rw [telV_eq]; rfl
  exact good_bool (by rw [e]; exact b2i_01 _)
theorem gk_6 (E : EnvP) : GK E 6 := by
  intro hE t hop hf hb hg hz hs
  obtain ⟨op, n, m, ps⟩ := t
  obtain rfl : op = 6 := hop
  dsimp only at *
  have e : telV E ⟨6, n, m, ps⟩ = noR n := by rw [telV_eq]; rfl
  exact good_bool (by rw [e]; exact .inl rfl)
theorem gk_7 (E : EnvP) : GK E 7 := by
  intro hE t hop hf hb hg hz hs
  obtain ⟨op, n, m, ps⟩ := t
  obtain rfl : op = 7 := hop
  dsimp only at *
  have hz' : alikeF 1 (ps.map (srt E)) ≠ 0 := hz
  obtain ⟨h1, h2, h3, h4⟩ := alike_of hz'
  obtain ⟨x, rfl⟩ := len1 (by simpa using h1)
  have e : telV E ⟨7, n, m, [x]⟩ = telV E x := by rw [telV_eq]; rfl
  exact good_of (hs.trans h4) (hg x (by simp)) (by rw [e]; exact .inl rfl)
theorem gk_8 (E : EnvP) : GK E 8 := by
  intro hE t hop hf hb hg hz hs
  obtain ⟨op, n, m, ps⟩ := t
  obtain rfl : op = 8 := hop
  dsimp only at *
  obtain ⟨e1, e2⟩ := mk_of (k := 8) (r := 1) (ts := [1]) rfl hz
  obtain ⟨x, rfl, q0⟩ := map1 e1
  have g0 := hg x (by simp)
  have e : telV E ⟨8, n, m, [x]⟩ = ofOneR (uF 8) (telV E x) := by rw [telV_eq]; rfl
  refine good_num (hs.trans e2) (by decide) ?_
  rw [e]
  rcases ofOne_fst (uF 8) (telV E x) with h | h <;> rw [h]
  · exact uF_64 8 _ (fun h => absurd h (by decide))
  · exact zero_64
theorem gk_10 (E : EnvP) : GK E 10 := by
  intro hE t hop hf hb hg hz hs
  obtain ⟨op, n, m, ps⟩ := t
  obtain rfl : op = 10 := hop
  dsimp only at *
  obtain ⟨e1, e2⟩ := mk_of (k := 10) (r := 1) (ts := [1]) rfl hz
  obtain ⟨x, rfl, q0⟩ := map1 e1
  have g0 := hg x (by simp)
  have e : telV E ⟨10, n, m, [x]⟩ = ofOneR (uF 10) (telV E x) := by rw [telV_eq]; rfl
  refine good_num (hs.trans e2) (by decide) ?_
  rw [e]
  rcases ofOne_fst (uF 10) (telV E x) with h | h <;> rw [h]
  · exact uF_64 10 _ (fun h => absurd h (by decide))
  · exact zero_64
theorem gk_11 (E : EnvP) : GK E 11 := by
  intro hE t hop hf hb hg hz hs
  obtain ⟨op, n, m, ps⟩ := t
  obtain rfl : op = 11 := hop
  dsimp only at *
  obtain ⟨e1, e2⟩ := mk_of (k := 11) (r := 1) (ts := [1]) rfl hz
  obtain ⟨x, rfl, q0⟩ := map1 e1
  have g0 := hg x (by simp)
  have e : telV E ⟨11, n, m, [x]⟩ = ofOneR (uF 11) (telV E x) := by rw [telV_eq]; rfl
  refine good_num (hs.trans e2) (by decide) ?_
  rw [e]
  rcases ofOne_fst (uF 11) (telV E x) with h | h <;> rw [h]
  · exact uF_64 11 _ (fun h => absurd h (by decide))
  · exact zero_64
theorem gk_12 (E : EnvP) : GK E 12 := by
  intro hE t hop hf hb hg hz hs
  obtain ⟨op, n, m, ps⟩ := t
  obtain rfl : op = 12 := hop
  dsimp only at *
  obtain ⟨e1, e2⟩ := mk_of (k := 12) (r := 1) (ts := [1]) rfl hz
  obtain ⟨x, rfl, q0⟩ := map1 e1
  have g0 := hg x (by simp)
  have e : telV E ⟨12, n, m, [x]⟩ = ofOneR (uF 12) (telV E x) := by rw [telV_eq]; rfl
  refine good_num (hs.trans e2) (by decide) ?_
  rw [e]
  rcases ofOne_fst (uF 12) (telV E x) with h | h <;> rw [h]
  · exact uF_64 12 _ (fun h => absurd h (by decide))
  · exact zero_64
theorem gk_9 (E : EnvP) : GK E 9 := by
  intro hE t hop hf hb hg hz hs
  obtain ⟨op, n, m, ps⟩ := t
  obtain rfl : op = 9 := hop
  dsimp only at *
  obtain ⟨e1, e2⟩ := mk_of (k := 9) (r := 2) (ts := [2]) rfl hz
  obtain ⟨x, rfl, q0⟩ := map1 e1
  have g0 := hg x (by simp)
  have e : telV E ⟨9, n, m, [x]⟩ = ofOneR (uF 9) (telV E x) := by rw [telV_eq]; rfl
  refine good_bool ?_
  rw [e]
  rcases ofOne_fst (uF 9) (telV E x) with h | h <;> rw [h]
  · show 1 - (telV E x).1 = 0 ∨ 1 - (telV E x).1 = 1
    rcases g0.2 q0 with h | h <;> rw [h] <;> decide
  · exact .inl rfl
theorem gk_13 (E : EnvP) : GK E 13 := by
  intro hE t hop hf hb hg hz hs
  obtain ⟨op, n, m, ps⟩ := t
  obtain rfl : op = 13 := hop
  dsimp only at *
  obtain ⟨e1, e2⟩ := mk_of (k := 13) (r := 1) (ts := [1]) rfl hz
  obtain ⟨x, rfl, q0⟩ := map1 e1
  have g0 := hg x (by simp)
  have e : telV E ⟨13, n, m, [x]⟩ = ofOneR (fun a => held (a * n / m)) (telV E x) := by rw [telV_eq]; rfl
  refine good_num (hs.trans e2) (by decide) ?_
  rw [e]
  rcases ofOne_fst (fun a => held (a * n / m)) (telV E x) with h | h <;> rw [h]
  · exact held64 _
  · exact zero_64
theorem gk_14 (E : EnvP) : GK E 14 := by
  intro hE t hop hf hb hg hz hs
  obtain ⟨op, n, m, ps⟩ := t
  obtain rfl : op = 14 := hop
  dsimp only at *
  obtain ⟨e1, e2⟩ := mk_of (k := 14) (r := 1) (ts := [1, 1]) rfl hz
  obtain ⟨x, y, rfl, q0, q1⟩ := map2 e1
  have g0 := hg x (by simp)
  have g1 := hg y (by simp)
  have e : telV E ⟨14, n, m, [x, y]⟩ = ofTwoR (fun a b => okR (bF 14 a b)) (telV E x) (telV E y) := by rw [telV_eq]; rfl
  refine good_num (hs.trans e2) (by decide) ?_
  rw [e]
  rcases ofTwo_fst (fun a b => okR (bF 14 a b)) (telV E x) (telV E y) with h | h <;> rw [h]
  · exact bF_64 14 _ _ g0.1 g1.1
  · exact zero_64
theorem gk_15 (E : EnvP) : GK E 15 := by
  intro hE t hop hf hb hg hz hs
  obtain ⟨op, n, m, ps⟩ := t
  obtain rfl : op = 15 := hop
  dsimp only at *
  obtain ⟨e1, e2⟩ := mk_of (k := 15) (r := 1) (ts := [1, 1]) rfl hz
  obtain ⟨x, y, rfl, q0, q1⟩ := map2 e1
  have g0 := hg x (by simp)
  have g1 := hg y (by simp)
  have e : telV E ⟨15, n, m, [x, y]⟩ = ofTwoR (fun a b => okR (bF 15 a b)) (telV E x) (telV E y) := by rw [telV_eq]; rfl
  refine good_num (hs.trans e2) (by decide) ?_
  rw [e]
  rcases ofTwo_fst (fun a b => okR (bF 15 a b)) (telV E x) (telV E y) with h | h <;> rw [h]
  · exact bF_64 15 _ _ g0.1 g1.1
  · exact zero_64
theorem gk_16 (E : EnvP) : GK E 16 := by
  intro hE t hop hf hb hg hz hs
  obtain ⟨op, n, m, ps⟩ := t
  obtain rfl : op = 16 := hop
  dsimp only at *
  obtain ⟨e1, e2⟩ := mk_of (k := 16) (r := 1) (ts := [1, 1]) rfl hz
  obtain ⟨x, y, rfl, q0, q1⟩ := map2 e1
  have g0 := hg x (by simp)
  have g1 := hg y (by simp)
  have e : telV E ⟨16, n, m, [x, y]⟩ = ofTwoR (fun a b => okR (bF 16 a b)) (telV E x) (telV E y) := by rw [telV_eq]; rfl
  refine good_num (hs.trans e2) (by decide) ?_
  rw [e]
  rcases ofTwo_fst (fun a b => okR (bF 16 a b)) (telV E x) (telV E y) with h | h <;> rw [h]
  · exact bF_64 16 _ _ g0.1 g1.1
  · exact zero_64
theorem gk_23 (E : EnvP) : GK E 23 := by
  intro hE t hop hf hb hg hz hs
  obtain ⟨op, n, m, ps⟩ := t
  obtain rfl : op = 23 := hop
  dsimp only at *
  obtain ⟨e1, e2⟩ := mk_of (k := 23) (r := 1) (ts := [1, 1]) rfl hz
  obtain ⟨x, y, rfl, q0, q1⟩ := map2 e1
  have g0 := hg x (by simp)
  have g1 := hg y (by simp)
  have e : telV E ⟨23, n, m, [x, y]⟩ = ofTwoR (fun a b => okR (bF 23 a b)) (telV E x) (telV E y) := by rw [telV_eq]; rfl
  refine good_num (hs.trans e2) (by decide) ?_
  rw [e]
  rcases ofTwo_fst (fun a b => okR (bF 23 a b)) (telV E x) (telV E y) with h | h <;> rw [h]
  · exact bF_64 23 _ _ g0.1 g1.1
  · exact zero_64
theorem gk_24 (E : EnvP) : GK E 24 := by
  intro hE t hop hf hb hg hz hs
  obtain ⟨op, n, m, ps⟩ := t
  obtain rfl : op = 24 := hop
  dsimp only at *
  obtain ⟨e1, e2⟩ := mk_of (k := 24) (r := 1) (ts := [1, 1]) rfl hz
  obtain ⟨x, y, rfl, q0, q1⟩ := map2 e1
  have g0 := hg x (by simp)
  have g1 := hg y (by simp)
  have e : telV E ⟨24, n, m, [x, y]⟩ = ofTwoR (fun a b => okR (bF 24 a b)) (telV E x) (telV E y) := by rw [telV_eq]; rfl
  refine good_num (hs.trans e2) (by decide) ?_
  rw [e]
  rcases ofTwo_fst (fun a b => okR (bF 24 a b)) (telV E x) (telV E y) with h | h <;> rw [h]
  · exact bF_64 24 _ _ g0.1 g1.1
  · exact zero_64
theorem gk_17 (E : EnvP) : GK E 17 := by
  intro hE t hop hf hb hg hz hs
  obtain ⟨op, n, m, ps⟩ := t
  obtain rfl : op = 17 := hop
  dsimp only at *
  obtain ⟨e1, e2⟩ := mk_of (k := 17) (r := 1) (ts := [1, 1]) rfl hz
  obtain ⟨x, y, rfl, q0, q1⟩ := map2 e1
  have g0 := hg x (by simp)
  have g1 := hg y (by simp)
  have e : telV E ⟨17, n, m, [x, y]⟩ = ofTwoR divR (telV E x) (telV E y) := by rw [telV_eq]; rfl
  refine good_num (hs.trans e2) (by decide) ?_
  rw [e]
  rcases ofTwo_fst divR (telV E x) (telV E y) with h | h <;> rw [h]
  · unfold divR
    split
    · exact zero_64
    · exact held64 _
  · exact zero_64
theorem gk_18 (E : EnvP) : GK E 18 := by
  intro hE t hop hf hb hg hz hs
  obtain ⟨op, n, m, ps⟩ := t
  obtain rfl : op = 18 := hop
  dsimp only at *
  obtain ⟨e1, e2⟩ := mk_of (k := 18) (r := 2) (ts := [1, 1]) rfl hz
  obtain ⟨x, y, rfl, q0, q1⟩ := map2 e1
  have g0 := hg x (by simp)
  have g1 := hg y (by simp)
  have e : telV E ⟨18, n, m, [x, y]⟩ = ofTwoR (fun a b => okR (bF 18 a b)) (telV E x) (telV E y) := by rw [telV_eq]; rfl
  refine good_bool ?_
  rw [e]
  rcases ofTwo_fst (fun a b => okR (bF 18 a b)) (telV E x) (telV E y) with h | h <;> rw [h]
  · exact bF_01 18 _ _ (by decide) (by decide)
  · exact .inl rfl
theorem gk_19 (E : EnvP) : GK E 19 := by
  intro hE t hop hf hb hg hz hs
  obtain ⟨op, n, m, ps⟩ := t
  obtain rfl : op = 19 := hop
  dsimp only at *
  obtain ⟨e1, e2⟩ := mk_of (k := 19) (r := 2) (ts := [1, 1]) rfl hz
  obtain ⟨x, y, rfl, q0, q1⟩ := map2 e1
  have g0 := hg x (by simp)
  have g1 := hg y (by simp)
  have e : telV E ⟨19, n, m, [x, y]⟩ = ofTwoR (fun a b => okR (bF 19 a b)) (telV E x) (telV E y) := by rw [telV_eq]; rfl
  refine good_bool ?_
  rw [e]
  rcases ofTwo_fst (fun a b => okR (bF 19 a b)) (telV E x) (telV E y) with h | h <;> rw [h]
  · exact bF_01 19 _ _ (by decide) (by decide)
  · exact .inl rfl
theorem gk_20 (E : EnvP) : GK E 20 := by
  intro hE t hop hf hb hg hz hs
  obtain ⟨op, n, m, ps⟩ := t
  obtain rfl : op = 20 := hop
  dsimp only at *
  obtain ⟨e1, e2⟩ := mk_of (k := 20) (r := 2) (ts := [1, 1]) rfl hz
  obtain ⟨x, y, rfl, q0, q1⟩ := map2 e1
  have g0 := hg x (by simp)
  have g1 := hg y (by simp)
  have e : telV E ⟨20, n, m, [x, y]⟩ = ofTwoR (fun a b => okR (bF 20 a b)) (telV E x) (telV E y) := by rw [telV_eq]; rfl
  refine good_bool ?_
  rw [e]
  rcases ofTwo_fst (fun a b => okR (bF 20 a b)) (telV E x) (telV E y) with h | h <;> rw [h]
  · exact bF_01 20 _ _ (by decide) (by decide)
  · exact .inl rfl
theorem gk_21 (E : EnvP) : GK E 21 := by
  intro hE t hop hf hb hg hz hs
  obtain ⟨op, n, m, ps⟩ := t
  obtain rfl : op = 21 := hop
  dsimp only at *
  obtain ⟨e1, e2⟩ := mk_of (k := 21) (r := 2) (ts := [1, 1]) rfl hz
  obtain ⟨x, y, rfl, q0, q1⟩ := map2 e1
  have g0 := hg x (by simp)
  have g1 := hg y (by simp)
  have e : telV E ⟨21, n, m, [x, y]⟩ = ofTwoR (fun a b => okR (bF 21 a b)) (telV E x) (telV E y) := by rw [telV_eq]; rfl
  refine good_bool ?_
  rw [e]
  rcases ofTwo_fst (fun a b => okR (bF 21 a b)) (telV E x) (telV E y) with h | h <;> rw [h]
  · exact bF_01 21 _ _ (by decide) (by decide)
  · exact .inl rfl
theorem gk_22 (E : EnvP) : GK E 22 := by
  intro hE t hop hf hb hg hz hs
  obtain ⟨op, n, m, ps⟩ := t
  obtain rfl : op = 22 := hop
  dsimp only at *
  obtain ⟨e1, e2⟩ := mk_of (k := 22) (r := 2) (ts := [1, 1]) rfl hz
  obtain ⟨x, y, rfl, q0, q1⟩ := map2 e1
  have g0 := hg x (by simp)
  have g1 := hg y (by simp)
  have e : telV E ⟨22, n, m, [x, y]⟩ = ofTwoR (fun a b => okR (bF 22 a b)) (telV E x) (telV E y) := by rw [telV_eq]; rfl
  refine good_bool ?_
  rw [e]
  rcases ofTwo_fst (fun a b => okR (bF 22 a b)) (telV E x) (telV E y) with h | h <;> rw [h]
  · exact bF_01 22 _ _ (by decide) (by decide)
  · exact .inl rfl
theorem gk_25 (E : EnvP) : GK E 25 := by
  intro hE t hop hf hb hg hz hs
  obtain ⟨op, n, m, ps⟩ := t
  obtain rfl : op = 25 := hop
  dsimp only at *
  obtain ⟨e1, e2⟩ := mk_of (k := 25) (r := 2) (ts := [2, 2]) rfl hz
  obtain ⟨x, y, rfl, q0, q1⟩ := map2 e1
  have g0 := hg x (by simp)
  have g1 := hg y (by simp)
  have e : telV E ⟨25, n, m, [x, y]⟩ = if (telV E x).2 = 0 ∧ (telV E x).1 ≠ 0 then telV E y else noR (telV E x).2 := by rw [telV_eq]; rfl
  refine good_bool ?_
  rw [e]
  split
  · exact g1.2 q1
  · exact .inl rfl
theorem gk_26 (E : EnvP) : GK E 26 := by
  intro hE t hop hf hb hg hz hs
  obtain ⟨op, n, m, ps⟩ := t
  obtain rfl : op = 26 := hop
  dsimp only at *
  obtain ⟨e1, e2⟩ := mk_of (k := 26) (r := 2) (ts := [2, 2]) rfl hz
  obtain ⟨x, y, rfl, q0, q1⟩ := map2 e1
  have g0 := hg x (by simp)
  have g1 := hg y (by simp)
  have e : telV E ⟨26, n, m, [x, y]⟩ = if (telV E x).2 = 0 ∧ (telV E x).1 ≠ 1 then telV E y else telV E x := by rw [telV_eq]; rfl
  refine good_bool ?_
  rw [e]
  split
  · exact g1.2 q1
  · exact g0.2 q0
theorem gk_27 (E : EnvP) : GK E 27 := by
  intro hE t hop hf hb hg hz hs
  obtain ⟨op, n, m, ps⟩ := t
  obtain rfl : op = 27 := hop
  dsimp only at *
  have hz' : alikeF 2 (ps.map (srt E)) ≠ 0 := hz
  obtain ⟨h1, h2, h3, h4⟩ := alike_of hz'
  obtain ⟨x, y, rfl⟩ := len2 (by simpa using h1)
  have hy : srt E y = srt E x := h3 (srt E y) (by simp)
  have e : telV E ⟨27, n, m, [x, y]⟩ = if (telV E x).2 = 0 then telV E x else telV E y := by rw [telV_eq]; rfl
  by_cases h : (telV E x).2 = 0
  · rw [if_pos h] at e
    exact good_of (hs.trans h4) (hg x (by simp)) (by rw [e]; exact .inl rfl)
  · rw [if_neg h] at e
    exact good_of ((hs.trans h4).trans hy.symm) (hg y (by simp)) (by rw [e]; exact .inl rfl)
theorem gk_28 (E : EnvP) : GK E 28 := by
  intro hE t hop hf hb hg hz hs
  obtain ⟨op, n, m, ps⟩ := t
  obtain rfl : op = 28 := hop
  dsimp only at *
  have hz' : choiceF (ps.map (srt E)) ≠ 0 := hz
  obtain ⟨a, h1, h4⟩ := choice_of hz'
  obtain ⟨x, y, z, rfl⟩ := len3 (by have := congrArg List.length h1; simpa using this)
  simp only [List.map_cons, List.map_nil, List.cons.injEq, and_true] at h1
  obtain ⟨hx, hy, hz2⟩ := h1
  have e : telV E ⟨28, n, m, [x, y, z]⟩ = if (telV E x).2 = 0 then (if (telV E x).1 = 1 then telV E y else telV E z) else noR (telV E x).2 := by rw [telV_eq]; rfl
  by_cases h : (telV E x).2 = 0
  · rw [if_pos h] at e
    by_cases h' : (telV E x).1 = 1
    · rw [if_pos h'] at e
      exact good_of ((hs.trans h4).trans hy.symm) (hg y (by simp)) (by rw [e]; exact .inl rfl)
    · rw [if_neg h'] at e
      exact good_of ((hs.trans h4).trans hz2.symm) (hg z (by simp)) (by rw [e]; exact .inl rfl)
  · rw [if_neg h] at e
    exact good_bool (by rw [e]; exact .inl rfl)
theorem gk_29 (E : EnvP) : GK E 29 := by
  intro hE t hop hf hb hg hz hs
  obtain ⟨op, n, m, ps⟩ := t
  obtain rfl : op = 29 := hop
  dsimp only at *
  have e : telV E ⟨29, n, m, ps⟩ = noR 4 := by rw [telV_eq]; rfl
  exact good_bool (by rw [e]; exact .inl rfl)
theorem gk_30 (E : EnvP) : GK E 30 := by
  intro hE t hop hf hb hg hz hs
  obtain ⟨op, n, m, ps⟩ := t
  obtain rfl : op = 30 := hop
  dsimp only at *
  obtain ⟨e1, e2⟩ := mk_of (k := 30) (r := 3) (ts := [1]) rfl hz
  obtain ⟨x, rfl, q0⟩ := map1 e1
  have g0 := hg x (by simp)
  have e : telV E ⟨30, n, m, [x]⟩ = ofOneR countF (telV E x) := by rw [telV_eq]; rfl
  refine good_num (hs.trans e2) (by decide) ?_
  rw [e]
  rcases ofOne_fst countF (telV E x) with h | h <;> rw [h]
  · exact count_64 _
  · exact zero_64
theorem gk_31 (E : EnvP) : GK E 31 := by
  intro hE t hop hf hb hg hz hs
  obtain ⟨op, n, m, ps⟩ := t
  obtain rfl : op = 31 := hop
  dsimp only at *
  obtain ⟨e1, e2⟩ := mk_of (k := 31) (r := 3) (ts := [1]) rfl hz
  obtain ⟨x, rfl, q0⟩ := map1 e1
  have g0 := hg x (by simp)
  have e : telV E ⟨31, n, m, [x]⟩ = ofOneR (fun a => held (E.rep + countF a)) (telV E x) := by rw [telV_eq]; rfl
  refine good_num (hs.trans e2) (by decide) ?_
  rw [e]
  rcases ofOne_fst (fun a => held (E.rep + countF a)) (telV E x) with h | h <;> rw [h]
  · exact held64 _
  · exact zero_64
theorem gk_32 (E : EnvP) : GK E 32 := by
  intro hE t hop hf hb hg hz hs
  obtain ⟨op, n, m, ps⟩ := t
  obtain rfl : op = 32 := hop
  dsimp only at *
  have e : telV E ⟨32, n, m, ps⟩ = ladR ps (ps.map (telV E)) := by rw [telV_eq]; rfl
  have hl : srt E ⟨32, n, m, ps⟩ = 3 ∨ srt E ⟨32, n, m, ps⟩ = 0 := by
    rw [hs]
    show ladF _ _ = 3 ∨ ladF _ _ = 0
    unfold ladF
    split
    · exact .inl rfl
    · exact .inr rfl
  refine good_num (r := 3) (hl.resolve_right (fun h => hz (hs.symm.trans h))) (by decide) ?_
  rw [e]
  unfold ladR
  split
  · generalize ladI _ _ _ _ _ = i
    by_cases h : i < ps.length
    · rw [show (ps.map (telV E)).getD i (0, 0) = telV E ps[i] from by simp [List.getD, List.getElem?_map, List.getElem?_eq_getElem h]]
      exact (hg _ (List.getElem_mem h)).1
    · rw [show (ps.map (telV E)).getD i (0, 0) = (0, 0) from by simp [List.getD, List.getElem?_map, List.getElem?_eq_none (Nat.not_lt.1 h)]]
      exact zero_64
  · exact zero_64
theorem gk_all (E : EnvP) : ∀ k, 1 ≤ k → k ≤ 32 → GK E k := op_cases (gk_1 E) (gk_2 E) (gk_3 E) (gk_4 E) (gk_5 E) (gk_6 E) (gk_7 E) (gk_8 E) (gk_9 E) (gk_10 E) (gk_11 E) (gk_12 E) (gk_13 E) (gk_14 E) (gk_15 E) (gk_16 E) (gk_17 E) (gk_18 E) (gk_19 E) (gk_20 E) (gk_21 E) (gk_22 E) (gk_23 E) (gk_24 E) (gk_25 E) (gk_26 E) (gk_27 E) (gk_28 E) (gk_29 E) (gk_30 E) (gk_31 E) (gk_32 E)
/-- A core that lies somewhere. -/
def Lies (t : Co) : Prop := ∃ w v, CSits w t v
theorem Lies.parts {t x : Co} (h : Lies t) (hx : x ∈ t.parts) : Lies x := by
  obtain ⟨w, v, hs⟩ := h
  obtain ⟨b, off, cap, -, -, -, -, hp⟩ := hs.parts.open (List.length_pos_of_mem hx)
  obtain ⟨i, hi, rfl⟩ := List.getElem_of_mem hx
  obtain ⟨u, -, hu⟩ := hp i hi
  exact ⟨w, u, hu⟩
theorem Lies.fit {t : Co} (h : Lies t) : CFit t := by
  obtain ⟨w, v, hs⟩ := h
  exact hs.fit
theorem good_all (E : EnvP) (hE : EnvOk E) (t : Co) : Lies t → srt E t ≠ 0 → Good E t := by
  induction t using Co.ind with
  | h t ih =>
    intro hl hz
    obtain ⟨k, hop, h1, h2, hb, hp, hs⟩ := formed_of hz
    exact gk_all E k h1 h2 hE t hop hl.fit hb (fun x hx => ih x hx (hl.parts hx) (hp x hx)) (by rw [← hs]; exact hz) hs

/-- What is known of a part. -/
def Part (E : EnvP) (x : Co) : Prop := TeC E x ∧ Good E x
def PK (E : EnvP) (k : Nat) : Prop := EnvOk E → ∀ t : Co, t.op = (k : Int) → cnodes t ≤ 8192 → fitsB k E.wins.length E.crons.length 256 t = true → (∀ x, x ∈ t.parts → Part E x) → sortF ladF k t (t.parts.map (srt E)) ≠ 0 → CFit t → WkC E k t
theorem pk_1 (E : EnvP) : PK E 1 := by
  intro hE t hop hn hb hg hz hf
  obtain ⟨op, n, m, ps⟩ := t
  obtain rfl : op = 1 := hop
  dsimp only at *
  exact wk_own E _ 1 (.inl rfl) rfl
theorem pk_2 (E : EnvP) : PK E 2 := by
  intro hE t hop hn hb hg hz hf
  obtain ⟨op, n, m, ps⟩ := t
  obtain rfl : op = 2 := hop
  dsimp only at *
  exact wk_own E _ 2 (.inr rfl) rfl
theorem pk_3 (E : EnvP) : PK E 3 := by
  intro hE t hop hn hb hg hz hf
  obtain ⟨op, n, m, ps⟩ := t
  obtain rfl : op = 3 := hop
  dsimp only at *
  exact wk_rep E _ rfl
theorem pk_4 (E : EnvP) : PK E 4 := by
  intro hE t hop hn hb hg hz hf
  obtain ⟨op, n, m, ps⟩ := t
  obtain rfl : op = 4 := hop
  dsimp only at *
  have hb' : (belowB n E.wins.length && decide (m = 0)) = true := hb
  simp only [belowB, Bool.and_eq_true, decide_eq_true_eq] at hb'
  exact wk_win E _ rfl hb'.1.1 hb'.1.2
theorem pk_5 (E : EnvP) : PK E 5 := by
  intro hE t hop hn hb hg hz hf
  obtain ⟨op, n, m, ps⟩ := t
  obtain rfl : op = 5 := hop
  dsimp only at *
  have hb' : (belowB n E.crons.length && decide (m = 0)) = true := hb
  simp only [belowB, Bool.and_eq_true, decide_eq_true_eq] at hb'
  exact wk_cron E _ rfl hb'.1.1 hb'.1.2
theorem pk_6 (E : EnvP) : PK E 6 := by
  intro hE t hop hn hb hg hz hf
  obtain ⟨op, n, m, ps⟩ := t
  obtain rfl : op = 6 := hop
  dsimp only at *
  have hb' : (decide (1 ≤ n) && (decide (n ≤ 3) && (decide (m = 1) || decide (m = 2)))) = true := hb
  simp only [Bool.and_eq_true, decide_eq_true_eq] at hb'
  exact wk_fail E _ rfl (by show n ≠ 0; omega)
theorem pk_7 (E : EnvP) : PK E 7 := by
  intro hE t hop hn hb hg hz hf
  obtain ⟨op, n, m, ps⟩ := t
  obtain rfl : op = 7 := hop
  dsimp only at *
  have hz' : alikeF 1 (ps.map (srt E)) ≠ 0 := hz
  obtain ⟨h1, -, -, -⟩ := alike_of hz'
  obtain ⟨x, rfl⟩ := len1 (by simpa using h1)
  exact wk_memo E n m x (hg x (by simp)).1
theorem pk_8 (E : EnvP) : PK E 8 := by
  intro hE t hop hn hb hg hz hf
  obtain ⟨op, n, m, ps⟩ := t
  obtain rfl : op = 8 := hop
  dsimp only at *
  obtain ⟨e1, -⟩ := mk_of (k := 8) (r := 1) (ts := [1]) rfl hz
  obtain ⟨x, rfl, q0⟩ := map1 e1
  obtain ⟨H0, g0⟩ := hg x (by simp)
  intro v tb b w f q hs ht hw
  obtain ⟨p, e, hp⟩ := hw
  cases e
  have hT : telV E ⟨8, n, m, [x]⟩ = ofOneR (uF 8) (telV E x) := by rw [telV_eq]; rfl
  rw [hT]
  exact one_c E 8 n m x 147 p (uF 8) un_neg.1 H0 (fun W => un_neg.2 _ W g0.1 trivial) v tb b w hs ht hp
theorem pk_9 (E : EnvP) : PK E 9 := by
  intro hE t hop hn hb hg hz hf
  obtain ⟨op, n, m, ps⟩ := t
  obtain rfl : op = 9 := hop
  dsimp only at *
  obtain ⟨e1, -⟩ := mk_of (k := 9) (r := 2) (ts := [2]) rfl hz
  obtain ⟨x, rfl, q0⟩ := map1 e1
  obtain ⟨H0, g0⟩ := hg x (by simp)
  intro v tb b w f q hs ht hw
  obtain ⟨p, e, hp⟩ := hw
  cases e
  have hT : telV E ⟨9, n, m, [x]⟩ = ofOneR (uF 9) (telV E x) := by rw [telV_eq]; rfl
  rw [hT]
  exact one_c E 9 n m x 148 p (uF 9) un_not.1 H0 (fun W => un_not.2 _ W g0.1 (g0.2 q0)) v tb b w hs ht hp
theorem pk_10 (E : EnvP) : PK E 10 := by
  intro hE t hop hn hb hg hz hf
  obtain ⟨op, n, m, ps⟩ := t
  obtain rfl : op = 10 := hop
  dsimp only at *
  obtain ⟨e1, -⟩ := mk_of (k := 10) (r := 1) (ts := [1]) rfl hz
  obtain ⟨x, rfl, q0⟩ := map1 e1
  obtain ⟨H0, g0⟩ := hg x (by simp)
  intro v tb b w f q hs ht hw
  obtain ⟨p, e, hp⟩ := hw
  cases e
  have hT : telV E ⟨10, n, m, [x]⟩ = ofOneR (uF 10) (telV E x) := by rw [telV_eq]; rfl
  rw [hT]
  exact one_c E 10 n m x 149 p (uF 10) un_abs.1 H0 (fun W => un_abs.2 _ W g0.1 trivial) v tb b w hs ht hp
theorem pk_11 (E : EnvP) : PK E 11 := by
  intro hE t hop hn hb hg hz hf
  obtain ⟨op, n, m, ps⟩ := t
  obtain rfl : op = 11 := hop
  dsimp only at *
  obtain ⟨e1, -⟩ := mk_of (k := 11) (r := 1) (ts := [1]) rfl hz
  obtain ⟨x, rfl, q0⟩ := map1 e1
  obtain ⟨H0, g0⟩ := hg x (by simp)
  intro v tb b w f q hs ht hw
  obtain ⟨p, e, hp⟩ := hw
  cases e
  have hT : telV E ⟨11, n, m, [x]⟩ = ofOneR (uF 11) (telV E x) := by rw [telV_eq]; rfl
  rw [hT]
  exact one_c E 11 n m x 150 p (uF 11) un_ceil.1 H0 (fun W => un_ceil.2 _ W g0.1 trivial) v tb b w hs ht hp
theorem pk_12 (E : EnvP) : PK E 12 := by
  intro hE t hop hn hb hg hz hf
  obtain ⟨op, n, m, ps⟩ := t
  obtain rfl : op = 12 := hop
  dsimp only at *
  obtain ⟨e1, -⟩ := mk_of (k := 12) (r := 1) (ts := [1]) rfl hz
  obtain ⟨x, rfl, q0⟩ := map1 e1
  obtain ⟨H0, g0⟩ := hg x (by simp)
  intro v tb b w f q hs ht hw
  obtain ⟨p, e, hp⟩ := hw
  cases e
  have hT : telV E ⟨12, n, m, [x]⟩ = ofOneR (uF 12) (telV E x) := by rw [telV_eq]; rfl
  rw [hT]
  exact one_c E 12 n m x 151 p (uF 12) un_floor.1 H0 (fun W => un_floor.2 _ W g0.1 trivial) v tb b w hs ht hp
theorem pk_13 (E : EnvP) : PK E 13 := by
  intro hE t hop hn hb hg hz hf
  obtain ⟨op, n, m, ps⟩ := t
  obtain rfl : op = 13 := hop
  dsimp only at *
  obtain ⟨e1, -⟩ := mk_of (k := 13) (r := 1) (ts := [1]) rfl hz
  obtain ⟨x, rfl, q0⟩ := map1 e1
  obtain ⟨H0, g0⟩ := hg x (by simp)
  have hb' : (decide (0 ≤ n) && decide (1 ≤ m)) = true := hb
  simp only [Bool.and_eq_true, decide_eq_true_eq] at hb'
  exact wk_scale E n m x H0 (fun W => Scale_of _ n m g0.1.1 (lt64 g0.1) hb'.1 (lt64 hf.n) hb'.2 (lt64 hf.m) (divOK_any _ _ (by omega) (by have := lt64 hf.m; dsimp only at this; omega)) W)
theorem pk_14 (E : EnvP) : PK E 14 := by
  intro hE t hop hn hb hg hz hf
  obtain ⟨op, n, m, ps⟩ := t
  obtain rfl : op = 14 := hop
  dsimp only at *
  obtain ⟨e1, -⟩ := mk_of (k := 14) (r := 1) (ts := [1, 1]) rfl hz
  obtain ⟨x, y, rfl, q0, q1⟩ := map2 e1
  obtain ⟨H0, g0⟩ := hg x (by simp)
  obtain ⟨H1, g1⟩ := hg y (by simp)
  intro v tb b w f q hs ht hw
  obtain ⟨p, e, hp⟩ := hw
  cases e
  have hT : telV E ⟨14, n, m, [x, y]⟩ = ofTwoR (fun a b => okR (bF 14 a b)) (telV E x) (telV E y) := by rw [telV_eq]; rfl
  rw [hT]
  exact two_c E 14 n m x y 155 p (bF 14) bi_add.1 H0 H1 (fun W => bi_add.2 _ _ W g0.1 g1.1) v tb b w hs ht hp
theorem pk_15 (E : EnvP) : PK E 15 := by
  intro hE t hop hn hb hg hz hf
  obtain ⟨op, n, m, ps⟩ := t
  obtain rfl : op = 15 := hop
  dsimp only at *
  obtain ⟨e1, -⟩ := mk_of (k := 15) (r := 1) (ts := [1, 1]) rfl hz
  obtain ⟨x, y, rfl, q0, q1⟩ := map2 e1
  obtain ⟨H0, g0⟩ := hg x (by simp)
  obtain ⟨H1, g1⟩ := hg y (by simp)
  intro v tb b w f q hs ht hw
  obtain ⟨p, e, hp⟩ := hw
  cases e
  have hT : telV E ⟨15, n, m, [x, y]⟩ = ofTwoR (fun a b => okR (bF 15 a b)) (telV E x) (telV E y) := by rw [telV_eq]; rfl
  rw [hT]
  exact two_c E 15 n m x y 156 p (bF 15) bi_sub.1 H0 H1 (fun W => bi_sub.2 _ _ W g0.1 g1.1) v tb b w hs ht hp
theorem pk_16 (E : EnvP) : PK E 16 := by
  intro hE t hop hn hb hg hz hf
  obtain ⟨op, n, m, ps⟩ := t
  obtain rfl : op = 16 := hop
  dsimp only at *
  obtain ⟨e1, -⟩ := mk_of (k := 16) (r := 1) (ts := [1, 1]) rfl hz
  obtain ⟨x, y, rfl, q0, q1⟩ := map2 e1
  obtain ⟨H0, g0⟩ := hg x (by simp)
  obtain ⟨H1, g1⟩ := hg y (by simp)
  intro v tb b w f q hs ht hw
  obtain ⟨p, e, hp⟩ := hw
  cases e
  have hT : telV E ⟨16, n, m, [x, y]⟩ = ofTwoR (fun a b => okR (bF 16 a b)) (telV E x) (telV E y) := by rw [telV_eq]; rfl
  rw [hT]
  exact two_c E 16 n m x y 157 p (bF 16) bi_mul.1 H0 H1 (fun W => bi_mul.2 _ _ W g0.1 g1.1) v tb b w hs ht hp
theorem pk_17 (E : EnvP) : PK E 17 := by
  intro hE t hop hn hb hg hz hf
  obtain ⟨op, n, m, ps⟩ := t
  obtain rfl : op = 17 := hop
  dsimp only at *
  obtain ⟨e1, -⟩ := mk_of (k := 17) (r := 1) (ts := [1, 1]) rfl hz
  obtain ⟨x, y, rfl, q0, q1⟩ := map2 e1
  obtain ⟨H0, g0⟩ := hg x (by simp)
  obtain ⟨H1, g1⟩ := hg y (by simp)
  intro v tb b w f q hs ht hw
  cases hw
  have hT : telV E ⟨17, n, m, [x, y]⟩ = ofTwoR divR (telV E x) (telV E y) := by rw [telV_eq]; rfl
  rw [hT]
  refine div_c E 17 n m x y H0 H1 (fun W => ?_) v tb b w hs ht
  by_cases h : (telV E y).1 = 0
  · rw [if_pos h, decide_eq_false (fun k => k h), h]
    exact Div_zero _ W
  · rw [if_neg h, decide_eq_true h]
    exact Div_of _ _ g0.1.1 (lt64 g0.1) g1.1.1 (lt64 g1.1) h (divOK_any _ _ (by omega) (by have := g1.1.1; have := g1.1.2; omega)) W
theorem pk_18 (E : EnvP) : PK E 18 := by
  intro hE t hop hn hb hg hz hf
  obtain ⟨op, n, m, ps⟩ := t
  obtain rfl : op = 18 := hop
  dsimp only at *
  obtain ⟨e1, -⟩ := mk_of (k := 18) (r := 2) (ts := [1, 1]) rfl hz
  obtain ⟨x, y, rfl, q0, q1⟩ := map2 e1
  obtain ⟨H0, g0⟩ := hg x (by simp)
  obtain ⟨H1, g1⟩ := hg y (by simp)
  intro v tb b w f q hs ht hw
  obtain ⟨p, e, hp⟩ := hw
  cases e
  have hT : telV E ⟨18, n, m, [x, y]⟩ = ofTwoR (fun a b => okR (bF 18 a b)) (telV E x) (telV E y) := by rw [telV_eq]; rfl
  rw [hT]
  exact two_c E 18 n m x y 159 p (bF 18) bi_less.1 H0 H1 (fun W => bi_less.2 _ _ W g0.1 g1.1) v tb b w hs ht hp
theorem pk_19 (E : EnvP) : PK E 19 := by
  intro hE t hop hn hb hg hz hf
  obtain ⟨op, n, m, ps⟩ := t
  obtain rfl : op = 19 := hop
  dsimp only at *
  obtain ⟨e1, -⟩ := mk_of (k := 19) (r := 2) (ts := [1, 1]) rfl hz
  obtain ⟨x, y, rfl, q0, q1⟩ := map2 e1
  obtain ⟨H0, g0⟩ := hg x (by simp)
  obtain ⟨H1, g1⟩ := hg y (by simp)
  intro v tb b w f q hs ht hw
  obtain ⟨p, e, hp⟩ := hw
  cases e
  have hT : telV E ⟨19, n, m, [x, y]⟩ = ofTwoR (fun a b => okR (bF 19 a b)) (telV E x) (telV E y) := by rw [telV_eq]; rfl
  rw [hT]
  exact two_c E 19 n m x y 160 p (bF 19) bi_leq.1 H0 H1 (fun W => bi_leq.2 _ _ W g0.1 g1.1) v tb b w hs ht hp
theorem pk_20 (E : EnvP) : PK E 20 := by
  intro hE t hop hn hb hg hz hf
  obtain ⟨op, n, m, ps⟩ := t
  obtain rfl : op = 20 := hop
  dsimp only at *
  obtain ⟨e1, -⟩ := mk_of (k := 20) (r := 2) (ts := [1, 1]) rfl hz
  obtain ⟨x, y, rfl, q0, q1⟩ := map2 e1
  obtain ⟨H0, g0⟩ := hg x (by simp)
  obtain ⟨H1, g1⟩ := hg y (by simp)
  intro v tb b w f q hs ht hw
  obtain ⟨p, e, hp⟩ := hw
  cases e
  have hT : telV E ⟨20, n, m, [x, y]⟩ = ofTwoR (fun a b => okR (bF 20 a b)) (telV E x) (telV E y) := by rw [telV_eq]; rfl
  rw [hT]
  exact two_c E 20 n m x y 161 p (bF 20) bi_eq.1 H0 H1 (fun W => bi_eq.2 _ _ W g0.1 g1.1) v tb b w hs ht hp
theorem pk_21 (E : EnvP) : PK E 21 := by
  intro hE t hop hn hb hg hz hf
  obtain ⟨op, n, m, ps⟩ := t
  obtain rfl : op = 21 := hop
  dsimp only at *
  obtain ⟨e1, -⟩ := mk_of (k := 21) (r := 2) (ts := [1, 1]) rfl hz
  obtain ⟨x, y, rfl, q0, q1⟩ := map2 e1
  obtain ⟨H0, g0⟩ := hg x (by simp)
  obtain ⟨H1, g1⟩ := hg y (by simp)
  intro v tb b w f q hs ht hw
  obtain ⟨p, e, hp⟩ := hw
  cases e
  have hT : telV E ⟨21, n, m, [x, y]⟩ = ofTwoR (fun a b => okR (bF 21 a b)) (telV E x) (telV E y) := by rw [telV_eq]; rfl
  rw [hT]
  exact two_c E 21 n m x y 162 p (bF 21) bi_more.1 H0 H1 (fun W => bi_more.2 _ _ W g0.1 g1.1) v tb b w hs ht hp
theorem pk_22 (E : EnvP) : PK E 22 := by
  intro hE t hop hn hb hg hz hf
  obtain ⟨op, n, m, ps⟩ := t
  obtain rfl : op = 22 := hop
  dsimp only at *
  obtain ⟨e1, -⟩ := mk_of (k := 22) (r := 2) (ts := [1, 1]) rfl hz
  obtain ⟨x, y, rfl, q0, q1⟩ := map2 e1
  obtain ⟨H0, g0⟩ := hg x (by simp)
  obtain ⟨H1, g1⟩ := hg y (by simp)
  intro v tb b w f q hs ht hw
  obtain ⟨p, e, hp⟩ := hw
  cases e
  have hT : telV E ⟨22, n, m, [x, y]⟩ = ofTwoR (fun a b => okR (bF 22 a b)) (telV E x) (telV E y) := by rw [telV_eq]; rfl
  rw [hT]
  exact two_c E 22 n m x y 163 p (bF 22) bi_meq.1 H0 H1 (fun W => bi_meq.2 _ _ W g0.1 g1.1) v tb b w hs ht hp
theorem pk_23 (E : EnvP) : PK E 23 := by
  intro hE t hop hn hb hg hz hf
  obtain ⟨op, n, m, ps⟩ := t
  obtain rfl : op = 23 := hop
  dsimp only at *
  obtain ⟨e1, -⟩ := mk_of (k := 23) (r := 1) (ts := [1, 1]) rfl hz
  obtain ⟨x, y, rfl, q0, q1⟩ := map2 e1
  obtain ⟨H0, g0⟩ := hg x (by simp)
  obtain ⟨H1, g1⟩ := hg y (by simp)
  intro v tb b w f q hs ht hw
  obtain ⟨p, e, hp⟩ := hw
  cases e
  have hT : telV E ⟨23, n, m, [x, y]⟩ = ofTwoR (fun a b => okR (bF 23 a b)) (telV E x) (telV E y) := by rw [telV_eq]; rfl
  rw [hT]
  exact two_c E 23 n m x y 164 p (bF 23) bi_lesser.1 H0 H1 (fun W => bi_lesser.2 _ _ W g0.1 g1.1) v tb b w hs ht hp
theorem pk_24 (E : EnvP) : PK E 24 := by
  intro hE t hop hn hb hg hz hf
  obtain ⟨op, n, m, ps⟩ := t
  obtain rfl : op = 24 := hop
  dsimp only at *
  obtain ⟨e1, -⟩ := mk_of (k := 24) (r := 1) (ts := [1, 1]) rfl hz
  obtain ⟨x, y, rfl, q0, q1⟩ := map2 e1
  obtain ⟨H0, g0⟩ := hg x (by simp)
  obtain ⟨H1, g1⟩ := hg y (by simp)
  intro v tb b w f q hs ht hw
  obtain ⟨p, e, hp⟩ := hw
  cases e
  have hT : telV E ⟨24, n, m, [x, y]⟩ = ofTwoR (fun a b => okR (bF 24 a b)) (telV E x) (telV E y) := by rw [telV_eq]; rfl
  rw [hT]
  exact two_c E 24 n m x y 165 p (bF 24) bi_greater.1 H0 H1 (fun W => bi_greater.2 _ _ W g0.1 g1.1) v tb b w hs ht hp
theorem pk_25 (E : EnvP) : PK E 25 := by
  intro hE t hop hn hb hg hz hf
  obtain ⟨op, n, m, ps⟩ := t
  obtain rfl : op = 25 := hop
  dsimp only at *
  obtain ⟨e1, -⟩ := mk_of (k := 25) (r := 2) (ts := [2, 2]) rfl hz
  obtain ⟨x, y, rfl, q0, q1⟩ := map2 e1
  obtain ⟨H0, g0⟩ := hg x (by simp)
  obtain ⟨H1, g1⟩ := hg y (by simp)
  exact wk_and E n m x y H0 H1
theorem pk_26 (E : EnvP) : PK E 26 := by
  intro hE t hop hn hb hg hz hf
  obtain ⟨op, n, m, ps⟩ := t
  obtain rfl : op = 26 := hop
  dsimp only at *
  obtain ⟨e1, -⟩ := mk_of (k := 26) (r := 2) (ts := [2, 2]) rfl hz
  obtain ⟨x, y, rfl, q0, q1⟩ := map2 e1
  obtain ⟨H0, g0⟩ := hg x (by simp)
  obtain ⟨H1, g1⟩ := hg y (by simp)
  exact wk_or E n m x y H0 H1
theorem pk_27 (E : EnvP) : PK E 27 := by
  intro hE t hop hn hb hg hz hf
  obtain ⟨op, n, m, ps⟩ := t
  obtain rfl : op = 27 := hop
  dsimp only at *
  have hz' : alikeF 2 (ps.map (srt E)) ≠ 0 := hz
  obtain ⟨h1, -, -, -⟩ := alike_of hz'
  obtain ⟨x, y, rfl⟩ := len2 (by simpa using h1)
  exact wk_either E n m x y (hg x (by simp)).1 (hg y (by simp)).1
theorem pk_28 (E : EnvP) : PK E 28 := by
  intro hE t hop hn hb hg hz hf
  obtain ⟨op, n, m, ps⟩ := t
  obtain rfl : op = 28 := hop
  dsimp only at *
  have hz' : choiceF (ps.map (srt E)) ≠ 0 := hz
  obtain ⟨a, h1, -⟩ := choice_of hz'
  obtain ⟨x, y, z, rfl⟩ := len3 (by have := congrArg List.length h1; simpa using this)
  exact wk_choice E n m x y z (hg x (by simp)).1 (hg y (by simp)).1 (hg z (by simp)).1
theorem pk_29 (E : EnvP) : PK E 29 := by
  intro hE t hop hn hb hg hz hf
  obtain ⟨op, n, m, ps⟩ := t
  obtain rfl : op = 29 := hop
  dsimp only at *
  exact wk_hold E _ rfl
theorem pk_30 (E : EnvP) : PK E 30 := by
  intro hE t hop hn hb hg hz hf
  obtain ⟨op, n, m, ps⟩ := t
  obtain rfl : op = 30 := hop
  dsimp only at *
  obtain ⟨e1, -⟩ := mk_of (k := 30) (r := 3) (ts := [1]) rfl hz
  obtain ⟨x, rfl, q0⟩ := map1 e1
  obtain ⟨H0, g0⟩ := hg x (by simp)
  exact wk_to E n m x H0 (fun W => Count_any _ g0.1.1 (lt64 g0.1) W)
theorem pk_31 (E : EnvP) : PK E 31 := by
  intro hE t hop hn hb hg hz hf
  obtain ⟨op, n, m, ps⟩ := t
  obtain rfl : op = 31 := hop
  dsimp only at *
  obtain ⟨e1, -⟩ := mk_of (k := 31) (r := 3) (ts := [1]) rfl hz
  obtain ⟨x, rfl, q0⟩ := map1 e1
  obtain ⟨H0, g0⟩ := hg x (by simp)
  exact wk_by E n m x H0 (fun W => Count_any _ g0.1.1 (lt64 g0.1) W) (fun W => Add_any _ _ hE.rep.1 (lt64 hE.rep) (count_64 _).1 (lt64 (count_64 _)) W)
theorem pk_32 (E : EnvP) : PK E 32 := by
  intro hE t hop hn hb hg hz hf
  obtain ⟨op, n, m, ps⟩ := t
  obtain rfl : op = 32 := hop
  dsimp only at *
  have hz' : ladF ⟨32, n, m, ps⟩ (ps.map (srt E)) ≠ 0 := hz
  have hl : LadOk ⟨32, n, m, ps⟩ (ps.map (srt E)) := (ladB_iff _ _).1 (by
    unfold ladF at hz'
    split at hz'
    · assumption
    · exact absurd rfl hz')
  have hlen : ps.length ≤ 8192 := by
    have h1 := length_cnodesL ps
    rw [cnodes_eq] at hn
    have h2 : 1 + cnodesL ps ≤ 8192 := hn
    omega
  intro v tb b w f q hs ht hw
  cases hw
  have hT : telV E ⟨32, n, m, ps⟩ = ladR ps (ps.map (telV E)) := by rw [telV_eq]; rfl
  rw [hT]
  exact ladder_c E 32 n m ps (by have := hl.1; simpa using this) (by have := hl.2.1; simpa using this) hlen (fun x hx => (hg x hx).1) v tb b w hs ht
theorem pk_all (E : EnvP) : ∀ k, 1 ≤ k → k ≤ 32 → PK E k := op_cases (pk_1 E) (pk_2 E) (pk_3 E) (pk_4 E) (pk_5 E) (pk_6 E) (pk_7 E) (pk_8 E) (pk_9 E) (pk_10 E) (pk_11 E) (pk_12 E) (pk_13 E) (pk_14 E) (pk_15 E) (pk_16 E) (pk_17 E) (pk_18 E) (pk_19 E) (pk_20 E) (pk_21 E) (pk_22 E) (pk_23 E) (pk_24 E) (pk_25 E) (pk_26 E) (pk_27 E) (pk_28 E) (pk_29 E) (pk_30 E) (pk_31 E) (pk_32 E)
/-- tell of every formed core. -/
theorem tell_all (E : EnvP) (hE : EnvOk E) (t : Co) : Lies t → cnodes t ≤ 8192 → srt E t ≠ 0 → TeC E t := by
  induction t using Co.ind with
  | h t ih =>
    intro hl hn hz
    obtain ⟨k, hop, h1, h2, hb, hp, hs⟩ := formed_of hz
    refine ctell_step E t k h1 h2 hop (pk_all E k h1 h2 hE t hop hn hb (fun x hx => ⟨ih x hx (hl.parts hx) ?_ (hp x hx), good_all E hE x (hl.parts hx) (hp x hx)⟩) (by rw [← hs]; exact hz) hl.fit)
    have := cnodes_part hx
    omega

/-- An Env as a value. -/
abbrev envV (E : EnvP) (v1 v2 : Value) : Value := .agg #[.int .i64 E.rep, v1, v2]
/-- An Env that is handed in. -/
structure EnvAt (w : World) (E : EnvP) (v1 v2 : Value) : Prop where
  ok : EnvOk E
  wins : WinsAt w v1 E.wins
  crons : CronsAt w v2 E.crons
theorem EnvAt.next {w w' : World} {E : EnvP} {v1 v2 : Value} (h : EnvAt w E v1 v2) (k : Below w.heap.size w w') : EnvAt w' E v1 v2 := ⟨h.ok, h.wins.next k, h.crons.next k⟩
theorem EnvAt.shape {w : World} {E : EnvP} {v1 v2 : Value} (h : EnvAt w E v1 v2) : ∃ a1 c1 a2 c2, v1 = .slice a1 E.wins.length c1 ∧ v2 = .slice a2 E.crons.length c2 := by
  obtain ⟨a1, c1, e1, -⟩ := h.wins
  obtain ⟨a2, c2, e2, -⟩ := h.crons
  exact ⟨a1, c1, a2, c2, e1, e2⟩
set_option maxHeartbeats 1000000 in
theorem newTeller_c (E : EnvP) (v1 v2 : Value) (w : World) (h : EnvAt w E v1 v2) (hg : GlE w) : Calls Tryz.prog 62 #[envV E v1 v2] w fun e w' => ∃ tb b, e = .returned (.pointer (some ⟨tb, 0, none⟩)) ∧ TlAt w' tb b E ∧ Below w.heap.size w w' := by
  obtain ⟨a1, c1, a2, c2, rfl, rfl⟩ := h.shape
  have H := chid h
  have HG := chid hg
  have HA : Hid (∀ o, Below w.heap.size w (w.alloc o)) := fun o => (Below.refl _ _).alloc (Nat.le_refl _) _
  generalize E.wins.length = L1 at *
  generalize E.crons.length = L2 at *
  have X0 := Box.new w [.int .i64 E.rep, .slice a1 L1 c1, .slice a2 L2 c2] 40
  have d0 := X0.cell 0 _ rfl
  have d1 := X0.cell 1 _ rfl
  have d2 := X0.cell 2 _ rfl
  have x0 := X0.lt
  have HKa := chid (HA.out (.cells [.int .i64 E.rep, .slice a1 L1 c1, .slice a2 L2 c2].toArray 40))
  clear h hg HA X0
  go_enter Tryz.func62, Tryz.ntmps62
  go_wp2_with fail
  generalize hW0 : w.alloc _ = w0 at *
  clear hW0
  go_region_held3 (fun w' => w'.cell? ⟨w.heap.size, 0, none⟩ = some (.int .i64 E.rep) ∧ w'.cell? ⟨w.heap.size, 1, none⟩ = some (.slice a1 L1 c1) ∧ w'.cell? ⟨w.heap.size, 2, none⟩ = some (.slice a2 L2 c2)) (simp [go_sem, *]) (first | (go_at_call 78; refine Calls.mono (crows_c _) ?_; rintro e w1 ⟨b, rfl, hr, B1⟩; have g0 := fun p v hp hv => (B1.cell (p := p) hp).trans (hv : w0.cell? p = some v); replace d0 := g0 _ _ x0 d0; replace d1 := g0 _ _ x0 d1; replace d2 := g0 _ _ x0 d2; have x1 : w.heap.size < w1.heap.size := Nat.lt_of_lt_of_le x0 B1.size; clear g0))
  have hb1 : Below w0.heap.size w0 w1 := ⟨B1.os, B1.tape, B1.output, B1.size, B1.block⟩
  have hb2 := (Below.refl w1.heap.size w1).alloc (Nat.le_refl _) (.cells [.slice (some ⟨b, 0, none⟩) 33 33, .int .i64 E.rep, .slice a1 L1 c1, .slice a2 L2 c2].toArray 172)
  have X2 := Box.new w1 [.slice (some ⟨b, 0, none⟩) 33 33, .int .i64 E.rep, .slice a1 L1 c1, .slice a2 L2 c2] 172
  have HB1 := cbelow_on HKa.out hb1 HKa.out.size
  have HB2 := cbelow_on HB1 hb2 HB1.size
  have HT : Hid (TlAt (w1.alloc (.cells [.slice (some ⟨b, 0, none⟩) 33 33, .int .i64 E.rep, .slice a1 L1 c1, .slice a2 L2 c2].toArray 172)) w1.heap.size b E) := ⟨H.out.ok, ⟨_, _, X2, H.out.wins.next HB2, H.out.crons.next HB2⟩, hr.next hb2, GlE.next HG.out HB2⟩
  have HBe := chid HB2
  clear d0 d1 d2 hb1 hb2 X2 HB1 HB2 hr B1
  go_wp2_with fail
  go_ret
  exact ⟨_, _, rfl, HT.out, HBe.out⟩
/-- A result as a value. -/
def rsV (x : Rs) : Value := if x.2 = 0 then .agg #[.int .i64 0, .int .i64 x.1] else .agg #[.int .i64 x.2, .int .i64 0]

/-- What Eval answers, where the core is of the sort s and comes to r. -/
def evV (s : Int) (r : Rs) : Value := if s = 1 ∨ s = 2 then .tuple #[rsV r, .int .i64 0] else .tuple #[.agg #[.int .i64 0, .int .i64 0], .int .i64 1]
end Go.Proofs.YtbddbnjhmdbkbaaGreatDoor
