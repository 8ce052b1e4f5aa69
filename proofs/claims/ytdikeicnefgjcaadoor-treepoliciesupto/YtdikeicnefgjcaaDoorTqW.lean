/- A policy among the arguments, laid open. TreePolicies: every policy is told to be formed, or not, as the chapter says. -/
import Derived.Test.YtdikeicnefgjcaaDoorTqB
import Derived.Test.YtdikeicnefgjcaaDoorTrQ
import Derived.Test.YtdikeicnefgjcaaDoorTqJ
import Derived.Test.YtdikeicnefgjcaaDoorTrW
import Derived.Deep.RegionHeld3
namespace Go.Proofs.YtdikeicnefgjcaaDoor
open Go.ChangeShapes Go.WideShapes Go.RowKit Go.Deep Go.ChangeMaps

section
variable {H : Type} {enc : TypeId × Value → H} {W : World} {base : Nat} {sp : Nat → Bool} {held : Bool}
theorem ce_item : Tryd.prog.cellsOf 32 = 19 := by kernel_rfl
theorem ce_items : Tryd.prog.cellsOf 28 = 1 := by kernel_rfl
theorem ce_pol : Tryd.prog.cellsOf 30 = 2 := by kernel_rfl
theorem list_19 {α : Type} : ∀ (c : List α), c.length = 19 → ∃ v0 v1 v2 v3 v4 v5 v6 v7 v8 v9 v10 v11 v12 v13 v14 v15 v16 v17 v18, c = [v0, v1, v2, v3, v4, v5, v6, v7, v8, v9, v10, v11, v12, v13, v14, v15, v16, v17, v18]
  | [v0, v1, v2, v3, v4, v5, v6, v7, v8, v9, v10, v11, v12, v13, v14, v15, v16, v17, v18], _ => ⟨v0, v1, v2, v3, v4, v5, v6, v7, v8, v9, v10, v11, v12, v13, v14, v15, v16, v17, v18, rfl⟩
theorem list_9 {α : Type} : ∀ (c : List α), c.length = 9 → ∃ z0 z1 z2 z3 z4 z5 z6 z7 z8, c = [z0, z1, z2, z3, z4, z5, z6, z7, z8]
  | [z0, z1, z2, z3, z4, z5, z6, z7, z8], _ => ⟨z0, z1, z2, z3, z4, z5, z6, z7, z8, rfl⟩
theorem list_2 {α : Type} : ∀ (c : List α), c.length = 2 → ∃ v0 v1, c = [v0, v1]
  | [v0, v1], _ => ⟨v0, v1, rfl⟩
/-- What is asked of data, down from a policy. -/
structure DownP (z : Nat) (Q : TypeId → DataW H → Prop) : Prop where
  dn : Down z Q
  itm : ∀ d0 d1 d2 d3 d4 d5 d6 d7 d8, Q 32 (.agg [d0, d1, d2, d3, d4, d5, d6, d7, d8]) → Q 9 d1 ∧ Q 9 d2 ∧ Q 24 d6 ∧ Q 24 d7
  its : ∀ e s, Q 28 (.slice e s) → e.length ≤ z ∧ ∀ x, x ∈ e → Q 32 x
  pol : ∀ d0 d1, Q 30 (.agg [d0, d1]) → Q 9 d0 ∧ Q 28 d1
set_option maxRecDepth 10000 in
theorem open_item {z : Nat} {Q : TypeId → DataW H → Prop} (hQ : DownP z Q) (fuel : Nat) (cs : List Value) (x : DataW H × List MemPlace) (hf : DataW.trod enc Tryd.prog W base sp held fuel 32 cs = some x) (hq : Q 32 x.1) : ∃ (i : It) (vx vy : Value), cs = itC i vx vy ∧ ItAt z W i vx vy := by
  obtain ⟨xs, m, rfl, hx1, hl, hlen, hf⟩ := DataW.trod_struct Tryd.underlying32 hf
  rw [ce_item] at hl
  obtain ⟨v0, v1, v2, v3, v4, v5, v6, v7, v8, v9, v10, v11, v12, v13, v14, v15, v16, v17, v18, rfl⟩ := list_19 cs hl
  obtain ⟨z0, z1, z2, z3, z4, z5, z6, z7, z8, rfl⟩ := list_9 xs hlen
  have f0 : DataW.trod enc Tryd.prog W base sp held m 3 (([v0, v1, v2, v3, v4, v5, v6, v7, v8, v9, v10, v11, v12, v13, v14, v15, v16, v17, v18].drop 0).take (Tryd.prog.cellsOf 3)) = [z0, z1, z2, z3, z4, z5, z6, z7, z8][0]? := hf 0 _ rfl
  have f1 : DataW.trod enc Tryd.prog W base sp held m 9 (([v0, v1, v2, v3, v4, v5, v6, v7, v8, v9, v10, v11, v12, v13, v14, v15, v16, v17, v18].drop 1).take (Tryd.prog.cellsOf 9)) = [z0, z1, z2, z3, z4, z5, z6, z7, z8][1]? := hf 1 _ rfl
  have f2 : DataW.trod enc Tryd.prog W base sp held m 9 (([v0, v1, v2, v3, v4, v5, v6, v7, v8, v9, v10, v11, v12, v13, v14, v15, v16, v17, v18].drop 2).take (Tryd.prog.cellsOf 9)) = [z0, z1, z2, z3, z4, z5, z6, z7, z8][2]? := hf 2 _ rfl
  have f3 : DataW.trod enc Tryd.prog W base sp held m 2 (([v0, v1, v2, v3, v4, v5, v6, v7, v8, v9, v10, v11, v12, v13, v14, v15, v16, v17, v18].drop 3).take (Tryd.prog.cellsOf 2)) = [z0, z1, z2, z3, z4, z5, z6, z7, z8][3]? := hf 3 _ rfl
  have f4 : DataW.trod enc Tryd.prog W base sp held m 2 (([v0, v1, v2, v3, v4, v5, v6, v7, v8, v9, v10, v11, v12, v13, v14, v15, v16, v17, v18].drop 4).take (Tryd.prog.cellsOf 2)) = [z0, z1, z2, z3, z4, z5, z6, z7, z8][4]? := hf 4 _ rfl
  have f5 : DataW.trod enc Tryd.prog W base sp held m 2 (([v0, v1, v2, v3, v4, v5, v6, v7, v8, v9, v10, v11, v12, v13, v14, v15, v16, v17, v18].drop 5).take (Tryd.prog.cellsOf 2)) = [z0, z1, z2, z3, z4, z5, z6, z7, z8][5]? := hf 5 _ rfl
  have f6 : DataW.trod enc Tryd.prog W base sp held m 24 (([v0, v1, v2, v3, v4, v5, v6, v7, v8, v9, v10, v11, v12, v13, v14, v15, v16, v17, v18].drop 6).take (Tryd.prog.cellsOf 24)) = [z0, z1, z2, z3, z4, z5, z6, z7, z8][6]? := hf 6 _ rfl
  have f7 : DataW.trod enc Tryd.prog W base sp held m 24 (([v0, v1, v2, v3, v4, v5, v6, v7, v8, v9, v10, v11, v12, v13, v14, v15, v16, v17, v18].drop 12).take (Tryd.prog.cellsOf 24)) = [z0, z1, z2, z3, z4, z5, z6, z7, z8][7]? := hf 7 _ rfl
  have f8 : DataW.trod enc Tryd.prog W base sp held m 3 (([v0, v1, v2, v3, v4, v5, v6, v7, v8, v9, v10, v11, v12, v13, v14, v15, v16, v17, v18].drop 18).take (Tryd.prog.cellsOf 3)) = [z0, z1, z2, z3, z4, z5, z6, z7, z8][8]? := hf 8 _ rfl
  simp only [ce_int, ce_int64, ce_string, ce_term, List.drop_zero, List.take_succ_cons, List.take_zero, List.drop_succ_cons, List.getElem?_cons_zero, List.getElem?_cons_succ] at f0 f1 f2 f3 f4 f5 f6 f7 f8
  obtain ⟨a0, e0, -, w0⟩ := DataW.trod_int Tryd.underlying3 f0
  obtain ⟨a1, e1, x1, -⟩ := DataW.trod_string Tryd.underlying9 f1
  obtain ⟨a2, e2, x2, -⟩ := DataW.trod_string Tryd.underlying9 f2
  obtain ⟨a3, e3, -, w3⟩ := DataW.trod_int Tryd.underlying2 f3
  obtain ⟨a4, e4, -, w4⟩ := DataW.trod_int Tryd.underlying2 f4
  obtain ⟨a5, e5, -, w5⟩ := DataW.trod_int Tryd.underlying2 f5
  obtain ⟨a8, e8, -, w8⟩ := DataW.trod_int Tryd.underlying3 f8
  simp only [List.cons.injEq, and_true] at e0 e1 e2 e3 e4 e5 e8
  rw [hx1] at hq
  obtain ⟨q1, q2, q6, q7⟩ := hQ.itm _ _ _ _ _ _ _ _ _ hq
  rw [x1] at q1
  rw [x2] at q2
  have hs1 : a1.size ≤ z := by
    have := hQ.dn.str _ q1
    simp only [Array.length_toList] at this
    exact this
  have hs2 : a2.size ≤ z := by
    have := hQ.dn.str _ q2
    simp only [Array.length_toList] at this
    exact this
  obtain ⟨t6, u6, e6, s6⟩ := open_term hQ.dn m _ _ f6 q6
  obtain ⟨t7, u7, e7, s7⟩ := open_term hQ.dn m _ _ f7 q7
  simp only [List.cons.injEq, and_true] at e6 e7
  obtain ⟨g6, g7, g8, g9, g10, g11⟩ := e6
  obtain ⟨g12, g13, g14, g15, g16, g17⟩ := e7
  exact ⟨⟨a0, a1, a2, a3, a4, a5, t6, t7, a8⟩, u6, u7, by rw [e0, e1, e2, e3, e4, e5, e8, g6, g7, g8, g9, g10, g11, g12, g13, g14, g15, g16, g17], ⟨s6, s7, hs1, hs2⟩⟩
/-- A policy in memory. -/
structure PolAt (z : Nat) (w : World) (p : ByteArray × List It) (u : Value) : Prop where
  nm : p.1.size ≤ z
  its : IAt z w u p.2
  len : p.2.length ≤ z
set_option maxRecDepth 10000 in
theorem open_pol {z : Nat} {Q : TypeId → DataW H → Prop} (hQ : DownP z Q) {r : Reach} {b0 : Nat} {v : Value} {d : DataW H} {ps : List MemPlace} (hval : Value.okWide Tryd.prog W r b0 30 v) (hd : DataW.Trod enc Tryd.prog W base sp held 30 v d ps) (hq : Q 30 d) : ∃ (p : ByteArray × List It) (u : Value), v = .agg #[.string p.1, u] ∧ PolAt z W p u := by
  simp only [Value.okWide, Tryd.underlying30] at hval
  obtain ⟨cs, rfl, _⟩ := hval
  obtain ⟨fuel, hf⟩ := hd
  obtain ⟨c⟩ := cs
  simp only [Value.cells] at hf
  obtain ⟨xs, m, rfl, hx1, hl, hlen, hf⟩ := DataW.trod_struct Tryd.underlying30 hf
  rw [ce_pol] at hl
  obtain ⟨v0, v1, rfl⟩ := list_2 c hl
  obtain ⟨z0, z1, rfl⟩ := list_2 xs hlen
  have f0 : DataW.trod enc Tryd.prog W base sp held m 9 (([v0, v1].drop 0).take (Tryd.prog.cellsOf 9)) = [z0, z1][0]? := hf 0 _ rfl
  have f1 : DataW.trod enc Tryd.prog W base sp held m 28 (([v0, v1].drop 1).take (Tryd.prog.cellsOf 28)) = [z0, z1][1]? := hf 1 _ rfl
  simp only [ce_string, ce_items, List.drop_zero, List.take_succ_cons, List.take_zero, List.drop_succ_cons, List.getElem?_cons_zero, List.getElem?_cons_succ] at f0 f1
  obtain ⟨a0, e0, x0, -⟩ := DataW.trod_string Tryd.underlying9 f0
  simp only [List.cons.injEq, and_true] at e0
  replace hx1 := congrArg Prod.fst hx1
  simp only at hx1
  rw [hx1] at hq
  obtain ⟨q0, q1⟩ := hQ.pol _ _ hq
  rw [x0] at q0
  have hs0 : a0.size ≤ z := by
    have := hQ.dn.str _ q0
    simp only [Array.length_toList] at this
    exact this
  have fin : ∀ (l : List It), IAt z W v1 l → l.length ≤ z → ∃ (p : ByteArray × List It) (u : Value), Value.agg (Array.mk [v0, v1]) = .agg #[.string p.1, u] ∧ PolAt z W p u := fun l hp hn =>
    ⟨(a0, l), v1, by rw [e0], ⟨hs0, hp, hn⟩⟩
  rcases DataW.trod_slice Tryd.underlying28 f1 with ⟨h5, _⟩ | ⟨a, len, cap, elems, rest, n, hmn, h5, hx5, hb5, hl5, hm5, hlen5, hel5, _, _⟩
  · simp only [List.cons.injEq, and_true] at h5
    exact fin [] ⟨none, 0, by rw [h5]; rfl, Nat.le_refl _, by decide, .inl rfl⟩ (Nat.zero_le _)
  · simp only [List.cons.injEq, and_true] at h5
    rw [hx5] at q1
    obtain ⟨qn, qe⟩ := hQ.its _ _ q1
    by_cases h0 : len = 0
    · exact fin [] ⟨some a, cap, by rw [h5, h0]; rfl, by simp, hm5, .inl rfl⟩ (Nat.zero_le _)
    have each : ∀ i, ∃ tu : It × Value × Value, i < len → ∃ cs', W.cells? base (a.add (i * 19)) 19 = some cs' ∧ cs' = itC tu.1 tu.2.1 tu.2.2 ∧ ItAt z W tu.1 tu.2.1 tu.2.2 := by
      intro i
      by_cases hi : i < len
      · have key := hel5 i hi
        rw [ce_item, List.getElem?_eq_getElem (by omega)] at key
        obtain ⟨cs', g1, g2⟩ := Option.bind_eq_some_iff.1 key
        obtain ⟨t, ux, uy, g3, g4⟩ := open_item hQ n cs' _ g2 (qe _ (List.mem_map.2 ⟨_, List.getElem_mem (by omega), rfl⟩))
        exact ⟨(t, ux, uy), fun _ => ⟨cs', g1, g3, g4⟩⟩
      · exact ⟨(⟨0, ⟨#[]⟩, ⟨#[]⟩, 0, 0, 0, nilM, nilM, 0⟩, .nilIface, .nilIface), fun h => absurd h hi⟩
    obtain ⟨b, off, spot⟩ := a
    obtain ⟨rfl, hbl⟩ : spot = none ∧ b < W.heap.size := by
      obtain ⟨cs', g1, _⟩ := (each 0).choose_spec (by omega)
      exact cells_first (by simpa using g1) (by decide)
    refine fin ((List.range len).map fun i => (each i).choose.1) ⟨_, cap, by rw [h5]; simp, by simp; omega, hm5, .inr ⟨b, off, rfl, hbl, fun i hi => ?_⟩⟩ (by simp only [List.length_map] at qn; simp; omega)
    have hi' : i < len := by simpa using hi
    obtain ⟨cs', g1, g3, g4⟩ := (each i).choose_spec hi'
    refine ⟨(each i).choose.2.1, (each i).choose.2.2, ?_, by simpa using g4⟩
    intro q u hu
    have hc := cells_at g1 q
    simp only [List.getElem_map, List.getElem_range] at hu
    rw [← g3] at hu
    have hq : q < 19 := by
      have h1 := (List.getElem?_eq_some_iff.1 hu).1
      have h2 := (World.cells?_some g1).2.1
      omega
    rw [hc hq, hu]
theorem bulk_len {H : Type} : ∀ (q : List (DataW H)), q.length ≤ Rows.uptoBulkAll q
  | [] => Nat.zero_le _
  | x :: r => by
    have h1 := bulk_len r
    have h2 : 1 ≤ Rows.uptoBulk x := by
      cases x with
      | lit v => cases v <;> simp [Rows.uptoBulk]
      | _ => simp [Rows.uptoBulk]
    simp only [Rows.uptoBulkAll, List.length_cons]
    omega
theorem downP_upto {H : Type} : DownP (H := H) 1048576 (fun _ d => Rows.uptoBulk d ≤ 1048576) where
  dn := down_upto
  itm := fun d0 d1 d2 d3 d4 d5 d6 d7 d8 h => by simp only [Rows.uptoBulk, Rows.uptoBulkAll] at h; exact ⟨by omega, by omega, by omega, by omega⟩
  its := fun e s h => by
    simp only [Rows.uptoBulk] at h
    refine ⟨?_, fun x hx => ?_⟩
    · have := bulk_len e; omega
    · have := bulk_mem e x hx
      show Rows.uptoBulk x ≤ _
      omega
  pol := fun d0 d1 h => by simp only [Rows.uptoBulk, Rows.uptoBulkAll] at h; exact ⟨by omega, by omega⟩
end
end Go.Proofs.YtdikeicnefgjcaaDoor
namespace Go.Proofs.YtdikeicnefgjcaaDoor
open Go.RowKit

set_option maxRecDepth 20000 in
set_option maxHeartbeats 4000000 in
theorem treePolicies_walk (p : ByteArray × List It) (v : Value) (w : World) (hs : PolAt 1048576 w p v) (hT : TabsAt w) : Calls Tryd.prog 4 #[.agg #[.string p.1, v]] w fun e w' => e = .returned (.bool true) ∧ Below w.heap.size w w' := by
  obtain ⟨nm, l⟩ := p
  obtain ⟨hnm, hl, hn⟩ := hs
  simp only at hnm hl hn ⊢
  have HA := hid2 (fun wx (hi : Below w.heap.size w wx) => awake_c wx (hT.next hi))
  have H1 : Hid (SmallI l → ∀ wx, Below w.heap.size w wx → Calls Tryd.prog 17 #[.agg #[.string nm, v]] wx fun e w' => e = .returned (.bool (polB nm l)) ∧ Below wx.heap.size wx w') := fun hsm wx hi => policy_c (by decide) nm hnm l v wx (hl.next hi) (hT.next hi) hsm hn
  have H2 : Hid (SmallI l → ∀ wx, Below w.heap.size w wx → Calls Tryd.prog 18 #[.agg #[.string nm, v]] wx fun e w' => e = .returned (.bool (polB nm l)) ∧ Below wx.heap.size wx w') := fun hsm wx hi => by rw [pol_same]; exact rPolicy_c (by decide) nm hnm l v wx (hl.next hi) hsm hn
  have HL := hid2 hl
  obtain ⟨ad, cap, rfl, hc1, hc2⟩ := hl.shape
  obtain ⟨N, hN⟩ : ∃ N, Hid (N = l.length) := ⟨_, rfl⟩
  rw [← hN.out] at hc1 hn HL H1 H2 ⊢
  generalize polB nm l = q at *
  obtain ⟨X0, XB⟩ := one_box w 30 [.string nm, .slice ad N cap]
  have BX := hid2 X0
  have BB := hid2 XB
  clear hl X0 XB hnm hT
  go_enter Tryd.func4, Tryd.ntmps4
  go_wp2_with fail
  refine Calls.mono (HA.out _ BB.out) ?_
  rintro e w1 ⟨rfl, b1⟩
  have B1 := hid2 (below_on BB.out b1 BB.out.size)
  have P1 := hid2 (BX.out.next b1)
  clear b1 BX BB HA
  go_wp2_with fail
  go_loopw [3] (fun i wr => ∃ j : Nat, i = .int .i64 (j : Nat) ∧ j ≤ N ∧ Hid (SmallI (l.take j)) ∧ Hid (Box wr w.heap.size [.string nm, .slice ad N cap]) ∧ Hid (Below w.heap.size w wr)) (fun i _ => match i with | .int _ p => ((N : Int) - p).toNat | _ => 0)
  case atStart => exact ⟨0, rfl, by omega, hid2 (fun i hi => by simp at hi), P1, B1⟩
  case round =>
    clear P1 B1
    obtain ⟨j, rfl, hj, HJ, PB, HB⟩ := hrel
    have lp := PB.out.lt
    have p1 : wr.cell? ⟨w.heap.size, 1, none⟩ = some (.slice ad N cap) := PB.out.cell 1 _ rfl
    by_cases hlt : j < N
    · have hlt' : (j : Int) < (N : Int) := by omega
      have h1 : j < l.length := by rw [← hN.out]; exact hlt
      obtain ⟨b, off, cq, hv, -, -, hbl, hxs⟩ := HL.out.open (by omega)
      rw [← hN.out] at hv
      simp only [Value.slice.injEq] at hv
      obtain ⟨rfl, -, rfl⟩ := hv
      obtain ⟨vx, vy, hcs, hit⟩ := hxs j h1
      have lb : b < wr.heap.size := Nat.lt_of_lt_of_le hbl HB.out.size
      have HX : Hid (∀ wx, Below w.heap.size w wx → ∀ q u, (itC l[j] vx vy)[q]? = some u → wx.cell? ⟨b, off + j * 19 + q, none⟩ = some u) := fun wx hb q u hu => (hb.cell (p := ⟨b, off + j * 19 + q, none⟩) hbl).trans (hcs q u hu)
      have HSX := hid2 (fun wx (hb : Below w.heap.size w wx) => small_c l[j].x vx wx (hit.sx.next hb))
      have HSY := hid2 (fun wx (hb : Below w.heap.size w wx) => small_c l[j].y vy wx (hit.sy.next hb))
      have HT : Hid (nodes l[j].x ≤ 16384 → nodes l[j].y ≤ 16384 → SmallI (l.take (j + 1))) := fun hx hy i hi => by
        rw [List.take_succ_eq_append_getElem h1, List.mem_append] at hi
        rcases hi with hi | hi
        · exact HJ.out i hi
        · simp at hi; subst hi; exact ⟨hx, hy⟩
      obtain ⟨a1, c1, ev1, -, -⟩ := hit.sx.parts.shape
      obtain ⟨a2, c2, ev2, -, -⟩ := hit.sy.parts.shape
      rw [ev1] at HX HSX
      rw [ev2] at HX HSY
      clear hcs hit hxs ev1 ev2 HJ HL H1 H2
      generalize l[j] = i at *
      clear h1
      have hbl2 := hid2 hbl
      clear hbl
      have c6 : wr.cell? ⟨b, off + j * 19 + 6, none⟩ = some (.int .i64 i.x.kind) := HX.out wr HB.out 6 _ rfl
      have c7 : wr.cell? ⟨b, off + j * 19 + 7, none⟩ = some (.string i.x.text) := HX.out wr HB.out 7 _ rfl
      have c8 : wr.cell? ⟨b, off + j * 19 + 8, none⟩ = some (.int .i64 i.x.n) := HX.out wr HB.out 8 _ rfl
      have c9 : wr.cell? ⟨b, off + j * 19 + 9, none⟩ = some (.int .i64 i.x.m) := HX.out wr HB.out 9 _ rfl
      have c10 : wr.cell? ⟨b, off + j * 19 + 10, none⟩ = some (.int .i64 i.x.pl) := HX.out wr HB.out 10 _ rfl
      have c11 : wr.cell? ⟨b, off + j * 19 + 11, none⟩ = some (.slice a1 i.x.parts.length c1) := HX.out wr HB.out 11 _ rfl
      go_wp2_with fail
      refine Calls.mono (HSX.out _ HB.out) ?_
      rintro e w2 ⟨rfl, b2⟩
      have B2 := hid2 (below_on HB.out b2 HB.out.size)
      have P2 := hid2 (PB.out.next b2)
      clear b2 c6 c7 c8 c9 c10 c11 p1 lp lb HSX PB HB
      have lb : b < w2.heap.size := Nat.lt_of_lt_of_le hbl2.out B2.out.size
      have lp := P2.out.lt
      have p1 : w2.cell? ⟨w.heap.size, 1, none⟩ = some (.slice (some ⟨b, off, none⟩) N cap) := P2.out.cell 1 _ rfl
      by_cases hx : nodes i.x ≤ 16384
      · rw [decide_eq_true hx]
        have HT2 := hid2 (HT.out hx)
        clear HT hx
        have c12 : w2.cell? ⟨b, off + j * 19 + 12, none⟩ = some (.int .i64 i.y.kind) := HX.out w2 B2.out 12 _ rfl
        have c13 : w2.cell? ⟨b, off + j * 19 + 13, none⟩ = some (.string i.y.text) := HX.out w2 B2.out 13 _ rfl
        have c14 : w2.cell? ⟨b, off + j * 19 + 14, none⟩ = some (.int .i64 i.y.n) := HX.out w2 B2.out 14 _ rfl
        have c15 : w2.cell? ⟨b, off + j * 19 + 15, none⟩ = some (.int .i64 i.y.m) := HX.out w2 B2.out 15 _ rfl
        have c16 : w2.cell? ⟨b, off + j * 19 + 16, none⟩ = some (.int .i64 i.y.pl) := HX.out w2 B2.out 16 _ rfl
        have c17 : w2.cell? ⟨b, off + j * 19 + 17, none⟩ = some (.slice a2 i.y.parts.length c2) := HX.out w2 B2.out 17 _ rfl
        go_wp2_with fail
        refine Calls.mono (HSY.out _ B2.out) ?_
        rintro e w3 ⟨rfl, b3⟩
        have B3 := hid2 (below_on B2.out b3 B2.out.size)
        have P3 := hid2 (P2.out.next b3)
        clear b3 c12 c13 c14 c15 c16 c17 p1 lp lb HSY P2 B2
        by_cases hy : nodes i.y ≤ 16384
        · rw [decide_eq_true hy]
          have HT3 := hid2 (HT2.out hy)
          clear HT2 hy
          go_wp2_with fail
          go_roundw
          case rel => exact ⟨j + 1, by go_num, by omega, HT3, P3, B3⟩
          case measure => simp; omega
        · rw [decide_eq_false hy]
          go_wp2_with fail
          go_ret
          exact ⟨rfl, B3.out⟩
      · rw [decide_eq_false hx]
        go_wp2_with fail
        go_ret
        exact ⟨rfl, B2.out⟩
    · have hlt' : ¬ (j : Int) < (N : Int) := by omega
      have e1 : l.take j = l := List.take_of_length_le (by have := hN.out; omega)
      rw [e1] at HJ
      have h0 : wr.cell? ⟨w.heap.size, 0, none⟩ = some (.string nm) := PB.out.cell 0 _ rfl
      have F1 : Hid (∀ wx, Below wr.heap.size wr wx → Calls Tryd.prog 17 #[.agg #[.string nm, .slice ad N cap]] wx fun e w' => e = .returned (.bool q) ∧ Hid (Below wr.heap.size wr w')) := fun wx hb => (H1.out HJ.out wx (below_on HB.out hb HB.out.size)).mono fun e w' h => ⟨h.1, below_on hb h.2 hb.size⟩
      have F2 : Hid (∀ wx, Below wr.heap.size wr wx → Calls Tryd.prog 18 #[.agg #[.string nm, .slice ad N cap]] wx fun e w' => e = .returned (.bool q) ∧ Hid (Below wr.heap.size wr w')) := fun wx hb => (H2.out HJ.out wx (below_on HB.out hb HB.out.size)).mono fun e w' h => ⟨h.1, below_on hb h.2 hb.size⟩
      have FC : Hid (∀ wx, Below wr.heap.size wr wx → wx.cell? ⟨w.heap.size, 0, none⟩ = some (.string nm) ∧ wx.cell? ⟨w.heap.size, 1, none⟩ = some (.slice ad N cap)) := fun wx hb => ⟨(hb.cell (p := ⟨w.heap.size, 0, none⟩) lp).trans h0, (hb.cell (p := ⟨w.heap.size, 1, none⟩) lp).trans p1⟩
      clear H1 H2 HJ HL
      go_wp2_with fail
      go_region_held3 (fun w' => w'.cell? ⟨w.heap.size, 0, none⟩ = some (.string nm) ∧ w'.cell? ⟨w.heap.size, 1, none⟩ = some (.slice ad N cap)) (simp [go_sem, *]) (first | (go_at_call 17; refine Calls.mono (F1.out _ (by first | exact below_drewN (Below.refl _ _) _ | exact Below.refl _ _)) ?_; rintro e wA ⟨rfl, IA⟩; obtain ⟨y0, y1⟩ := FC.out _ IA.out) | (go_at_call 18; refine Calls.mono (F2.out _ (by first | exact IA.out | exact below_drewN IA.out _)) ?_; rintro e wB ⟨rfl, IB⟩; obtain ⟨y0, y1⟩ := FC.out _ IB.out))
      go_wp2_with fail
      go_ret
      exact ⟨by simp, below_on HB.out IB.out HB.out.size⟩
end Go.Proofs.YtdikeicnefgjcaaDoor
