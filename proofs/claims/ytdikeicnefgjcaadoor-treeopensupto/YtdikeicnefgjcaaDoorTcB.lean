/- Package tree: each, Bare, copied. -/
import Derived.Test.YtdikeicnefgjcaaDoorTcA
import Derived.Test.YtdikeicnefgjcaaDoorLyA
namespace Go.Proofs.YtdikeicnefgjcaaDoor
open Go.RowKit

/-- The term with every place 0. -/
def bareT : Tm → Tm
  | ⟨k, s, n, m, _, ps⟩ => ⟨k, s, n, m, 0, ps.map bareT⟩
theorem bareT_eq (t : Tm) : bareT t = ⟨t.kind, t.text, t.n, t.m, 0, t.parts.map bareT⟩ := by cases t; rw [bareT]
theorem made_len (n : Nat) : (madeCells (Value.agg #[.int .i64 0, .string ⟨#[]⟩, .int .i64 0, .int .i64 0, .int .i64 0, .slice none 0 0]).cells (n * 6)).toList.length = n * 6 := by
  simp [madeCells]
/-- Six cells set in one block. -/
def set6 (w : World) (g o : Nat) (v0 v1 v2 v3 v4 v5 : Value) : World := (((((w.setCell ⟨g, o, none⟩ v0).setCell ⟨g, o + 1, none⟩ v1).setCell ⟨g, o + 2, none⟩ v2).setCell ⟨g, o + 3, none⟩ v3).setCell ⟨g, o + 4, none⟩ v4).setCell ⟨g, o + 5, none⟩ v5
theorem set6_size (w : World) (g o : Nat) (v0 v1 v2 v3 v4 v5 : Value) : (set6 w g o v0 v1 v2 v3 v4 v5).heap.size = w.heap.size := by simp [set6]
theorem set6_cell (w : World) (g o : Nat) (v0 v1 v2 v3 v4 v5 : Value) {b : Nat} (hb : b ≠ g) (j : Nat) : (set6 w g o v0 v1 v2 v3 v4 v5).cell? ⟨b, j, none⟩ = w.cell? ⟨b, j, none⟩ := by
  unfold set6
  have h : ∀ (w' : World) (k : Nat) (v : Value), (w'.setCell ⟨g, k, none⟩ v).cell? ⟨b, j, none⟩ = w'.cell? ⟨b, j, none⟩ := fun w' k v => World.cell?_setCell_far _ _ _ _ (by simpa using hb.symm)
  rw [h, h, h, h, h, h]
theorem set6_sits {lo z : Nat} {w : World} {g o : Nat} {v0 v1 v2 v3 v4 v5 : Value} {t : Tm} {v : Value} (hg : g < lo) (h : SitsL lo z w t v) : SitsL lo z (set6 w g o v0 v1 v2 v3 v4 v5) t v :=
  SitsL.keep (Nat.le_refl _) (Nat.le_of_eq (set6_size ..).symm) (fun b j hb _ => set6_cell _ _ _ _ _ _ _ _ _ (by omega) j) t v h
theorem Filled.step {z g : Nat} {ds : List Tm} {C : List Value} {w w' : World} {d : Tm} {u : Value} (hl : ds.length * 6 + 5 < C.length) (hk : ∀ x v, SitsL (g + 1) z w x v → SitsL (g + 1) z w' x v) (hF : Filled z g ds C w) (hd : SitsL (g + 1) z w' d u) :
    Filled z g (ds ++ [d]) (put6 C (ds.length * 6) (.int .i64 d.kind) (.string d.text) (.int .i64 d.n) (.int .i64 d.m) (.int .i64 d.pl) u) w' := by
  intro i hi
  by_cases h : i < ds.length
  · obtain ⟨u', h1, h2⟩ := hF i h
    refine ⟨u', fun q hq => ?_, ?_⟩
    · rw [put6_other (by omega), h1 q hq, List.getElem_append_left h]
    · rw [List.getElem_append_left h]; exact hk _ _ h2
  · have e : i = ds.length := by simp at hi; omega
    subst e
    refine ⟨u, fun q hq => ?_, ?_⟩
    · rw [put6_in hl q hq]; simp [tmL]
    · simpa using hd
def BareAt (z : Nat) (t : Tm) : Prop := ∀ (v : Value) (w : World), Sits z w t v → nodes t ≤ 16384 → Calls Tryd.prog 29 #[tmV t v] w (NewT z (bareT t) w)
set_option maxRecDepth 20000 in
set_option maxHeartbeats 4000000 in
theorem eachBare {z : Nat} (l : List Tm) (v : Value) (w : World) (hl : PAt z w v l) (hn : l.length ≤ 16384) (hns : ∀ x, x ∈ l → nodes x ≤ 16384) (ih : ∀ x, x ∈ l → BareAt z x) :
    Calls Tryd.prog 55 #[v, .func (.func 29) #[] #[]] w (NewP z (l.map bareT) w) := by
  by_cases h0 : l = []
  · subst h0
    obtain ⟨ad, cap, rfl, -, -⟩ := hl.shape
    have hP : Hid (NewP z [] w (.returned (.slice none 0 0)) w) := ⟨_, rfl, ⟨none, 0, rfl, Nat.le_refl _, by decide, .inl rfl⟩, Below.refl _ _⟩
    clear hl hn hns ih
    go_enter Tryd.func55, Tryd.ntmps55
    go_wp2_with fail
    go_ret
    exact hP.out
  · obtain ⟨b, off, cap, rfl, hle, hc, hbl, hx⟩ := hl.open (List.length_pos_iff.2 h0)
    obtain ⟨i0, hi, hz0, hz1, hz2⟩ := info_parts info_term
    have HX := hid2 hx
    have HI := hid2 ih
    have HNS := hid2 hns
    obtain ⟨N, hN⟩ : ∃ N, Hid (N = l.length) := ⟨_, rfl⟩
    have hpos : 0 < N := by rw [hN.out]; exact List.length_pos_iff.2 h0
    rw [← hN.out] at hle hn ⊢
    have d0 : ((N : Int) == 0) = false := beq_eq_false_iff_ne.2 (by omega)
    clear hl hx ih hns h0
    go_enter Tryd.func55, Tryd.ntmps55
    go_wp2_with (at_make; refine wpList_make_full _ rfl _ _ 22 rfl w.heap.size 24 i0 (.agg #[.int .i64 0, .string ⟨#[]⟩, .int .i64 0, .int .i64 0, .int .i64 0, .slice none 0 0]) 6 Tryd.underlying22 hi hz0 hz1 _ _ _ _ N rfl rfl rfl rfl (by rw [hz2]; omega) (by unfold maxLen; omega) (Nat.le_refl _) ?_; intro w1 hown hgrow)
    have hb1 : Hid (Below w.heap.size w w1) := (Below.refl _ _).grown hgrow (Nat.le_refl _) (by simp)
    have hbx : Hid (Box w1 w.heap.size (madeCells (Value.agg #[.int .i64 0, .string ⟨#[]⟩, .int .i64 0, .int .i64 0, .int .i64 0, .slice none 0 0]).cells (N * 6)).toList) := by
      rcases own_box hown with ⟨h, _⟩ | ⟨g, c, h, _, hb⟩
      · cases h
      · simp only [Value.slice.injEq, Option.some.injEq, Addr.mk.injEq, and_true] at h
        obtain ⟨⟨rfl, _⟩, _⟩ := h
        exact hb
    clear hown hgrow
    go_loopw [16] (fun i wr => ∃ (j : Nat) (C : List Value), i = .int .i64 (j : Nat) ∧ j ≤ N ∧ Hid (C.length = N * 6) ∧ Hid (Box wr w.heap.size C) ∧ Hid (Filled z w.heap.size ((l.map bareT).take j) C wr) ∧ Hid (Below w.heap.size w wr)) (fun i _ => match i with | .int _ p => ((N : Int) - p).toNat | _ => 0)
    case atStart => exact ⟨0, _, rfl, by omega, made_len N, hbx, hid2 (by simpa using Filled.nil z w.heap.size _ w1), hb1⟩
    case round =>
      obtain ⟨j, C, rfl, hj, HC, HBX, HF, HB⟩ := hrel
      by_cases hlt : j < N
      · have hlt' : (j : Int) < (N : Int) := by omega
        have h1 : j < l.length := by rw [← hN.out]; exact hlt
        obtain ⟨u, h6, hu⟩ := HX.out j h1
        obtain ⟨c0, c1, c2, c3, c4, c5⟩ := h6.keep (w' := wr) (fun q => HB.out.cell (p := ⟨b, q, none⟩) hbl)
        have lb : b < wr.heap.size := Nat.lt_of_lt_of_le hbl HB.out.size
        have A : ∀ o, Below w.heap.size w (wr.alloc o) := fun o => HB.out.alloc HB.out.size _
        have HK : Hid (∀ o, Calls Tryd.prog 29 #[tmV l[j] u] (wr.alloc o) (NewT z (bareT l[j]) (wr.alloc o))) := fun o => by
          have := HI.out _ (List.getElem_mem h1) u _ (hu.next (A o)) (HNS.out _ (List.getElem_mem h1))
          exact this
        have HT : Hid ((l.map bareT).take (j + 1) = (l.map bareT).take j ++ [bareT l[j]]) := by
          show _ = _
          rw [List.take_add_one]
          simp [h1]
        have HL : Hid (((l.map bareT).take j).length = j) := by show _ = _; simp; omega
        have HA := hid2 A
        obtain ⟨au, cu, rfl, -, -⟩ := hu.parts.shape
        clear h6 hu A
        generalize l[j] = x at *
        clear h1
        go_wp2_with fail
        refine Calls.mono (HK.out _) ?_
        rintro e w2 ⟨u2, rfl, hs2, b2⟩
        obtain ⟨au2, cu2, rfl⟩ := (sitsL_iff.1 hs2).2.shape
        have B2 := below_on ((Below.refl _ _).alloc (Nat.le_refl _) _) b2 (by simp)
        have X2 := HBX.out.next B2
        have hlen : j * 6 + 5 < C.length := by rw [HC.out]; omega
        have HW := hid2 (below_on HB.out B2 HB.out.size)
        have S2 : Hid (SitsL (w.heap.size + 1) z w2 (bareT x) _) := SitsL.keep (by simp; exact HB.out.size) (Nat.le_refl _) (fun _ _ _ _ => rfl) _ _ hs2
        have HF2 : Hid (∀ x v, SitsL (w.heap.size + 1) z wr x v → SitsL (w.heap.size + 1) z w2 x v) := fun x v h => h.next B2
        obtain ⟨r0, k0⟩ : ∃ r, w2.cell? ⟨w.heap.size, j * 6, none⟩ = some r := ⟨_, X2.cell (j * 6) _ (List.getElem?_eq_getElem (by omega))⟩
        obtain ⟨r1, k1⟩ : ∃ r, w2.cell? ⟨w.heap.size, j * 6 + 1, none⟩ = some r := ⟨_, X2.cell (j * 6 + 1) _ (List.getElem?_eq_getElem (by omega))⟩
        obtain ⟨r2, k2⟩ : ∃ r, w2.cell? ⟨w.heap.size, j * 6 + 2, none⟩ = some r := ⟨_, X2.cell (j * 6 + 2) _ (List.getElem?_eq_getElem (by omega))⟩
        obtain ⟨r3, k3⟩ : ∃ r, w2.cell? ⟨w.heap.size, j * 6 + 3, none⟩ = some r := ⟨_, X2.cell (j * 6 + 3) _ (List.getElem?_eq_getElem (by omega))⟩
        obtain ⟨r4, k4⟩ : ∃ r, w2.cell? ⟨w.heap.size, j * 6 + 4, none⟩ = some r := ⟨_, X2.cell (j * 6 + 4) _ (List.getElem?_eq_getElem (by omega))⟩
        obtain ⟨r5, k5⟩ : ∃ r, w2.cell? ⟨w.heap.size, j * 6 + 5, none⟩ = some r := ⟨_, X2.cell (j * 6 + 5) _ (List.getElem?_eq_getElem (by omega))⟩
        have f0 := X2.free (j * 6) (by omega)
        have f1 := X2.free (j * 6 + 1) (by omega)
        have f2 := X2.free (j * 6 + 2) (by omega)
        have f3 := X2.free (j * 6 + 3) (by omega)
        have f4 := X2.free (j * 6 + 4) (by omega)
        have f5 := X2.free (j * 6 + 5) (by omega)
        have HX2 := hid2 X2
        clear X2 B2 b2 hs2 HK HA c0 c1 c2 c3 c4 c5
        go_wp2_with fail
        go_roundw
        case rel =>
          refine ⟨j + 1, put6 C (j * 6) (.int .i64 (bareT x).kind) (.string (bareT x).text) (.int .i64 (bareT x).n) (.int .i64 (bareT x).m) (.int .i64 (bareT x).pl) _, by go_num, by omega, hid2 ((put6_length ..).trans HC.out), hid2 (HX2.out.put6 (j * 6) hlen _ _ _ _ _ _), hid2 ?_, hid2 ?_⟩
          · rw [HT.out]
            have := Filled.step (w' := set6 w2 w.heap.size (j * 6) (.int .i64 (bareT x).kind) (.string (bareT x).text) (.int .i64 (bareT x).n) (.int .i64 (bareT x).m) (.int .i64 (bareT x).pl) (.slice au2 (bareT x).parts.length cu2)) (d := bareT x) (by rw [HL.out]; exact hlen) (fun _ _ h => set6_sits (Nat.lt_succ_self _) (HF2.out _ _ h)) HF.out (set6_sits (Nat.lt_succ_self _) S2.out)
            rw [HL.out] at this
            exact this
          · exact (((((HW.out.setCell (Nat.le_refl _) _).setCell (Nat.le_refl _) _).setCell (Nat.le_refl _) _).setCell (Nat.le_refl _) _).setCell (Nat.le_refl _) _).setCell (Nat.le_refl _) _
        case measure => simp; omega
      · have hlt' : ¬ (j : Int) < (N : Int) := by omega
        have HP : Hid (PAtL w.heap.size z wr (.slice (some ⟨w.heap.size, 0, none⟩) N N) (l.map bareT)) := by
          have hle2 : (l.map bareT).length = N := by rw [List.length_map]; exact hN.out.symm
          have hfull : (l.map bareT).take j = l.map bareT := List.take_of_length_le (by omega)
          have hF := HF.out
          rw [hfull] at hF
          refine ⟨_, N, by rw [hle2], by omega, by omega, .inr ⟨w.heap.size, 0, rfl, HBX.out.lt, Nat.le_refl _, fun i hi => ?_⟩⟩
          obtain ⟨u, h1, h2⟩ := hF i hi
          exact ⟨u, ⟨by simpa using HBX.out.cell (i * 6 + 0) _ ((h1 0 (by omega)).trans rfl), by simpa using HBX.out.cell (i * 6 + 1) _ ((h1 1 (by omega)).trans rfl), by simpa using HBX.out.cell (i * 6 + 2) _ ((h1 2 (by omega)).trans rfl), by simpa using HBX.out.cell (i * 6 + 3) _ ((h1 3 (by omega)).trans rfl), by simpa using HBX.out.cell (i * 6 + 4) _ ((h1 4 (by omega)).trans rfl), by simpa using HBX.out.cell (i * 6 + 5) _ ((h1 5 (by omega)).trans rfl)⟩, SitsL.keep (Nat.le_succ _) (Nat.le_refl _) (fun _ _ _ _ => rfl) _ _ h2⟩
        clear HF HBX HX HI HNS
        go_wp2_with fail
        go_ret
        exact ⟨_, rfl, HP.out, HB.out⟩
def CopyAt (z : Nat) (t : Tm) : Prop := ∀ (v : Value) (w : World), Sits z w t v → nodes t ≤ 16384 → Calls Tryd.prog 56 #[tmV t v] w (NewT z t w)
set_option maxRecDepth 20000 in
set_option maxHeartbeats 4000000 in
theorem eachCopy {z : Nat} (l : List Tm) (v : Value) (w : World) (hl : PAt z w v l) (hn : l.length ≤ 16384) (hns : ∀ x, x ∈ l → nodes x ≤ 16384) (ih : ∀ x, x ∈ l → CopyAt z x) :
    Calls Tryd.prog 55 #[v, .func (.func 56) #[] #[]] w (NewP z l w) := by
  by_cases h0 : l = []
  · subst h0
    obtain ⟨ad, cap, rfl, -, -⟩ := hl.shape
    have hP : Hid (NewP z [] w (.returned (.slice none 0 0)) w) := ⟨_, rfl, ⟨none, 0, rfl, Nat.le_refl _, by decide, .inl rfl⟩, Below.refl _ _⟩
    clear hl hn hns ih
    go_enter Tryd.func55, Tryd.ntmps55
    go_wp2_with fail
    go_ret
    exact hP.out
  · obtain ⟨b, off, cap, rfl, hle, hc, hbl, hx⟩ := hl.open (List.length_pos_iff.2 h0)
    obtain ⟨i0, hi, hz0, hz1, hz2⟩ := info_parts info_term
    have HX := hid2 hx
    have HI := hid2 ih
    have HNS := hid2 hns
    obtain ⟨N, hN⟩ : ∃ N, Hid (N = l.length) := ⟨_, rfl⟩
    have hpos : 0 < N := by rw [hN.out]; exact List.length_pos_iff.2 h0
    rw [← hN.out] at hle hn ⊢
    have d0 : ((N : Int) == 0) = false := beq_eq_false_iff_ne.2 (by omega)
    clear hl hx ih hns h0
    go_enter Tryd.func55, Tryd.ntmps55
    go_wp2_with (at_make; refine wpList_make_full _ rfl _ _ 22 rfl w.heap.size 24 i0 (.agg #[.int .i64 0, .string ⟨#[]⟩, .int .i64 0, .int .i64 0, .int .i64 0, .slice none 0 0]) 6 Tryd.underlying22 hi hz0 hz1 _ _ _ _ N rfl rfl rfl rfl (by rw [hz2]; omega) (by unfold maxLen; omega) (Nat.le_refl _) ?_; intro w1 hown hgrow)
    have hb1 : Hid (Below w.heap.size w w1) := (Below.refl _ _).grown hgrow (Nat.le_refl _) (by simp)
    have hbx : Hid (Box w1 w.heap.size (madeCells (Value.agg #[.int .i64 0, .string ⟨#[]⟩, .int .i64 0, .int .i64 0, .int .i64 0, .slice none 0 0]).cells (N * 6)).toList) := by
      rcases own_box hown with ⟨h, _⟩ | ⟨g, c, h, _, hb⟩
      · cases h
      · simp only [Value.slice.injEq, Option.some.injEq, Addr.mk.injEq, and_true] at h
        obtain ⟨⟨rfl, _⟩, _⟩ := h
        exact hb
    clear hown hgrow
    go_loopw [16] (fun i wr => ∃ (j : Nat) (C : List Value), i = .int .i64 (j : Nat) ∧ j ≤ N ∧ Hid (C.length = N * 6) ∧ Hid (Box wr w.heap.size C) ∧ Hid (Filled z w.heap.size ((l.map id).take j) C wr) ∧ Hid (Below w.heap.size w wr)) (fun i _ => match i with | .int _ p => ((N : Int) - p).toNat | _ => 0)
    case atStart => exact ⟨0, _, rfl, by omega, made_len N, hbx, hid2 (by simpa using Filled.nil z w.heap.size _ w1), hb1⟩
    case round =>
      obtain ⟨j, C, rfl, hj, HC, HBX, HF, HB⟩ := hrel
      by_cases hlt : j < N
      · have hlt' : (j : Int) < (N : Int) := by omega
        have h1 : j < l.length := by rw [← hN.out]; exact hlt
        obtain ⟨u, h6, hu⟩ := HX.out j h1
        obtain ⟨c0, c1, c2, c3, c4, c5⟩ := h6.keep (w' := wr) (fun q => HB.out.cell (p := ⟨b, q, none⟩) hbl)
        have lb : b < wr.heap.size := Nat.lt_of_lt_of_le hbl HB.out.size
        have A : ∀ o, Below w.heap.size w (wr.alloc o) := fun o => HB.out.alloc HB.out.size _
        have HK : Hid (∀ o, Calls Tryd.prog 56 #[tmV l[j] u] (wr.alloc o) (NewT z (id l[j]) (wr.alloc o))) := fun o => by
          have := HI.out _ (List.getElem_mem h1) u _ (hu.next (A o)) (HNS.out _ (List.getElem_mem h1))
          exact this
        have HT : Hid ((l.map id).take (j + 1) = (l.map id).take j ++ [id l[j]]) := by
          show _ = _
          rw [List.take_add_one]
          simp [h1]
        have HL : Hid (((l.map id).take j).length = j) := by show _ = _; simp; omega
        have HA := hid2 A
        obtain ⟨au, cu, rfl, -, -⟩ := hu.parts.shape
        clear h6 hu A
        generalize l[j] = x at *
        clear h1
        go_wp2_with fail
        refine Calls.mono (HK.out _) ?_
        rintro e w2 ⟨u2, rfl, hs2, b2⟩
        obtain ⟨au2, cu2, rfl⟩ := (sitsL_iff.1 hs2).2.shape
        have B2 := below_on ((Below.refl _ _).alloc (Nat.le_refl _) _) b2 (by simp)
        have X2 := HBX.out.next B2
        have hlen : j * 6 + 5 < C.length := by rw [HC.out]; omega
        have HW := hid2 (below_on HB.out B2 HB.out.size)
        have S2 : Hid (SitsL (w.heap.size + 1) z w2 (id x) _) := SitsL.keep (by simp; exact HB.out.size) (Nat.le_refl _) (fun _ _ _ _ => rfl) _ _ hs2
        have HF2 : Hid (∀ x v, SitsL (w.heap.size + 1) z wr x v → SitsL (w.heap.size + 1) z w2 x v) := fun x v h => h.next B2
        obtain ⟨r0, k0⟩ : ∃ r, w2.cell? ⟨w.heap.size, j * 6, none⟩ = some r := ⟨_, X2.cell (j * 6) _ (List.getElem?_eq_getElem (by omega))⟩
        obtain ⟨r1, k1⟩ : ∃ r, w2.cell? ⟨w.heap.size, j * 6 + 1, none⟩ = some r := ⟨_, X2.cell (j * 6 + 1) _ (List.getElem?_eq_getElem (by omega))⟩
        obtain ⟨r2, k2⟩ : ∃ r, w2.cell? ⟨w.heap.size, j * 6 + 2, none⟩ = some r := ⟨_, X2.cell (j * 6 + 2) _ (List.getElem?_eq_getElem (by omega))⟩
        obtain ⟨r3, k3⟩ : ∃ r, w2.cell? ⟨w.heap.size, j * 6 + 3, none⟩ = some r := ⟨_, X2.cell (j * 6 + 3) _ (List.getElem?_eq_getElem (by omega))⟩
        obtain ⟨r4, k4⟩ : ∃ r, w2.cell? ⟨w.heap.size, j * 6 + 4, none⟩ = some r := ⟨_, X2.cell (j * 6 + 4) _ (List.getElem?_eq_getElem (by omega))⟩
        obtain ⟨r5, k5⟩ : ∃ r, w2.cell? ⟨w.heap.size, j * 6 + 5, none⟩ = some r := ⟨_, X2.cell (j * 6 + 5) _ (List.getElem?_eq_getElem (by omega))⟩
        have f0 := X2.free (j * 6) (by omega)
        have f1 := X2.free (j * 6 + 1) (by omega)
        have f2 := X2.free (j * 6 + 2) (by omega)
        have f3 := X2.free (j * 6 + 3) (by omega)
        have f4 := X2.free (j * 6 + 4) (by omega)
        have f5 := X2.free (j * 6 + 5) (by omega)
        have HX2 := hid2 X2
        clear X2 B2 b2 hs2 HK HA c0 c1 c2 c3 c4 c5
        go_wp2_with fail
        go_roundw
        case rel =>
          refine ⟨j + 1, put6 C (j * 6) (.int .i64 (id x).kind) (.string (id x).text) (.int .i64 (id x).n) (.int .i64 (id x).m) (.int .i64 (id x).pl) _, by go_num, by omega, hid2 ((put6_length ..).trans HC.out), hid2 (HX2.out.put6 (j * 6) hlen _ _ _ _ _ _), hid2 ?_, hid2 ?_⟩
          · rw [HT.out]
            have := Filled.step (w' := set6 w2 w.heap.size (j * 6) (.int .i64 (id x).kind) (.string (id x).text) (.int .i64 (id x).n) (.int .i64 (id x).m) (.int .i64 (id x).pl) (.slice au2 (id x).parts.length cu2)) (d := id x) (by rw [HL.out]; exact hlen) (fun _ _ h => set6_sits (Nat.lt_succ_self _) (HF2.out _ _ h)) HF.out (set6_sits (Nat.lt_succ_self _) S2.out)
            rw [HL.out] at this
            exact this
          · exact (((((HW.out.setCell (Nat.le_refl _) _).setCell (Nat.le_refl _) _).setCell (Nat.le_refl _) _).setCell (Nat.le_refl _) _).setCell (Nat.le_refl _) _).setCell (Nat.le_refl _) _
        case measure => simp; omega
      · have hlt' : ¬ (j : Int) < (N : Int) := by omega
        have HP : Hid (PAtL w.heap.size z wr (.slice (some ⟨w.heap.size, 0, none⟩) N N) (l.map id)) := by
          have hle2 : (l.map id).length = N := by rw [List.length_map]; exact hN.out.symm
          have hfull : (l.map id).take j = l.map id := List.take_of_length_le (by omega)
          have hF := HF.out
          rw [hfull] at hF
          refine ⟨_, N, by rw [hle2], by omega, by omega, .inr ⟨w.heap.size, 0, rfl, HBX.out.lt, Nat.le_refl _, fun i hi => ?_⟩⟩
          obtain ⟨u, h1, h2⟩ := hF i hi
          exact ⟨u, ⟨by simpa using HBX.out.cell (i * 6 + 0) _ ((h1 0 (by omega)).trans rfl), by simpa using HBX.out.cell (i * 6 + 1) _ ((h1 1 (by omega)).trans rfl), by simpa using HBX.out.cell (i * 6 + 2) _ ((h1 2 (by omega)).trans rfl), by simpa using HBX.out.cell (i * 6 + 3) _ ((h1 3 (by omega)).trans rfl), by simpa using HBX.out.cell (i * 6 + 4) _ ((h1 4 (by omega)).trans rfl), by simpa using HBX.out.cell (i * 6 + 5) _ ((h1 5 (by omega)).trans rfl)⟩, SitsL.keep (Nat.le_succ _) (Nat.le_refl _) (fun _ _ _ _ => rfl) _ _ h2⟩
        rw [List.map_id] at HP
        clear HF HBX HX HI HNS
        go_wp2_with fail
        go_ret
        exact ⟨_, rfl, HP.out, HB.out⟩
end Go.Proofs.YtdikeicnefgjcaaDoor
