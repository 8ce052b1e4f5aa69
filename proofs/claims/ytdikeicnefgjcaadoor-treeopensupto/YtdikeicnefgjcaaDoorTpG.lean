/- Package tree: formedNode, Open; each with copied: where the row lies, and where the terms. -/
import Derived.Test.YtdikeicnefgjcaaDoorTpE
import Derived.Test.YtdikeicnefgjcaaDoorTsB
import Derived.Test.YtdikeicnefgjcaaDoorTrU
import Derived.Test.YtdikeicnefgjcaaDoorTrW
namespace Go.Proofs.YtdikeicnefgjcaaDoor
open Go.RowKit

def goodB (t : Tm) : Bool := formedB t || actionB t
def FnP (z : Nat) (t : Tm) (w : World) (e : Ending) (w' : World) : Prop := ∃ n, e = .returned n ∧ Below w.heap.size w w' ∧ (goodB t = true → IsNode z w' t n) ∧ (goodB t = false → n = .nilIface)
set_option maxRecDepth 20000 in
theorem formedNode_c {z : Nat} (hz : z ≤ 562949953421312) (t : Tm) (v : Value) (w : World) (hs : Sits z w t v) (hT : TabsAt w) : Calls Tryd.prog 54 #[tmV t v] w (FnP z t w) := by
  have HN := hid2 (fun (o : Obj) => nodeOf_c t v (w.alloc o) (hs.next ((Below.refl _ _).alloc (Nat.le_refl _) _)))
  have HE := hid2 (fun n wx (hb : Below w.heap.size w wx) (hn : IsNode z wx t n) => expr_c hz t n wx hn hs.fit.s (hT.next hb))
  have HA := hid2 (fun n wx (hb : Below w.heap.size w wx) (hn : IsNode z wx t n) => action_c hz t n wx hn (hT.next hb) (fun x _ => action_all hz x))
  obtain ⟨ad, cap, rfl, -, -⟩ := hs.parts.shape
  obtain ⟨q1, h1⟩ : ∃ q : Bool, Hid (q = formedB t) := ⟨_, rfl⟩
  obtain ⟨q2, h2⟩ : ∃ q : Bool, Hid (q = actionB t) := ⟨_, rfl⟩
  rw [← h1.out] at HE
  rw [← h2.out] at HA
  have HG : Hid (goodB t = (q1 || q2)) := by rw [h1.out, h2.out]; rfl
  clear hs hT h1 h2
  go_enter Tryd.func54, Tryd.ntmps54
  go_wp2_with fail
  refine Calls.mono (HN.out _) ?_
  rintro e w1 ⟨n, rfl, hn, b1⟩
  have B1 := hid2 (below_on ((Below.refl _ _).alloc (Nat.le_refl _) _) b1 (by simp) : Below w.heap.size w w1)
  have HE1 := hid2 (HE.out n w1 B1.out hn)
  have N1 := hid2 hn
  clear b1 hn HN HE
  go_wp2_with fail
  refine Calls.mono HE1.out ?_
  rintro e w2 ⟨rfl, b2⟩
  have B2 := hid2 (below_on B1.out b2 B1.out.size)
  have N2 := hid2 (N1.out.next b2)
  have HA2 := hid2 (HA.out n w2 B2.out N2.out)
  clear b2 HE1 HA B1 N1
  cases q1
  · go_wp2_with fail
    refine Calls.mono HA2.out ?_
    rintro e w3 ⟨rfl, b3⟩
    have B3 := hid2 (below_on B2.out b3 B2.out.size)
    have N3 := hid2 (N2.out.next b3)
    clear b3 HA2
    cases q2
    · have HP : Hid (FnP z t w (.returned .nilIface) w3) := ⟨_, rfl, B3.out, (fun h => by rw [HG.out] at h; cases h), fun _ => rfl⟩
      go_wp2_with fail
      go_ret
      exact HP.out
    · go_wp2_with fail
      go_ret
      exact ⟨_, rfl, B3.out, fun _ => N3.out, fun h => by rw [HG.out] at h; cases h⟩
  · go_wp2_with fail
    go_ret
    exact ⟨_, rfl, B2.out, fun _ => N2.out, fun h => by rw [HG.out] at h; cases h⟩
theorem parts_all {t : Tm} (h : nodes t ≤ 16384) : t.parts.length ≤ 16384 ∧ ∀ x, x ∈ t.parts → nodes x ≤ 16384 := by
  have h1 := length_nodesL t.parts
  have h2 := nodes_eq t
  exact ⟨by omega, fun x hx => by have := nodes_part hx; omega⟩
def OpenP (z : Nat) (ps : List Tm) (w : World) (e : Ending) (w' : World) : Prop := ∃ v', e = .returned (.tuple #[v', .int .i64 0]) ∧ PAtL w.heap.size z w' v' ps ∧ Below w.heap.size w w'
set_option maxRecDepth 20000 in
theorem open_yes {z : Nat} (hz : z ≤ 281474976710656) (t : Tm) (v : Value) (w : World) (hs : Sits z w t v) (hT : TabsAt w) (hn : nodes t ≤ 16384) (hg : goodB t = true) : Calls Tryd.prog 27 #[tmV t v, .int .i64 t.kind] w (OpenP z t.parts w) := by
  have HN := hid2 (fun (o : Obj) => formedNode_c (by omega) t v (w.alloc o) (hs.next ((Below.refl _ _).alloc (Nat.le_refl _) _)) (hT.next ((Below.refl _ _).alloc (Nat.le_refl _) _)))
  obtain ⟨hl, hns⟩ := parts_all hn
  have HL := hid2 hl
  have HNS := hid2 hns
  have HZ := hid2 hz
  have HG := hid2 hg
  obtain ⟨ad, cap, rfl, -, -⟩ := hs.parts.shape
  clear hs hT hg hn hl hns
  go_enter Tryd.func27, Tryd.ntmps27
  go_wp2_with fail
  refine Calls.mono (HN.out _) ?_
  rintro e w1 ⟨n, rfl, b1, hn, -⟩
  have B1 := hid2 (below_on ((Below.refl _ _).alloc (Nat.le_refl _) _) b1 (by simp) : Below w.heap.size w w1)
  have HP := hid2 (partsAs_c t n w1 (hn HG.out) (by have := HG.out; unfold goodB at this; simpa using this) HL.out)
  clear b1 hn HN
  go_wp2_with fail
  refine Calls.mono HP.out ?_
  rintro e w2 ⟨v2, rfl, hp2, b2⟩
  have B2 := hid2 (below_on B1.out b2 B1.out.size)
  have HE := hid2 (eachCopy t.parts v2 w2 hp2 HL.out HNS.out (fun x _ => copy_all HZ.out x))
  clear b2 HP B1 hp2
  go_wp2_with fail
  refine Calls.mono HE.out ?_
  rintro e w3 ⟨v3, rfl, hp3, b3⟩
  have B3 := hid2 (below_on B2.out b3 B2.out.size)
  have P3 : Hid (PAtL w.heap.size z w3 v3 t.parts) := hp3.keep B2.out.size (Nat.le_refl _) (fun _ _ _ _ => rfl)
  clear b3 HE hp3
  go_wp2_with fail
  go_ret2
  exact ⟨_, rfl, P3.out, B3.out⟩
set_option maxRecDepth 20000 in
theorem open_no {z : Nat} (hz : z ≤ 562949953421312) (t : Tm) (v : Value) (k : Int) (w : World) (hs : Sits z w t v) (hT : TabsAt w) (hg : goodB t = false ∨ t.kind ≠ k) : Calls Tryd.prog 27 #[tmV t v, .int .i64 k] w fun e w' => e = .returned (.tuple #[.slice none 0 0, .int .i64 1]) ∧ Below w.heap.size w w' := by
  have HN := hid2 (fun (o : Obj) => formedNode_c hz t v (w.alloc o) (hs.next ((Below.refl _ _).alloc (Nat.le_refl _) _)) (hT.next ((Below.refl _ _).alloc (Nat.le_refl _) _)))
  obtain ⟨ad, cap, rfl, -, -⟩ := hs.parts.shape
  have HB : Hid (∀ o, Below w.heap.size w (w.alloc o)) := fun o => (Below.refl _ _).alloc (Nat.le_refl _) _
  clear hs hT
  by_cases hk : t.kind = k
  · subst hk
    have HG : Hid (goodB t = false) := by
      rcases hg with h | h
      · exact h
      · exact absurd rfl h
    clear hg
    go_enter Tryd.func27, Tryd.ntmps27
    go_wp2_with fail
    refine Calls.mono (HN.out _) ?_
    rintro e w1 ⟨n, rfl, b1, -, hn⟩
    have B1 := hid2 (below_on (HB.out _) b1 (by simp) : Below w.heap.size w w1)
    obtain rfl := hn HG.out
    have HP := hid2 (partsAs_nil t.kind w1)
    clear b1 hn HN HB
    go_wp2_with fail
    refine Calls.mono HP.out ?_
    rintro e w2 ⟨rfl, b2⟩
    have B2 := hid2 (below_on B1.out b2 B1.out.size)
    clear b2 HP B1
    go_wp2_with fail
    go_ret2
    exact ⟨rfl, B2.out⟩
  · have d : (t.kind != k) = true := by simpa using hk
    clear hg hk HN
    go_enter Tryd.func27, Tryd.ntmps27
    go_wp2_with fail
    go_ret2
    exact ⟨rfl, HB.out _⟩
theorem own_set {w : World} {B size : Nat} {e : TypeId} {g n cap : Nat} {xs : List Value} (h : w.ownsRow B e size (.slice (some ⟨g, 0, none⟩) n cap) n xs) (k : Nat) (u : Value) :
    (w.setCell ⟨g, k, none⟩ u).ownsRow B e size (.slice (some ⟨g, 0, none⟩) n cap) n (xs.set k u) := by
  obtain ⟨h1, ⟨h2, _⟩ | ⟨g', cap', cur, h2, h3, h4, h5, h6, h7, h8⟩⟩ := h
  · cases h2
  · cases h2
    refine ⟨by simpa using h1, .inr ⟨g, cap, cur.setIfInBounds k u, rfl, h3, ?_, h5, h6, by simpa using h7, ?_⟩⟩
    · obtain ⟨hlt, hk⟩ := Array.getElem?_eq_some_iff.1 h4
      show (w.heap.modify g _)[g]? = _
      rw [Array.getElem?_eq_getElem (by rw [Array.size_modify]; exact hlt), Array.getElem_modify_self, hk]
      rfl
    · rw [Array.toList_setIfInBounds, List.take_set, h8]
theorem row_put6 {w : World} {B : Nat} {g n cap : Nat} {C : List Value} (h : w.ownsRow B 24 6 (.slice (some ⟨g, 0, none⟩) n cap) n C) (o : Nat) (v0 v1 v2 v3 v4 v5 : Value) :
    ((((((w.setCell ⟨g, o, none⟩ v0).setCell ⟨g, o + 1, none⟩ v1).setCell ⟨g, o + 2, none⟩ v2).setCell ⟨g, o + 3, none⟩ v3).setCell ⟨g, o + 4, none⟩ v4).setCell ⟨g, o + 5, none⟩ v5).ownsRow B 24 6 (.slice (some ⟨g, 0, none⟩) n cap) n (put6 C o v0 v1 v2 v3 v4 v5) := by
  unfold put6
  exact own_set (own_set (own_set (own_set (own_set (own_set h o v0) (o + 1) v1) (o + 2) v2) (o + 3) v3) (o + 4) v4) (o + 5) v5
theorem row_box {w : World} {B n cap g : Nat} {xs : List Value} (h : w.ownsRow B 24 6 (.slice (some ⟨g, 0, none⟩) n cap) n xs) : Box w g xs := by
  rcases h.2 with ⟨h2, _⟩ | ⟨g', cap', cur, h2, h3, h4, h5, h6, h7, h8⟩
  · cases h2
  · cases h2
    exact (Box.ofBlock h4).part (by rw [← h8]; exact List.take_prefix _ _)
/-- Terms in a row of their own; what they hold lies behind the row. -/
def LAt (z B : Nat) (w : World) (v : Value) (ps : List Tm) : Prop := ∃ C, w.ownsRow B 24 6 v ps.length C ∧ ∀ i (h : i < ps.length), ∃ u, (∀ q, q < 6 → C[i * 6 + q]? = (tmL ps[i] u)[q]?) ∧ ∀ g, v.ownBlock = some g → SitsL (g + 1) z w ps[i] u
def NewQ (z : Nat) (ps : List Tm) (w : World) (e : Ending) (w' : World) : Prop := ∃ a n c, e = .returned (.slice a n c) ∧ LAt z w.heap.size w' (.slice a n c) ps ∧ Below w.heap.size w w'
theorem LAt.len {z B : Nat} {w : World} {a : Option Addr} {n c : Nat} {ps : List Tm} (h : LAt z B w (.slice a n c) ps) : n = ps.length := by
  obtain ⟨C, h, _⟩ := h
  rcases h.2 with ⟨e, hq⟩ | ⟨g, cap, cur, e, _⟩
  · cases e; omega
  · cases e; rfl
theorem LAt.next {z B : Nat} {w w' : World} {v : Value} {ps : List Tm} (h : LAt z B w v ps) (hb : Below w.heap.size w w') : LAt z B w' v ps := by
  obtain ⟨C, h, k⟩ := h
  exact ⟨C, row_keep h hb, fun i hi => by obtain ⟨u, h1, h2⟩ := k i hi; exact ⟨u, h1, fun g hg => (h2 g hg).next hb⟩⟩
theorem LAt.base {z B B' : Nat} {w : World} {v : Value} {ps : List Tm} (h : LAt z B w v ps) (hb : B' ≤ B) : LAt z B' w v ps := by
  obtain ⟨C, h, k⟩ := h
  refine ⟨C, ⟨h.1, ?_⟩, k⟩
  rcases h.2 with hq | ⟨g, cap, cur, rfl, hbg, rest⟩
  · exact .inl hq
  · exact .inr ⟨g, cap, cur, rfl, Nat.le_trans hb hbg, rest⟩
set_option maxRecDepth 20000 in
set_option maxHeartbeats 4000000 in
theorem eachCopyQ {z : Nat} (l : List Tm) (v : Value) (w : World) (hl : PAt z w v l) (hn : l.length ≤ 16384) (hns : ∀ x, x ∈ l → nodes x ≤ 16384) (ih : ∀ x, x ∈ l → CopyAt z x) :
    Calls Tryd.prog 55 #[v, .func (.func 56) #[] #[]] w (NewQ z l w) := by
  by_cases h0 : l = []
  · subst h0
    obtain ⟨ad, cap, rfl, -, -⟩ := hl.shape
    have hP : Hid (NewQ z [] w (.returned (.slice none 0 0)) w) := ⟨_, _, _, rfl, ⟨[], World.ownsRow_nil _ _ _ _, fun i h => by simp at h⟩, Below.refl _ _⟩
    clear hl hn hns ih
    go_enter Tryd.func55, Tryd.ntmps55
    go_wp2_with fail
    go_ret
    exact hP.out
  · obtain ⟨b, off, cap, rfl, hle, hc, hbl, hx⟩ := hl.open (List.length_pos_iff.2 h0)
    obtain ⟨i0, hi, hz0, hz1, hz2⟩ := info_parts info_term
    have HX := hid2 hx
    have HI := hid2 ih
    have HNS := hid2 hns
    obtain ⟨N, hN⟩ : ∃ N, Hid (N = l.length) := ⟨_, rfl⟩
    have hpos : 0 < N := by rw [hN.out]; exact List.length_pos_iff.2 h0
    rw [← hN.out] at hle hn ⊢
    have d0 : ((N : Int) == 0) = false := beq_eq_false_iff_ne.2 (by omega)
    clear hl hx ih hns h0
    go_enter Tryd.func55, Tryd.ntmps55
    go_wp2_with (at_make; refine wpList_make_full _ rfl _ _ 22 rfl w.heap.size 24 i0 (.agg #[.int .i64 0, .string ⟨#[]⟩, .int .i64 0, .int .i64 0, .int .i64 0, .slice none 0 0]) 6 Tryd.underlying22 hi hz0 hz1 _ _ _ _ N rfl rfl rfl rfl (by rw [hz2]; omega) (by unfold maxLen; omega) (Nat.le_refl _) ?_; intro w1 hown hgrow)
    have hb1 : Hid (Below w.heap.size w w1) := (Below.refl _ _).grown hgrow (Nat.le_refl _) (by simp)
    have hbx : Hid (w1.ownsRow w.heap.size 24 6 (.slice (some ⟨w.heap.size, 0, none⟩) N N) N (madeCells (Value.agg #[.int .i64 0, .string ⟨#[]⟩, .int .i64 0, .int .i64 0, .int .i64 0, .slice none 0 0]).cells (N * 6)).toList) := hown
    clear hown hgrow
    go_loopw [16] (fun i wr => ∃ (j : Nat) (C : List Value), i = .int .i64 (j : Nat) ∧ j ≤ N ∧ Hid (C.length = N * 6) ∧ Hid (wr.ownsRow w.heap.size 24 6 (.slice (some ⟨w.heap.size, 0, none⟩) N N) N C) ∧ Hid (Filled z w.heap.size ((l.map id).take j) C wr) ∧ Hid (Below w.heap.size w wr)) (fun i _ => match i with | .int _ p => ((N : Int) - p).toNat | _ => 0)
    case atStart => exact ⟨0, _, rfl, by omega, made_len N, hbx, hid2 (by simpa using Filled.nil z w.heap.size _ w1), hb1⟩
    case round =>
      obtain ⟨j, C, rfl, hj, HC, HBX, HF, HB⟩ := hrel
      by_cases hlt : j < N
      · have hlt' : (j : Int) < (N : Int) := by omega
        have h1 : j < l.length := by rw [← hN.out]; exact hlt
        obtain ⟨u, h6, hu⟩ := HX.out j h1
        obtain ⟨c0, c1, c2, c3, c4, c5⟩ := h6.keep (w' := wr) (fun q => HB.out.cell (p := ⟨b, q, none⟩) hbl)
        have lb : b < wr.heap.size := Nat.lt_of_lt_of_le hbl HB.out.size
        have A : ∀ o, Below w.heap.size w (wr.alloc o) := fun o => HB.out.alloc HB.out.size _
        have HK : Hid (∀ o, Calls Tryd.prog 56 #[tmV l[j] u] (wr.alloc o) (NewT z (id l[j]) (wr.alloc o))) := fun o => by
          have := HI.out _ (List.getElem_mem h1) u _ (hu.next (A o)) (HNS.out _ (List.getElem_mem h1))
          exact this
        have HT : Hid ((l.map id).take (j + 1) = (l.map id).take j ++ [id l[j]]) := by
          show _ = _
          rw [List.take_add_one]
          simp [h1]
        have HL : Hid (((l.map id).take j).length = j) := by show _ = _; simp; omega
        have HA := hid2 A
        obtain ⟨au, cu, rfl, -, -⟩ := hu.parts.shape
        clear h6 hu A
        generalize l[j] = x at *
        clear h1
        go_wp2_with fail
        refine Calls.mono (HK.out _) ?_
        rintro e w2 ⟨u2, rfl, hs2, b2⟩
        obtain ⟨au2, cu2, rfl⟩ := (sitsL_iff.1 hs2).2.shape
        have B2 := below_on ((Below.refl _ _).alloc (Nat.le_refl _) _) b2 (by simp)
        have Q2 := row_keep HBX.out B2
        have X2 := row_box Q2
        have hlen : j * 6 + 5 < C.length := by rw [HC.out]; omega
        have HW := hid2 (below_on HB.out B2 HB.out.size)
        have S2 : Hid (SitsL (w.heap.size + 1) z w2 (id x) _) := SitsL.keep (by simp; exact HB.out.size) (Nat.le_refl _) (fun _ _ _ _ => rfl) _ _ hs2
        have HF2 : Hid (∀ x v, SitsL (w.heap.size + 1) z wr x v → SitsL (w.heap.size + 1) z w2 x v) := fun x v h => h.next B2
        obtain ⟨r0, k0⟩ : ∃ r, w2.cell? ⟨w.heap.size, j * 6, none⟩ = some r := ⟨_, X2.cell (j * 6) _ (List.getElem?_eq_getElem (by omega))⟩
        obtain ⟨r1, k1⟩ : ∃ r, w2.cell? ⟨w.heap.size, j * 6 + 1, none⟩ = some r := ⟨_, X2.cell (j * 6 + 1) _ (List.getElem?_eq_getElem (by omega))⟩
        obtain ⟨r2, k2⟩ : ∃ r, w2.cell? ⟨w.heap.size, j * 6 + 2, none⟩ = some r := ⟨_, X2.cell (j * 6 + 2) _ (List.getElem?_eq_getElem (by omega))⟩
        obtain ⟨r3, k3⟩ : ∃ r, w2.cell? ⟨w.heap.size, j * 6 + 3, none⟩ = some r := ⟨_, X2.cell (j * 6 + 3) _ (List.getElem?_eq_getElem (by omega))⟩
        obtain ⟨r4, k4⟩ : ∃ r, w2.cell? ⟨w.heap.size, j * 6 + 4, none⟩ = some r := ⟨_, X2.cell (j * 6 + 4) _ (List.getElem?_eq_getElem (by omega))⟩
        obtain ⟨r5, k5⟩ : ∃ r, w2.cell? ⟨w.heap.size, j * 6 + 5, none⟩ = some r := ⟨_, X2.cell (j * 6 + 5) _ (List.getElem?_eq_getElem (by omega))⟩
        have f0 := X2.free (j * 6) (by omega)
        have f1 := X2.free (j * 6 + 1) (by omega)
        have f2 := X2.free (j * 6 + 2) (by omega)
        have f3 := X2.free (j * 6 + 3) (by omega)
        have f4 := X2.free (j * 6 + 4) (by omega)
        have f5 := X2.free (j * 6 + 5) (by omega)
        have HX2 := hid2 Q2
        clear X2 Q2 B2 b2 hs2 HK HA c0 c1 c2 c3 c4 c5
        go_wp2_with fail
        go_roundw
        case rel =>
          refine ⟨j + 1, put6 C (j * 6) (.int .i64 (id x).kind) (.string (id x).text) (.int .i64 (id x).n) (.int .i64 (id x).m) (.int .i64 (id x).pl) _, by go_num, by omega, hid2 ((put6_length ..).trans HC.out), hid2 (row_put6 HX2.out (j * 6) _ _ _ _ _ _), hid2 ?_, hid2 ?_⟩
          · rw [HT.out]
            have := Filled.step (w' := set6 w2 w.heap.size (j * 6) (.int .i64 (id x).kind) (.string (id x).text) (.int .i64 (id x).n) (.int .i64 (id x).m) (.int .i64 (id x).pl) (.slice au2 (id x).parts.length cu2)) (d := id x) (by rw [HL.out]; exact hlen) (fun _ _ h => set6_sits (Nat.lt_succ_self _) (HF2.out _ _ h)) HF.out (set6_sits (Nat.lt_succ_self _) S2.out)
            rw [HL.out] at this
            exact this
          · exact (((((HW.out.setCell (Nat.le_refl _) _).setCell (Nat.le_refl _) _).setCell (Nat.le_refl _) _).setCell (Nat.le_refl _) _).setCell (Nat.le_refl _) _).setCell (Nat.le_refl _) _
        case measure => simp; omega
      · have hlt' : ¬ (j : Int) < (N : Int) := by omega
        have HP : Hid (LAt z w.heap.size wr (.slice (some ⟨w.heap.size, 0, none⟩) N N) l) := by
          have hfull : (l.map id).take j = l := by rw [List.map_id]; exact List.take_of_length_le (by have := hN.out; omega)
          have hF := HF.out
          rw [hfull] at hF
          refine ⟨C, by rw [← hN.out]; exact HBX.out, fun i hi => ?_⟩
          obtain ⟨u, h1, h2⟩ := hF i hi
          exact ⟨u, h1, fun g hg => by cases hg; exact h2⟩
        clear HF HBX HX HI HNS
        go_wp2_with fail
        go_ret
        exact ⟨_, _, _, rfl, HP.out, HB.out⟩

def OpenQ (z : Nat) (ps : List Tm) (w : World) (e : Ending) (w' : World) : Prop := ∃ a n c, e = .returned (.tuple #[.slice a n c, .int .i64 0]) ∧ LAt z w.heap.size w' (.slice a n c) ps ∧ Below w.heap.size w w'
set_option maxRecDepth 20000 in
theorem open_q {z : Nat} (hz : z ≤ 281474976710656) (t : Tm) (v : Value) (w : World) (hs : Sits z w t v) (hT : TabsAt w) (hn : nodes t ≤ 16384) (hg : goodB t = true) : Calls Tryd.prog 27 #[tmV t v, .int .i64 t.kind] w (OpenQ z t.parts w) := by
  have HN := hid2 (fun (o : Obj) => formedNode_c (by omega) t v (w.alloc o) (hs.next ((Below.refl _ _).alloc (Nat.le_refl _) _)) (hT.next ((Below.refl _ _).alloc (Nat.le_refl _) _)))
  obtain ⟨hl, hns⟩ := parts_all hn
  have HL := hid2 hl
  have HNS := hid2 hns
  have HZ := hid2 hz
  have HG := hid2 hg
  obtain ⟨ad, cap, rfl, -, -⟩ := hs.parts.shape
  clear hs hT hg hn hl hns
  go_enter Tryd.func27, Tryd.ntmps27
  go_wp2_with fail
  refine Calls.mono (HN.out _) ?_
  rintro e w1 ⟨n, rfl, b1, hn, -⟩
  have B1 := hid2 (below_on ((Below.refl _ _).alloc (Nat.le_refl _) _) b1 (by simp) : Below w.heap.size w w1)
  have HP := hid2 (partsAs_c t n w1 (hn HG.out) (by have := HG.out; unfold goodB at this; simpa using this) HL.out)
  clear b1 hn HN
  go_wp2_with fail
  refine Calls.mono HP.out ?_
  rintro e w2 ⟨v2, rfl, hp2, b2⟩
  have B2 := hid2 (below_on B1.out b2 B1.out.size)
  have HE := hid2 (eachCopyQ t.parts v2 w2 hp2 HL.out HNS.out (fun x _ => copy_all HZ.out x))
  clear b2 HP B1 hp2
  go_wp2_with fail
  refine Calls.mono HE.out ?_
  rintro e w3 ⟨a3, n3, c3, rfl, hp3, b3⟩
  have B3 := hid2 (below_on B2.out b3 B2.out.size)
  have P3 := hid2 (hp3.base B2.out.size)
  clear b3 HE hp3
  go_wp2_with fail
  go_ret2
  exact ⟨_, _, _, rfl, P3.out, B3.out⟩
theorem sameB_self (t : Tm) : sameB t t = true := by
  induction t using Tm.ind with
  | h t ih =>
    rw [sameB_eq]
    have h1 : hdEq t t = true := by unfold hdEq; simp
    have h2 : sameL t.parts t.parts = true := by
      unfold sameL
      simp only [decide_true, Bool.true_and, List.all_eq_true, List.mem_range]
      intro i hi
      rw [samePt_at hi hi]
      exact ih _ (List.getElem_mem hi)
    rw [h1, h2]; rfl
/-- What Open answers, whatever is asked. -/
def OpenR (z : Nat) (t : Tm) (A : Int) (w : World) (e : Ending) (w' : World) : Prop := ∃ a n c er, e = .returned (.tuple #[.slice a n c, .int .i64 er]) ∧ Hid (Below w.heap.size w w') ∧
  Hid (goodB t = true → t.kind = A → er = 0 ∧ n = t.parts.length ∧ LAt z w.heap.size w' (.slice a n c) t.parts) ∧ Hid (¬ (goodB t = true ∧ t.kind = A) → er = 1 ∧ n = 0)
theorem open_r {z : Nat} (hz : z ≤ 281474976710656) (t : Tm) (v : Value) (A : Int) (w : World) (hs : Sits z w t v) (hT : TabsAt w) (hn : nodes t ≤ 16384) : Calls Tryd.prog 27 #[tmV t v, .int .i64 A] w (OpenR z t A w) := by
  by_cases h : goodB t = true ∧ t.kind = A
  · obtain ⟨h1, rfl⟩ := h
    refine (open_q hz t v w hs hT hn h1).mono ?_
    rintro e w1 ⟨a, n, c, rfl, hl, hb⟩
    exact ⟨a, n, c, 0, rfl, hb, (fun _ _ => ⟨rfl, hl.len, hl⟩), fun hh => absurd ⟨h1, rfl⟩ hh⟩
  · refine (open_no (by omega) t v A w hs hT (by
      by_cases h1 : goodB t = true
      · exact .inr (fun e => h ⟨h1, e⟩)
      · exact .inl (by simpa using h1))).mono ?_
    rintro e w1 ⟨rfl, hb⟩
    exact ⟨none, 0, 0, 1, rfl, hb, (fun h1 h2 => absurd ⟨h1, h2⟩ h), fun _ => ⟨rfl, rfl⟩⟩
end Go.Proofs.YtdikeicnefgjcaaDoor
