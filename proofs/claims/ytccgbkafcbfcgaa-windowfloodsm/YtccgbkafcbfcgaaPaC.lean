/- The document's window: values, Total, and two lists of samples held against each other. -/
import Derived.Test.YtccgbkafcbfcgaaPaB
import Derived.Test.YtccgbkafcbfcgaaMgD
import Derived.Deep.CutRange
namespace Go.Proofs.Ytccgbkafcbfcgaa
open Go.RowKit

theorem Ls.rd8 {w : World} {ok : Nat → Prop} {lv : Value} {L : List Int} (h : Ls w ok lv L) : Rd w lv L := by
  rcases h with ⟨rfl, rfl⟩ | ⟨gl, _, h⟩
  · exact ⟨none, 0, rfl, .inl rfl⟩
  · exact h.rd
theorem vals_step {A : List Pr} {k : Nat} {x : Pr} (hx : A[k]? = some x) : vals (A.take (k + 1)) = vals (A.take k) ++ [x.2] := by
  rw [List.take_add_one, hx]; simp [vals]
set_option maxRecDepth 20000 in
set_option maxHeartbeats 1000000 in
theorem fValues (v : Value) (A : List Pr) (w : World) (hv : RdP w v A) (hl : A.length < 8796093022208) :
    Calls Try.prog 51 #[v] w fun e w' => ∃ lv, e = .returned lv ∧ Ls w' (fun g => w.heap.size ≤ g) lv (vals A) ∧ Below w.heap.size w w' := by
  obtain ⟨a, c, rfl, hv⟩ := hv
  obtain ⟨n, hn⟩ : ∃ n, n = A.length := ⟨_, rfl⟩
  rw [← hn] at hl ⊢
  have HV := hid hv
  have HN := hid hn
  clear hv hn
  go_enter Try.func51, Try.ntmps51
  go_wp2_with fail
  go_loopw [3, 4] (fun lv i wr => ∃ k : Nat, i = .int .i64 k ∧ k ≤ n ∧ Ls wr (fun g => w.heap.size ≤ g) lv (vals (A.take k)) ∧ Below w.heap.size w wr) (fun _ i _ => n - (intOf i).toNat)
  case atStart => exact ⟨0, rfl, by omega, .inl ⟨rfl, by simp [vals]⟩, Below.refl _ _⟩
  case round =>
    obtain ⟨k, rfl, k1, k3, k4⟩ := hrel
    obtain ⟨R, hR⟩ : ∃ R, R = vals (A.take k) := ⟨_, rfl⟩
    rw [← hR] at k3
    have HK := hid k3
    have HB := hid k4
    have hRl : R.length ≤ n := by rw [hR]; simp [vals]; omega
    have HR := hid hR
    obtain ⟨ao, co, hlv⟩ := k3.shape
    subst hlv
    clear k3 k4 hR
    by_cases hkn : k = n
    · subst hkn
      go_wp2_with fail
      go_ret
      refine ⟨_, rfl, ?_, HB.out⟩
      have e : vals A = R := by rw [HR.out, List.take_of_length_le (by have := HN.out; omega)]
      rw [e]
      exact HK.out
    · have hkl : k < n := by omega
      have hkl' : (k : Int) < (n : Int) := by omega
      obtain ⟨x, hx⟩ : ∃ x, A[k]? = some x := ⟨_, List.getElem?_eq_getElem (by have := HN.out; omega)⟩
      rcases HV.out with h0 | ⟨gl, off, rfl, hgl, hcell⟩
      · rw [h0] at hx; simp at hx
      obtain ⟨o0, o1⟩ := hcell k x hx
      have q1 := (HB.out.cell (p := ⟨gl, off + k * 2 + 1, none⟩) hgl).trans o1
      have hglr := Nat.lt_of_lt_of_le hgl HB.out.size
      have HX := hid hx
      clear hcell o0 o1 hkn hx
      go_wp2_with (at_builtin; refine wpList_append_ls wr _ rfl _ _ rfl (fun g => w.heap.size ≤ g) (.slice ao R.length co) R x.2 rfl rfl HK.out (by omega) rfl ?_; intro b2 c2 w2 hgr; obtain ⟨hls2, hbw2⟩ := hgr.base8 HB.out.size; have HL2 := hid hls2; have HB2 := hid hbw2; clear hgr hls2 hbw2)
      go_roundw
      case rel => exact ⟨k + 1, by simp, by omega, by rw [vals_step HX.out, ← HR.out]; simpa using HL2.out, HB.out.trans HB2.out⟩
      case measure => simp [intOf]; omega
set_option maxRecDepth 20000 in
set_option maxHeartbeats 1000000 in
theorem same_sams (va vb : Value) (A : List Pr) (w : World) (ha : RdP w va A) (hb : RdP w vb A) (hl : A.length < 4611686018427387904) :
    Calls Try.prog 23 #[va, vb] w fun e w' => e = .returned (.bool true) ∧ Below w.heap.size w w' := by
  obtain ⟨aa, ca, rfl, ha⟩ := ha
  obtain ⟨ab, cb, rfl, hb⟩ := hb
  have HA := hid ha
  have HB := hid hb
  clear ha hb
  obtain ⟨n, hn⟩ : ∃ n, n = A.length := ⟨_, rfl⟩
  rw [← hn] at hl ⊢
  have HN := hid hn
  clear hn
  go_enter Try.func23, Try.ntmps23
  go_wp2_with fail
  go_loopw [5] (fun p wr => ∃ k : Nat, p = .int .i64 k ∧ k ≤ n ∧ ∃ m, wr = w.drewN m) (fun p _ => n - (intOf p).toNat)
  case atStart => exact ⟨0, rfl, by omega, 0, rfl⟩
  case round =>
    obtain ⟨k, rfl, hk, m, rfl⟩ := hrel
    by_cases hlt : k < n
    · have hkA : k < A.length := by have := HN.out; omega
      obtain ⟨x, hx⟩ : ∃ x, A[k]? = some x := ⟨_, List.getElem?_eq_getElem hkA⟩
      rcases HA.out with e | ⟨g, off, rfl, lg, h1⟩
      · rw [e] at hkA; simp at hkA
      rcases HB.out with e | ⟨g', off', rfl, lg', h2⟩
      · rw [e] at hkA; simp at hkA
      obtain ⟨c1, d1⟩ := h1 k x hx
      obtain ⟨c2, d2⟩ := h2 k x hx
      have hlt' : (k : Int) < (n : Int) := by omega
      have xx1 : (x.1 != x.1) = false := by simp
      have xx2 : (x.2 != x.2) = false := by simp
      clear h1 h2 hx
      go_wp2_with fail
      go_quiet (fail)
      go_wp2_with fail
      go_roundw
      case rel => exact ⟨k + 1, by simp, by omega, _, rfl⟩
      case measure => simp [intOf]; omega
    · obtain rfl : k = n := by omega
      go_wp2_with fail
      go_ret
      exact ⟨rfl, drewN_below _ _⟩
theorem bigV_nil (w : World) : BigV w false (.slice none 0 0) [] 0 := ⟨isD_nil w, by simp [Dgs], by simp [Trim], by decide⟩
theorem BigV.set8 {w : World} {neg : Bool} {s : Value} {l : List Int} {n : Int} (h : BigV w neg s l n) {p : Addr} (u : Value) (hp : ∀ x, w.cell? p ≠ some (.int .i64 x)) : BigV (w.setCell p u) neg s l n := ⟨h.isD.setCell u hp, h.dg, h.tr, h.num⟩
set_option maxRecDepth 20000 in
set_option maxHeartbeats 1000000 in
theorem fTotal (v : Value) (V : List Int) (w : World) (hv : Rd w v V) (hin : ∀ x, x ∈ V → In64 x) (hl : V.length ≤ 4096) :
    Calls Try.prog 52 #[v] w (GivesBig w V.sum) := by
  obtain ⟨a, c, rfl, hv⟩ := hv
  obtain ⟨n, hn⟩ : ∃ n, n = V.length := ⟨_, rfl⟩
  rw [← hn] at hl ⊢
  have HV := hid hv
  have HN := hid hn
  have HI := hid hin
  clear hv hn hin
  obtain ⟨b1, b2, bB⟩ := two_boxes w 103 103 [.bool false, .slice none 0 0] [.bool false, .slice none 0 0]
  obtain ⟨W, hW⟩ : ∃ W, W = (w.alloc (.cells #[.bool false, .slice none 0 0] 103)).alloc (.cells #[.bool false, .slice none 0 0] 103) := ⟨_, rfl⟩
  rw [← hW] at b1 b2 bB
  have H1 := hid b1
  have H2 := hid b2
  have HBB := hid bB
  clear b1 b2 bB
  go_enter Try.func52, Try.ntmps52
  go_upto_region 2 with fail
  rw [← hW]
  clear hW
  go_wp2_with fail
  go_loopw [4] (fun i wr => ∃ (k : Nat) (neg : Bool) (sv : Value) (l : List Int), i = .int .i64 k ∧ k ≤ n ∧ Box wr w.heap.size [.bool false, .slice none 0 0] ∧ Box wr (w.heap.size + 1) [.bool neg, sv] ∧ BigV wr neg sv l (V.take k).sum ∧ Below w.heap.size w wr) (fun i _ => n - (intOf i).toNat)
  case atStart => exact ⟨0, false, .slice none 0 0, [], rfl, by omega, H1.out, H2.out, by simpa using bigV_nil W, HBB.out⟩
  case round =>
    obtain ⟨k, neg, sv, l, rfl, k1, x1, x2, x3, x4⟩ := hrel
    obtain ⟨aa, ca, hsv, -⟩ := x3.isD
    obtain ⟨p0, p1, p2, p3⟩ := x1.two
    obtain ⟨y0, y1, y2, y3⟩ := x2.two
    have l1 := x1.lt
    have l2 := x2.lt
    have HX1 := hid x1
    have HX2 := hid x2
    have HX3 := hid x3
    have HX4 := hid x4
    by_cases hkn : k = n
    · subst hkn
      have o := ((x1.set 0 (by simp) (.bool neg)).set 1 (by simp) sv).two
      have o0 := o.1
      have o1 := o.2.1
      have f1 : ∀ u, (wr.setCell ⟨w.heap.size, 0, none⟩ u).frozen? ⟨w.heap.size, 1, none⟩ = false := fun u => (World.frozen?_setCell _ _ _ _).trans p3
      subst hsv
      clear x1 x2 x3 x4 o
      go_wp2_with fail
      refine bodyPost_ret (v := .agg #[.bool neg, .slice aa l.length ca]) (by simp [results, Try.results52, go_sem, o0, o1]) rfl ⟨neg, _, l, rfl, ?_, ?_⟩
      · have h := HX3.out
        rw [List.take_of_length_le (by have := HN.out; omega)] at h
        have m1 : (wr.setCell ⟨w.heap.size, 0, none⟩ (.bool neg)).cell? ⟨w.heap.size, 1, none⟩ = some (.slice none 0 0) := ((HX1.out.set 0 (by simp) (.bool neg)).cell 1 _ rfl)
        exact (h.set8 _ (fun x e => by rw [p0] at e; cases e)).set8 _ (fun x e => by rw [m1] at e; cases e)
      · exact (HX4.out.setCell (Nat.le_refl _) _).setCell (Nat.le_refl _) _
    · have hkl : k < n := by omega
      have hkl' : (k : Int) < (n : Int) := by omega
      obtain ⟨x, hx⟩ : ∃ x, V[k]? = some x := ⟨_, List.getElem?_eq_getElem (by have := HN.out; omega)⟩
      rcases HV.out with h0 | ⟨gl, off, rfl, hgl, hcell⟩
      · rw [h0] at hx; simp at hx
      have q0 := (x4.cell (p := ⟨gl, off + k, none⟩) hgl).trans (hcell k x hx)
      have hglr := Nat.lt_of_lt_of_le hgl x4.size
      have hxin := HI.out x (List.mem_of_getElem? hx)
      have hsum : (V.take (k + 1)).sum = (V.take k).sum + x := by rw [List.take_add_one, hx]; simp
      have hbd := sum_bounds (V := V.take k) (fun y hy => HI.out y (List.mem_of_mem_take hy))
      have hll : (V.take k).length ≤ 4096 := by simp; omega
      have hlen : l.length ≤ 500 := by have := x3.len8 (by omega) (by omega); omega
      have HS := hid hsum
      generalize (V.take k).sum = T at *
      have HX := hid hx
      clear hcell hkn hx x1 x2 x3 x4 hbd hll hsum p0 p1 p2 p3
      subst hsv
      go_wp2_with fail
      go_region_with (first | (go_at_call 76; refine Calls.mono (Of_any x hxin.1 hxin.2 _) ?_; rintro e w1 ⟨n1, s1, l1', rfl, v1, hb1⟩; have k0 := (hb1.cell (p := ⟨w.heap.size + 1, 0, none⟩) l2).trans y0; have k1' := (hb1.cell (p := ⟨w.heap.size + 1, 1, none⟩) l2).trans y1; have k2 := (hb1.frozen (p := ⟨w.heap.size + 1, 0, none⟩) l2).trans y2; have k3 := (hb1.frozen (p := ⟨w.heap.size + 1, 1, none⟩) l2).trans y3; have k4 := Nat.lt_of_lt_of_le l2 hb1.size; have V1 := hid v1; have B1 := hid hb1; obtain ⟨a1, c1, hs1, -⟩ := v1.isD; subst hs1; clear v1 hb1) | (go_at_call 75; refine Calls.mono (Plus_any neg n1 _ _ l l1' T x _ (HX3.out.later (by exact ((drewN_below wr 1).trans B1.out))) V1.out hlen (by have := V1.out.len8 (by have := hxin.1; omega) (by have := hxin.2; omega); omega)) ?_; rintro e w2 ⟨n2, s2, l2', rfl, v2, hb2⟩; have j0 := (hb2.cell (p := ⟨w.heap.size + 1, 0, none⟩) k4).trans k0; have j1 := (hb2.cell (p := ⟨w.heap.size + 1, 1, none⟩) k4).trans k1'; have j2 := (hb2.frozen (p := ⟨w.heap.size + 1, 0, none⟩) k4).trans k2; have j3 : ∀ u, (w2.setCell ⟨w.heap.size + 1, 0, none⟩ u).frozen? ⟨w.heap.size + 1, 1, none⟩ = false := (fun u => (World.frozen?_setCell _ _ _ _).trans ((hb2.frozen (p := ⟨w.heap.size + 1, 1, none⟩) k4).trans k3)); have V2 := hid v2; have B2 := hid hb2; obtain ⟨a2, c2, hs2, -⟩ := v2.isD; subst hs2; clear v2 hb2))
      all_goals go_wp2_with fail
      all_goals (
        have bb : Below wr.heap.size wr w2 := ((drewN_below wr 1).trans B1.out).trans (B2.out.mono (Nat.le_trans (Nat.le_refl _) B1.out.size))
        have g1 := HX1.out.next bb
        have g2 := HX2.out.next bb
        have m1 : (w2.setCell ⟨w.heap.size + 1, 0, none⟩ (.bool n2)).cell? ⟨w.heap.size + 1, 1, none⟩ = some (.slice aa l.length ca) := (g2.set 0 (by simp) (.bool n2)).cell 1 _ rfl
        refine ⟨⟨k + 1, n2, _, l2', by simp, by omega, (g1.other (by omega)).other (by omega), by simpa using (g2.set 0 (by simp) (.bool n2)).set 1 (by simp) (.slice a2 l2'.length c2), ?_, ((HX4.out.trans (bb.mono HX4.out.size)).setCell (by simp) _).setCell (by simp) _⟩, by simp [intOf]; omega⟩
        rw [HS.out]
        exact (V2.out.set8 _ (fun x e => by rw [j0] at e; cases e)).set8 _ (fun x e => by rw [m1] at e; cases e))
end Go.Proofs.Ytccgbkafcbfcgaa
