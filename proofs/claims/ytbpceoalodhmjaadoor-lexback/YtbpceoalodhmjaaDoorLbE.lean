/- LexBack: the walk. -/
import Derived.Test.YtbpceoalodhmjaaDoorLbD
namespace Go.Proofs.YtbpceoalodhmjaaDoor
open Go.RowKit Go.Lib

theorem text_le (t : Tk) : t.text.size ≤ (splt t).size := by
  unfold splt
  split
  · rw [ByteArray.size_append, ByteArray.size_append]; omega
  · split
    · rw [ByteArray.size_append, ByteArray.size_append]; omega
    · exact Nat.le_refl _
theorem key_snoc {l l' : List Tk} (h : l'.map key = l.map key) (a b : Nat) : (l ++ [(⟨7, ofL [], 0, a⟩ : Tk)]).map key = (l' ++ [(⟨7, ofL [], 0, b⟩ : Tk)]).map key := by
  rw [List.map_append, List.map_append, h]
  rfl
/-- What is written before the token number n. -/
theorem wr_upto {s : ByteArray} {l : List Tk} (hc : Ch s 0 l) (n : Nat) : (wrL (l.take n)).length ≤ s.size + 10 * l.length := by
  have h1 := wr_len l 0 (Nat.zero_le _) hc
  have h2 : wrL l = wrL (l.take n) ++ wrL (l.drop n) := by rw [← wr_app, List.take_append_drop]
  rw [h2, List.length_append] at h1
  omega
set_option maxHeartbeats 8000000 in
set_option maxRecDepth 10000 in
theorem lexBack_walk (s : ByteArray) (w : World) (hT : TabsAt w) : Calls Tryd.prog 4 #[.string s] w fun e w' => e = .returned (.bool true) ∧ Below w.heap.size w w' := by
  obtain ⟨i0, hi, hz0, hz1, hz2⟩ := info_parts info_u8
  have HA := hid2 (awake_c w hT)
  have HC := hid2 (fun w' (hb : Below w.heap.size w w') => cut_all s w' (hT.next hb))
  have HT := hid2 (fun (T : ByteArray) w' (hb : Below w.heap.size w w') => cut_all T w' (hT.next hb))
  clear hT
  by_cases he : (cutS s).2.2 = 0
  · obtain ⟨l, hL, hch, hag⟩ := back he
    unfold CutP at HC
    rw [he, hL] at HC
    simp only [if_true] at HC
    generalize (cutS s).2.1 = pl at *
    have HG := hid2 hag
    have HCH := hid2 hch
    clear he hL hag hch
    go_enter Tryd.func4, Tryd.ntmps4
    go_wp2_with fail
    refine Calls.mono HA.out ?_
    rintro r w1 ⟨rfl, b1⟩
    go_wp2_with fail
    refine Calls.mono (HC.out _ b1) ?_
    rintro r w2 ⟨v2, rfl, h2, b2⟩
    have B2 := hid2 (below_on b1 b2 b1.size)
    have HTk := hid2 h2
    have hmx := toks_lt h2
    clear HA HC b1 b2
    rcases toks_box h2 with ⟨_, h0⟩ | ⟨g, cap, rfl, _, hbx⟩
    · exfalso
      have := congrArg List.length h0
      simp at this
    have hlen : (l ++ [(⟨7, ofL [], 0, s.size⟩ : Tk)]).length = l.length + 1 := by simp
    obtain ⟨p0, p1, p2, p3⟩ := toks_at hbx (j := l.length) (t := ⟨7, ofL [], 0, s.size⟩) (by simp)
    have gl := hbx.lt
    replace p0 : w2.cell? ⟨g, l.length * 4, none⟩ = some (.int .i64 7) := p0
    replace p1 : w2.cell? ⟨g, l.length * 4 + 1, none⟩ = some (.string ⟨#[]⟩) := p1
    replace p2 : w2.cell? ⟨g, l.length * 4 + 2, none⟩ = some (.int .i64 0) := p2
    replace p3 : w2.cell? ⟨g, l.length * 4 + 3, none⟩ = some (.int .i64 (s.size : Nat)) := p3
    have HBx := hid2 hbx
    rw [hlen] at hmx
    have HLn : Hid (∀ n, n < l.length → ∃ t, (l ++ [(⟨7, ofL [], 0, s.size⟩ : Tk)])[n]? = some t ∧ l.drop n = t :: l.drop (n + 1) ∧ l.take (n + 1) = l.take n ++ [t]) := fun n h => ⟨l[n], by rw [List.getElem?_append_left h, List.getElem?_eq_getElem h], List.drop_eq_getElem_cons h, by rw [List.take_succ_eq_append_getElem h]⟩
    have HKS := hid2 (fun (l' : List Tk) (h : l'.map key = l.map key) b => key_snoc h s.size b)
    clear h2 hbx
    rw [hlen]
    obtain ⟨L, HLL⟩ : ∃ L, Hid (L = l ++ [(⟨7, ofL [], 0, s.size⟩ : Tk)]) := ⟨_, rfl⟩
    rw [← HLL.out] at HTk HBx HLn HKS
    have hlL : L.length = l.length + 1 := by rw [HLL.out]; exact hlen
    rw [hlL] at HTk
    clear hlen HLL hlL
    obtain ⟨m, hm⟩ : ∃ m, l.length = m := ⟨_, rfl⟩
    have HM := hid2 hm
    rw [hm] at p0 p1 p2 p3 hmx HLn HTk ⊢
    clear hm
    obtain ⟨N, hN⟩ : ∃ N, N = m + 1 := ⟨_, rfl⟩
    have HN := hid2 hN
    rw [← hN] at hmx HTk ⊢
    have hs1 : IntKind.i64.wrap ((N : Int) - 1) = (m : Int) := by rw [IntKind.wrap_i64]; omega
    have hs2 : ((N : Int) == 0) = false := beq_eq_false_iff_ne.2 (by omega)
    have hs3 : (m : Int) < (N : Int) := by omega
    clear hmx hN
    by_cases hmany : 3000 < N
    · have q1 : (3000 : Int) < (N : Int) := by omega
      have q2 : decide ((3000 : Int) < (N : Int)) = true := decide_eq_true q1
      go_wp2_with fail
      go_ret
      exact ⟨rfl, B2.out⟩
    · have q1 : ¬ ((3000 : Int) < (N : Int)) := by omega
      have q2 : decide ((3000 : Int) < (N : Int)) = false := decide_eq_false q1
      by_cases hlong : 100000 < s.size
      · have q3 : (100000 : Int) < (s.size : Int) := by omega
        have q4 : decide ((100000 : Int) < (s.size : Int)) = true := decide_eq_true q3
        go_wp2_with fail
        go_ret
        exact ⟨rfl, B2.out⟩
      · have q3 : ¬ ((100000 : Int) < (s.size : Int)) := by omega
        have q4 : decide ((100000 : Int) < (s.size : Int)) = false := decide_eq_false q3
        go_wp2_with fail
        go_loopw [6, 7, 8] (fun s6 s7 s8 wr => ∃ n last : Nat, s8 = .int .i64 (n : Nat) ∧ s7 = .int .i64 (last : Nat) ∧ n ≤ m ∧ last ≤ s.size ∧ Hid (Ch s last (l.drop n)) ∧ Hid (Bys wr w2.heap.size s6 (wrL (l.take n))) ∧ Hid (Below w2.heap.size w2 wr)) (fun _ _ s8 _ => m - (RowKit.intOf s8).toNat)
        case atStart => exact ⟨0, 0, rfl, rfl, Nat.zero_le _, by omega, HCH, ⟨rfl, .inl ⟨rfl, rfl⟩⟩, Below.refl _ _⟩
        case round =>
          obtain ⟨n, last, rfl, rfl, hn, hlast, HCn, HBy, HB⟩ := hrel
          have hwl := wr_upto HCH.out n
          rw [HM.out] at hwl
          have hNm := HN.out
          have hBw := HB.out.size
          obtain ⟨ta, tc, hv6⟩ := own_val HBy.out
          subst hv6
          obtain ⟨y, hy⟩ : ∃ y, Hid (y = wrL (l.take n)) := ⟨_, rfl⟩
          rw [← hy.out] at HBy hwl ⊢
          by_cases hnm : n < m
          · obtain ⟨t, ht, hd, htk⟩ := HLn.out n hnm
            have hC := HCn.out
            rw [hd] at hC
            obtain ⟨e1, e2, e3, e4, e5⟩ := hC
            have hzx := text_le t
            have HSp := hid2 (fun wx => spelt_c t (by omega) wx)
            have BX := HBx.out.next HB.out
            obtain ⟨p0, p1, p2, p3⟩ := toks_at BX ht
            have gl := BX.lt
            have HPC := hid2 (fun wx (b : Below wr.heap.size wr wx) => And.intro (toks_at (BX.next b) ht).2.2.2 (BX.next b).lt)
            have hsl := fun wx => sl_lh s t.at_ (t.at_ + (splt t).size) (by omega) e3 wx
            rw [e4, show ((t.at_ + (splt t).size : Nat) : Int) = (t.at_ : Int) + ((splt t).size : Int) by omega] at hsl
            have hn2 : (n : Int) < (m : Int) := by omega
            have hn3 : (n : Int) < (N : Int) := by omega
            have y1 : ¬ ((t.at_ : Int) < (last : Int)) := by omega
            have y1d : decide ((t.at_ : Int) < (last : Int)) = false := decide_eq_false y1
            have y1n : decide (t.at_ < last) = false := decide_eq_false (by omega)
            have y2 : (((splt t).size : Int) == 0) = false := beq_eq_false_iff_ne.2 (by omega)
            have y3 : IntKind.i64.wrap ((s.size : Int) - (t.at_ : Int)) = (s.size : Int) - (t.at_ : Int) := by rw [IntKind.wrap_i64]; omega
            have y4 : ¬ ((s.size : Int) - (t.at_ : Int) < ((splt t).size : Int)) := by omega
            have y4d : decide ((s.size : Int) - (t.at_ : Int) < ((splt t).size : Int)) = false := decide_eq_false y4
            have y5 : IntKind.i64.wrap ((t.at_ : Int) + ((splt t).size : Int)) = (t.at_ : Int) + ((splt t).size : Int) := by rw [IntKind.wrap_i64]; omega
            have hw : IntKind.i64.wrap ((n : Int) + 1) = ((n + 1 : Nat) : Int) := by rw [IntKind.wrap_i64]; omega
            have HE5 := hid2 e5
            have HE3 := hid2 e3
            have hzz : (splt t).size ≤ 100000 := by omega
            have HWS : Hid (wrL (l.take (n + 1)) = y ++ (splt t).data.toList ++ sepL) := by show _ = _; rw [htk, wr_snoc, List.append_assoc, ← hy.out]
            clear e1 e2 e4 e5 e3 BX hd ht HCn htk hzx hNm
            generalize splt t = x at *
            generalize t.kind = tk at *
            generalize t.text = tx at *
            generalize t.n = tn at *
            generalize t.at_ = tp at *
            go_wp2_with fail
            refine Calls.mono (HSp.out _) ?_
            rintro r w3 ⟨rfl, b3⟩
            clear p0 p1 p2 p3 gl
            obtain ⟨p3, gl⟩ := HPC.out _ b3
            have HB3 := hid2 b3
            clear b3
            go_wp2_with fail
            go_quiet (fail)
            have b4 := below_on HB3.out (drewN_b2 w3 nq) HB3.out.size
            clear p3 gl
            generalize World.drewN _ nq = W4 at *
            obtain ⟨p3, gl⟩ := HPC.out _ b4
            have HBy4 := hid2 (own_on HBy.out b4)
            have HB4 := hid2 (below_on HB.out b4 HB.out.size)
            have hB4 := HB4.out.size
            clear b4
            go_wp2_with (at_builtin; refine wpList_append_own_string _ rfl _ _ 30 9 rfl w2.heap.size 5 i0 Tryd.underlying30 Tryd.underlying9 hi hz0 hz1 hz2 _ _ _ rfl HBy4.out x rfl ?c1 ?c2 ?c3 ?_)
            case c1 => unfold maxLen; omega
            case c2 => omega
            case c3 => omega
            intro v5 w5 own5 grow5 _
            have own5' := bys_add own5
            have b5 := HB4.out.grown grow5 (by omega) (fun k hk => (HBy4.out.lt k hk).1)
            have hy5 : (y ++ x.data.toList).length = y.length + x.size := by rw [List.length_append, ← Lib.size_eq]
            generalize y ++ x.data.toList = y5 at *
            obtain ⟨a5, c5, rfl⟩ := own_val own5'
            have HBy5 := hid2 own5'
            have HB5 := hid2 b5
            have hB5 := b5.size
            clear own5 own5' grow5 b5 p3 gl
            have hz10 : (ByteArray.mk #[32, 35, 32, 120, 32, 34, 32, 91, 10, 9]).size = 10 := rfl
            go_wp2_with (at_builtin; refine wpList_append_own_string _ rfl _ _ 30 9 rfl w2.heap.size 5 i0 Tryd.underlying30 Tryd.underlying9 hi hz0 hz1 hz2 _ _ _ rfl HBy5.out ⟨#[32, 35, 32, 120, 32, 34, 32, 91, 10, 9]⟩ rfl ?d1 ?d2 ?d3 ?_)
            case d1 => rw [hz10]; unfold maxLen; omega
            case d2 => rw [hz10]; omega
            case d3 => omega
            intro v6 w6 own6 grow6 _
            have own6' := bys_add (l := y5) (x := ⟨#[32, 35, 32, 120, 32, 34, 32, 91, 10, 9]⟩) (by rw [hy5, hz10]; exact own6)
            replace own6' : Bys w6 w2.heap.size v6 (y5 ++ sepL) := own6'
            have HBy6 := hid2 own6'
            have HB6 := hid2 (HB5.out.grown grow6 (by omega) (fun k hk => (HBy5.out.lt k (by rw [hy5]; exact hk)).1))
            clear own6 own6' grow6
            rw [← HWS.out] at HBy6
            go_wp2_with fail
            go_roundw
            case rel => exact ⟨n + 1, tp + x.size, rfl, rfl, by omega, HE3.out, HE5, HBy6, HB6⟩
            case measure => simp [RowKit.intOf]; omega
          · have hnm2 : ¬ ((n : Int) < (m : Int)) := by omega
            have hall : l.take n = l := List.take_of_length_le (by rw [HM.out]; omega)
            have hyl := hy.out
            rw [hall] at hyl
            have hcv := bys_str HBy.out
            obtain ⟨l', hc', hk'⟩ := HG.out (by rw [HM.out]; omega) (by omega) ⟨y.toArray⟩ hyl
            have hCT := HT.out ⟨y.toArray⟩ wr (below_on B2.out HB.out B2.out.size)
            unfold CutP at hCT
            rw [hc'] at hCT
            simp only [if_true] at hCT
            have HCT := hid2 hCT
            have HKK := hid2 (HKS.out l' hk' (ByteArray.mk y.toArray).size)
            clear hCT hall hyl hc' hk' hy hNm
            go_wp2_with fail
            refine Calls.mono HCT.out ?_
            rintro r w3 ⟨v3, rfl, h3, b3⟩
            have HB3 := hid2 (below_on (below_on B2.out HB.out B2.out.size) b3 (Nat.le_trans B2.out.size HB.out.size))
            have HTk3 := hid2 (own_on (own_on HTk.out HB.out) b3)
            have H3 := hid2 h3
            clear h3 b3
            go_wp2_with fail
            refine Calls.mono (alike_c _ _ _ _ _ _ _ HTk3.out H3.out HKK.out) ?_
            rintro r w4 ⟨rfl, b4⟩
            go_wp2_with fail
            go_ret
            exact ⟨rfl, below_on HB3.out b4 HB3.out.size⟩
  · have hin := cutS_in s
    unfold CutP at HC
    generalize (cutS s).2.1 = pl at *
    have he2 : ((cutS s).2.2 != 0) = true := by simpa using he
    simp only [if_neg he] at HC
    generalize (cutS s).2.2 = ee at *
    have q1 : (0 : Int) ≤ (pl : Int) := by omega
    have q2 : (pl : Int) ≤ (s.size : Int) := by omega
    go_enter Tryd.func4, Tryd.ntmps4
    go_wp2_with fail
    refine Calls.mono HA.out ?_
    rintro r w1 ⟨rfl, b1⟩
    go_wp2_with fail
    refine Calls.mono (HC.out _ b1) ?_
    rintro r w2 ⟨v2, rfl, rfl, b2⟩
    have B2 := hid2 (below_on b1 b2 b1.size)
    clear b1 b2
    go_wp2_with fail
    go_ret
    exact ⟨rfl, B2.out⟩
end Go.Proofs.YtbpceoalodhmjaaDoor
