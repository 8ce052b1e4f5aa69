/- LexMany: the walk. -/
import Derived.Test.YtbpceoalodhmjaaGreatDoorLyL
namespace Go.Proofs.YtbpceoalodhmjaaGreatDoor
open Go.RowKit Go.Lib

theorem cell_one_new (w : World) (a : Value) (t : TypeId) : ∀ j u, [a][j]? = some u → (w.alloc (.cells #[a] t)).cell? ((⟨w.heap.size, 0, none⟩ : Addr).add j) = some u := by
  intro j u hj
  match j, hj with
  | 0, hj => simp at hj; subst hj; simp [Addr.add]
  | j + 1, hj => simp at hj
theorem bys_one {w : World} {B : Nat} {v : Value} {l : List UInt8} (h : w.ownsRow B 5 1 v (l.length + 1) (strCells ⟨l.toArray⟩ ++ [.int .u8 59])) : Bys w B v (l ++ [59]) := by
  have e1 : (l ++ [(59 : UInt8)]).length = l.length + 1 := by simp
  have e2 : strCells ⟨(l ++ [(59 : UInt8)]).toArray⟩ = strCells ⟨l.toArray⟩ ++ [.int .u8 59] := by simp [strCells]
  show w.ownsRow _ _ _ _ (l ++ [(59 : UInt8)]).length _
  rw [e1, e2]
  exact h
set_option maxHeartbeats 4000000 in
theorem lexMany_walk (n : Int) (h0 : 0 ≤ n) (h1 : n ≤ 65535) (last : ByteArray) (w : World) (hT : TabsAt w) : Calls Tryz.prog 4 #[.int .u16 n, .string last] w fun e w' => e = .returned (.bool true) ∧ Below w.heap.size w w' := by
  obtain ⟨i0, hi, hz0, hz1, hz2⟩ := info_parts info_u8
  have HA := hid2 (fun w' (hb : Below w.heap.size w w') => awake_c w' (hT.next hb))
  have HT := hid2 (fun (T : ByteArray) w' (hb : Below w.heap.size w w') => cut_all T w' (hT.next hb))
  clear hT
  by_cases hl : 100 < last.size
  · have q1 : (100 : Int) < (last.size : Int) := by omega
    have q2 : decide ((100 : Int) < (last.size : Int)) = true := decide_eq_true q1
    go_enter Tryz.func4, Tryz.ntmps4
    go_wp2_with fail
    refine Calls.mono (HA.out _ (Below.refl _ _)) ?_
    rintro r w1 ⟨rfl, b1⟩
    go_wp2_with fail
    refine Calls.mono (HA.out _ b1) ?_
    rintro r w2 ⟨rfl, b2⟩
    have B2 := hid2 (below_on b1 b2 b1.size)
    clear b1 b2
    go_wp2_with fail
    go_ret
    exact ⟨rfl, B2.out⟩
  · have q1 : ¬ ((100 : Int) < (last.size : Int)) := by omega
    have q2 : decide ((100 : Int) < (last.size : Int)) = false := decide_eq_false q1
    go_enter Tryz.func4, Tryz.ntmps4
    go_wp2_with fail
    refine Calls.mono (HA.out _ (Below.refl _ _)) ?_
    rintro r w1 ⟨rfl, b1⟩
    go_wp2_with fail
    obtain ⟨K, hK, hK2⟩ : ∃ K : Nat, 16384 - n % 3 = (K : Int) ∧ K ≤ 16384 := ⟨(16384 - n % 3).toNat, by omega, by omega⟩
    rw [hK]
    have hB1 := b1.size
    have B1 := hid2 b1
    clear b1 hK
    go_loopw [6, 7] (fun s6 s7 wr => ∃ (j : Nat) (y : List UInt8), s7 = .int .i64 (j : Nat) ∧ j ≤ K ∧ y.length = j ∧ Hid (Bys wr w1.heap.size s6 y) ∧ Hid (Below w1.heap.size w1 wr)) (fun _ s7 _ => K - (RowKit.intOf s7).toNat)
    case atStart => exact ⟨0, [], rfl, by omega, rfl, ⟨rfl, .inl ⟨rfl, rfl⟩⟩, Below.refl _ _⟩
    case round =>
      obtain ⟨_, y, rfl, hj, rfl, HBy, HB⟩ := hrel
      have hBw := HB.out.size
      obtain ⟨ta, tc, hv6⟩ := own_val HBy.out
      subst hv6
      by_cases hjk : y.length < K
      · have hjk2 : (y.length : Int) < (K : Int) := by omega
        have hw : IntKind.i64.wrap ((y.length : Int) + 1) = ((y.length + 1 : Nat) : Int) := by rw [IntKind.wrap_i64]; omega
        go_wp2_with (at_builtin; refine wpList_append_own _ rfl _ _ 30 rfl w1.heap.size 5 i0 (.int .u8 0) 1 1 Tryz.underlying30 hi hz0 hz1 hz2 rfl (by decide) _ _ _ rfl (HBy.out.alloc _) ⟨_, 0, none⟩ 1 1 [.int .u8 59] rfl rfl ?c1 ?c2 ?c3 ?c4 ?c5 ?_)
        case c1 => exact cell_one_new _ _ _
        case c2 => intro u hu; simp at hu; rcases hu with rfl; rfl
        case c3 => unfold maxLen; omega
        case c4 => omega
        case c5 => simp; omega
        intro v' w2 own2 grow2 _
        have HBy2 := hid2 (bys_one own2)
        have HB2 := hid2 (below_own HB.out hBw _ (Nat.le_refl _) HBy.out grow2)
        have hy2 : (y ++ [(59 : UInt8)]).length = y.length + 1 := by simp
        clear own2 grow2
        generalize y ++ [(59 : UInt8)] = y2 at *
        go_wp2_with fail
        go_roundw
        case rel => exact ⟨y.length + 1, y2, rfl, by omega, hy2, HBy2, HB2⟩
        case measure => simp [RowKit.intOf]; omega
      · have hjk2 : ¬ ((y.length : Int) < (K : Int)) := by omega
        go_wp2_with (at_builtin; refine wpList_append_own_string _ rfl _ _ 30 9 rfl w1.heap.size 5 i0 Tryz.underlying30 Tryz.underlying9 hi hz0 hz1 hz2 _ _ _ rfl HBy.out last rfl ?c1 ?c2 ?c3 ?_)
        case c1 => unfold maxLen; omega
        case c2 => omega
        try (case c3 => omega)
        intro v5 w5 own5 grow5 _
        have own5' := bys_add own5
        have b5 := HB.out.grown grow5 (by omega) (fun k hk => (HBy.out.lt k hk).1)
        generalize y ++ last.data.toList = y5 at *
        obtain ⟨a5, c5, rfl⟩ := own_val own5'
        have HBy5 := hid2 own5'
        have HB5 := hid2 (below_on B1.out b5 B1.out.size)
        have hcv := bys_str own5'
        clear own5 own5' grow5 b5
        obtain ⟨T, hTT⟩ : ∃ T : ByteArray, T = ⟨y5.toArray⟩ := ⟨_, rfl⟩
        rw [← hTT] at hcv
        have HCT := hid2 (HT.out T w5 HB5.out)
        have HR := hid2 (fun w' => rCut_c T w')
        have HS := hid2 (fun (w1 w2 w : World) v1 v2 h1 h2 => cut_same (s := T) (w1 := w1) (w2 := w2) (w := w) (v1 := v1) (v2 := v2) h1 h2)
        have HO := hid2 (fun B w w' v h k => cut_on (s := T) (B := B) (w := w) (w' := w') (v := v) h k)
        have HTT := hid2 hTT
        unfold CutP at HCT HR
        generalize cutS T = res at *
        clear hTT
        go_wp2_with fail
        refine Calls.mono HCT.out ?_
        rintro r w6 ⟨v6, rfl, h6, b6⟩
        have H6 := hid2 h6
        have hcv6 := bys_str (own_on HBy5.out b6)
        rw [← HTT.out] at hcv6
        have B6 := hid2 (below_on HB5.out b6 HB5.out.size)
        clear h6 b6 hcv
        go_wp2_with fail
        refine Calls.mono (HR.out _) ?_
        rintro r w7 ⟨v7, rfl, h7, b7⟩
        have H6' := hid2 (HO.out _ _ _ _ H6.out b7)
        have H7 := hid2 h7
        have B7 := hid2 (below_on B6.out b7 B6.out.size)
        clear h7 b7 H6
        go_wp2_with fail
        refine Calls.mono (HS.out _ _ _ _ _ H6'.out H7.out) ?_
        rintro r w8 ⟨rfl, b8⟩
        go_wp2_with fail
        go_ret
        exact ⟨rfl, below_on B7.out b8 B7.out.size⟩
end Go.Proofs.YtbpceoalodhmjaaGreatDoor
