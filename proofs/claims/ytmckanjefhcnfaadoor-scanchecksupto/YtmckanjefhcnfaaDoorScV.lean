/- The document's answer: Where. -/
import Derived.Test.YtmckanjefhcnfaaDoorScX
import Derived.Test.YtmckanjefhcnfaaDoorScW
namespace Go.Proofs.YtmckanjefhcnfaaDoor
open Go.RowKit

def whI (x : Int) : List (Int × Int) → Int → Int → Int × Int × Int
  | [], _, _ => (0, 0, 3)
  | p :: t, l, c => if p.2 = x then (l, c, 0) else if p.1 = 10 then whI x t (l + 1) 1 else whI x t l (c + 1)
theorem whI_eq (x : Int) (n : Nat) : ∀ (L : List (Nat × Nat)) (l c : Int), whI x (toI L ++ [(-1, (n : Int))]) l c = whr x n 3 L l c
  | [], l, c => by
    simp only [toI, List.map_nil, List.nil_append, whI, whr]
    by_cases h : (n : Int) = x
    · rw [if_pos h, if_pos h.symm]
    · rw [if_neg h, if_neg (by decide), if_neg (fun e => h e.symm)]
  | p :: t, l, c => by
    simp only [toI, List.map_cons, List.cons_append, whI, whr]
    have e : ((p.1 : Int) = 10) ↔ p.1 = 10 := by omega
    simp only [e]
    have h1 := whI_eq x n t (l + 1) 1
    have h2 := whI_eq x n t l (c + 1)
    simp only [toI] at h1 h2
    rw [h1, h2]
theorem own_pair {w : World} {B : Nat} {g c n : Nat} {l : List (Int × Int)} (h : w.ownsRow B 33 2 (.slice (some ⟨g, 0, none⟩) n c) n (pcs l)) {i : Nat} {p : Int × Int} (hp : l[i]? = some p) : w.cell? ⟨g, i * 2, none⟩ = some (.int .i64 p.1) ∧ w.cell? ⟨g, i * 2 + 1, none⟩ = some (.int .i64 p.2) := by
  have hq := pcs_get l i p hp
  have hadd : ∀ j, (⟨g, 0, none⟩ : Addr).add j = ⟨g, j, none⟩ := fun j => by unfold Addr.add; split <;> simp_all
  have h0 := h.cells (g := g) rfl _ _ hq.1
  have h1 := h.cells (g := g) rfl _ _ hq.2
  rw [hadd] at h0 h1
  rw [Nat.mul_comm i 2]
  exact ⟨h0, h1⟩

set_option maxHeartbeats 1000000 in
theorem rWhere_c (s : ByteArray) (x : Int) (hz : s.size ≤ 1048576) (w : World) : Calls Tryd.prog 14 #[.string s, .int .i64 x] w fun e w' => e = .returned (tri (whrT s x)) ∧ Below w.heap.size w w' := by
  obtain ⟨i0, hi, hz0, hz1, hz2⟩ := info_parts info_pc
  obtain ⟨y, hy⟩ : ∃ y, Hid (y = whrT s x) := ⟨_, rfl⟩
  rw [← hy.out]
  have Pc := pieces_c s hz w
  have c33 : Tryd.prog.cellsOf 33 = 2 := by kernel_rfl
  go_enter Tryd.func14, Tryd.ntmps14
  go_wp2_with fail
  refine Pc.mono ?_
  rintro e w1 ⟨⟨v, rfl, hv⟩, b1⟩
  clear Pc
  by_cases h0 : (sd 10 11 s (rs s 0)).2 = 0
  · rw [if_pos h0] at hv
    have hp0 := sd_place _ h0
    have hl0 := rs_length0 s
    have HY : Hid (y = whI x (toI (rs s 0) ++ [(-1, (s.size : Int))]) 1 1) := by
      show _ = _
      rw [hy.out, whI_eq]
      exact if_pos h0
    simp only [hp0, h0]
    obtain ⟨L, hL⟩ : ∃ L, Hid (L = rs s 0) := ⟨_, rfl⟩
    rw [← hL.out] at hv hl0 HY
    clear hy h0 hp0 hL
    have hsz := b1.size
    go_wp2_with (at_builtin; refine wpList_append_own _ rfl _ _ 23 rfl w.heap.size 33 i0 (.agg #[.int .i64 0, .int .i64 0]) 2 16 Tryd.underlying23 hi hz0 hz1 hz2 rfl (by decide) _ _ _ rfl (hv.alloc _) ⟨_, 0, none⟩ 1 1 [.int .i64 (-1), .int .i64 (s.size : Int)] rfl rfl ?c1 ?c2 ?c3 ?c4 ?c5 ?_)
    case c1 => exact cell_two_new _ _ _ _
    case c2 => intro u hu; simp at hu; rcases hu with rfl | rfl <;> rfl
    case c3 => unfold maxLen; omega
    case c4 => omega
    case c5 => simp; omega
    intro v' w2 hown' hgrow _
    have b2 := below_own b1 hsz _ (Nat.le_refl _) hv hgrow
    obtain ⟨M, hM⟩ : ∃ M, M = toI L ++ [(-1, (s.size : Int))] := ⟨_, rfl⟩
    have hml : M.length = L.length + 1 := by rw [hM]; simp [toI]
    have hown : w2.ownsRow w.heap.size 33 2 v' M.length (pcs M) := by
      rw [hml, hM, pcs_snoc]
      exact hown'
    rw [← hM] at HY
    clear hown' hgrow hv hM b1
    obtain ⟨g, cg, rfl⟩ : ∃ g c, v' = .slice (some ⟨g, 0, none⟩) M.length c := by
      rcases hown.2 with ⟨_, h0⟩ | ⟨g, cap, cur, rfl, _⟩
      · omega
      · exact ⟨g, cap, rfl⟩
    go_wp2_with fail
    go_loop [10, 11, 12] (fun s10 s11 s12 => ∃ i l b : Nat, s10 = .int .i64 l ∧ s11 = .int .i64 b ∧ s12 = .int .i64 i ∧ i ≤ M.length ∧ l ≤ i + 1 ∧ b ≤ i ∧ Hid (whI x (M.drop i) l ((i : Int) - b + 1) = y)) (fun _ _ s12 => match s12 with | .int _ n => ((M.length : Int) - n).toNat | _ => 0)
    case atStart => exact ⟨0, 1, 0, rfl, rfl, rfl, by omega, by omega, by omega, by show _ = _; rw [HY.out, List.drop_zero]; rfl⟩
    case round =>
      obtain ⟨i, l, b, rfl, rfl, rfl, hil, hl, hb, HS⟩ := hrel
      by_cases hlt : i < M.length
      · obtain ⟨⟨r, p⟩, hp⟩ : ∃ p, M[i]? = some p := ⟨_, List.getElem?_eq_getElem hlt⟩
        obtain ⟨k0, k1⟩ := own_pair hown hp
        simp only [] at k0 k1
        have HS' := HS.out
        have hdr : M.drop i = (r, p) :: M.drop (i + 1) := by
          rw [List.drop_eq_getElem_cons hlt]
          rw [List.getElem?_eq_getElem hlt] at hp
          rw [Option.some.inj hp]
        rw [hdr] at HS'
        simp only [whI] at HS'
        have q1 : (i : Int) < (M.length : Int) := by omega
        by_cases hx : p = x
        · rw [if_pos hx] at HS'
          have HE : Hid (y = (↑l, (i : Int) - b + 1, 0)) := HS'.symm
          have hx1 : (p == x) = true := beq_iff_eq.2 hx
          clear HS HS' HY hdr hp hx
          go_wp2_with fail
          go_ret3
          exact ⟨by rw [HE.out]; rfl, b2⟩
        · rw [if_neg hx] at HS'
          have hx1 : (p == x) = false := beq_eq_false_iff_ne.2 hx
          by_cases h10 : r = 10
          · subst h10
            rw [if_pos rfl] at HS'
            have HE : Hid (whI x (M.drop (i + 1)) (l + 1) 1 = y) := HS'
            clear HS HS' HY hdr hp hx
            go_wp2_with fail
            go_round
            case rel => exact ⟨i + 1, l + 1, i + 1, rfl, rfl, rfl, by omega, by omega, by omega, by show _ = _; rw [← HE.out]; congr 1; omega⟩
            case measure => simp only []; omega
          · rw [if_neg h10] at HS'
            have HE : Hid (whI x (M.drop (i + 1)) l ((i : Int) - b + 1 + 1) = y) := HS'
            have h10' : (r == 10) = false := beq_eq_false_iff_ne.2 h10
            clear HS HS' HY hdr hp hx h10
            go_wp2_with fail
            go_round
            case rel => exact ⟨i + 1, l, b, rfl, rfl, rfl, by omega, by omega, by omega, by show _ = _; rw [← HE.out]; congr 1; omega⟩
            case measure => simp only []; omega
      · have HS' := HS.out
        rw [List.drop_eq_nil_of_le (by omega)] at HS'
        have HE : Hid (y = (0, 0, 3)) := HS'.symm
        have q1 : ¬ ((i : Int) < (M.length : Int)) := by omega
        clear HS HS' HY
        go_wp2_with fail
        go_ret3
        exact ⟨by rw [HE.out]; rfl, b2⟩
  · have HY : Hid (y = (0, 0, (sd 10 11 s (rs s 0)).2)) := by show _ = _; rw [hy.out]; exact if_neg h0
    have he1 : ((sd 10 11 s (rs s 0)).2 != 0) = true := by simp [h0]
    generalize (sd 10 11 s (rs s 0)).2 = e at *
    clear hy h0 hv
    go_wp2_with fail
    go_ret3
    exact ⟨by rw [HY.out]; rfl, b1⟩
end Go.Proofs.YtmckanjefhcnfaaDoor
