/- ScanChecks: the walk. -/
import Derived.Test.YtmckanjefhcnfaaDoorScanV
import Derived.Test.YtmckanjefhcnfaaDoorScV
import Derived.Deep.QuietTactic
namespace Go.Proofs.YtmckanjefhcnfaaDoor
open Go.RowKit

theorem rs_most (s : ByteArray) : ∀ i, ∀ p ∈ rs s i, p.1 ≤ 2147483647 := by
  refine rs_ind (fun i h p hp => by rw [rs_end h] at hp; cases hp) (fun i h ih p hp => ?_)
  rw [rs_step h] at hp
  rcases List.mem_cons.1 hp with rfl | hp
  · exact decode_le s i
  · exact ih p hp
theorem below_drawn {B : Nat} {a w : World} (h : Below B a w) (n : Nat) : Below B a (w.drewN n) := h.trans ⟨rfl, rfl, rfl, Nat.le_refl _, fun _ _ => rfl⟩

set_option maxHeartbeats 1000000 in
set_option maxRecDepth 10000 in
theorem scanChecks_walk (s : ByteArray) (hz : s.size ≤ 1048576) (w : World) (hT : TabsAt w) : Calls Tryd.prog 3 #[.string s] w fun e w' => e = .returned (.bool true) ∧ Below w.heap.size w w' := by
  have A := awake_c w hT
  have P := fun w' => pieces_c s hz w'
  have C := fun w' hb => check_c s (by omega) w' (hT.next (w' := w') hb)
  have R := fun w' hb => runes_c s hz w' (hT.next (w' := w') hb)
  have c33 : Tryd.prog.cellsOf 33 = 2 := by kernel_rfl
  have hl0 := rs_length0 s
  have hmost := rs_most s 0
  by_cases h0 : (sd 10 11 s (rs s 0)).2 = 0
  · have hp0 := sd_place _ h0
    rw [chkV_ok h0] at C
    go_enter Tryd.func3, Tryd.ntmps3
    go_wp2_with fail
    refine A.mono ?_
    rintro e w1 ⟨rfl, b1⟩
    clear A hT
    go_wp2_with fail
    refine (P _).mono ?_
    rintro e w2 ⟨⟨v1, rfl, hv1⟩, b2'⟩
    have b2 := below_on b1 b2' b1.size
    rw [if_pos h0] at hv1
    clear P b2'
    go_wp2_with fail
    refine (C _ b2).mono ?_
    rintro e w3 ⟨rfl, b3'⟩
    have b3 := below_on b2 b3' b2.size
    replace hv1 := own_on hv1 b3'
    clear C b3' b2
    go_wp2_with fail
    refine (R _ b3).mono ?_
    rintro e w4 ⟨⟨v2, rfl, hv2⟩, b4'⟩
    have b4 := below_on b3 b4' b3.size
    replace hv1 := own_on hv1 b4'
    rw [if_pos h0] at hv2
    clear R b4' b3 b1
    simp only [hp0, h0]
    obtain ⟨L, hL⟩ : ∃ L, Hid (L = rs s 0) := ⟨_, rfl⟩
    rw [← hL.out] at hv1 hv2 hl0 hmost ⊢
    clear h0 hp0 hL
    obtain ⟨a1, k1, rfl⟩ := own_val hv1
    obtain ⟨a2, k2, rfl⟩ := own_val hv2
    have qn : ((L.length : Int) != (L.length : Int)) = false := by simp
    go_wp2_with fail
    go_loopw [12] (fun s12 wr => ∃ i n : Nat, s12 = .int .i64 i ∧ i ≤ L.length ∧ wr = w4.drewN n) (fun s12 _ => match s12 with | .int _ n => ((L.length : Int) - n).toNat | _ => 0)
    case atStart => exact ⟨0, 0, rfl, by omega, rfl⟩
    case round =>
      obtain ⟨i, n, rfl, hil, rfl⟩ := hrel
      by_cases hlt : i < L.length
      · have q1 : (i : Int) < (L.length : Int) := by omega
        obtain ⟨g1, j1, e1⟩ := own_some hv1 (by omega)
        cases e1
        obtain ⟨g2, j2, e2⟩ := own_some hv2 (by omega)
        cases e2
        obtain ⟨p, hp⟩ : ∃ p, L[i]? = some p := ⟨_, List.getElem?_eq_getElem hlt⟩
        have hm := hmost p (List.mem_of_getElem? hp)
        have hc2 := own_cell hv2 (j := i) (u := .int .i32 (p.1 : Nat)) (by simp [rns, hp])
        have hc1 := (own_pair hv1 (i := i) (p := ((p.1 : Int), (p.2 : Int))) (by simp [toI, hp])).1
        simp only [] at hc1
        have hw : IntKind.i64.wrap ((p.1 : Nat) : Int) = ((p.1 : Nat) : Int) := by rw [IntKind.wrap_i64]; omega
        have hne : (((p.1 : Nat) : Int) != ((p.1 : Nat) : Int)) = false := by simp
        have hd2 : (w4.drewN n).cell? ⟨g2, i, none⟩ = some (.int .i32 (p.1 : Nat)) := hc2
        have hd1 : (w4.drewN n).cell? ⟨g1, i * 2, none⟩ = some (.int .i64 (p.1 : Nat)) := hc1
        generalize p.1 = r at *
        clear hp hmost hv1 hv2
        go_upto_region 11 with fail
        go_quiet (fail)
        go_wp2_with fail
        go_roundw
        case rel => exact ⟨i + 1, n + nq, rfl, by omega, rfl⟩
        case measure => simp only []; omega
      · have q1 : ¬ ((i : Int) < (L.length : Int)) := by omega
        go_wp2_with fail
        go_ret
        exact ⟨rfl, below_drawn b4 n⟩
  · obtain ⟨p, e, he⟩ : ∃ p e, sd 10 11 s (rs s 0) = (p, e) := ⟨_, _, rfl⟩
    have he0 : e ≠ 0 := by rw [he] at h0; exact h0
    rw [chkV_no he he0] at C
    have P2 : ∀ w', Calls Tryd.prog 10 #[.string s] w' fun x w2 => x = .returned (.tuple #[.slice none 0 0, .int .i64 (p : Nat), .int .i64 e]) ∧ Below w'.heap.size w' w2 := fun w' => (P w').mono fun x w2 h => by
      obtain ⟨⟨v, h1, h2⟩, h3⟩ := h
      rw [if_neg h0] at h2
      subst h2
      rw [he] at h1
      exact ⟨h1, h3⟩
    have R2 : ∀ w', Below w.heap.size w w' → Calls Tryd.prog 12 #[.string s] w' fun x w2 => x = .returned (.tuple #[.slice none 0 0, .int .i64 (p : Nat), .int .i64 e]) ∧ Below w'.heap.size w' w2 := fun w' hb => (R w' hb).mono fun x w2 h => by
      obtain ⟨⟨v, h1, h2⟩, h3⟩ := h
      rw [if_neg h0] at h2
      subst h2
      rw [he] at h1
      exact ⟨h1, h3⟩
    have qp : ((p : Int) != (p : Int)) = false := by simp
    have qe : (e != e) = false := by simp
    clear P R he he0 h0 hT hmost
    go_enter Tryd.func3, Tryd.ntmps3
    go_wp2_with fail
    refine A.mono ?_
    rintro x w1 ⟨rfl, b1⟩
    clear A
    go_wp2_with fail
    refine (P2 _).mono ?_
    rintro x w2 ⟨rfl, b2⟩
    replace b2 := below_on b1 b2 b1.size
    clear P2 b1
    go_wp2_with fail
    refine (C _ b2).mono ?_
    rintro x w3 ⟨rfl, b3⟩
    replace b3 := below_on b2 b3 b2.size
    clear C b2
    go_wp2_with fail
    refine (R2 _ b3).mono ?_
    rintro x w4 ⟨rfl, b4⟩
    replace b4 := below_on b3 b4 b3.size
    clear R2 b3
    go_wp2_with fail
    go_loop [12] (fun s12 => s12 = .int .i64 0) (fun _ => 0)
    case atStart => exact rfl
    case round =>
      obtain rfl := hrel
      go_wp2_with fail
      go_ret
      exact ⟨rfl, b4⟩
end Go.Proofs.YtmckanjefhcnfaaDoor
