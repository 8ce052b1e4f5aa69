/- ScanCovers: the walk. -/
import Derived.Test.YtmckanjefhcnfaaDoorScU
import Derived.Test.YtmckanjefhcnfaaDoorScW
namespace Go.Proofs.YtmckanjefhcnfaaDoor
open Go.RowKit

theorem ldn_le (is : Nat → Bool) : ∀ l : List (Nat × Nat), ldn is l ≤ l.length
  | [] => Nat.le_refl _
  | p :: t => by
    have := ldn_le is t
    simp only [ldn, List.length_cons]
    split <;> omega
theorem own_cell {w : World} {B : Nat} {e : TypeId} {g c n : Nat} {xs : List Value} (h : w.ownsRow B e 1 (.slice (some ⟨g, 0, none⟩) n c) n xs) {j : Nat} {u : Value} (hu : xs[j]? = some u) : w.cell? ⟨g, j, none⟩ = some u := by
  have := h.cells (g := g) rfl j u hu
  have hadd : (⟨g, 0, none⟩ : Addr).add j = ⟨g, j, none⟩ := by unfold Addr.add; split <;> simp_all
  rwa [hadd] at this
theorem own_some {w : World} {B size : Nat} {e : TypeId} {v : Value} {n : Nat} {xs : List Value} (h : w.ownsRow B e size v n xs) (hn : 0 < n) : ∃ g c, v = .slice (some ⟨g, 0, none⟩) n c := by
  rcases h.2 with ⟨_, h0⟩ | ⟨g, cap, cur, rfl, _⟩
  · omega
  · exact ⟨g, cap, rfl⟩

set_option maxHeartbeats 1000000 in
theorem scanCovers_walk (s : ByteArray) (c : Int) (hz : s.size ≤ 1048576) (_hc : (Lit.int .i64 c).wf = true) (w : World) (hT : TabsAt w) : Calls Tryd.prog 8 #[.string s, .int .i64 c] w fun e w' => e = .returned (.bool true) ∧ Below w.heap.size w w' := by
  have A := awake_c w hT
  have R := fun w' hb => runes_c s hz w' (hT.next (w' := w') hb)
  go_enter Tryd.func8, Tryd.ntmps8
  go_wp2_with fail
  refine A.mono ?_
  rintro e w1 ⟨rfl, b1⟩
  clear A
  go_wp2_with fail
  refine (R _ b1).mono ?_
  rintro e w2 ⟨⟨v, rfl, hv⟩, b2⟩
  replace b2 := below_on b1 b2 b1.size
  clear R
  by_cases h0 : (sd 10 11 s (rs s 0)).2 = 0
  · rw [if_pos h0] at hv
    have hp0 := sd_place _ h0
    obtain ⟨a, ca, rfl⟩ := own_val hv
    have hin := rne_in (fun r => isC (r : Int) c) s 0 (by omega)
    have cut := cut_said (u := 10) (k := 11) (by decide) (fun r => isC (r : Int) c) s _ hin.2 0 (by omega) rfl h0
    have P := fun w' => run_c s 0 c (by omega) w'
    have er : runI s 0 c = ((rne s.size (fun r => isC (r : Int) c) (rs s 0) : Nat) : Int) := if_pos (by omega)
    rw [er] at P
    have C := fun w' hb => check_c (s.extract 0 (rne s.size (fun r => isC (r : Int) c) (rs s 0))) (by rw [size_front _ _ hin.2]; omega) w' (hT.next (w' := w') hb)
    rw [chkV_ok cut.1, cut.2] at C
    have hin2 := hin.2
    have hll := ldn_le (fun r => isC (r : Int) c) (rs s 0)
    have hl0 := rs_length0 s
    have I := fun r w' => is_c r c w'
    simp only [hp0, h0]
    obtain ⟨L, hL⟩ : ∃ L, Hid (L = rs s 0) := ⟨_, rfl⟩
    rw [← hL.out] at hv hll hl0 P C hin2 ⊢
    generalize rne s.size (fun r => isC (r : Int) c) L = E at *
    have hE : ¬ ((s.size : Int) < (E : Int)) := by omega
    have hE0 : ¬ ((E : Int) < 0) := by omega
    clear hin cut er h0 hp0 b1 hL hT
    go_wp2_with fail
    go_loop [8] (fun s8 => ∃ n : Nat, s8 = .int .i64 n ∧ n ≤ L.length ∧ Hid (n + ldn (fun r => isC (r : Int) c) (L.drop n) = ldn (fun r => isC (r : Int) c) L)) (fun s8 => match s8 with | .int _ n => ((L.length : Int) - n).toNat | _ => 0)
    case atStart => exact ⟨0, rfl, by omega, by show _ = _; rw [List.drop_zero, Nat.zero_add]⟩
    case round =>
      obtain ⟨n, rfl, hn, HN⟩ := hrel
      by_cases hlt : n < L.length
      · obtain ⟨g, c2, hg⟩ := own_some hv (by omega)
        cases hg
        obtain ⟨p, hp⟩ : ∃ p, L[n]? = some p := ⟨_, List.getElem?_eq_getElem hlt⟩
        have hcell := own_cell hv (j := n) (u := .int .i32 (p.1 : Nat)) (by simp [rns, hp])
        have HN' := HN.out
        have hdr : L.drop n = p :: L.drop (n + 1) := by
          rw [List.drop_eq_getElem_cons hlt]
          rw [List.getElem?_eq_getElem hlt] at hp
          rw [Option.some.inj hp]
        rw [hdr] at HN'
        simp only [ldn] at HN'
        replace HN' : n + (if isC (p.1 : Int) c = true then ldn (fun r => isC (r : Int) c) (L.drop (n + 1)) + 1 else 0) = ldn (fun r => isC (r : Int) c) L := HN'
        have I1 := I (p.1 : Int) w2
        obtain ⟨b, hb⟩ : ∃ b, Hid (b = isC (p.1 : Int) c) := ⟨_, rfl⟩
        rw [← hb.out] at I1 HN'
        have q1 : (n : Int) < (L.length : Int) := by omega
        cases b with
        | true =>
          have HM : Hid (n + 1 + ldn (fun r => isC (r : Int) c) (L.drop (n + 1)) = ldn (fun r => isC (r : Int) c) L) := by show _ = _; rw [if_pos rfl] at HN'; omega
          clear HN HN' hb hdr hp I P C
          go_wp2_with (go_at_call 15; refine I1.mono ?_; rintro e w' ⟨rfl, rfl⟩)
          go_round
          case rel => exact ⟨n + 1, rfl, by omega, HM.out⟩
          case measure => simp only []; omega
        | false =>
          have hN : n = ldn (fun r => isC (r : Int) c) L := by rw [if_neg (by simp)] at HN'; omega
          rw [← hN] at C
          clear HN HN' hb hdr hp I hN hll
          go_wp2_with (go_at_call 15; refine I1.mono ?_; rintro e w' ⟨rfl, rfl⟩)
          go_wp2_with fail
          refine (P _).mono ?_
          rintro e w3 ⟨rfl, b3⟩
          replace b3 := below_on b2 b3 b2.size
          clear P
          go_wp2_with fail
          refine (C _ b3).mono ?_
          rintro e w4 ⟨rfl, b4⟩
          replace b4 := below_on b3 b4 b3.size
          clear C
          go_wp2_with fail
          go_ret
          exact ⟨by first | rfl | (simp; done), b4⟩
      · have hN : n = ldn (fun r => isC (r : Int) c) L := by
          have := HN.out
          rw [List.drop_eq_nil_of_le (by omega)] at this
          simpa [ldn] using this
        rw [← hN] at C
        have q1 : ¬ ((n : Int) < (L.length : Int)) := by omega
        clear HN I hN hll
        go_wp2_with fail
        refine (P _).mono ?_
        rintro e w3 ⟨rfl, b3⟩
        replace b3 := below_on b2 b3 b2.size
        clear P
        go_wp2_with fail
        refine (C _ b3).mono ?_
        rintro e w4 ⟨rfl, b4⟩
        replace b4 := below_on b3 b4 b3.size
        clear C
        go_wp2_with fail
        go_ret
        exact ⟨by first | rfl | (simp; done), b4⟩
  · rw [if_neg h0] at hv
    subst hv
    have he1 : ((sd 10 11 s (rs s 0)).2 != 0) = true := by simp [h0]
    generalize (sd 10 11 s (rs s 0)).2 = e at *
    clear h0
    go_wp2_with fail
    go_ret
    exact ⟨rfl, b2⟩
end Go.Proofs.YtmckanjefhcnfaaDoor
