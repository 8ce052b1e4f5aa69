/- The statement CronLeast: the walk of her Go text. -/
import Derived.Test.YtddinknnaakmmaaDoorCroZ
import Derived.ProofKit
import Derived.OpenShut
namespace Go.Proofs.YtddinknnaakmmaaDoor
open Go.RowKit Go.Deep

set_option maxRecDepth 20000 in
set_option maxHeartbeats 4000000 in
theorem cronLeast_walk (c : Cr) (t : Int) (fc : c.Fits) (wf : (Lit.int .i64 t).wf = true) (w : World) (hL : LenAt w) (hF : FldAt w) (hT : TzAt w) :
    Calls Tryd.prog 8 #[cronV c, .int .i64 t] w fun e w' => e = .returned (.bool true) ∧ Below w.heap.size w w' := by
  have hbd := bounds_i64 wf
  have t0 : -9223372036854775808 ≤ t := by omega
  have t1 : t < 9223372036854775808 := by omega
  obtain ⟨cb, bl⟩ := one_box w 25 (u5 c.a c.b c.c c.d c.e)
  replace hF := hF.later bl
  replace hT := hT.later bl
  replace hL := hL.later bl
  have hnx := fun wx h1 h2 h3 => Next_any c fc t t0 t1 wx h1 h2 h3
  have hnm := fun n n0 n1 b hb wx h1 => Names_any c fc n n0 n1 b hb wx h1
  have HNX : Hid _ := hnx
  have HNM : Hid _ := hnm
  clear hnx hnm hbd wf
  go_enter Tryd.func8, Tryd.ntmps8
  go_wp2_with fail
  refine (awake_any _ hF hT).mono ?_
  rintro e w1 ⟨rfl, hb⟩
  replace hF := hF.later hb
  replace hT := hT.later hb
  replace hL := hL.later hb
  replace cb := cb.next hb
  replace bl := bl.trans (hb.mono bl.size)
  clear hb
  obtain ⟨o0, o1, o2, o3, o4, _⟩ := cb.five
  go_wp2_with fail
  refine (HNX.out _ hL hF hT).mono ?_
  rintro e w2 ⟨n, b, rfl, hR, hZ, hb⟩
  replace hL := hL.later hb
  replace cb := cb.next hb
  replace bl := bl.trans (hb.mono bl.size)
  clear hb o0 o1 o2 o3 o4 hF hT
  have hR2 : (b = true → NextR c t n true) ∧ (b = false → n = 0) := by
    cases hc : cfB c with
    | true => exact ⟨(fun e => by rw [← e]; exact hR hc), fun e => ((hR hc).no e).1⟩
    | false => exact ⟨(fun e => by rw [(hZ hc).2] at e; cases e), fun _ => (hZ hc).1⟩
  clear hR hZ HNX
  cases b with
  | false =>
    have hn := hR2.2 rfl
    subst hn
    clear hR2
    go_wp2_with fail
    go_ret
    exact ⟨rfl, bl⟩
  | true =>
    obtain ⟨h1, h2, h3, h4, h5, h6⟩ := (hR2.1 rfl).yes rfl
    have hnn := fun wx h => HNM.out n (by omega) h3 true ⟨fun _ => h5, fun _ => rfl⟩ wx h
    have k1 : ¬ n < t := by omega
    have k2 : n.tmod 60 = 0 := by
      rw [← Int.dvd_iff_tmod_eq_zero, Int.dvd_iff_emod_eq_zero]; exact h2
    have hd : n - t < 900000000 := by omega
    have h0 : t ≤ n := h1
    have HN : Hid _ := hnn
    have H6 : Hid _ := h6
    have H2 : Hid _ := h2
    clear hR2 h5 hnn h6 h4 h2 h1
    obtain ⟨o0, o1, o2, o3, o4, _⟩ := cb.five
    go_wp2_with fail
    refine (HN.out _ hL).mono ?_
    rintro e w3 ⟨rfl, hb⟩
    replace hL := hL.later hb
    replace cb := cb.next hb
    replace bl := bl.trans (hb.mono bl.size)
    clear hb o0 o1 o2 o3 o4
    go_wp2_with fail
    go_loopw [7] (fun p wr => ∃ k : Nat, p = .int .i64 k ∧ 1 ≤ k ∧ k ≤ 61 ∧ Box wr w.heap.size (u5 c.a c.b c.c c.d c.e) ∧ LenAt wr ∧ Below w.heap.size w wr) (fun p _ => (61 - intOf p).toNat)
    case atStart => exact ⟨1, rfl, by omega, by omega, cb, hL, bl⟩
    case round =>
      obtain ⟨k, rfl, q1, q2, cb, hL, bl⟩ := hrel
      by_cases hk : k ≤ 60
      · have k3 : (k : Int) ≤ 60 := by omega
        by_cases hq : 60 * (k : Int) ≤ n - t
        · have hf := H6.out (n - 60 * (k : Int)) (by omega) (by omega) (by have := H2.out; omega)
          have hnn := fun wx h => HNM.out (n - 60 * (k : Int)) (by omega) (by omega) false ⟨(fun e => by cases e), fun e => absurd e hf⟩ wx h
          have HN2 : Hid _ := hnn
          clear hnn hf
          obtain ⟨o0, o1, o2, o3, o4, _⟩ := cb.five
          go_wp2_with fail
          refine (HN2.out _ hL).mono ?_
          rintro e w4 ⟨rfl, hb⟩
          have hL4 := hL.later hb
          have cb4 := cb.next hb
          have bl4 := bl.trans (hb.mono bl.size)
          clear hb o0 o1 o2 o3 o4
          go_wp2_with fail
          exact ⟨⟨k + 1, by go_num, by omega, by omega, cb4, hL4, bl4⟩, by simp [intOf]; omega⟩
        · have hq2 : n - t < 60 * (k : Int) := by omega
          go_wp2_with fail
          exact ⟨⟨k + 1, by go_num, by omega, by omega, cb, hL, bl⟩, by simp [intOf]; omega⟩
      · have k3 : ¬ (k : Int) ≤ 60 := by omega
        go_wp2_with fail
        go_ret
        exact ⟨rfl, bl⟩
end Go.Proofs.YtddinknnaakmmaaDoor
