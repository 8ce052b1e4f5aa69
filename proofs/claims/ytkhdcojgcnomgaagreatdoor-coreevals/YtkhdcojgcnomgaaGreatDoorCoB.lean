/- Package core: the sorts of operations. -/
import Derived.Test.YtkhdcojgcnomgaaGreatDoorCoA
namespace Go.Proofs.YtkhdcojgcnomgaaGreatDoor
open Go.RowKit

theorem IntsAt.shape {w : World} {v : Value} {ts : List Int} (h : IntsAt w v ts) : ∃ ad cap, v = .slice ad ts.length cap := by
  obtain ⟨ad, cap, hv, _⟩ := h
  exact ⟨ad, cap, hv⟩
theorem IntsAt.open {w : World} {ad : Option Addr} {n cap : Nat} {ts : List Int} (h : IntsAt w (.slice ad n cap) ts) (hp : 0 < ts.length) : ∃ b off, ad = some ⟨b, off, none⟩ ∧ b < w.heap.size ∧ ∀ i (h : i < ts.length), w.cell? ⟨b, off + i, none⟩ = some (.int .i64 ts[i]) := by
  obtain ⟨ad', cap', hv, h⟩ := h
  cases hv
  rcases h with h | ⟨b, off, ha, hb, hc⟩
  · rw [h] at hp; cases hp
  · exact ⟨b, off, ha, hb, hc⟩
set_option maxHeartbeats 2000000 in
theorem cequal_c (ss ts : List Int) (a1 a2 : Option Addr) (k1 k2 : Nat) (w : World) (h1 : IntsAt w (.slice a1 ss.length k1) ss) (h2 : IntsAt w (.slice a2 ts.length k2) ts) (hm : ss.length ≤ 9223372036854775806) :
    Calls Tryz.prog 145 #[.slice a1 ss.length k1, .slice a2 ts.length k2] w fun e w' => e = .returned (.bool (decide (ss = ts))) ∧ Below w.heap.size w w' := by
  have HL := chid h1
  have HK := chid h2
  obtain ⟨R, hR⟩ : ∃ R, Hid (R = decide (ss = ts)) := ⟨_, rfl⟩
  rw [← hR.out]
  obtain ⟨N, hN⟩ : ∃ N, Hid (N = ss.length) := ⟨_, rfl⟩
  obtain ⟨N', hN'⟩ : ∃ N, Hid (N = ts.length) := ⟨_, rfl⟩
  rw [← hN.out] at HL hm ⊢
  rw [← hN'.out] at HK ⊢
  clear h1 h2
  by_cases hl : N = N'
  case neg =>
    have hr : R = false := by rw [hR.out]; exact decide_eq_false (fun e => hl (by rw [hN.out, hN'.out, e]))
    have k3 : ((N : Int) != (N' : Int)) = true := by simp; omega
    subst hr
    go_enter Tryz.func145, Tryz.ntmps145
    go_wp2_with fail
    go_ret
    exact ⟨rfl, Below.refl _ _⟩
  subst hl
  go_enter Tryz.func145, Tryz.ntmps145
  go_wp2_with fail
  go_loopw [13] (fun i wr => ∃ j : Nat, i = .int .i64 (j : Nat) ∧ j ≤ N ∧ Hid (∀ q (h1 : q < ss.length) (h2 : q < ts.length), q < j → ss[q] = ts[q]) ∧ Hid (Below w.heap.size w wr)) (fun i _ => match i with | .int _ p => ((N : Int) - p).toNat | _ => 0)
  case atStart => exact ⟨0, rfl, by omega, fun q _ _ h => absurd h (by omega), Below.refl _ _⟩
  case round =>
    obtain ⟨j, rfl, hj, HQ, HB⟩ := hrel
    by_cases hlt : j < N
    · have hlt' : (j : Int) < (N : Int) := by omega
      have h1 : j < ss.length := by rw [← hN.out]; exact hlt
      have h2 : j < ts.length := by rw [← hN'.out]; exact hlt
      obtain ⟨b, off, rfl, hbl, hx⟩ := HL.out.open (by omega)
      obtain ⟨b', off', rfl, hbl', hx'⟩ := HK.out.open (by omega)
      have c0 := (HB.out.cell (p := ⟨b, off + j, none⟩) hbl).trans (hx j h1)
      have e0 := (HB.out.cell (p := ⟨b', off' + j, none⟩) hbl').trans (hx' j h2)
      have lb : b < wr.heap.size := Nat.lt_of_lt_of_le hbl HB.out.size
      have lb' : b' < wr.heap.size := Nat.lt_of_lt_of_le hbl' HB.out.size
      have HNe : Hid (ss[j] ≠ ts[j] → R = false) := fun h => by
        rw [hR.out]
        exact decide_eq_false (fun e => h (by subst e; rfl))
      have HEq : Hid (∀ x y, x = ss[j] → y = ts[j] → x = y → ss[j] = ts[j]) := fun x y hx hy h => by rw [← hx, ← hy, h]
      clear hx hx'
      obtain ⟨x, hxx⟩ : ∃ x, Hid (x = ss[j]) := ⟨_, chid rfl⟩
      obtain ⟨y, hyy⟩ : ∃ y, Hid (y = ts[j]) := ⟨_, chid rfl⟩
      rw [← hxx.out] at c0 HNe
      rw [← hyy.out] at e0 HNe
      by_cases hxy : x = y
      · have k4 : (x != y) = false := by simpa using hxy
        have HXY := chid hxy
        clear hxy
        go_wp2_with fail
        go_quiet (fail)
        have HB1 := chid (cdrewN HB.out nq)
        go_wp2_with fail
        go_roundw
        case rel => exact ⟨j + 1, by go_num, by omega, (fun q g1 g2 hq => by
          by_cases he : q = j
          · subst he
            exact HEq.out _ _ hxx.out hyy.out HXY.out
          · exact HQ.out q g1 g2 (by omega)), HB1⟩
        case measure => simp; omega
      · have k4 : (x != y) = true := by simpa using hxy
        obtain rfl := HNe.out hxy
        go_wp2_with fail
        go_quiet (fail)
        have HB1 := chid (cdrewN HB.out nq)
        go_wp2_with fail
        go_ret
        exact ⟨rfl, HB1.out⟩
    · have hlt' : ¬ (j : Int) < (N : Int) := by omega
      have hr : R = true := by
        rw [hR.out]
        exact decide_eq_true (List.ext_getElem (by rw [← hN.out, ← hN'.out]) (fun q g1 g2 => HQ.out q g1 g2 (by have := hN.out; omega)))
      subst hr
      go_wp2_with fail
      go_ret
      exact ⟨rfl, HB.out⟩
/-- What a row says of the sort, its parts being of the sorts ss. -/
def mkF (k : Int) (ts ss : List Int) : Int := if ss = ts then k else 0
set_option maxHeartbeats 1000000 in
theorem cmade_c (k : Int) (ts ss : List Int) (p q : Nat) (c : Co) (ad a1 : Option Addr) (n cap k1 : Nat) (w : World) (hm : MkF w p q k ts) (h1 : IntsAt w (.slice a1 ss.length k1) ss) (hs : ss.length ≤ 9223372036854775806) :
    Calls Tryz.prog 144 #[coV c (.slice ad n cap), .slice a1 ss.length k1, .pointer (some ⟨p, 0, none⟩), .pointer (some ⟨q, 0, none⟩)] w fun e w' => e = .returned (.int .i64 (mkF k ts ss)) ∧ Below w.heap.size w w' := by
  obtain ⟨v, hv1, hv2⟩ := hm.tt
  obtain ⟨a2, k2, rfl⟩ := hv2.shape
  have lp := hm.lp
  have lq := hm.lq
  have kk := hm.kk
  have B1 : ∀ o, Below w.heap.size w (w.alloc o) := fun o => (Below.refl _ _).alloc (Nat.le_refl _) _
  have HC := chid (fun o => cequal_c ss ts a1 a2 k1 k2 (w.alloc o) (h1.next (B1 o)) (hv2.next (B1 o)) hs)
  have HA := chid B1
  clear hm h1 hv2 B1
  unfold mkF
  by_cases h : ss = ts
  · have HD : Hid (decide (ss = ts) = true) := decide_eq_true h
    rw [if_pos h]
    simp only [HD.out] at HC
    have hl : ss.length = ts.length := by rw [h]
    rw [← hl] at HC hv1
    clear h hl
    go_enter Tryz.func144, Tryz.ntmps144
    go_wp2_with fail
    refine Calls.mono (HC.out _) ?_
    rintro e w1 ⟨rfl, b1⟩
    have HB := chid (cbelow_on (HA.out _) b1 (by simp))
    have kk1 := (HB.out.cell (p := ⟨q, 0, none⟩) lq).trans kk
    have lq1 := Nat.lt_of_lt_of_le lq HB.out.size
    clear b1 kk hv1
    go_wp2_with fail
    go_ret
    exact ⟨rfl, HB.out⟩
  · rw [if_neg h]
    have HD : Hid (decide (ss = ts) = false) := decide_eq_false h
    simp only [HD.out] at HC
    clear h
    go_enter Tryz.func144, Tryz.ntmps144
    go_wp2_with fail
    refine Calls.mono (HC.out _) ?_
    rintro e w1 ⟨rfl, b1⟩
    have HB := chid (cbelow_on (HA.out _) b1 (by simp))
    clear b1 kk hv1
    go_wp2_with fail
    go_ret
    exact ⟨rfl, HB.out⟩
end Go.Proofs.YtkhdcojgcnomgaaGreatDoor
