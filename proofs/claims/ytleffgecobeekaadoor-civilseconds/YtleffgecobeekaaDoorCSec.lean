/- The statement CivilSeconds: the walk of her Go text, out of the contracts of package civil and of the document's answer. -/
import Derived.Test.YtleffgecobeekaaDoorCivF
import Derived.Test.YtleffgecobeekaaDoorRefS
namespace Go.Proofs.YtleffgecobeekaaDoor
open Go.RowKit

theorem year_high (c : Civ) (F : Formed c) (h : 292277026596 < c.year) : 9223372036854775807 < secOf c := by
  have r := (year_range F.d0 F.d1).1
  have m := ahead_mono (show 292277026597 ≤ c.year by omega)
  have z : ahead 292277026597 = 106751991886856 := by decide
  have := F.h0; have := F.n0; have := F.s0
  unfold secOf
  omega
theorem year_low (c : Civ) (F : Formed c) (h : c.year < -292277022657) : secOf c < -9223372036854775808 := by
  have r := (year_range F.d0 F.d1).2
  have m := ahead_mono (show c.year + 1 ≤ -292277022657 by omega)
  have z : ahead (-292277022657) = -106751990447799 := by decide
  have := F.h1; have := F.n1; have := F.s1
  unfold secOf
  omega

theorem rSeconds_any (c : Civ) (w : World) :
    Calls Tryd.prog 13 #[civV c] w fun e w' => e = .returned (secV (secS c)) ∧ Below w.heap.size w w' := by
  cases hk : formedB c with
  | false =>
    rw [secS_no hk]
    exact rSeconds_no c (.inl hk) w
  | true =>
    have F := (formedB_iff c).1 hk
    by_cases h1 : 292277026596 < c.year
    · rw [secS_out (fun k => by have := year_high c F h1; omega)]
      exact rSeconds_no c (.inr (.inl h1)) w
    · by_cases h2 : c.year < -292277022657
      · rw [secS_out (fun k => by have := year_low c F h2; omega)]
        exact rSeconds_no c (.inr (.inr h2)) w
      · exact rSeconds_ok c F (by omega) (by omega) w

set_option maxHeartbeats 800000 in
theorem civilSeconds_walk (c : Civ) (fc : c.Fits) (w : World) (hL : LenAt w) :
    Calls Tryd.prog 4 #[civV c] w fun e w' => e = .returned (.bool true) ∧ Below w.heap.size w w' := by
  obtain ⟨xb, l0⟩ := one_box w 24 (civCells c)
  replace hL := hL.later l0
  have h1 := fun wx => Seconds_any c fc wx
  have h2 := fun wx => rSeconds_any c wx
  simp only [secV] at h1 h2
  generalize (secS c).getD 0 = n at *
  generalize (secS c).isSome = b at *
  have bb : (b == b) = true := by simp
  go_enter Tryd.func4, Tryd.ntmps4
  go_wp2_with fail
  refine (awake_any _ hL).mono ?_
  rintro e w1 ⟨rfl, hb1⟩
  replace hL := hL.later hb1
  replace xb := xb.next hb1
  have bl := l0.trans (hb1.mono l0.size)
  clear hb1 l0
  obtain ⟨o0, o1, o2, o3, o4, o5, o6, cf⟩ := xb.seven
  clear cf
  go_wp2_with fail
  refine (h1 _ hL).mono ?_
  rintro e w2 ⟨rfl, hb2⟩
  replace xb := xb.next hb2
  replace bl := bl.trans (hb2.mono bl.size)
  clear o0 o1 o2 o3 o4 o5 o6 hb2
  obtain ⟨o0, o1, o2, o3, o4, o5, o6, cf⟩ := xb.seven
  clear cf
  go_wp2_with fail
  refine (h2 _).mono ?_
  rintro e w3 ⟨rfl, hb3⟩
  replace bl := bl.trans (hb3.mono bl.size)
  go_wp2_with fail
  go_ret
  exact ⟨rfl, bl⟩
end Go.Proofs.YtleffgecobeekaaDoor
