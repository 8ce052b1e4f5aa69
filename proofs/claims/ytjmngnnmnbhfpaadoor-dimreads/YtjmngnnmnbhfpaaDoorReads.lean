/- The statement DimReads: the walk of her Go text. -/
import Derived.Test.YtjmngnnmnbhfpaaDoorRRead
import Derived.SizedLaws
namespace Go.Proofs.YtjmngnnmnbhfpaaDoor
open Go.RowKit

theorem rRead_long (s : ByteArray) (hz : 64 < s.size) (w : World) :
    Calls Tryd.prog 11 #[.string s] w fun e w' => e = .returned (readV (unit0, 0, 2)) ∧ Below w.heap.size w w' := by
  have kz : (64 : Int) < (s.size : Int) := by omega
  go_enter Tryd.func11, Tryd.ntmps11
  go_wp2_with fail
  refine bodyPost_ret (v := .tuple #[unitV unit0, .int .i64 0, .int .i64 2]) (by simp [results, Tryd.results11, go_sem, unit0, dim0]) rfl ⟨rfl, ?_⟩
  exact (Below.refl _ _).alloc (Nat.le_refl _) _
theorem rRead_any (s : ByteArray) (w : World) :
    Calls Tryd.prog 11 #[.string s] w fun e w' => e = .returned (readV (readS s.data.toList)) ∧ Below w.heap.size w w' := by
  have hs : s.data.toList.length = s.size := rfl
  by_cases h : 64 < s.size
  · rw [show readS s.data.toList = (unit0, 0, 2) from if_pos (by omega)]
    exact (rRead_long s h w).mono fun _ _ h => h
  · rw [show readS s.data.toList = readF s.data.toList (s.data.toList.length + 1) 0 false unit1 from if_neg (by omega)]
    exact (rRead_short s _ rfl (by omega) w).mono fun _ _ h => h

set_option maxHeartbeats 2000000 in
theorem dimReads_walk (a : ByteArray) (_ha : a.data.toList.length ≤ reachBytes) (w : World) (hN : NamesAt w) :
    Calls Tryd.prog 3 #[.string a] w fun e w' => e = .returned (.bool true) ∧ Below w.heap.size w w' := by
  have h1 := fun wx hx => Read_any a wx hx
  have h2 := fun wx => rRead_any a wx
  generalize readS a.data.toList = R at *
  obtain ⟨u, p, e⟩ := R
  have hq := fun wx => eqUnit u u wx
  rw [eqU_self] at hq
  simp only [readV, unitV] at h1 h2 hq
  have q1 : ((p : Int) == (p : Int)) = true := by simp
  have q2 : ((e : Int) == (e : Int)) = true := by simp
  go_enter Tryd.func3, Tryd.ntmps3
  go_wp2_with fail
  refine (awake_any _ hN).mono ?_
  rintro e w1 ⟨rfl, bl⟩
  have hN := hN.later bl
  go_wp2_with fail
  refine (h1 _ hN).mono ?_
  rintro e w2 ⟨rfl, hb2⟩
  obtain ⟨ub, l2⟩ := one_box w2 26 (uCells u)
  have bl := (bl.trans (hb2.mono bl.size)).trans (l2.mono (Nat.le_trans bl.size hb2.size))
  clear hb2 l2
  go_wp2_with fail
  refine (h2 _).mono ?_
  rintro e w3 ⟨rfl, hb3⟩
  obtain ⟨vb, l3⟩ := one_box w3 26 (uCells u)
  have ub := (ub.next hb3).next l3
  have bl := (bl.trans (hb3.mono bl.size)).trans (l3.mono (Nat.le_trans bl.size hb3.size))
  clear hb3 l3
  obtain ⟨u0, u1, u2, u3, u4, u5, u6, _⟩ := ub.seven
  obtain ⟨v0, v1, v2, v3, v4, v5, v6, _⟩ := vb.seven
  go_wp2_with fail
  go_ret
  exact ⟨rfl, bl⟩
end Go.Proofs.YtjmngnnmnbhfpaaDoor
