/- Package civil: Of answers the date and time of every second. -/
import Derived.Test.YtddinknnaakmmabDoorCivC
namespace Go.Proofs.YtddinknnaakmmabDoor
open Go.RowKit

/-- What Of answers. -/
def Ofs (w : World) (t : Int) (e : Ending) (w' : World) : Prop :=
  ∃ c : Civ, e = .returned (civV c) ∧ At t c ∧ -1000000000000 < c.year ∧ c.year < 1000000000000 ∧ Below w.heap.size w w'

set_option maxHeartbeats 800000 in
theorem Of_any (t : Int) (t0 : -9223372036854775808 ≤ t) (t1 : t < 9223372036854775808) (w : World) (hL : LenAt w) :
    Calls Tryd.prog 8 #[.int .i64 t] w (Ofs w t) := by
  obtain ⟨xb, l0⟩ := one_box w 33 (civZ)
  have hL := hL.later l0
  have D0 : -200000000000000 ≤ t / 86400 := by omega
  have D1 : t / 86400 ≤ 200000000000000 := by omega
  have r0 : 0 ≤ t % 86400 := by omega
  have r1 : t % 86400 < 86400 := by omega
  have hs := split_any t 86400 t0 t1 (by omega) (by omega)
  have AT := @at_of
  generalize hd : t / 86400 = n at *
  generalize hr : t % 86400 = r at *
  have HD : Hid _ := hd
  have HR : Hid _ := hr
  clear hd hr
  go_enter Tryd.func8, Tryd.ntmps8
  go_wp2_with fail
  refine (hs _).mono ?_
  rintro e w1 ⟨rfl, hb1⟩
  have hL := hL.later hb1
  have xb := xb.next hb1
  have bl := l0.trans (hb1.mono l0.size)
  clear hb1 l0 hs
  go_wp2_with fail
  refine (date_any n D0 D1 _ hL).mono ?_
  rintro e w2 ⟨y, m, d, wk, rfl, x1, x2, x3, x4, y0, y1, hb2⟩
  have xb := xb.next hb2
  have bl := bl.trans (hb2.mono bl.size)
  clear hb2
  have AA : Hid _ := at_of (wk := wk) (r := r) (t := t) x1 x2 (x3.trans HD.out.symm) (x4.trans (by rw [HD.out])) HR.out.symm
  clear x4 x3 x2 x1
  obtain ⟨_, l2⟩ := one_box w2 33 [.int .i64 y, .int .i64 m, .int .i64 d, .int .i64 (r / 3600), .int .i64 (r % 3600 / 60), .int .i64 (r % 60), .int .i64 wk]
  have xb := xb.next l2
  have bl := bl.trans (l2.mono bl.size)
  obtain ⟨o0, o1, o2, o3, o4, o5, o6, g0, g1, g2, g3, g4, g5, g6⟩ := xb.seven
  go_wp2_with fail
  refine bodyPost_ret (v := civV ⟨y, m, d, r / 3600, r % 3600 / 60, r % 60, wk⟩) (by simp [results, Tryd.results8, go_sem, o0, o1, o2, o3, o4, o5, o6]) rfl ?_
  exact ⟨_, rfl, AA.out, y0, y1, below_seven bl (Nat.le_refl _) _ _ _ _ _ _ _⟩
end Go.Proofs.YtddinknnaakmmabDoor
