/- '==' on dates; what a program that does nothing does not answer. -/
import Derived.Test.YtleffgecobeekaaDoorCivE
namespace Go.Proofs.YtleffgecobeekaaDoor
open Go.RowKit

theorem eqCiv (c : Civ) (w : World) : (Op.equalIn 10000 24 (civV c) (civV c)).run Tryd.prog w = .ok true w := by
  have t3 := Tryd.underlying3
  have q3 := Tryd.isAgg3
  have z3 := Tryd.sizeOf3
  have t2 := Tryd.underlying2
  have q2 := Tryd.isAgg2
  have z2 := Tryd.sizeOf2
  rw [show (10000 : Nat) = 9999 + 1 from rfl, Op.equalIn]
  simp only [Sem.run_bind, run_underlying Tryd.underlying24, Result.andThen_ok]
  go_simp

def old : Civ := ⟨1969, 12, 31, 23, 59, 59, 3⟩
theorem old_at : At (-1) old := ⟨⟨by decide, by decide, by decide, by decide, by decide, by decide, by decide, by decide⟩, by decide, by decide⟩
theorem new_sec : secS ⟨1970, 1, 2, 0, 0, 1, 0⟩ = some 86401 := by decide
/-- What Of answers, where the answer is known. -/
theorem Of_at (t : Int) (c : Civ) (h : At t c) (t0 : -9223372036854775808 ≤ t) (t1 : t < 9223372036854775808) (w : World) (hL : LenAt w) :
    Calls Tryd.prog 10 #[.int .i64 t] w fun e w' => e = .returned (civV c) ∧ Below w.heap.size w w' :=
  (Of_any t t0 t1 w hL).mono fun _ _ ⟨_, e, k, _, _, hb⟩ => ⟨by rw [e, k.unique h], hb⟩

set_option maxHeartbeats 800000 in
theorem awake_any (w : World) (hL : LenAt w) : Calls Tryd.prog 9 #[] w fun e w' => e = .returned (.bool true) ∧ Below w.heap.size w w' := by
  have hq := fun wx => eqCiv old wx
  have ho := fun wx => Of_at (-1) old old_at (by decide) (by decide) wx
  have hs := fun wx => Seconds_any ⟨1970, 1, 2, 0, 0, 1, 0⟩ (by constructor <;> decide) wx
  rw [new_sec] at hs
  simp only [civV, old, secV, Option.getD, Option.isSome] at hq ho hs
  go_enter Tryd.func9, Tryd.ntmps9
  go_wp2_with fail
  refine (hs _ hL).mono ?_
  rintro e w1 ⟨rfl, hb1⟩
  go_wp2_with fail
  refine (ho _ (hL.later hb1)).mono ?_
  rintro e w2 ⟨rfl, hb2⟩
  go_wp2_with fail
  go_ret
  exact ⟨rfl, hb1.trans (hb2.mono hb1.size)⟩
end Go.Proofs.YtleffgecobeekaaDoor
