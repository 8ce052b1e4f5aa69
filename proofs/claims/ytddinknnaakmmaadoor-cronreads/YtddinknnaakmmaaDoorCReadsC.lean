/- The statement CronReads: the walk of her Go text. -/
import Derived.Test.YtddinknnaakmmaaDoorRCroW
import Derived.ProofKit
import Derived.OpenShut
namespace Go.Proofs.YtddinknnaakmmaaDoor
open Go.RowKit Go.Deep

theorem eqCron (c : Cr) (w : World) : (Op.equalIn 10000 25 (cronV c) (cronV c)).run Tryd.prog w = .ok true w := by
  have t3 := Tryd.underlying23
  have q3 := Tryd.isAgg23
  have z3 := Tryd.sizeOf23
  rw [show (10000 : Nat) = 9999 + 1 from rfl, Op.equalIn]
  simp only [Sem.run_bind, run_underlying Tryd.underlying25, Result.andThen_ok]
  go_simp
theorem readV_form (l : List UInt8) : ∃ (c : Cr) (p e : Int), readV l = .tuple #[cronV c, .int .i64 p, .int .i64 e] := by
  unfold readV
  split
  · exact ⟨_, _, _, rfl⟩
  · split
    · exact ⟨_, _, _, rfl⟩
    · exact ⟨_, _, _, rfl⟩
set_option maxRecDepth 20000 in
set_option maxHeartbeats 4000000 in
theorem cronReads_walk (s : ByteArray) (_ : s.size ≤ maxLen) (w : World) (hF : FldAt w) (hT : TzAt w) :
    Calls Tryd.prog 3 #[.string s] w fun e w' => e = .returned (.bool true) ∧ Below w.heap.size w w' := by
  have h1 := fun wx hx => Read_any s s.data.toList rfl wx hx
  have h2 := fun wx => rRead_any s s.data.toList rfl wx
  unfold ReadPost at h1 h2
  obtain ⟨c, p, en, hv⟩ := readV_form s.data.toList
  rw [hv] at h1 h2
  have hq := fun wx => eqCron c wx
  have H1 : Hid _ := h1
  have H2 : Hid _ := h2
  clear h1 h2 hv
  go_enter Tryd.func3, Tryd.ntmps3
  go_wp2_with fail
  refine (awake_any _ hF hT).mono ?_
  rintro e w1 ⟨rfl, bl⟩
  replace hF := hF.later bl
  go_wp2_with fail
  refine (H1.out _ hF).mono ?_
  rintro e w2 ⟨rfl, hb⟩
  replace bl := bl.trans (hb.mono bl.size)
  clear hb hF hT
  obtain ⟨cb, l2⟩ := one_box w2 25 (u5 c.a c.b c.c c.d c.e)
  replace bl := bl.trans (l2.mono bl.size)
  go_wp2_with fail
  refine (H2.out _).mono ?_
  rintro e w3 ⟨rfl, hb⟩
  replace bl := bl.trans (hb.mono bl.size)
  replace cb := cb.next hb
  clear hb l2
  obtain ⟨db, l3⟩ := one_box w3 25 (u5 c.a c.b c.c c.d c.e)
  replace bl := bl.trans (l3.mono bl.size)
  replace cb := cb.next l3
  obtain ⟨o0, o1, o2, o3, o4, _⟩ := cb.five
  obtain ⟨q0, q1, q2, q3, q4, _⟩ := db.five
  go_wp2_with fail
  go_ret
  exact ⟨rfl, bl⟩
end Go.Proofs.YtddinknnaakmmaaDoor
