/- The statement CronNext: the walk of her Go text. -/
import Derived.Test.YtddinknnaakmmaaDoorRCroN
import Derived.ProofKit
import Derived.OpenShut
namespace Go.Proofs.YtddinknnaakmmaaDoor
open Go.RowKit Go.Deep

set_option maxRecDepth 20000 in
set_option maxHeartbeats 4000000 in
theorem cronNext_walk (c : Cr) (t : Int) (fc : c.Fits) (wf : (Lit.int .i64 t).wf = true) (w : World) (hL : LenAt w) (hF : FldAt w) (hT : TzAt w) :
    Calls Tryd.prog 6 #[cronV c, .int .i64 t] w fun e w' => e = .returned (.bool true) ∧ Below w.heap.size w w' := by
  have hbd := bounds_i64 wf
  have t0 : -9223372036854775808 ≤ t := by omega
  have t1 : t < 9223372036854775808 := by omega
  obtain ⟨cb, bl⟩ := one_box w 25 (u5 c.a c.b c.c c.d c.e)
  replace hF := hF.later bl
  replace hT := hT.later bl
  replace hL := hL.later bl
  have hnx := fun wx h1 h2 h3 => Next_any c fc t t0 t1 wx h1 h2 h3
  have hrx := fun wx => rNext_any c fc t t0 t1 wx
  have HNX : Hid _ := hnx
  have HRX : Hid _ := hrx
  clear hnx hrx hbd wf
  go_enter Tryd.func6, Tryd.ntmps6
  go_wp2_with fail
  refine (awake_any _ hF hT).mono ?_
  rintro e w1 ⟨rfl, hb⟩
  replace hF := hF.later hb
  replace hT := hT.later hb
  replace hL := hL.later hb
  replace cb := cb.next hb
  replace bl := bl.trans (hb.mono bl.size)
  clear hb
  obtain ⟨o0, o1, o2, o3, o4, _⟩ := cb.five
  go_wp2_with fail
  refine (HNX.out _ hL hF hT).mono ?_
  rintro e w2 ⟨n, b, rfl, hR, hZ, hb⟩
  replace cb := cb.next hb
  replace bl := bl.trans (hb.mono bl.size)
  clear hb o0 o1 o2 o3 o4 hF hT hL
  obtain ⟨o0, o1, o2, o3, o4, _⟩ := cb.five
  have HR : Hid _ := hR
  have HZ : Hid _ := hZ
  clear hR hZ
  go_wp2_with fail
  refine (HRX.out _).mono ?_
  rintro e w3 ⟨n', b', rfl, hR', hZ', hb⟩
  have bl3 := bl.trans (hb.mono bl.size)
  have he : n = n' ∧ b = b' := by
    cases hc : cfB c with
    | true => exact (HR.out hc).unique (hR' hc)
    | false =>
      obtain ⟨h1, h2⟩ := HZ.out hc
      obtain ⟨h3, h4⟩ := hZ' hc
      exact ⟨h1.trans h3.symm, h2.trans h4.symm⟩
  obtain ⟨rfl, rfl⟩ := he
  clear hb o0 o1 o2 o3 o4 hR' hZ' HR HZ cb bl
  go_wp2_with fail
  go_ret
  first | exact ⟨rfl, bl3⟩ | (cases b <;> exact ⟨rfl, bl3⟩)
end Go.Proofs.YtddinknnaakmmaaDoor
