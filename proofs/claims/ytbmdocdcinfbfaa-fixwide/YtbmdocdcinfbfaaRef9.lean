/- The document's Div and Mean (package capstanref01). -/
import Derived.Test.YtbmdocdcinfbfaaRef8
namespace Go.Proofs.Ytbmdocdcinfbfaa
open Go.RowKit Go.Deep

theorem two_allocs (w : World) (o1 o2 : Obj) : Below w.heap.size w ((w.alloc o1).alloc o2) := ((Below.refl _ _).alloc (Nat.le_refl _) _).alloc (by simp) _
set_option maxHeartbeats 1000000 in
/-- Half of an even number. -/
theorem half_any (na : Bool) (sa : Value) (la : List Int) (a m : Int) (w : World) (ha : BigV w na sa la a) (ka : la.length ≤ 400) (hm : a = 2 * m) :
    Calls Try.prog 50 #[.agg #[.bool na, sa]] w (GivesBig w m) := by
  have hfd : ∀ (b : Bool) (a : Option Addr) (n c : Nat) (w : World), (Instr.field 39 (.agg #[.bool b, .slice a n c]) 1).run Try.prog w = .ok (.slice a n c) w := fun _ _ _ _ _ => by kernel_rfl
  have VA : BigV w false sa la (val la) := ⟨ha.isD, ha.dg, ha.tr, rfl⟩
  have en : m = sg na (val la / 2) := by
    have h1 := ha.num
    have h2 := (val_bd la ha.dg).1
    rw [hm] at h1
    cases na
    · have h3 : 2 * m = val la := h1; show m = val la / 2; omega
    · have h3 : 2 * m = -val la := h1; show m = -(val la / 2); omega
  have EN : Hid _ := en
  have vp := (val_bd la ha.dg).1
  clear en hm
  obtain ⟨⟨aa, ca, rfl, _⟩, da, ta, ea⟩ := ha
  clear ea
  go_enter Try.func50, Try.ntmps50
  go_wp2_with fail
  go_region_held3 (fun w' => w'.cell? ⟨w.heap.size, 0, none⟩ = some (.bool na) ∧ w'.cell? ⟨w.heap.size, 1, none⟩ = some (.slice aa la.length ca) ∧ w'.frozen? ⟨w.heap.size + 1, 0, none⟩ = false ∧ w'.frozen? ⟨w.heap.size + 1, 1, none⟩ = false) (simp [go_sem, *])
    (first | (go_at_call 49; refine (Over_any false _ la (val la) 2 _ (VA.later (by exact (two_allocs _ _ _).drew)) ka (by decide) (by decide)).mono ?_; rintro e w' ⟨nx, sx, lx, rfl, vx, hb'⟩; obtain ⟨hc, hf⟩ := bcell' hb'; have V2 := vx; obtain ⟨⟨a', c', rfl, _⟩, _, _, ex⟩ := vx; have EX : Hid _ := ex; clear ex))
  have cR0 := hb'.cell (p := ⟨w.heap.size + 1, 0, none⟩) (by simp)
  have cR1 := hb'.cell (p := ⟨w.heap.size + 1, 1, none⟩) (by simp)
  simp [go_sem] at cR0 cR1
  go_wp2_with fail
  refine bodyPost_ret (v := .agg #[.bool na, .slice a' lx.length c']) (by simp [results, Try.results50, go_sem, cR0, cR1]) rfl ⟨_, _, lx, rfl, ⟨?_, V2.dg, V2.tr, ?_⟩, ?_⟩
  · exact isD_put V2.isD _ cR0 cR1 _ _
  · have h1 := sg_abs V2.num V2.dg
    rw [EN.out, h1]
    congr 1
    omega
  · exact ((((two_allocs _ _ _).drew).trans (hb'.mono (by simp; omega))).setCell (by simp) _).setCell (by simp) _

/-- Rounded down, whatever the divisor's sign. -/
def rfl' (n d : Int) : Int := if 0 < d then n / d else (-n) / (-d)

set_option maxHeartbeats 1000000 in
theorem rDiv_any (a b : Int) (a0 : -9223372036854775808 ≤ a) (a1 : a < 9223372036854775808) (b0 : -9223372036854775808 ≤ b) (b1 : b < 9223372036854775808) (hz : b ≠ 0) (w : World) :
    Calls Try.prog 19 #[.int .i64 a, .int .i64 b] w fun e w' => e = .returned (.tuple #[.int .i64 (rheld (rfl' (a * 1000000) b)), .bool true]) ∧ Below w.heap.size w w' := by
  have hk : (b == 0) = false := beq_eq_false_iff_ne.2 hz
  have HZ : Hid _ := hz
  clear hz
  by_cases hm : b = -9223372036854775808
  · have e1 : rfl' (a * 1000000) b = -(a * 500000) / 4611686018427387904 := by
      subst hm
      unfold rfl'
      rw [if_neg (by decide)]
      show -(a * 1000000) / 9223372036854775808 = _
      omega
    have E1 : Hid _ := e1
    clear e1 HZ
    subst hm
    go_enter Try.func19, Try.ntmps19
    go_wp2_with fail
    refine (Of_any a a0 a1 _).mono ?_
    rintro e w1 ⟨na, sa, la, rfl, va, hb1⟩
    go_wp2_with fail
    refine (Of_any 1000000 (by decide) (by decide) _).mono ?_
    rintro e w2 ⟨nb, sb, lb, rfl, vb, hb2⟩
    go_wp2_with fail
    refine (Times_any na nb sa sb la lb a 1000000 _ (va.later hb2) vb (va.len8 (by omega) (by omega)) (vb.len8 (by omega) (by omega))).mono ?_
    rintro e w3 ⟨nc, sc, lc, rfl, vc, hb3⟩
    have VC := vc.later ((Below.refl _ _).alloc (Nat.le_refl _) (.cells #[.bool nc, sc] 39))
    have hk8 := vc.len8 (by omega) (by omega)
    have hw3 := below_on (below_on hb1 hb2) hb3
    obtain ⟨a', c', rfl, _⟩ := vc.isD
    go_wp2_with fail
    refine (half_any nc _ lc _ (a * 500000) _ VC hk8 (by omega)).mono ?_
    rintro e w4 ⟨nh, sh, lh, rfl, vh, hb4⟩
    go_wp2_with fail
    refine (Minus_any nh sh lh _ _ vh).mono ?_
    rintro e w5 ⟨nm, sm, lm, rfl, vm, hb5⟩
    go_wp2_with fail
    refine (Over_any nm sm lm _ 4611686018427387904 _ vm (vm.len8 (by omega) (by omega)) (by decide) (by decide)).mono ?_
    rintro e w6 ⟨nd, sd, ld, rfl, vd, hb6⟩
    go_wp2_with fail
    refine (rHeld_any nd sd ld _ _ vd).mono ?_
    rintro e w7 ⟨rfl, hb7⟩
    go_wp2_with fail
    go_ret2
    exact ⟨by rw [E1.out]; rfl, below_on (below_on (below_on ((hw3.alloc (by have := hw3.size; omega) _).trans (hb4.mono (by have := hw3.size; simp; omega))) hb5) hb6) hb7⟩
  by_cases hn : b < 0
  · have e1 : rfl' (a * 1000000) b = -(a * 1000000) / -b := by unfold rfl'; rw [if_neg (by omega)]
    have E1 : Hid _ := e1
    have hm' : (b == -9223372036854775808) = false := beq_eq_false_iff_ne.2 hm
    have b2 : 1 ≤ -b := by omega
    have b3 : -b < 9223372036854775808 := by omega
    clear e1 HZ hm
    go_enter Try.func19, Try.ntmps19
    go_wp2_with fail
    refine (Of_any a a0 a1 _).mono ?_
    rintro e w1 ⟨na, sa, la, rfl, va, hb1⟩
    go_wp2_with fail
    refine (Of_any 1000000 (by decide) (by decide) _).mono ?_
    rintro e w2 ⟨nb, sb, lb, rfl, vb, hb2⟩
    go_wp2_with fail
    refine (Times_any na nb sa sb la lb a 1000000 _ (va.later hb2) vb (va.len8 (by omega) (by omega)) (vb.len8 (by omega) (by omega))).mono ?_
    rintro e w3 ⟨nc, sc, lc, rfl, vc, hb3⟩
    have VC := vc.later ((Below.refl _ _).alloc (Nat.le_refl _) (.cells #[.bool nc, sc] 39))
    have hk8 := vc.len8 (by omega) (by omega)
    have hw3 := below_on (below_on hb1 hb2) hb3
    obtain ⟨a', c', rfl, _⟩ := vc.isD
    go_wp2_with fail
    refine (Minus_any nc _ lc _ _ VC).mono ?_
    rintro e w5 ⟨nm, sm, lm, rfl, vm, hb5⟩
    go_wp2_with fail
    refine (Over_any nm sm lm _ (-b) _ vm (vm.len8 (by omega) (by omega)) b2 b3).mono ?_
    rintro e w6 ⟨nd, sd, ld, rfl, vd, hb6⟩
    go_wp2_with fail
    refine (rHeld_any nd sd ld _ _ vd).mono ?_
    generalize hx : rheld (-(a * 1000000) / -b) = x
    have HX : Hid _ := hx
    clear hx
    rintro e w7 ⟨rfl, hb7⟩
    go_wp2_with fail
    go_ret2
    exact ⟨by rw [E1.out, HX.out]; rfl, below_on (below_on ((hw3.alloc (by have := hw3.size; omega) _).trans (hb5.mono (by have := hw3.size; simp; omega))) hb6) hb7⟩
  · have b2 : 1 ≤ b := by have : b ≠ 0 := HZ.out; omega
    have e1 : rfl' (a * 1000000) b = a * 1000000 / b := by unfold rfl'; rw [if_pos (by omega)]
    have E1 : Hid _ := e1
    have hm' : (b == -9223372036854775808) = false := beq_eq_false_iff_ne.2 hm
    clear e1 HZ hm
    go_enter Try.func19, Try.ntmps19
    go_wp2_with fail
    refine (Of_any a a0 a1 _).mono ?_
    rintro e w1 ⟨na, sa, la, rfl, va, hb1⟩
    go_wp2_with fail
    refine (Of_any 1000000 (by decide) (by decide) _).mono ?_
    rintro e w2 ⟨nb, sb, lb, rfl, vb, hb2⟩
    go_wp2_with fail
    refine (Times_any na nb sa sb la lb a 1000000 _ (va.later hb2) vb (va.len8 (by omega) (by omega)) (vb.len8 (by omega) (by omega))).mono ?_
    rintro e w3 ⟨nc, sc, lc, rfl, vc, hb3⟩
    have VC := vc.later ((Below.refl _ _).alloc (Nat.le_refl _) (.cells #[.bool nc, sc] 39))
    have hk8 := vc.len8 (by omega) (by omega)
    have hw3 := below_on (below_on hb1 hb2) hb3
    obtain ⟨a', c', rfl, _⟩ := vc.isD
    go_wp2_with fail
    refine (Over_any nc _ lc _ b _ VC hk8 b2 b1).mono ?_
    rintro e w6 ⟨nd, sd, ld, rfl, vd, hb6⟩
    go_wp2_with fail
    refine (rHeld_any nd sd ld _ _ vd).mono ?_
    rintro e w7 ⟨rfl, hb7⟩
    go_wp2_with fail
    go_ret2
    exact ⟨by rw [E1.out]; rfl, below_on ((hw3.alloc (by have := hw3.size; omega) _).trans (hb6.mono (by have := hw3.size; simp; omega))) hb7⟩
theorem rDiv_zero (a : Int) (w : World) :
    Calls Try.prog 19 #[.int .i64 a, .int .i64 0] w fun e w' => e = .returned (.tuple #[.int .i64 0, .bool false]) ∧ Below w.heap.size w w' := by
  go_enter Try.func19, Try.ntmps19
  go_wp2_with fail
  go_ret2
  exact ⟨rfl, Below.refl _ _⟩

set_option maxHeartbeats 400000 in
theorem rMean_any (na : Bool) (sa : Value) (la : List Int) (a n : Int) (w : World) (ha : BigV w na sa la a) (ka : la.length ≤ 400) (n0 : 1 ≤ n) (n1 : n < 9223372036854775808) :
    Calls Try.prog 40 #[.agg #[.bool na, sa], .int .i64 n] w (FitOut w (a / n)) := by
  obtain ⟨aa, ca, rfl, _⟩ := ha.isD
  have k : ¬ n < 1 := by omega
  go_enter Try.func40, Try.ntmps40
  go_wp2_with fail
  refine (Over_any na _ la a n _ (ha.later ((Below.refl _ _).alloc (Nat.le_refl _) _)) ka n0 n1).mono ?_
  rintro e w1 ⟨nd, sd, ld, rfl, vd, hb1⟩
  go_wp2_with fail
  refine (rFit_any nd sd ld _ _ vd).mono ?_
  rintro e w2 ⟨x, b, rfl, hb, hx, hb2⟩
  go_wp2_with fail
  go_ret2
  exact ⟨x, b, rfl, hb, hx, below_on (((Below.refl _ _).alloc (Nat.le_refl _) _).trans (hb1.mono (by simp))) hb2⟩
theorem rMean_none (na : Bool) (sa : Value) (la : List Int) (a n : Int) (w : World) (ha : BigV w na sa la a) (n0 : n < 1) :
    Calls Try.prog 40 #[.agg #[.bool na, sa], .int .i64 n] w fun e w' => e = .returned (.tuple #[.int .i64 0, .bool false]) ∧ Below w.heap.size w w' := by
  obtain ⟨aa, ca, rfl, _⟩ := ha.isD
  go_enter Try.func40, Try.ntmps40
  go_wp2_with fail
  go_ret2
  exact ⟨rfl, (Below.refl _ _).alloc (Nat.le_refl _) _⟩
end Go.Proofs.Ytbmdocdcinfbfaa
