/- Package dim: Read at every text; '==' on dimensions and units; what a program that does nothing does not answer. -/
import Derived.Test.YtjmngnnmnbhfpaaDoorDimW
namespace Go.Proofs.YtjmngnnmnbhfpaaDoor
open Go.RowKit

def eqD (a b : D5) : Bool := a.a == b.a && a.b == b.b && a.c == b.c && a.d == b.d && a.e == b.e
def eqU (a b : U5) : Bool := a.num == b.num && a.den == b.den && eqD a.dim b.dim
theorem eqD_self (a : D5) : eqD a a = true := by simp [eqD]
theorem eqU_self (a : U5) : eqU a a = true := by simp [eqU, eqD]

theorem eqDimF (f : Nat) (a0 a1 a2 a3 a4 b0 b1 b2 b3 b4 : Int) (w : World) : (Op.equalIn (f + 1 + 1) 24 (.agg #[.int .i64 a0, .int .i64 a1, .int .i64 a2, .int .i64 a3, .int .i64 a4]) (.agg #[.int .i64 b0, .int .i64 b1, .int .i64 b2, .int .i64 b3, .int .i64 b4])).run Tryd.prog w = .ok (a0 == b0 && a1 == b1 && a2 == b2 && a3 == b3 && a4 == b4) w := by
  have t3 := Tryd.underlying3
  have q3 := Tryd.isAgg3
  have z3 := Tryd.sizeOf3
  rw [Op.equalIn]
  simp only [Sem.run_bind, run_underlying Tryd.underlying24, Result.andThen_ok]
  simp only [Std.Legacy.Range.forIn_eq_forIn_range', Std.Legacy.Range.size, Nat.sub_zero, Nat.add_sub_cancel, Nat.div_one, List.range'_succ, List.range'_zero, List.forIn_cons, List.forIn_nil]
  go_simp
  by_cases h0 : a0 = b0 <;> by_cases h1 : a1 = b1 <;> by_cases h2 : a2 = b2 <;> by_cases h3 : a3 = b3 <;> by_cases h4 : a4 = b4 <;> simp [h0, h1, h2, h3, h4]
theorem eqDim (x y : D5) (w : World) : (Op.equalIn 10000 24 (dimV x) (dimV y)).run Tryd.prog w = .ok (eqD x y) w := eqDimF 9998 _ _ _ _ _ _ _ _ _ _ w

theorem eqUnit (x y : U5) (w : World) : (Op.equalIn 10000 26 (unitV x) (unitV y)).run Tryd.prog w = .ok (eqU x y) w := by
  have hd := eqDimF 9997 x.dim.a x.dim.b x.dim.c x.dim.d x.dim.e y.dim.a y.dim.b y.dim.c y.dim.d y.dim.e
  rw [show (10000 : Nat) = 9999 + 1 from rfl, Op.equalIn]
  simp only [Sem.run_bind, run_underlying Tryd.underlying26, Result.andThen_ok]
  go_simp
  unfold eqU eqD
  by_cases h0 : x.num = y.num <;> by_cases h1 : x.den = y.den <;> by_cases h2 : x.dim.a = y.dim.a <;> by_cases h3 : x.dim.b = y.dim.b <;> by_cases h4 : x.dim.c = y.dim.c <;> by_cases h5 : x.dim.d = y.dim.d <;> by_cases h6 : x.dim.e = y.dim.e <;> simp [h0, h1, h2, h3, h4, h5, h6]

theorem Read_long (s : ByteArray) (hz : 64 < s.size) (w : World) :
    Calls Tryd.prog 10 #[.string s] w fun e w' => e = .returned (readV (unit0, 0, 2)) ∧ Below w.heap.size w w' := by
  have kz : (64 : Int) < (s.size : Int) := by omega
  go_enter Tryd.func10, Tryd.ntmps10
  go_wp2_with fail
  refine bodyPost_ret (v := .tuple #[unitV unit0, .int .i64 0, .int .i64 2]) (by simp [results, Tryd.results10, go_sem, unit0, dim0]) rfl ⟨rfl, ?_⟩
  exact (Below.refl _ _).alloc (Nat.le_refl _) _
theorem Read_any (s : ByteArray) (w : World) (hN : NamesAt w) :
    Calls Tryd.prog 10 #[.string s] w fun e w' => e = .returned (readV (readS s.data.toList)) ∧ Below w.heap.size w w' := by
  have hs : s.data.toList.length = s.size := rfl
  by_cases h : 64 < s.size
  · rw [show readS s.data.toList = (unit0, 0, 2) from if_pos (by omega)]
    exact (Read_long s h w).mono fun _ _ h => h
  · rw [show readS s.data.toList = readF s.data.toList (s.data.toList.length + 1) 0 false unit1 from if_neg (by omega)]
    exact (Read_short s _ rfl (by omega) w hN).mono fun _ _ h => h

theorem read_awake : readS [107, 114, 101, 113, 47, 109, 105, 110] = (⟨50, 3, ⟨-1, 1, 0, 0, 0⟩⟩, 0, 0) := by kernel_rfl
set_option maxHeartbeats 1000000 in
theorem awake_any (w : World) (hN : NamesAt w) : Calls Tryd.prog 9 #[] w fun e w' => e = .returned (.bool true) ∧ Below w.heap.size w w' := by
  have hq := fun wx => eqUnit ⟨50, 3, ⟨-1, 1, 0, 0, 0⟩⟩ ⟨50, 3, ⟨-1, 1, 0, 0, 0⟩⟩ wx
  simp only [unitV, eqU_self] at hq
  have hr := Read_any ⟨#[107, 114, 101, 113, 47, 109, 105, 110]⟩ w hN
  rw [show (ByteArray.mk #[107, 114, 101, 113, 47, 109, 105, 110]).data.toList = [107, 114, 101, 113, 47, 109, 105, 110] from rfl, read_awake] at hr
  simp only [readV, unitV] at hr
  go_enter Tryd.func9, Tryd.ntmps9
  go_wp2_with fail
  refine hr.mono ?_
  rintro e w1 ⟨rfl, hb1⟩
  go_wp2_with fail
  go_ret
  exact ⟨rfl, hb1.alloc hb1.size _⟩
end Go.Proofs.YtjmngnnmnbhfpaaDoor
