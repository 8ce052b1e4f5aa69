/- Mul and Div of package dim: the sums and differences of the exponents, or none. -/
import Derived.Test.YtjmngnnmnbhfpaaDoorDimA
namespace Go.Proofs.YtjmngnnmnbhfpaaDoor
open Go.RowKit

set_option maxHeartbeats 4000000 in
theorem Mul_any (x y : D5) (fx : x.Fits) (fy : y.Fits) (w : World) :
    Calls Tryd.prog 14 #[dimV x, dimV y] w fun e w' => e = .returned (joinV (joinS (· + ·) x y)) ∧ Below w.heap.size w w' := by
  have hr : joinV (joinS (· + ·) x y) = .tuple #[dimV ((joinS (· + ·) x y).getD dim0), .bool (joinS (· + ·) x y).isSome] := rfl
  generalize (joinS (· + ·) x y).getD dim0 = r at hr
  generalize (joinS (· + ·) x y).isSome = ok at hr
  have HR : Hid _ := hr
  clear hr
  go_enter Tryd.func14, Tryd.ntmps14
  go_wp2_with fail
  refine (join_add x y fx fy _).mono ?_
  rintro e w1 ⟨he, hb1⟩
  rw [HR.out] at he
  subst he
  have bx : Box5 ((((w.alloc (.cells #[.int .i64 x.a, .int .i64 x.b, .int .i64 x.c, .int .i64 x.d, .int .i64 x.e] 24)).alloc (.cells #[.int .i64 y.a, .int .i64 y.b, .int .i64 y.c, .int .i64 y.d, .int .i64 y.e] 24)).alloc (.cells #[.int .i64 0, .int .i64 0, .int .i64 0, .int .i64 0, .int .i64 0] 24))) (w.heap.size + 1 + 1) 0 0 0 0 0 := by constructor <;> simp [go_sem]
  obtain ⟨o0, o1, o2, o3, o4, o5, o6, o7, o8, o9⟩ := bx.later hb1 (by simp)
  have sz := hb1.size
  simp at sz
  go_wp2_with fail
  refine bodyPost_ret (v := .tuple #[dimV r, .bool ok]) (by simp [results, Tryd.results14, go_sem, o0, o1, o2, o3, o4]) rfl ⟨by rw [HR.out], ?_⟩
  exact below5 (below_two (((Below.refl _ _).alloc (Nat.le_refl _) _).alloc (by simp) _ |>.alloc (by simp; omega) _) hb1) (by omega) _ _ _ _ _

set_option maxHeartbeats 4000000 in
theorem Div_any (x y : D5) (fx : x.Fits) (fy : y.Fits) (w : World) :
    Calls Tryd.prog 15 #[dimV x, dimV y] w fun e w' => e = .returned (joinV (joinS (· - ·) x y)) ∧ Below w.heap.size w w' := by
  have hr : joinV (joinS (· - ·) x y) = .tuple #[dimV ((joinS (· - ·) x y).getD dim0), .bool (joinS (· - ·) x y).isSome] := rfl
  generalize (joinS (· - ·) x y).getD dim0 = r at hr
  generalize (joinS (· - ·) x y).isSome = ok at hr
  have HR : Hid _ := hr
  clear hr
  go_enter Tryd.func15, Tryd.ntmps15
  go_wp2_with fail
  refine (join_sub x y fx fy _).mono ?_
  rintro e w1 ⟨he, hb1⟩
  rw [HR.out] at he
  subst he
  have bx : Box5 ((((w.alloc (.cells #[.int .i64 x.a, .int .i64 x.b, .int .i64 x.c, .int .i64 x.d, .int .i64 x.e] 24)).alloc (.cells #[.int .i64 y.a, .int .i64 y.b, .int .i64 y.c, .int .i64 y.d, .int .i64 y.e] 24)).alloc (.cells #[.int .i64 0, .int .i64 0, .int .i64 0, .int .i64 0, .int .i64 0] 24))) (w.heap.size + 1 + 1) 0 0 0 0 0 := by constructor <;> simp [go_sem]
  obtain ⟨o0, o1, o2, o3, o4, o5, o6, o7, o8, o9⟩ := bx.later hb1 (by simp)
  have sz := hb1.size
  simp at sz
  go_wp2_with fail
  refine bodyPost_ret (v := .tuple #[dimV r, .bool ok]) (by simp [results, Tryd.results15, go_sem, o0, o1, o2, o3, o4]) rfl ⟨by rw [HR.out], ?_⟩
  exact below5 (below_two (((Below.refl _ _).alloc (Nat.le_refl _) _).alloc (by simp) _ |>.alloc (by simp; omega) _) hb1) (by omega) _ _ _ _ _
end Go.Proofs.YtjmngnnmnbhfpaaDoor
