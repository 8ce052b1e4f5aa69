/- The inner function of package dim that joins exponents. -/
import Derived.Test.YtjmngnnmnbhfpaaDoorDimH
namespace Go.Proofs.YtjmngnnmnbhfpaaDoor
open Go.RowKit

set_option maxHeartbeats 4000000 in
theorem join_add (x y : D5) (fx : x.Fits) (fy : y.Fits) (w : World) :
    Calls Tryd.prog 28 #[dimV x, dimV y, .func (.func 29) #[] #[]] w fun e w' => e = .returned (joinV (joinS (· + ·) x y)) ∧ Below w.heap.size w w' := by
  go_enter Tryd.func28, Tryd.ntmps28
  go_wp2_with fail
  go_loopw [11] (fun i wr => ∃ (k : Nat) (a b c d e : Int), i = .int .i64 k ∧ k ≤ 5 ∧ JM w.heap.size x y a b c d e wr ∧ (0 < k → a = x.a + y.a ∧ In8 a) ∧ (1 < k → b = x.b + y.b ∧ In8 b) ∧ (2 < k → c = x.c + y.c ∧ In8 c) ∧ (3 < k → d = x.d + y.d ∧ In8 d) ∧ (4 < k → e = x.e + y.e ∧ In8 e) ∧ Below w.heap.size w wr) (fun i _ => 5 - (intOf i).toNat)
  case atStart =>
    refine ⟨0, 0, 0, 0, 0, 0, rfl, by decide, ⟨?_, ?_, ?_, ?_, ?_⟩, by omega, by omega, by omega, by omega, by omega, ?_⟩
    iterate 4 (constructor <;> simp [go_sem])
    · simp [go_sem]
    · exact (((Below.refl _ _).alloc (Nat.le_refl _) _).alloc (by simp) _).alloc (by simp; omega) _ |>.alloc (by simp; omega) _
  case round =>
    obtain ⟨k, a, b, c, d, e, rfl, hk, jm, h0, h1, h2, h3, h4, bl⟩ := hrel
    have sz := jm.sz
    have s0 : w.heap.size < wr.heap.size := by omega
    have s1 : w.heap.size + 1 < wr.heap.size := by omega
    have s2 : w.heap.size + 1 + 1 < wr.heap.size := by omega
    obtain _ | k := k
    · have m0 := jm.x.c0
      have m1 := jm.y.c0
      have JH : Hid _ := jm
      clear jm
      by_cases hi : In8 (x.a + y.a)
      · have e1 := held_in8 _ hi
        have e2 : ¬ 8 < x.a + y.a := by have := hi.2; omega
        have e3 : ¬ x.a + y.a < -8 := by have := hi.1; omega
        have w0 : -9223372036854775808 ≤ x.a + y.a := by omega
        have w1 : x.a + y.a ≤ 9223372036854775807 := by omega
        have HI : Hid _ := hi
        clear hi
        go_wp2_with fail
        go_region_held3 (fun w' => w'.cell? ⟨w.heap.size, 0, none⟩ = some (.int .i64 x.a) ∧ w'.cell? ⟨w.heap.size + 1, 0, none⟩ = some (.int .i64 y.a)) (simp [go_sem, *])
          (first | (go_at_call 29; refine (Add_any _ _ fx.a0 fx.a1 fy.a0 fy.a1 _).mono ?_; rw [e1]; rintro e w' ⟨rfl, hb⟩; have q0 := (hb.cell (p := ⟨w.heap.size, 0, none⟩) s0).trans m0; have q1 := (hb.cell (p := ⟨w.heap.size + 1, 0, none⟩) s1).trans m1))
        have J2 := JH.out.later ((Below.refl _ _).drew.trans hb)
        have r0 := J2.r.c0
        have rf := J2.r.f0
        have J3 := J2.put0 (x.a + y.a)
        have bl2 := bl.trans (((Below.refl _ _).drew.trans hb).mono bl.size)
        have sz2 := J2.sz
        clear JH J2 hb bl
        go_wp2_with fail
        go_roundw
        case rel => exact ⟨0 + 1, x.a + y.a, b, c, d, e, rfl, by decide, J3, fun _ => ⟨rfl, HI.out⟩, by omega, by omega, by omega, by omega, bl2.setCell (by simp; omega) _⟩
        case measure => simp [intOf]
      · have e1 := held_out8 _ hi
        have NS : Hid _ := joinS_none0 (· + ·) x y hi
        clear hi
        have w0 := held_bd (x.a + y.a)
        generalize hH : held (x.a + y.a) = H at *
        have HH : Hid _ := hH
        clear hH
        rcases e1 with e1 | ⟨e1, e2⟩
        all_goals
          go_wp2_with fail
          go_region_held3 (fun w' => w'.cell? ⟨w.heap.size, 0, none⟩ = some (.int .i64 x.a) ∧ w'.cell? ⟨w.heap.size + 1, 0, none⟩ = some (.int .i64 y.a)) (simp [go_sem, *])
            (first | (go_at_call 29; refine (Add_any _ _ fx.a0 fx.a1 fy.a0 fy.a1 _).mono ?_; rw [HH.out]; rintro e w' ⟨rfl, hb⟩; have q0 := (hb.cell (p := ⟨w.heap.size, 0, none⟩) s0).trans m0; have q1 := (hb.cell (p := ⟨w.heap.size + 1, 0, none⟩) s1).trans m1))
          have J2 := JH.out.later ((Below.refl _ _).drew.trans hb)
          obtain ⟨o0, o1, o2, o3, o4, o5, o6, o7, o8, o9⟩ := J2.o
          have bl2 := bl.trans (((Below.refl _ _).drew.trans hb).mono bl.size)
          have sz2 := J2.sz
          clear JH J2 hb bl
          go_wp2_with fail
          refine bodyPost_ret (v := joinV none) (by simp [results, Tryd.results28, go_sem, joinV, dim0, o0, o1, o2, o3, o4]) rfl ⟨by rw [NS.out], ?_⟩
          exact below5 bl2 (by omega) _ _ _ _ _
    obtain _ | k := k
    · have m0 := jm.x.c1
      have m1 := jm.y.c1
      have JH : Hid _ := jm
      clear jm
      by_cases hi : In8 (x.b + y.b)
      · have e1 := held_in8 _ hi
        have e2 : ¬ 8 < x.b + y.b := by have := hi.2; omega
        have e3 : ¬ x.b + y.b < -8 := by have := hi.1; omega
        have w0 : -9223372036854775808 ≤ x.b + y.b := by omega
        have w1 : x.b + y.b ≤ 9223372036854775807 := by omega
        have HI : Hid _ := hi
        clear hi
        go_wp2_with fail
        go_region_held3 (fun w' => w'.cell? ⟨w.heap.size, 1, none⟩ = some (.int .i64 x.b) ∧ w'.cell? ⟨w.heap.size + 1, 1, none⟩ = some (.int .i64 y.b)) (simp [go_sem, *])
          (first | (go_at_call 29; refine (Add_any _ _ fx.b0 fx.b1 fy.b0 fy.b1 _).mono ?_; rw [e1]; rintro e w' ⟨rfl, hb⟩; have q0 := (hb.cell (p := ⟨w.heap.size, 1, none⟩) s0).trans m0; have q1 := (hb.cell (p := ⟨w.heap.size + 1, 1, none⟩) s1).trans m1))
        have J2 := JH.out.later ((Below.refl _ _).drew.trans hb)
        have r0 := J2.r.c1
        have rf := J2.r.f1
        have J3 := J2.put1 (x.b + y.b)
        have bl2 := bl.trans (((Below.refl _ _).drew.trans hb).mono bl.size)
        have sz2 := J2.sz
        clear JH J2 hb bl
        go_wp2_with fail
        go_roundw
        case rel => exact ⟨1 + 1, a, x.b + y.b, c, d, e, rfl, by decide, J3, fun _ => h0 (by omega), fun _ => ⟨rfl, HI.out⟩, by omega, by omega, by omega, bl2.setCell (by simp; omega) _⟩
        case measure => simp [intOf]
      · have e1 := held_out8 _ hi
        have NS : Hid _ := joinS_none1 (· + ·) x y hi
        clear hi
        have w0 := held_bd (x.b + y.b)
        generalize hH : held (x.b + y.b) = H at *
        have HH : Hid _ := hH
        clear hH
        rcases e1 with e1 | ⟨e1, e2⟩
        all_goals
          go_wp2_with fail
          go_region_held3 (fun w' => w'.cell? ⟨w.heap.size, 1, none⟩ = some (.int .i64 x.b) ∧ w'.cell? ⟨w.heap.size + 1, 1, none⟩ = some (.int .i64 y.b)) (simp [go_sem, *])
            (first | (go_at_call 29; refine (Add_any _ _ fx.b0 fx.b1 fy.b0 fy.b1 _).mono ?_; rw [HH.out]; rintro e w' ⟨rfl, hb⟩; have q0 := (hb.cell (p := ⟨w.heap.size, 1, none⟩) s0).trans m0; have q1 := (hb.cell (p := ⟨w.heap.size + 1, 1, none⟩) s1).trans m1))
          have J2 := JH.out.later ((Below.refl _ _).drew.trans hb)
          obtain ⟨o0, o1, o2, o3, o4, o5, o6, o7, o8, o9⟩ := J2.o
          have bl2 := bl.trans (((Below.refl _ _).drew.trans hb).mono bl.size)
          have sz2 := J2.sz
          clear JH J2 hb bl
          go_wp2_with fail
          refine bodyPost_ret (v := joinV none) (by simp [results, Tryd.results28, go_sem, joinV, dim0, o0, o1, o2, o3, o4]) rfl ⟨by rw [NS.out], ?_⟩
          exact below5 bl2 (by omega) _ _ _ _ _
    obtain _ | k := k
    · have m0 := jm.x.c2
      have m1 := jm.y.c2
      have JH : Hid _ := jm
      clear jm
      by_cases hi : In8 (x.c + y.c)
      · have e1 := held_in8 _ hi
        have e2 : ¬ 8 < x.c + y.c := by have := hi.2; omega
        have e3 : ¬ x.c + y.c < -8 := by have := hi.1; omega
        have w0 : -9223372036854775808 ≤ x.c + y.c := by omega
        have w1 : x.c + y.c ≤ 9223372036854775807 := by omega
        have HI : Hid _ := hi
        clear hi
        go_wp2_with fail
        go_region_held3 (fun w' => w'.cell? ⟨w.heap.size, 2, none⟩ = some (.int .i64 x.c) ∧ w'.cell? ⟨w.heap.size + 1, 2, none⟩ = some (.int .i64 y.c)) (simp [go_sem, *])
          (first | (go_at_call 29; refine (Add_any _ _ fx.c0 fx.c1 fy.c0 fy.c1 _).mono ?_; rw [e1]; rintro e w' ⟨rfl, hb⟩; have q0 := (hb.cell (p := ⟨w.heap.size, 2, none⟩) s0).trans m0; have q1 := (hb.cell (p := ⟨w.heap.size + 1, 2, none⟩) s1).trans m1))
        have J2 := JH.out.later ((Below.refl _ _).drew.trans hb)
        have r0 := J2.r.c2
        have rf := J2.r.f2
        have J3 := J2.put2 (x.c + y.c)
        have bl2 := bl.trans (((Below.refl _ _).drew.trans hb).mono bl.size)
        have sz2 := J2.sz
        clear JH J2 hb bl
        go_wp2_with fail
        go_roundw
        case rel => exact ⟨2 + 1, a, b, x.c + y.c, d, e, rfl, by decide, J3, fun _ => h0 (by omega), fun _ => h1 (by omega), fun _ => ⟨rfl, HI.out⟩, by omega, by omega, bl2.setCell (by simp; omega) _⟩
        case measure => simp [intOf]
      · have e1 := held_out8 _ hi
        have NS : Hid _ := joinS_none2 (· + ·) x y hi
        clear hi
        have w0 := held_bd (x.c + y.c)
        generalize hH : held (x.c + y.c) = H at *
        have HH : Hid _ := hH
        clear hH
        rcases e1 with e1 | ⟨e1, e2⟩
        all_goals
          go_wp2_with fail
          go_region_held3 (fun w' => w'.cell? ⟨w.heap.size, 2, none⟩ = some (.int .i64 x.c) ∧ w'.cell? ⟨w.heap.size + 1, 2, none⟩ = some (.int .i64 y.c)) (simp [go_sem, *])
            (first | (go_at_call 29; refine (Add_any _ _ fx.c0 fx.c1 fy.c0 fy.c1 _).mono ?_; rw [HH.out]; rintro e w' ⟨rfl, hb⟩; have q0 := (hb.cell (p := ⟨w.heap.size, 2, none⟩) s0).trans m0; have q1 := (hb.cell (p := ⟨w.heap.size + 1, 2, none⟩) s1).trans m1))
          have J2 := JH.out.later ((Below.refl _ _).drew.trans hb)
          obtain ⟨o0, o1, o2, o3, o4, o5, o6, o7, o8, o9⟩ := J2.o
          have bl2 := bl.trans (((Below.refl _ _).drew.trans hb).mono bl.size)
          have sz2 := J2.sz
          clear JH J2 hb bl
          go_wp2_with fail
          refine bodyPost_ret (v := joinV none) (by simp [results, Tryd.results28, go_sem, joinV, dim0, o0, o1, o2, o3, o4]) rfl ⟨by rw [NS.out], ?_⟩
          exact below5 bl2 (by omega) _ _ _ _ _
    obtain _ | k := k
    · have m0 := jm.x.c3
      have m1 := jm.y.c3
      have JH : Hid _ := jm
      clear jm
      by_cases hi : In8 (x.d + y.d)
      · have e1 := held_in8 _ hi
        have e2 : ¬ 8 < x.d + y.d := by have := hi.2; omega
        have e3 : ¬ x.d + y.d < -8 := by have := hi.1; omega
        have w0 : -9223372036854775808 ≤ x.d + y.d := by omega
        have w1 : x.d + y.d ≤ 9223372036854775807 := by omega
        have HI : Hid _ := hi
        clear hi
        go_wp2_with fail
        go_region_held3 (fun w' => w'.cell? ⟨w.heap.size, 3, none⟩ = some (.int .i64 x.d) ∧ w'.cell? ⟨w.heap.size + 1, 3, none⟩ = some (.int .i64 y.d)) (simp [go_sem, *])
          (first | (go_at_call 29; refine (Add_any _ _ fx.d0 fx.d1 fy.d0 fy.d1 _).mono ?_; rw [e1]; rintro e w' ⟨rfl, hb⟩; have q0 := (hb.cell (p := ⟨w.heap.size, 3, none⟩) s0).trans m0; have q1 := (hb.cell (p := ⟨w.heap.size + 1, 3, none⟩) s1).trans m1))
        have J2 := JH.out.later ((Below.refl _ _).drew.trans hb)
        have r0 := J2.r.c3
        have rf := J2.r.f3
        have J3 := J2.put3 (x.d + y.d)
        have bl2 := bl.trans (((Below.refl _ _).drew.trans hb).mono bl.size)
        have sz2 := J2.sz
        clear JH J2 hb bl
        go_wp2_with fail
        go_roundw
        case rel => exact ⟨3 + 1, a, b, c, x.d + y.d, e, rfl, by decide, J3, fun _ => h0 (by omega), fun _ => h1 (by omega), fun _ => h2 (by omega), fun _ => ⟨rfl, HI.out⟩, by omega, bl2.setCell (by simp; omega) _⟩
        case measure => simp [intOf]
      · have e1 := held_out8 _ hi
        have NS : Hid _ := joinS_none3 (· + ·) x y hi
        clear hi
        have w0 := held_bd (x.d + y.d)
        generalize hH : held (x.d + y.d) = H at *
        have HH : Hid _ := hH
        clear hH
        rcases e1 with e1 | ⟨e1, e2⟩
        all_goals
          go_wp2_with fail
          go_region_held3 (fun w' => w'.cell? ⟨w.heap.size, 3, none⟩ = some (.int .i64 x.d) ∧ w'.cell? ⟨w.heap.size + 1, 3, none⟩ = some (.int .i64 y.d)) (simp [go_sem, *])
            (first | (go_at_call 29; refine (Add_any _ _ fx.d0 fx.d1 fy.d0 fy.d1 _).mono ?_; rw [HH.out]; rintro e w' ⟨rfl, hb⟩; have q0 := (hb.cell (p := ⟨w.heap.size, 3, none⟩) s0).trans m0; have q1 := (hb.cell (p := ⟨w.heap.size + 1, 3, none⟩) s1).trans m1))
          have J2 := JH.out.later ((Below.refl _ _).drew.trans hb)
          obtain ⟨o0, o1, o2, o3, o4, o5, o6, o7, o8, o9⟩ := J2.o
          have bl2 := bl.trans (((Below.refl _ _).drew.trans hb).mono bl.size)
          have sz2 := J2.sz
          clear JH J2 hb bl
          go_wp2_with fail
          refine bodyPost_ret (v := joinV none) (by simp [results, Tryd.results28, go_sem, joinV, dim0, o0, o1, o2, o3, o4]) rfl ⟨by rw [NS.out], ?_⟩
          exact below5 bl2 (by omega) _ _ _ _ _
    obtain _ | k := k
    · have m0 := jm.x.c4
      have m1 := jm.y.c4
      have JH : Hid _ := jm
      clear jm
      by_cases hi : In8 (x.e + y.e)
      · have e1 := held_in8 _ hi
        have e2 : ¬ 8 < x.e + y.e := by have := hi.2; omega
        have e3 : ¬ x.e + y.e < -8 := by have := hi.1; omega
        have w0 : -9223372036854775808 ≤ x.e + y.e := by omega
        have w1 : x.e + y.e ≤ 9223372036854775807 := by omega
        have HI : Hid _ := hi
        clear hi
        go_wp2_with fail
        go_region_held3 (fun w' => w'.cell? ⟨w.heap.size, 4, none⟩ = some (.int .i64 x.e) ∧ w'.cell? ⟨w.heap.size + 1, 4, none⟩ = some (.int .i64 y.e)) (simp [go_sem, *])
          (first | (go_at_call 29; refine (Add_any _ _ fx.e0 fx.e1 fy.e0 fy.e1 _).mono ?_; rw [e1]; rintro e w' ⟨rfl, hb⟩; have q0 := (hb.cell (p := ⟨w.heap.size, 4, none⟩) s0).trans m0; have q1 := (hb.cell (p := ⟨w.heap.size + 1, 4, none⟩) s1).trans m1))
        have J2 := JH.out.later ((Below.refl _ _).drew.trans hb)
        have r0 := J2.r.c4
        have rf := J2.r.f4
        have J3 := J2.put4 (x.e + y.e)
        have bl2 := bl.trans (((Below.refl _ _).drew.trans hb).mono bl.size)
        have sz2 := J2.sz
        clear JH J2 hb bl
        go_wp2_with fail
        go_roundw
        case rel => exact ⟨4 + 1, a, b, c, d, x.e + y.e, rfl, by decide, J3, fun _ => h0 (by omega), fun _ => h1 (by omega), fun _ => h2 (by omega), fun _ => h3 (by omega), fun _ => ⟨rfl, HI.out⟩, bl2.setCell (by simp; omega) _⟩
        case measure => simp [intOf]
      · have e1 := held_out8 _ hi
        have NS : Hid _ := joinS_none4 (· + ·) x y hi
        clear hi
        have w0 := held_bd (x.e + y.e)
        generalize hH : held (x.e + y.e) = H at *
        have HH : Hid _ := hH
        clear hH
        rcases e1 with e1 | ⟨e1, e2⟩
        all_goals
          go_wp2_with fail
          go_region_held3 (fun w' => w'.cell? ⟨w.heap.size, 4, none⟩ = some (.int .i64 x.e) ∧ w'.cell? ⟨w.heap.size + 1, 4, none⟩ = some (.int .i64 y.e)) (simp [go_sem, *])
            (first | (go_at_call 29; refine (Add_any _ _ fx.e0 fx.e1 fy.e0 fy.e1 _).mono ?_; rw [HH.out]; rintro e w' ⟨rfl, hb⟩; have q0 := (hb.cell (p := ⟨w.heap.size, 4, none⟩) s0).trans m0; have q1 := (hb.cell (p := ⟨w.heap.size + 1, 4, none⟩) s1).trans m1))
          have J2 := JH.out.later ((Below.refl _ _).drew.trans hb)
          obtain ⟨o0, o1, o2, o3, o4, o5, o6, o7, o8, o9⟩ := J2.o
          have bl2 := bl.trans (((Below.refl _ _).drew.trans hb).mono bl.size)
          have sz2 := J2.sz
          clear JH J2 hb bl
          go_wp2_with fail
          refine bodyPost_ret (v := joinV none) (by simp [results, Tryd.results28, go_sem, joinV, dim0, o0, o1, o2, o3, o4]) rfl ⟨by rw [NS.out], ?_⟩
          exact below5 bl2 (by omega) _ _ _ _ _
    · obtain rfl : k = 0 := by omega
      obtain ⟨rfl, i0⟩ := h0 (by omega)
      obtain ⟨rfl, i1⟩ := h1 (by omega)
      obtain ⟨rfl, i2⟩ := h2 (by omega)
      obtain ⟨rfl, i3⟩ := h3 (by omega)
      obtain ⟨rfl, i4⟩ := h4 (by omega)
      have NS : Hid _ := joinS_some (· + ·) x y ⟨i0, i1, i2, i3, i4⟩
      clear i0 i1 i2 i3 i4 h0 h1 h2 h3 h4
      obtain ⟨o0, o1, o2, o3, o4, o5, o6, o7, o8, o9⟩ := jm.o
      obtain ⟨r0, r1, r2, r3, r4, r5, r6, r7, r8, r9⟩ := jm.r
      clear jm
      go_wp2_with fail
      refine bodyPost_ret (v := .tuple #[dimV ⟨x.a + y.a, x.b + y.b, x.c + y.c, x.d + y.d, x.e + y.e⟩, .bool true]) (by simp [results, Tryd.results28, go_sem, o0, o1, o2, o3, o4]) rfl ⟨by rw [NS.out]; rfl, ?_⟩
      exact below5 bl (by omega) _ _ _ _ _

set_option maxHeartbeats 4000000 in
theorem join_sub (x y : D5) (fx : x.Fits) (fy : y.Fits) (w : World) :
    Calls Tryd.prog 28 #[dimV x, dimV y, .func (.func 30) #[] #[]] w fun e w' => e = .returned (joinV (joinS (· - ·) x y)) ∧ Below w.heap.size w w' := by
  go_enter Tryd.func28, Tryd.ntmps28
  go_wp2_with fail
  go_loopw [11] (fun i wr => ∃ (k : Nat) (a b c d e : Int), i = .int .i64 k ∧ k ≤ 5 ∧ JM w.heap.size x y a b c d e wr ∧ (0 < k → a = x.a - y.a ∧ In8 a) ∧ (1 < k → b = x.b - y.b ∧ In8 b) ∧ (2 < k → c = x.c - y.c ∧ In8 c) ∧ (3 < k → d = x.d - y.d ∧ In8 d) ∧ (4 < k → e = x.e - y.e ∧ In8 e) ∧ Below w.heap.size w wr) (fun i _ => 5 - (intOf i).toNat)
  case atStart =>
    refine ⟨0, 0, 0, 0, 0, 0, rfl, by decide, ⟨?_, ?_, ?_, ?_, ?_⟩, by omega, by omega, by omega, by omega, by omega, ?_⟩
    iterate 4 (constructor <;> simp [go_sem])
    · simp [go_sem]
    · exact (((Below.refl _ _).alloc (Nat.le_refl _) _).alloc (by simp) _).alloc (by simp; omega) _ |>.alloc (by simp; omega) _
  case round =>
    obtain ⟨k, a, b, c, d, e, rfl, hk, jm, h0, h1, h2, h3, h4, bl⟩ := hrel
    have sz := jm.sz
    have s0 : w.heap.size < wr.heap.size := by omega
    have s1 : w.heap.size + 1 < wr.heap.size := by omega
    have s2 : w.heap.size + 1 + 1 < wr.heap.size := by omega
    obtain _ | k := k
    · have m0 := jm.x.c0
      have m1 := jm.y.c0
      have JH : Hid _ := jm
      clear jm
      by_cases hi : In8 (x.a - y.a)
      · have e1 := held_in8 _ hi
        have e2 : ¬ 8 < x.a - y.a := by have := hi.2; omega
        have e3 : ¬ x.a - y.a < -8 := by have := hi.1; omega
        have w0 : -9223372036854775808 ≤ x.a - y.a := by omega
        have w1 : x.a - y.a ≤ 9223372036854775807 := by omega
        have HI : Hid _ := hi
        clear hi
        go_wp2_with fail
        go_region_held3 (fun w' => w'.cell? ⟨w.heap.size, 0, none⟩ = some (.int .i64 x.a) ∧ w'.cell? ⟨w.heap.size + 1, 0, none⟩ = some (.int .i64 y.a)) (simp [go_sem, *])
          (first | (go_at_call 30; refine (Sub_any _ _ fx.a0 fx.a1 fy.a0 fy.a1 _).mono ?_; rw [e1]; rintro e w' ⟨rfl, hb⟩; have q0 := (hb.cell (p := ⟨w.heap.size, 0, none⟩) s0).trans m0; have q1 := (hb.cell (p := ⟨w.heap.size + 1, 0, none⟩) s1).trans m1))
        have J2 := JH.out.later ((Below.refl _ _).drew.trans hb)
        have r0 := J2.r.c0
        have rf := J2.r.f0
        have J3 := J2.put0 (x.a - y.a)
        have bl2 := bl.trans (((Below.refl _ _).drew.trans hb).mono bl.size)
        have sz2 := J2.sz
        clear JH J2 hb bl
        go_wp2_with fail
        go_roundw
        case rel => exact ⟨0 + 1, x.a - y.a, b, c, d, e, rfl, by decide, J3, fun _ => ⟨rfl, HI.out⟩, by omega, by omega, by omega, by omega, bl2.setCell (by simp; omega) _⟩
        case measure => simp [intOf]
      · have e1 := held_out8 _ hi
        have NS : Hid _ := joinS_none0 (· - ·) x y hi
        clear hi
        have w0 := held_bd (x.a - y.a)
        generalize hH : held (x.a - y.a) = H at *
        have HH : Hid _ := hH
        clear hH
        rcases e1 with e1 | ⟨e1, e2⟩
        all_goals
          go_wp2_with fail
          go_region_held3 (fun w' => w'.cell? ⟨w.heap.size, 0, none⟩ = some (.int .i64 x.a) ∧ w'.cell? ⟨w.heap.size + 1, 0, none⟩ = some (.int .i64 y.a)) (simp [go_sem, *])
            (first | (go_at_call 30; refine (Sub_any _ _ fx.a0 fx.a1 fy.a0 fy.a1 _).mono ?_; rw [HH.out]; rintro e w' ⟨rfl, hb⟩; have q0 := (hb.cell (p := ⟨w.heap.size, 0, none⟩) s0).trans m0; have q1 := (hb.cell (p := ⟨w.heap.size + 1, 0, none⟩) s1).trans m1))
          have J2 := JH.out.later ((Below.refl _ _).drew.trans hb)
          obtain ⟨o0, o1, o2, o3, o4, o5, o6, o7, o8, o9⟩ := J2.o
          have bl2 := bl.trans (((Below.refl _ _).drew.trans hb).mono bl.size)
          have sz2 := J2.sz
          clear JH J2 hb bl
          go_wp2_with fail
          refine bodyPost_ret (v := joinV none) (by simp [results, Tryd.results28, go_sem, joinV, dim0, o0, o1, o2, o3, o4]) rfl ⟨by rw [NS.out], ?_⟩
          exact below5 bl2 (by omega) _ _ _ _ _
    obtain _ | k := k
    · have m0 := jm.x.c1
      have m1 := jm.y.c1
      have JH : Hid _ := jm
      clear jm
      by_cases hi : In8 (x.b - y.b)
      · have e1 := held_in8 _ hi
        have e2 : ¬ 8 < x.b - y.b := by have := hi.2; omega
        have e3 : ¬ x.b - y.b < -8 := by have := hi.1; omega
        have w0 : -9223372036854775808 ≤ x.b - y.b := by omega
        have w1 : x.b - y.b ≤ 9223372036854775807 := by omega
        have HI : Hid _ := hi
        clear hi
        go_wp2_with fail
        go_region_held3 (fun w' => w'.cell? ⟨w.heap.size, 1, none⟩ = some (.int .i64 x.b) ∧ w'.cell? ⟨w.heap.size + 1, 1, none⟩ = some (.int .i64 y.b)) (simp [go_sem, *])
          (first | (go_at_call 30; refine (Sub_any _ _ fx.b0 fx.b1 fy.b0 fy.b1 _).mono ?_; rw [e1]; rintro e w' ⟨rfl, hb⟩; have q0 := (hb.cell (p := ⟨w.heap.size, 1, none⟩) s0).trans m0; have q1 := (hb.cell (p := ⟨w.heap.size + 1, 1, none⟩) s1).trans m1))
        have J2 := JH.out.later ((Below.refl _ _).drew.trans hb)
        have r0 := J2.r.c1
        have rf := J2.r.f1
        have J3 := J2.put1 (x.b - y.b)
        have bl2 := bl.trans (((Below.refl _ _).drew.trans hb).mono bl.size)
        have sz2 := J2.sz
        clear JH J2 hb bl
        go_wp2_with fail
        go_roundw
        case rel => exact ⟨1 + 1, a, x.b - y.b, c, d, e, rfl, by decide, J3, fun _ => h0 (by omega), fun _ => ⟨rfl, HI.out⟩, by omega, by omega, by omega, bl2.setCell (by simp; omega) _⟩
        case measure => simp [intOf]
      · have e1 := held_out8 _ hi
        have NS : Hid _ := joinS_none1 (· - ·) x y hi
        clear hi
        have w0 := held_bd (x.b - y.b)
        generalize hH : held (x.b - y.b) = H at *
        have HH : Hid _ := hH
        clear hH
        rcases e1 with e1 | ⟨e1, e2⟩
        all_goals
          go_wp2_with fail
          go_region_held3 (fun w' => w'.cell? ⟨w.heap.size, 1, none⟩ = some (.int .i64 x.b) ∧ w'.cell? ⟨w.heap.size + 1, 1, none⟩ = some (.int .i64 y.b)) (simp [go_sem, *])
            (first | (go_at_call 30; refine (Sub_any _ _ fx.b0 fx.b1 fy.b0 fy.b1 _).mono ?_; rw [HH.out]; rintro e w' ⟨rfl, hb⟩; have q0 := (hb.cell (p := ⟨w.heap.size, 1, none⟩) s0).trans m0; have q1 := (hb.cell (p := ⟨w.heap.size + 1, 1, none⟩) s1).trans m1))
          have J2 := JH.out.later ((Below.refl _ _).drew.trans hb)
          obtain ⟨o0, o1, o2, o3, o4, o5, o6, o7, o8, o9⟩ := J2.o
          have bl2 := bl.trans (((Below.refl _ _).drew.trans hb).mono bl.size)
          have sz2 := J2.sz
          clear JH J2 hb bl
          go_wp2_with fail
          refine bodyPost_ret (v := joinV none) (by simp [results, Tryd.results28, go_sem, joinV, dim0, o0, o1, o2, o3, o4]) rfl ⟨by rw [NS.out], ?_⟩
          exact below5 bl2 (by omega) _ _ _ _ _
    obtain _ | k := k
    · have m0 := jm.x.c2
      have m1 := jm.y.c2
      have JH : Hid _ := jm
      clear jm
      by_cases hi : In8 (x.c - y.c)
      · have e1 := held_in8 _ hi
        have e2 : ¬ 8 < x.c - y.c := by have := hi.2; omega
        have e3 : ¬ x.c - y.c < -8 := by have := hi.1; omega
        have w0 : -9223372036854775808 ≤ x.c - y.c := by omega
        have w1 : x.c - y.c ≤ 9223372036854775807 := by omega
        have HI : Hid _ := hi
        clear hi
        go_wp2_with fail
        go_region_held3 (fun w' => w'.cell? ⟨w.heap.size, 2, none⟩ = some (.int .i64 x.c) ∧ w'.cell? ⟨w.heap.size + 1, 2, none⟩ = some (.int .i64 y.c)) (simp [go_sem, *])
          (first | (go_at_call 30; refine (Sub_any _ _ fx.c0 fx.c1 fy.c0 fy.c1 _).mono ?_; rw [e1]; rintro e w' ⟨rfl, hb⟩; have q0 := (hb.cell (p := ⟨w.heap.size, 2, none⟩) s0).trans m0; have q1 := (hb.cell (p := ⟨w.heap.size + 1, 2, none⟩) s1).trans m1))
        have J2 := JH.out.later ((Below.refl _ _).drew.trans hb)
        have r0 := J2.r.c2
        have rf := J2.r.f2
        have J3 := J2.put2 (x.c - y.c)
        have bl2 := bl.trans (((Below.refl _ _).drew.trans hb).mono bl.size)
        have sz2 := J2.sz
        clear JH J2 hb bl
        go_wp2_with fail
        go_roundw
        case rel => exact ⟨2 + 1, a, b, x.c - y.c, d, e, rfl, by decide, J3, fun _ => h0 (by omega), fun _ => h1 (by omega), fun _ => ⟨rfl, HI.out⟩, by omega, by omega, bl2.setCell (by simp; omega) _⟩
        case measure => simp [intOf]
      · have e1 := held_out8 _ hi
        have NS : Hid _ := joinS_none2 (· - ·) x y hi
        clear hi
        have w0 := held_bd (x.c - y.c)
        generalize hH : held (x.c - y.c) = H at *
        have HH : Hid _ := hH
        clear hH
        rcases e1 with e1 | ⟨e1, e2⟩
        all_goals
          go_wp2_with fail
          go_region_held3 (fun w' => w'.cell? ⟨w.heap.size, 2, none⟩ = some (.int .i64 x.c) ∧ w'.cell? ⟨w.heap.size + 1, 2, none⟩ = some (.int .i64 y.c)) (simp [go_sem, *])
            (first | (go_at_call 30; refine (Sub_any _ _ fx.c0 fx.c1 fy.c0 fy.c1 _).mono ?_; rw [HH.out]; rintro e w' ⟨rfl, hb⟩; have q0 := (hb.cell (p := ⟨w.heap.size, 2, none⟩) s0).trans m0; have q1 := (hb.cell (p := ⟨w.heap.size + 1, 2, none⟩) s1).trans m1))
          have J2 := JH.out.later ((Below.refl _ _).drew.trans hb)
          obtain ⟨o0, o1, o2, o3, o4, o5, o6, o7, o8, o9⟩ := J2.o
          have bl2 := bl.trans (((Below.refl _ _).drew.trans hb).mono bl.size)
          have sz2 := J2.sz
          clear JH J2 hb bl
          go_wp2_with fail
          refine bodyPost_ret (v := joinV none) (by simp [results, Tryd.results28, go_sem, joinV, dim0, o0, o1, o2, o3, o4]) rfl ⟨by rw [NS.out], ?_⟩
          exact below5 bl2 (by omega) _ _ _ _ _
    obtain _ | k := k
    · have m0 := jm.x.c3
      have m1 := jm.y.c3
      have JH : Hid _ := jm
      clear jm
      by_cases hi : In8 (x.d - y.d)
      · have e1 := held_in8 _ hi
        have e2 : ¬ 8 < x.d - y.d := by have := hi.2; omega
        have e3 : ¬ x.d - y.d < -8 := by have := hi.1; omega
        have w0 : -9223372036854775808 ≤ x.d - y.d := by omega
        have w1 : x.d - y.d ≤ 9223372036854775807 := by omega
        have HI : Hid _ := hi
        clear hi
        go_wp2_with fail
        go_region_held3 (fun w' => w'.cell? ⟨w.heap.size, 3, none⟩ = some (.int .i64 x.d) ∧ w'.cell? ⟨w.heap.size + 1, 3, none⟩ = some (.int .i64 y.d)) (simp [go_sem, *])
          (first | (go_at_call 30; refine (Sub_any _ _ fx.d0 fx.d1 fy.d0 fy.d1 _).mono ?_; rw [e1]; rintro e w' ⟨rfl, hb⟩; have q0 := (hb.cell (p := ⟨w.heap.size, 3, none⟩) s0).trans m0; have q1 := (hb.cell (p := ⟨w.heap.size + 1, 3, none⟩) s1).trans m1))
        have J2 := JH.out.later ((Below.refl _ _).drew.trans hb)
        have r0 := J2.r.c3
        have rf := J2.r.f3
        have J3 := J2.put3 (x.d - y.d)
        have bl2 := bl.trans (((Below.refl _ _).drew.trans hb).mono bl.size)
        have sz2 := J2.sz
        clear JH J2 hb bl
        go_wp2_with fail
        go_roundw
        case rel => exact ⟨3 + 1, a, b, c, x.d - y.d, e, rfl, by decide, J3, fun _ => h0 (by omega), fun _ => h1 (by omega), fun _ => h2 (by omega), fun _ => ⟨rfl, HI.out⟩, by omega, bl2.setCell (by simp; omega) _⟩
        case measure => simp [intOf]
      · have e1 := held_out8 _ hi
        have NS : Hid _ := joinS_none3 (· - ·) x y hi
        clear hi
        have w0 := held_bd (x.d - y.d)
        generalize hH : held (x.d - y.d) = H at *
        have HH : Hid _ := hH
        clear hH
        rcases e1 with e1 | ⟨e1, e2⟩
        all_goals
          go_wp2_with fail
          go_region_held3 (fun w' => w'.cell? ⟨w.heap.size, 3, none⟩ = some (.int .i64 x.d) ∧ w'.cell? ⟨w.heap.size + 1, 3, none⟩ = some (.int .i64 y.d)) (simp [go_sem, *])
            (first | (go_at_call 30; refine (Sub_any _ _ fx.d0 fx.d1 fy.d0 fy.d1 _).mono ?_; rw [HH.out]; rintro e w' ⟨rfl, hb⟩; have q0 := (hb.cell (p := ⟨w.heap.size, 3, none⟩) s0).trans m0; have q1 := (hb.cell (p := ⟨w.heap.size + 1, 3, none⟩) s1).trans m1))
          have J2 := JH.out.later ((Below.refl _ _).drew.trans hb)
          obtain ⟨o0, o1, o2, o3, o4, o5, o6, o7, o8, o9⟩ := J2.o
          have bl2 := bl.trans (((Below.refl _ _).drew.trans hb).mono bl.size)
          have sz2 := J2.sz
          clear JH J2 hb bl
          go_wp2_with fail
          refine bodyPost_ret (v := joinV none) (by simp [results, Tryd.results28, go_sem, joinV, dim0, o0, o1, o2, o3, o4]) rfl ⟨by rw [NS.out], ?_⟩
          exact below5 bl2 (by omega) _ _ _ _ _
    obtain _ | k := k
    · have m0 := jm.x.c4
      have m1 := jm.y.c4
      have JH : Hid _ := jm
      clear jm
      by_cases hi : In8 (x.e - y.e)
      · have e1 := held_in8 _ hi
        have e2 : ¬ 8 < x.e - y.e := by have := hi.2; omega
        have e3 : ¬ x.e - y.e < -8 := by have := hi.1; omega
        have w0 : -9223372036854775808 ≤ x.e - y.e := by omega
        have w1 : x.e - y.e ≤ 9223372036854775807 := by omega
        have HI : Hid _ := hi
        clear hi
        go_wp2_with fail
        go_region_held3 (fun w' => w'.cell? ⟨w.heap.size, 4, none⟩ = some (.int .i64 x.e) ∧ w'.cell? ⟨w.heap.size + 1, 4, none⟩ = some (.int .i64 y.e)) (simp [go_sem, *])
          (first | (go_at_call 30; refine (Sub_any _ _ fx.e0 fx.e1 fy.e0 fy.e1 _).mono ?_; rw [e1]; rintro e w' ⟨rfl, hb⟩; have q0 := (hb.cell (p := ⟨w.heap.size, 4, none⟩) s0).trans m0; have q1 := (hb.cell (p := ⟨w.heap.size + 1, 4, none⟩) s1).trans m1))
        have J2 := JH.out.later ((Below.refl _ _).drew.trans hb)
        have r0 := J2.r.c4
        have rf := J2.r.f4
        have J3 := J2.put4 (x.e - y.e)
        have bl2 := bl.trans (((Below.refl _ _).drew.trans hb).mono bl.size)
        have sz2 := J2.sz
        clear JH J2 hb bl
        go_wp2_with fail
        go_roundw
        case rel => exact ⟨4 + 1, a, b, c, d, x.e - y.e, rfl, by decide, J3, fun _ => h0 (by omega), fun _ => h1 (by omega), fun _ => h2 (by omega), fun _ => h3 (by omega), fun _ => ⟨rfl, HI.out⟩, bl2.setCell (by simp; omega) _⟩
        case measure => simp [intOf]
      · have e1 := held_out8 _ hi
        have NS : Hid _ := joinS_none4 (· - ·) x y hi
        clear hi
        have w0 := held_bd (x.e - y.e)
        generalize hH : held (x.e - y.e) = H at *
        have HH : Hid _ := hH
        clear hH
        rcases e1 with e1 | ⟨e1, e2⟩
        all_goals
          go_wp2_with fail
          go_region_held3 (fun w' => w'.cell? ⟨w.heap.size, 4, none⟩ = some (.int .i64 x.e) ∧ w'.cell? ⟨w.heap.size + 1, 4, none⟩ = some (.int .i64 y.e)) (simp [go_sem, *])
            (first | (go_at_call 30; refine (Sub_any _ _ fx.e0 fx.e1 fy.e0 fy.e1 _).mono ?_; rw [HH.out]; rintro e w' ⟨rfl, hb⟩; have q0 := (hb.cell (p := ⟨w.heap.size, 4, none⟩) s0).trans m0; have q1 := (hb.cell (p := ⟨w.heap.size + 1, 4, none⟩) s1).trans m1))
          have J2 := JH.out.later ((Below.refl _ _).drew.trans hb)
          obtain ⟨o0, o1, o2, o3, o4, o5, o6, o7, o8, o9⟩ := J2.o
          have bl2 := bl.trans (((Below.refl _ _).drew.trans hb).mono bl.size)
          have sz2 := J2.sz
          clear JH J2 hb bl
          go_wp2_with fail
          refine bodyPost_ret (v := joinV none) (by simp [results, Tryd.results28, go_sem, joinV, dim0, o0, o1, o2, o3, o4]) rfl ⟨by rw [NS.out], ?_⟩
          exact below5 bl2 (by omega) _ _ _ _ _
    · obtain rfl : k = 0 := by omega
      obtain ⟨rfl, i0⟩ := h0 (by omega)
      obtain ⟨rfl, i1⟩ := h1 (by omega)
      obtain ⟨rfl, i2⟩ := h2 (by omega)
      obtain ⟨rfl, i3⟩ := h3 (by omega)
      obtain ⟨rfl, i4⟩ := h4 (by omega)
      have NS : Hid _ := joinS_some (· - ·) x y ⟨i0, i1, i2, i3, i4⟩
      clear i0 i1 i2 i3 i4 h0 h1 h2 h3 h4
      obtain ⟨o0, o1, o2, o3, o4, o5, o6, o7, o8, o9⟩ := jm.o
      obtain ⟨r0, r1, r2, r3, r4, r5, r6, r7, r8, r9⟩ := jm.r
      clear jm
      go_wp2_with fail
      refine bodyPost_ret (v := .tuple #[dimV ⟨x.a - y.a, x.b - y.b, x.c - y.c, x.d - y.d, x.e - y.e⟩, .bool true]) (by simp [results, Tryd.results28, go_sem, o0, o1, o2, o3, o4]) rfl ⟨by rw [NS.out]; rfl, ?_⟩
      exact below5 bl (by omega) _ _ _ _ _
end Go.Proofs.YtjmngnnmnbhfpaaDoor
