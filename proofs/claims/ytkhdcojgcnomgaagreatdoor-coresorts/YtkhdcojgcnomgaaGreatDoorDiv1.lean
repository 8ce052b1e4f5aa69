/- math/bits.Div64: whatever word pair is divided by a greater word, the quotient and the rest are the right ones. -/
import Derived.Test.YtkhdcojgcnomgaaGreatDoorWide2
import Derived.Test.YtkhdcojgcnomgaaGreatDoorLen
import Derived.Test.YtkhdcojgcnomgaaGreatDoorKnuth
namespace Go.Proofs.YtkhdcojgcnomgaaGreatDoor
open Go.RowKit

theorem tdiv_word (U y1 : Int) (U0 : 0 ≤ U) (U1 : U < 18446744073709551616) (h : 0 < y1) : IntKind.u64.wrap (U.tdiv y1) = U / y1 := by
  rw [Int.tdiv_eq_ediv_of_nonneg U0, IntKind.wrap_u64]
  have h0 := Int.ediv_nonneg U0 (Int.le_of_lt h)
  have h1 := Int.ediv_le_self y1 U0
  exact Int.emod_eq_of_lt h0 (by omega)
theorem rest_word (U y1 : Int) (U0 : 0 ≤ U) (U1 : U < 18446744073709551616) (h : 0 < y1) : IntKind.u64.wrap (U - IntKind.u64.wrap (U / y1 * y1)) = U % y1 := by
  have h1 := Int.ediv_mul_add_emod U y1
  have h2 := Int.emod_nonneg U (show y1 ≠ 0 by omega)
  have h3 := Int.emod_lt_of_pos U h
  have h4 : 0 ≤ U / y1 * y1 := Int.mul_nonneg (Int.ediv_nonneg U0 (Int.le_of_lt h)) (Int.le_of_lt h)
  rw [IntKind.wrap_u64, IntKind.wrap_u64]
  generalize U / y1 * y1 = p at *
  generalize U % y1 = m at *
  omega
theorem dig_bd {u y1 y0 d q r : Int} (n : Norm u y1 y0 d) (g : Dig u y1 y0 d q r) : q ≤ 8589934592 := by
  obtain ⟨a1, a2, a3, a4, a5, a6, a7, a8⟩ := n
  obtain ⟨g1, g2, g3, g4⟩ := g
  have h := Int.mul_le_mul_of_nonneg_left a3 g3
  generalize q * y1 = p at *
  omega
theorem half_bd (q n0 : Int) (q0 : 0 ≤ q) (q1 : q < 4294967296) (a1 : 0 ≤ n0) (a2 : n0 < 4294967296) : q * n0 < 18446744073709551616 := by
  have h1 := Int.mul_le_mul_of_nonneg_right (show q ≤ 4294967295 by omega) a1
  generalize q * n0 = p at *
  omega
theorem wrap_digit (U d1 Q Y : Int) (hY : Y < 18446744073709551616) (e2 : 0 ≤ U * 4294967296 + d1 - Q * Y) (e3 : U * 4294967296 + d1 - Q * Y < Y) : IntKind.u64.wrap (IntKind.u64.wrap (IntKind.u64.wrap (U * 4294967296) + d1) - IntKind.u64.wrap (Q * Y)) = U * 4294967296 + d1 - Q * Y := by
  simp only [IntKind.wrap_u64]
  generalize Q * Y = p at *
  omega
set_option maxHeartbeats 4000000 in
theorem div64_any (h l y : Int) (h0 : 0 < h) (hy : h < y) (y1 : y ≤ 9223372036854775808) (l0 : 0 ≤ l) (l1 : l < 18446744073709551616) (w : World) :
    Calls Tryz.prog 179 #[.int .u64 h, .int .u64 l, .int .u64 y] w fun e w' => ∃ q r, e = .returned (.tuple #[.int .u64 q, .int .u64 r]) ∧ Quo (h * 18446744073709551616 + l) y q r ∧ Below w.heap.size w w' := by
  have k1 : (y == 0) = false := beq_eq_false_iff_ne.2 (by omega)
  have k2 : ¬ y ≤ h := by omega
  have k3 : (h == 0) = false := beq_eq_false_iff_ne.2 (by omega)
  go_enter Tryz.func179, Tryz.ntmps179
  go_wp2_with fail
  refine (lead64 y (by omega) (by omega) _).mono ?_
  rintro e w1 ⟨s, rfl, s1, z0, z1, rfl⟩
  go_wp2_with fail
  obtain ⟨f1, f2, f3⟩ := shift_up h l y s (by omega) hy l0 l1 s1 z1
  generalize hU : bits .or .u64 (IntKind.u64.wrap (h * 2 ^ s)) (l / 2 ^ (64 - s)) = U at *
  have v0 := (wrap_word (l * 2 ^ s)).1
  have v1 := (wrap_word (l * 2 ^ s)).2
  generalize hv : IntKind.u64.wrap (l * 2 ^ s) = v at *
  generalize hY : y * 2 ^ s = Y at *
  have F1 : Hid _ := f1
  have HY : Hid _ := hY
  clear hU hv hY f1
  have f3' : U < 18446744073709551616 := by omega
  simp only [and_low32 Y (by omega) z1, and_low32 v v0 v1, tdiv_word U (Y / 4294967296) f2 f3' (by omega), rest_word U (Y / 4294967296) f2 f3' (by omega)]
  have nm : Norm U (Y / 4294967296) (Y % 4294967296) (v / 4294967296) := ⟨by omega, by omega, by omega, by omega, f2, by omega, by omega, by omega⟩
  obtain ⟨st, st'⟩ := dig_start nm
  have nY : Y = Y / 4294967296 * 4294967296 + Y % 4294967296 := by omega
  have NY : Hid _ := nY
  have nv : v = v / 4294967296 * 4294967296 + v % 4294967296 := by omega
  have NV : Hid _ := nv
  have b0 : 0 ≤ v % 4294967296 := by omega
  have b1 : v % 4294967296 < 4294967296 := by omega
  clear nY nv
  generalize Y / 4294967296 = n1 at *
  generalize Y % 4294967296 = n0 at *
  generalize v / 4294967296 = d1 at *
  generalize v % 4294967296 = d0 at *
  generalize U / n1 = qa at *
  generalize U % n1 = ra at *
  have a1 := nm.y00
  have a2 := nm.y01
  have a3 := nm.y10
  have a4 := nm.y11
  have a5 := nm.d0
  have a6 := nm.d1
  have n1p : 0 < n1 := by omega
  go_loop [15, 16] (fun a b => ∃ q r : Int, a = .int .u64 q ∧ b = .int .u64 r ∧ Dig U n1 n0 d1 q r ∧ r < 4294967296) (fun _ b => (4294967296 - intOf b).toNat)
  case atStart => exact ⟨qa, ra, rfl, rfl, st, st'⟩
  case round =>
    obtain ⟨q, r, rfl, rfl, hdg, hr⟩ := hrel
    have r0 := hdg.r0
    have q0 := hdg.q0
    have qm := dig_bd nm hdg
    by_cases hq : 4294967296 ≤ q
    · obtain ⟨nx, q1⟩ := dig_less nm hdg (.inl hq)
      by_cases hx : 4294967296 ≤ r + n1
      · obtain ⟨gQ1, e2, e3⟩ := dig_break nm nx hx
        have gQ0 := nx.q0
        rw [← NY.out] at e2 e3
        go_wp2_with fail
        generalize q - 1 = Q at *
        clear hdg nx qm hq hx hr r0 q0 q1 st st'
        rw [wrap_digit U d1 Q Y z1 e2 e3]
        have e4 : U * 4294967296 + d1 - Q * Y < 18446744073709551616 := by omega
        simp only [tdiv_word _ n1 e2 e4 n1p, rest_word _ n1 e2 e4 n1p]
        generalize hm : U * 4294967296 + d1 - Q * Y = m at *
        have HM : Hid _ := hm.symm
        clear hm
        have nm2 : Norm m n1 n0 d0 := ⟨a1, a2, a3, a4, e2, by rw [← NY.out]; exact e3, b0, b1⟩
        obtain ⟨sta, stb⟩ := dig_start nm2
        generalize m / n1 = qb at *
        generalize m % n1 = rb at *
        go_loop [18, 16] (fun a b => ∃ q r : Int, a = .int .u64 q ∧ b = .int .u64 r ∧ Dig m n1 n0 d0 q r ∧ r < 4294967296) (fun _ b => (4294967296 - intOf b).toNat)
        case atStart => exact ⟨qb, rb, rfl, rfl, sta, stb⟩
        case round =>
          obtain ⟨q, r, rfl, rfl, hdg, hr⟩ := hrel
          have r0 := hdg.r0
          have q0 := hdg.q0
          have qm := dig_bd nm2 hdg
          by_cases hq : 4294967296 ≤ q
          · obtain ⟨nx, q1⟩ := dig_less nm2 hdg (.inl hq)
            by_cases hx : 4294967296 ≤ r + n1
            · obtain ⟨gz1, t2, t3⟩ := dig_break nm2 nx hx
              have gz0 := nx.q0
              rw [← NY.out] at t2 t3
              go_wp2_with fail
              generalize q - 1 = qz at *
              rw [wrap_digit m d0 qz Y z1 t2 t3]
              generalize hR : m * 4294967296 + d0 - qz * Y = R at *
              have hP : (0 : Int) < 2 ^ s := Int.pow_pos (by decide)
              have en := knuth_end (N := h * 18446744073709551616 + l) (y := y) (P := 2 ^ s) (U := U) (Y := Y) (u1 := d1) (u0 := d0) (q1 := Q) (q0 := qz) (m := m) (R := R) hP HY.out.symm (by rw [← NV.out]; exact F1.out) HM.out hR.symm t2 t3
              go_ret2
              exact ⟨_, _, rfl, ⟨en.1, en.2.1, en.2.2, by omega, by omega⟩, Below.refl _ _⟩
            · go_wp2_with fail
              go_round
              case rel => exact ⟨q - 1, r + n1, rfl, rfl, nx, by omega⟩
              case measure => simp [intOf]; omega
          · have p0 : 0 ≤ q * n0 := Int.mul_nonneg q0 a1
            have p1 : q * n0 < 18446744073709551616 := half_bd q n0 q0 (by omega) a1 a2
            by_cases hc : 4294967296 * r + d0 < q * n0
            · obtain ⟨nx, q1⟩ := dig_less nm2 hdg (.inr hc)
              by_cases hx : 4294967296 ≤ r + n1
              · obtain ⟨gz1, t2, t3⟩ := dig_break nm2 nx hx
                have gz0 := nx.q0
                rw [← NY.out] at t2 t3
                go_wp2_with fail
                generalize q - 1 = qz at *
                rw [wrap_digit m d0 qz Y z1 t2 t3]
                generalize hR : m * 4294967296 + d0 - qz * Y = R at *
                have hP : (0 : Int) < 2 ^ s := Int.pow_pos (by decide)
                have en := knuth_end (N := h * 18446744073709551616 + l) (y := y) (P := 2 ^ s) (U := U) (Y := Y) (u1 := d1) (u0 := d0) (q1 := Q) (q0 := qz) (m := m) (R := R) hP HY.out.symm (by rw [← NV.out]; exact F1.out) HM.out hR.symm t2 t3
                go_ret2
                exact ⟨_, _, rfl, ⟨en.1, en.2.1, en.2.2, by omega, by omega⟩, Below.refl _ _⟩
              · go_wp2_with fail
                go_round
                case rel => exact ⟨q - 1, r + n1, rfl, rfl, nx, by omega⟩
                case measure => simp [intOf]; omega
            · obtain ⟨t2, t3⟩ := dig_done hdg (by omega)
              have gz0 := hdg.q0
              have gz1 : q < 4294967296 := by omega
              rw [← NY.out] at t2 t3
              go_wp2_with fail
              generalize q = qz at *
              rw [wrap_digit m d0 qz Y z1 t2 t3]
              generalize hR : m * 4294967296 + d0 - qz * Y = R at *
              have hP : (0 : Int) < 2 ^ s := Int.pow_pos (by decide)
              have en := knuth_end (N := h * 18446744073709551616 + l) (y := y) (P := 2 ^ s) (U := U) (Y := Y) (u1 := d1) (u0 := d0) (q1 := Q) (q0 := qz) (m := m) (R := R) hP HY.out.symm (by rw [← NV.out]; exact F1.out) HM.out hR.symm t2 t3
              go_ret2
              exact ⟨_, _, rfl, ⟨en.1, en.2.1, en.2.2, by omega, by omega⟩, Below.refl _ _⟩
      · go_wp2_with fail
        go_round
        case rel => exact ⟨q - 1, r + n1, rfl, rfl, nx, by omega⟩
        case measure => simp [intOf]; omega
    · have p0 : 0 ≤ q * n0 := Int.mul_nonneg q0 a1
      have p1 : q * n0 < 18446744073709551616 := half_bd q n0 q0 (by omega) a1 a2
      by_cases hc : 4294967296 * r + d1 < q * n0
      · obtain ⟨nx, q1⟩ := dig_less nm hdg (.inr hc)
        by_cases hx : 4294967296 ≤ r + n1
        · obtain ⟨gQ1, e2, e3⟩ := dig_break nm nx hx
          have gQ0 := nx.q0
          rw [← NY.out] at e2 e3
          go_wp2_with fail
          generalize q - 1 = Q at *
          clear hdg nx qm hq hc hx hr r0 q0 q1 p0 p1 st st'
          rw [wrap_digit U d1 Q Y z1 e2 e3]
          have e4 : U * 4294967296 + d1 - Q * Y < 18446744073709551616 := by omega
          simp only [tdiv_word _ n1 e2 e4 n1p, rest_word _ n1 e2 e4 n1p]
          generalize hm : U * 4294967296 + d1 - Q * Y = m at *
          have HM : Hid _ := hm.symm
          clear hm
          have nm2 : Norm m n1 n0 d0 := ⟨a1, a2, a3, a4, e2, by rw [← NY.out]; exact e3, b0, b1⟩
          obtain ⟨sta, stb⟩ := dig_start nm2
          generalize m / n1 = qb at *
          generalize m % n1 = rb at *
          go_loop [18, 16] (fun a b => ∃ q r : Int, a = .int .u64 q ∧ b = .int .u64 r ∧ Dig m n1 n0 d0 q r ∧ r < 4294967296) (fun _ b => (4294967296 - intOf b).toNat)
          case atStart => exact ⟨qb, rb, rfl, rfl, sta, stb⟩
          case round =>
            obtain ⟨q, r, rfl, rfl, hdg, hr⟩ := hrel
            have r0 := hdg.r0
            have q0 := hdg.q0
            have qm := dig_bd nm2 hdg
            by_cases hq : 4294967296 ≤ q
            · obtain ⟨nx, q1⟩ := dig_less nm2 hdg (.inl hq)
              by_cases hx : 4294967296 ≤ r + n1
              · obtain ⟨gz1, t2, t3⟩ := dig_break nm2 nx hx
                have gz0 := nx.q0
                rw [← NY.out] at t2 t3
                go_wp2_with fail
                generalize q - 1 = qz at *
                rw [wrap_digit m d0 qz Y z1 t2 t3]
                generalize hR : m * 4294967296 + d0 - qz * Y = R at *
                have hP : (0 : Int) < 2 ^ s := Int.pow_pos (by decide)
                have en := knuth_end (N := h * 18446744073709551616 + l) (y := y) (P := 2 ^ s) (U := U) (Y := Y) (u1 := d1) (u0 := d0) (q1 := Q) (q0 := qz) (m := m) (R := R) hP HY.out.symm (by rw [← NV.out]; exact F1.out) HM.out hR.symm t2 t3
                go_ret2
                exact ⟨_, _, rfl, ⟨en.1, en.2.1, en.2.2, by omega, by omega⟩, Below.refl _ _⟩
              · go_wp2_with fail
                go_round
                case rel => exact ⟨q - 1, r + n1, rfl, rfl, nx, by omega⟩
                case measure => simp [intOf]; omega
            · have p0 : 0 ≤ q * n0 := Int.mul_nonneg q0 a1
              have p1 : q * n0 < 18446744073709551616 := half_bd q n0 q0 (by omega) a1 a2
              by_cases hc : 4294967296 * r + d0 < q * n0
              · obtain ⟨nx, q1⟩ := dig_less nm2 hdg (.inr hc)
                by_cases hx : 4294967296 ≤ r + n1
                · obtain ⟨gz1, t2, t3⟩ := dig_break nm2 nx hx
                  have gz0 := nx.q0
                  rw [← NY.out] at t2 t3
                  go_wp2_with fail
                  generalize q - 1 = qz at *
                  rw [wrap_digit m d0 qz Y z1 t2 t3]
                  generalize hR : m * 4294967296 + d0 - qz * Y = R at *
                  have hP : (0 : Int) < 2 ^ s := Int.pow_pos (by decide)
                  have en := knuth_end (N := h * 18446744073709551616 + l) (y := y) (P := 2 ^ s) (U := U) (Y := Y) (u1 := d1) (u0 := d0) (q1 := Q) (q0 := qz) (m := m) (R := R) hP HY.out.symm (by rw [← NV.out]; exact F1.out) HM.out hR.symm t2 t3
                  go_ret2
                  exact ⟨_, _, rfl, ⟨en.1, en.2.1, en.2.2, by omega, by omega⟩, Below.refl _ _⟩
                · go_wp2_with fail
                  go_round
                  case rel => exact ⟨q - 1, r + n1, rfl, rfl, nx, by omega⟩
                  case measure => simp [intOf]; omega
              · obtain ⟨t2, t3⟩ := dig_done hdg (by omega)
                have gz0 := hdg.q0
                have gz1 : q < 4294967296 := by omega
                rw [← NY.out] at t2 t3
                go_wp2_with fail
                generalize q = qz at *
                rw [wrap_digit m d0 qz Y z1 t2 t3]
                generalize hR : m * 4294967296 + d0 - qz * Y = R at *
                have hP : (0 : Int) < 2 ^ s := Int.pow_pos (by decide)
                have en := knuth_end (N := h * 18446744073709551616 + l) (y := y) (P := 2 ^ s) (U := U) (Y := Y) (u1 := d1) (u0 := d0) (q1 := Q) (q0 := qz) (m := m) (R := R) hP HY.out.symm (by rw [← NV.out]; exact F1.out) HM.out hR.symm t2 t3
                go_ret2
                exact ⟨_, _, rfl, ⟨en.1, en.2.1, en.2.2, by omega, by omega⟩, Below.refl _ _⟩
        · go_wp2_with fail
          go_round
          case rel => exact ⟨q - 1, r + n1, rfl, rfl, nx, by omega⟩
          case measure => simp [intOf]; omega
      · obtain ⟨e2, e3⟩ := dig_done hdg (by omega)
        have gQ0 := hdg.q0
        have gQ1 : q < 4294967296 := by omega
        rw [← NY.out] at e2 e3
        go_wp2_with fail
        generalize q = Q at *
        clear hdg qm hq hc hr r0 q0 p0 p1 st st'
        rw [wrap_digit U d1 Q Y z1 e2 e3]
        have e4 : U * 4294967296 + d1 - Q * Y < 18446744073709551616 := by omega
        simp only [tdiv_word _ n1 e2 e4 n1p, rest_word _ n1 e2 e4 n1p]
        generalize hm : U * 4294967296 + d1 - Q * Y = m at *
        have HM : Hid _ := hm.symm
        clear hm
        have nm2 : Norm m n1 n0 d0 := ⟨a1, a2, a3, a4, e2, by rw [← NY.out]; exact e3, b0, b1⟩
        obtain ⟨sta, stb⟩ := dig_start nm2
        generalize m / n1 = qb at *
        generalize m % n1 = rb at *
        go_loop [18, 16] (fun a b => ∃ q r : Int, a = .int .u64 q ∧ b = .int .u64 r ∧ Dig m n1 n0 d0 q r ∧ r < 4294967296) (fun _ b => (4294967296 - intOf b).toNat)
        case atStart => exact ⟨qb, rb, rfl, rfl, sta, stb⟩
        case round =>
          obtain ⟨q, r, rfl, rfl, hdg, hr⟩ := hrel
          have r0 := hdg.r0
          have q0 := hdg.q0
          have qm := dig_bd nm2 hdg
          by_cases hq : 4294967296 ≤ q
          · obtain ⟨nx, q1⟩ := dig_less nm2 hdg (.inl hq)
            by_cases hx : 4294967296 ≤ r + n1
            · obtain ⟨gz1, t2, t3⟩ := dig_break nm2 nx hx
              have gz0 := nx.q0
              rw [← NY.out] at t2 t3
              go_wp2_with fail
              generalize q - 1 = qz at *
              rw [wrap_digit m d0 qz Y z1 t2 t3]
              generalize hR : m * 4294967296 + d0 - qz * Y = R at *
              have hP : (0 : Int) < 2 ^ s := Int.pow_pos (by decide)
              have en := knuth_end (N := h * 18446744073709551616 + l) (y := y) (P := 2 ^ s) (U := U) (Y := Y) (u1 := d1) (u0 := d0) (q1 := Q) (q0 := qz) (m := m) (R := R) hP HY.out.symm (by rw [← NV.out]; exact F1.out) HM.out hR.symm t2 t3
              go_ret2
              exact ⟨_, _, rfl, ⟨en.1, en.2.1, en.2.2, by omega, by omega⟩, Below.refl _ _⟩
            · go_wp2_with fail
              go_round
              case rel => exact ⟨q - 1, r + n1, rfl, rfl, nx, by omega⟩
              case measure => simp [intOf]; omega
          · have p0 : 0 ≤ q * n0 := Int.mul_nonneg q0 a1
            have p1 : q * n0 < 18446744073709551616 := half_bd q n0 q0 (by omega) a1 a2
            by_cases hc : 4294967296 * r + d0 < q * n0
            · obtain ⟨nx, q1⟩ := dig_less nm2 hdg (.inr hc)
              by_cases hx : 4294967296 ≤ r + n1
              · obtain ⟨gz1, t2, t3⟩ := dig_break nm2 nx hx
                have gz0 := nx.q0
                rw [← NY.out] at t2 t3
                go_wp2_with fail
                generalize q - 1 = qz at *
                rw [wrap_digit m d0 qz Y z1 t2 t3]
                generalize hR : m * 4294967296 + d0 - qz * Y = R at *
                have hP : (0 : Int) < 2 ^ s := Int.pow_pos (by decide)
                have en := knuth_end (N := h * 18446744073709551616 + l) (y := y) (P := 2 ^ s) (U := U) (Y := Y) (u1 := d1) (u0 := d0) (q1 := Q) (q0 := qz) (m := m) (R := R) hP HY.out.symm (by rw [← NV.out]; exact F1.out) HM.out hR.symm t2 t3
                go_ret2
                exact ⟨_, _, rfl, ⟨en.1, en.2.1, en.2.2, by omega, by omega⟩, Below.refl _ _⟩
              · go_wp2_with fail
                go_round
                case rel => exact ⟨q - 1, r + n1, rfl, rfl, nx, by omega⟩
                case measure => simp [intOf]; omega
            · obtain ⟨t2, t3⟩ := dig_done hdg (by omega)
              have gz0 := hdg.q0
              have gz1 : q < 4294967296 := by omega
              rw [← NY.out] at t2 t3
              go_wp2_with fail
              generalize q = qz at *
              rw [wrap_digit m d0 qz Y z1 t2 t3]
              generalize hR : m * 4294967296 + d0 - qz * Y = R at *
              have hP : (0 : Int) < 2 ^ s := Int.pow_pos (by decide)
              have en := knuth_end (N := h * 18446744073709551616 + l) (y := y) (P := 2 ^ s) (U := U) (Y := Y) (u1 := d1) (u0 := d0) (q1 := Q) (q0 := qz) (m := m) (R := R) hP HY.out.symm (by rw [← NV.out]; exact F1.out) HM.out hR.symm t2 t3
              go_ret2
              exact ⟨_, _, rfl, ⟨en.1, en.2.1, en.2.2, by omega, by omega⟩, Below.refl _ _⟩

/-- Every division by words that 'over' makes goes well. -/
theorem divOK_any (n D : Int) (hD : 0 < D) (hD' : D ≤ 9223372036854775808) : DivOK n D := by
  intro x1 x0 q1 r1 w rx hq
  by_cases h : r1 = 0
  · subst h
    rw [Int.zero_mul, Int.zero_add]
    exact div64_z x0 D rx.lo0 rx.lo1 hD w
  · exact div64_any r1 x0 D (by have := hq.r0; omega) hq.r1 hD' rx.lo0 rx.lo1 w
end Go.Proofs.YtkhdcojgcnomgaaGreatDoor
