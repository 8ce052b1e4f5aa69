/- The statement DimProducts: the walk of her Go text. -/
import Derived.Test.YtjmngnnmnbhfpaaDoorProdP
import Derived.Test.YtjmngnnmnbhfpaaDoorGroup
import Derived.Test.YtjmngnnmnbhfpaaDoorValues
import Derived.SizedLaws
namespace Go.Proofs.YtjmngnnmnbhfpaaDoor
open Go.RowKit

theorem ok_fits {u : U5} (h : u.Ok) : UFits u := by
  obtain ⟨h1, h2, h3, h4, _⟩ := h
  constructor <;> omega
theorem scale_one (p n : Int) (p0 : 0 ≤ p) (n0 : 1 ≤ n) : held (held p * n) = held (p * n) := by
  have h1 : p ≤ p * n := by
    have := Int.mul_le_mul_of_nonneg_left n0 p0
    omega
  unfold held
  by_cases h : 9223372036854775807 < p
  · rw [if_neg (show ¬ p < -9223372036854775808 by omega), if_pos h]
    have h2 : (9223372036854775807 : Int) ≤ 9223372036854775807 * n := by omega
    rw [if_neg (show ¬ p * n < -9223372036854775808 by omega), if_pos (show 9223372036854775807 < p * n by omega)]
    by_cases e : (9223372036854775807 : Int) < 9223372036854775807 * n
    · rw [if_neg (by omega), if_pos e]
    · rw [if_neg (by omega), if_neg e]; omega
  · rw [if_neg (show ¬ p < -9223372036854775808 by omega), if_neg h]
theorem scale_star (u v x : U5) (hu : u.Ok) (hv : v.Ok) (hx : x.Ok) (h : Rel u x v) (u1 : u.den = 1) (v1 : v.den = 1) : scaleS 1000000000 x.num x.den = scaleS (scaleS 1000000000 u.num u.den) v.num v.den := by
  have q := h.q
  rw [u1, v1, Int.one_mul, Int.mul_one] at q
  have a1 := hu.n0
  have a2 := hv.n0
  have a3 := hx.n0
  have a4 := hx.d0
  unfold scaleS
  rw [if_neg (by omega), if_neg (by omega), if_neg (by omega), u1, v1, Int.ediv_one, Int.ediv_one, scale_one _ _ (by omega) (by omega), q]
  congr 1
  rw [Int.mul_left_comm, Int.mul_ediv_cancel_left _ (by omega), Int.mul_assoc]
theorem join_star (u v x : U5) (hx : x.Ok) (h : Rel u x v) : joinS (· + ·) u.dim v.dim = some x.dim := by
  have e : x.dim = ⟨u.dim.a + v.dim.a, u.dim.b + v.dim.b, u.dim.c + v.dim.c, u.dim.d + v.dim.d, u.dim.e + v.dim.e⟩ := by
    cases hd : x.dim
    have h1 := h.a; have h2 := h.b; have h3 := h.c; have h4 := h.d; have h5 := h.e
    rw [hd] at h1 h2 h3 h4 h5
    simp only at h1 h2 h3 h4 h5
    rw [h1, h2, h3, h4, h5]
  have i1 := hx.a; have i2 := hx.b; have i3 := hx.c; have i4 := hx.d; have i5 := hx.e
  rw [e] at i1 i2 i3 i4 i5
  rw [joinS_some (· + ·) u.dim v.dim ⟨i1, i2, i3, i4, i5⟩, e]
theorem star_bytes (a b : ByteArray) : ((a ++ ⟨#[42]⟩) ++ b).data.toList = a.data.toList ++ 42 :: b.data.toList := by
  rw [ByteArray.data_append, ByteArray.data_append, Array.toList_append, Array.toList_append]
  simp

set_option maxHeartbeats 8000000 in
theorem dimProducts_walk (a b : ByteArray) (ha : a.data.toList.length ≤ reachBytes) (hb : b.data.toList.length ≤ reachBytes) (w : World) (hN : NamesAt w) :
    Calls Tryd.prog 8 #[.string a, .string b] w fun e w' => e = .returned (.bool true) ∧ Below w.heap.size w w' := by
  have la : a.data.toList.length = a.size := rfl
  have lb : b.data.toList.length = b.size := rfl
  have hr := reachBytes_lt
  have za : a.size ≤ 140737488355328 := by omega
  have zb : b.size ≤ 140737488355328 := by omega
  have s1 : ∀ wx, (Op.stringOp .add a ⟨#[42]⟩).run Tryd.prog wx = .ok (.string (a ++ ⟨#[42]⟩)) wx := fun wx => run_string_add_sum (P := Tryd.prog) wx a ⟨#[42]⟩ (by have : (ByteArray.mk #[42]).size = 1 := rfl; omega)
  have s2 : ∀ wx, (Op.stringOp .add (a ++ ⟨#[42]⟩) b).run Tryd.prog wx = .ok (.string ((a ++ ⟨#[42]⟩) ++ b)) wx := fun wx => run_string_add_sum (P := Tryd.prog) wx (a ++ ⟨#[42]⟩) b (by rw [ByteArray.size_append]; have : (ByteArray.mk #[42]).size = 1 := rfl; omega)
  have rA := fun wx hx => Read_any a wx hx
  have rB := fun wx hx => Read_any b wx hx
  have rW := fun wx hx => Read_any ((a ++ ⟨#[42]⟩) ++ b) wx hx
  rw [star_bytes a b] at rW
  have hat := readS_at (a.data.toList ++ 42 :: b.data.toList)
  rw [len_star, la, lb] at hat
  have hwrong := readS_wrong a.data.toList b.data.toList
  have hstar := readS_star a.data.toList b.data.toList
  generalize ((a ++ ⟨#[42]⟩) ++ b) = c at *
  generalize readS (a.data.toList ++ 42 :: b.data.toList) = RW at *
  generalize readS a.data.toList = RA at *
  generalize readS b.data.toList = RB at *
  obtain ⟨u, pa, ea⟩ := RA
  obtain ⟨v, pb, eb⟩ := RB
  obtain ⟨x, pw, ew⟩ := RW
  simp only at hat hwrong hstar
  simp only [readV, unitV] at rA rB rW
  have HW : Hid _ := hwrong
  have HS : Hid _ := hstar
  clear hwrong hstar ha hb hr la lb
  have t1 : ¬ (pw : Int) < 0 := by omega
  have t2 : ¬ (a.size : Int) + 1 + (b.size : Int) < (pw : Int) := by omega
  go_enter Tryd.func8, Tryd.ntmps8
  go_wp2_with fail
  refine (awake_any _ hN).mono ?_
  rintro e w1 ⟨rfl, bl⟩
  have hN := hN.later bl
  go_wp2_with fail
  refine (rA _ hN).mono ?_
  rintro e w2 ⟨rfl, hb2⟩
  obtain ⟨ub, l2⟩ := one_box w2 26 (uCells u)
  have hN := (hN.later hb2).later l2
  have bl := (bl.trans (hb2.mono bl.size)).trans (l2.mono (Nat.le_trans bl.size hb2.size))
  clear hb2 l2
  go_wp2_with fail
  refine (rB _ hN).mono ?_
  rintro e w3 ⟨rfl, hb3⟩
  obtain ⟨vb, l3⟩ := one_box w3 26 (uCells v)
  have hN := (hN.later hb3).later l3
  have ub := (ub.next hb3).next l3
  have bl := (bl.trans (hb3.mono bl.size)).trans (l3.mono (Nat.le_trans bl.size hb3.size))
  clear hb3 l3
  go_wp2_with fail
  refine (rW _ hN).mono ?_
  rintro e w4 ⟨rfl, hb4⟩
  obtain ⟨xb, l4⟩ := one_box w4 26 (uCells x)
  have ub := (ub.next hb4).next l4
  have vb := (vb.next hb4).next l4
  have bl := (bl.trans (hb4.mono bl.size)).trans (l4.mono (Nat.le_trans bl.size hb4.size))
  clear hb4 l4 hN rA rB rW
  by_cases e20 : ea = 20
  · rcases HW.out e20 with h | h
    all_goals
      subst e20
      subst h
      clear HW HS
      go_wp2_with fail
      go_ret
      exact ⟨rfl, bl⟩
  · have k20 : ((ea : Int) == 20) = false := beq_eq_false_iff_ne.2 (by omega)
    by_cases e0 : ea = 0
    · subst e0
      by_cases f0 : eb = 0
      · subst f0
        by_cases g0 : ew = 0
        · subst g0
          obtain ⟨hR, ou, ov, ox⟩ := HS.out rfl rfl rfl
          have hj := join_star u v x ox hR
          have hmul := fun wx => Mul_any u.dim v.dim ou.fits ov.fits wx
          rw [hj] at hmul
          simp only [joinV, Option.getD, Option.isSome, dimV] at hmul
          have hq := fun wx => eqDim x.dim x.dim wx
          rw [eqD_self] at hq
          simp only [dimV] at hq
          have hvx := fun wx => Value_any x 1000000000 (ok_fits ox) (by decide) (by decide) wx
          have hvu := fun wx => Value_any u 1000000000 (ok_fits ou) (by decide) (by decide) wx
          have hsb : -9223372036854775808 ≤ scaleS 1000000000 u.num u.den ∧ scaleS 1000000000 u.num u.den ≤ 9223372036854775807 := by
            unfold scaleS
            split
            · decide
            · exact held_bd _
          have hvv := fun wx => Value_any v (scaleS 1000000000 u.num u.den) (ok_fits ov) hsb.1 (by omega) wx
          have hfin := scale_star u v x ou ov ox hR
          generalize scaleS (scaleS 1000000000 u.num u.den) v.num v.den = st at *
          generalize scaleS 1000000000 u.num u.den = su at *
          generalize scaleS 1000000000 x.num x.den = sx at *
          simp only [unitV] at hvx hvu hvv
          have n1 : 1 ≤ x.num := ox.n0
          have n2 : 1 ≤ x.den := ox.d0
          have n3 := ox.n1
          have n4 := ox.d1
          have HF : Hid _ := hfin
          clear hfin hj hR HW HS ou ov ox hsb
          obtain ⟨u0, u1, u2, u3, u4, u5, u6⟩ := ub.cells7
          obtain ⟨v0, v1, v2, v3, v4, v5, v6⟩ := vb.cells7
          go_wp2_with fail
          refine (hmul _).mono ?_
          rintro e w5 ⟨rfl, hb5⟩
          clear u0 u1 u2 u3 u4 u5 u6 v0 v1 v2 v3 v4 v5 v6
          obtain ⟨db, l5⟩ := one_box w5 24 (dCells x.dim)
          have ub := (ub.next hb5).next l5
          have vb := (vb.next hb5).next l5
          have xb := (xb.next hb5).next l5
          have bl := (bl.trans (hb5.mono bl.size)).trans (l5.mono (Nat.le_trans bl.size hb5.size))
          clear hb5 l5
          obtain ⟨x0, x1, x2, x3, x4, x5, x6⟩ := xb.cells7
          obtain ⟨d0, d1, d2, d3, d4⟩ := db.cells5
          go_wp2_with fail
          refine (hvx _).mono ?_
          rintro e w6 ⟨rfl, hb6⟩
          clear x0 x1 x2 x3 x4 x5 x6 d0 d1 d2 d3 d4
          have ub := ub.next hb6
          have vb := vb.next hb6
          have xb := xb.next hb6
          have bl := bl.trans (hb6.mono bl.size)
          clear hb6
          obtain ⟨u0, u1, u2, u3, u4, u5, u6⟩ := ub.cells7
          obtain ⟨v0, v1, v2, v3, v4, v5, v6⟩ := vb.cells7
          go_wp2_with fail
          go_region_with (first
            | (go_at_call 17; first
              | ((with_reducible refine (hvu _).mono ?_); rintro e w7 ⟨rfl, hb7⟩; have ub := ub.next ((Below.refl _ _).drew.trans hb7); have vb := vb.next ((Below.refl _ _).drew.trans hb7); have xb := xb.next ((Below.refl _ _).drew.trans hb7); have bl := bl.trans (((Below.refl _ _).drew.trans hb7).mono bl.size); obtain ⟨v0, v1, v2, v3, v4, v5, v6⟩ := vb.cells7; clear hb7)
              | ((with_reducible refine (hvv _).mono ?_); rintro e w8 ⟨rfl, hb8⟩; have ub := ub.next hb8; have vb := vb.next hb8; have xb := xb.next hb8; have bl := bl.trans (hb8.mono bl.size); clear hb8)))
          all_goals
            have x0 := xb.cell 0 _ rfl
            have x1 := xb.cell 1 _ rfl
            have u1 := ub.cell 1 _ rfl
            have v1 := vb.cell 1 _ rfl
            by_cases c1 : u.den = 1
            · by_cases c2 : v.den = 1
              · have hs : (sx == st) = true := by rw [HF.out c1 c2]; exact beq_self_eq_true st
                rw [c1] at u1
                rw [c2] at v1
                go_wp2_with fail
                go_ret
                exact ⟨rfl, bl⟩
              · have k2 : (v.den != 1) = true := bne_iff_ne.2 c2
                rw [c1] at u1
                clear HF
                generalize v.den = vd at *
                go_wp2_with fail
                go_ret
                exact ⟨rfl, bl⟩
            · have k1 : (u.den != 1) = true := bne_iff_ne.2 c1
              clear HF
              generalize u.den = ud at *
              go_wp2_with fail
              go_ret
              exact ⟨rfl, bl⟩
        · have kw : ((ew : Int) == 0) = false := beq_eq_false_iff_ne.2 (by omega)
          clear HW HS g0
          generalize (ew : Int) = w0 at *
          go_wp2_with fail
          go_ret
          exact ⟨rfl, bl⟩
      · have kb : ((eb : Int) == 0) = false := beq_eq_false_iff_ne.2 (by omega)
        clear HW HS f0
        generalize (eb : Int) = b0 at *
        go_wp2_with fail
        go_ret
        exact ⟨rfl, bl⟩
    · have ka : ((ea : Int) != 0) = true := bne_iff_ne.2 (by omega)
      have kc : ¬ (ea : Int) = 0 := by omega
      clear HW HS e0 e20
      generalize (ea : Int) = a0 at *
      go_wp2_with fail
      go_ret
      exact ⟨rfl, bl⟩
end Go.Proofs.YtjmngnnmnbhfpaaDoor
