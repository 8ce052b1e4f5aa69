/- Package civil: the second of a date and time. -/
import Derived.Test.YtleffgecobeekaaDoorCivD
namespace Go.Proofs.YtleffgecobeekaaDoor
open Go.RowKit

/-- All seven are int64. -/
structure Civ.Fits (c : Civ) : Prop where
  y0 : -9223372036854775808 ≤ c.year
  y1 : c.year < 9223372036854775808
  m0 : -9223372036854775808 ≤ c.month
  m1 : c.month < 9223372036854775808
  d0 : -9223372036854775808 ≤ c.day
  d1 : c.day < 9223372036854775808
  h0 : -9223372036854775808 ≤ c.hour
  h1 : c.hour < 9223372036854775808
  n0 : -9223372036854775808 ≤ c.minute
  n1 : c.minute < 9223372036854775808
  s0 : -9223372036854775808 ≤ c.second
  s1 : c.second < 9223372036854775808
  w0 : -9223372036854775808 ≤ c.week
  w1 : c.week < 9223372036854775808
abbrev civCells (c : Civ) : List Value := [.int .i64 c.year, .int .i64 c.month, .int .i64 c.day, .int .i64 c.hour, .int .i64 c.minute, .int .i64 c.second, .int .i64 c.week]
/-- Whether it is a date and time of the calendar. -/
def formedB (c : Civ) : Bool :=
  (((decide (1 ≤ c.day) && decide (c.day ≤ mdays c.year c.month)) && (decide (0 ≤ c.hour) && decide (c.hour ≤ 23))) && (decide (0 ≤ c.minute) && decide (c.minute ≤ 59))) && (decide (0 ≤ c.second) && decide (c.second ≤ 59))
theorem formedB_iff (c : Civ) : formedB c = true ↔ Formed c := by
  unfold formedB
  simp only [Bool.and_eq_true, decide_eq_true_eq]
  constructor
  · rintro ⟨⟨⟨⟨a, b⟩, d, e⟩, f, g⟩, h, i⟩
    exact ⟨a, b, d, e, f, g, h, i⟩
  · rintro ⟨a, b, d, e, f, g, h, i⟩
    exact ⟨⟨⟨⟨a, b⟩, d, e⟩, f, g⟩, h, i⟩

theorem below_drewN {B : Nat} {a w : World} (h : Below B a w) (n : Nat) : Below B a (w.drewN n) := ⟨h.os, h.tape, h.output, h.size, h.block⟩
theorem LenAt.drewN {w : World} (h : LenAt w) (n : Nat) : LenAt (w.drewN n) := h.later (below_drewN (Below.refl _ _) n)
set_option maxHeartbeats 800000 in
theorem formed_any (c : Civ) (w : World) (hL : LenAt w) :
    Calls Tryd.prog 23 #[civV c] w fun e w' => e = .returned (.bool (formedB c)) ∧ Below w.heap.size w w' := by
  have hd := fun wx n (h : LenAt wx) => Calls.quiet_of_same (n := n) ((Days_any c.year c.month (wx.drewN n) (h.drewN n)).mono fun _ _ k => ⟨k.1, k.2.symm⟩)
  have h1 := fun wx n => Calls.quiet_of_same (n := n) ((within_any c.day 1 (mdays c.year c.month) (World.drewN wx n)).mono fun _ _ k => ⟨k.1, k.2.symm⟩)
  have h2 := fun wx n => Calls.quiet_of_same (n := n) ((within_any c.hour 0 23 (World.drewN wx n)).mono fun _ _ k => ⟨k.1, k.2.symm⟩)
  have h3 := fun wx n => Calls.quiet_of_same (n := n) ((within_any c.minute 0 59 (World.drewN wx n)).mono fun _ _ k => ⟨k.1, k.2.symm⟩)
  have h4 := fun wx n => Calls.quiet_of_same (n := n) ((within_any c.second 0 59 (World.drewN wx n)).mono fun _ _ k => ⟨k.1, k.2.symm⟩)
  unfold formedB
  generalize (decide (1 ≤ c.day) && decide (c.day ≤ mdays c.year c.month)) = b1 at *
  generalize (decide (0 ≤ c.hour) && decide (c.hour ≤ 23)) = b2 at *
  generalize (decide (0 ≤ c.minute) && decide (c.minute ≤ 59)) = b3 at *
  generalize (decide (0 ≤ c.second) && decide (c.second ≤ 59)) = b4 at *
  generalize mdays c.year c.month = D at *
  obtain ⟨xb, l0⟩ := one_box w 24 (civCells c)
  have hL := hL.later l0
  obtain ⟨o0, o1, o2, o3, o4, o5, o6, _⟩ := xb.seven
  clear xb
  cases b1
  · go_enter Tryd.func23, Tryd.ntmps23
    go_wp2_with fail
    go_quiet (first | (go_at_call 16; exact hd _ _ hL) | (go_at_call 26; first | with_reducible exact h1 _ _ | with_reducible exact h2 _ _ | with_reducible exact h3 _ _ | with_reducible exact h4 _ _))
    go_wp2_with fail
    go_ret
    exact ⟨rfl, below_drewN l0 _⟩
  cases b2
  · go_enter Tryd.func23, Tryd.ntmps23
    go_wp2_with fail
    go_quiet (first | (go_at_call 16; exact hd _ _ hL) | (go_at_call 26; first | with_reducible exact h1 _ _ | with_reducible exact h2 _ _ | with_reducible exact h3 _ _ | with_reducible exact h4 _ _))
    go_wp2_with fail
    go_ret
    exact ⟨rfl, below_drewN l0 _⟩
  cases b3
  · go_enter Tryd.func23, Tryd.ntmps23
    go_wp2_with fail
    go_quiet (first | (go_at_call 16; exact hd _ _ hL) | (go_at_call 26; first | with_reducible exact h1 _ _ | with_reducible exact h2 _ _ | with_reducible exact h3 _ _ | with_reducible exact h4 _ _))
    go_wp2_with fail
    go_ret
    exact ⟨rfl, below_drewN l0 _⟩
  · go_enter Tryd.func23, Tryd.ntmps23
    go_wp2_with fail
    go_quiet (first | (go_at_call 16; exact hd _ _ hL) | (go_at_call 26; first | with_reducible exact h1 _ _ | with_reducible exact h2 _ _ | with_reducible exact h3 _ _ | with_reducible exact h4 _ _))
    go_wp2_with fail
    go_ret
    exact ⟨by simp, below_drewN l0 _⟩

theorem wrap_add (a b : Int) : wrap64 (wrap64 a + b) = wrap64 (a + b) := by
  unfold wrap64; omega
theorem wrap_sub (a b : Int) : wrap64 (wrap64 a - b) = wrap64 (a - b) := by
  unfold wrap64; omega
theorem wrap_mul (a : Int) : wrap64 (wrap64 a * 86400) = wrap64 (a * 86400) := by
  unfold wrap64; omega
theorem wrap_range (a : Int) : -9223372036854775808 ≤ wrap64 a ∧ wrap64 a < 9223372036854775808 := by
  unfold wrap64; omega
theorem count_first (q r : Int) : wrap64 (wrap64 (wrap64 (q * 146097) + ahead r) - 719528) = wrap64 (q * 146097 + ahead r - 719528 + cum r 1) := by
  rw [wrap_add, wrap_sub, cum_one]; congr 1; omega
theorem count_next (q r M D : Int) (h : D = wrap64 (q * 146097 + ahead r - 719528 + cum r M)) (h0 : 1 ≤ M) (h1 : M ≤ 12) : wrap64 (D + mdays r M) = wrap64 (q * 146097 + ahead r - 719528 + cum r (M + 1)) := by
  rw [h, wrap_add, cum_succ r M h0 h1]; congr 1; omega
theorem count_last (y q r M D d : Int) (hy : y = q * 400 + r) (h : D = wrap64 (q * 146097 + ahead r - 719528 + cum r M)) : wrap64 (D + (d - 1)) = wrap64 (dayno y M d) := by
  rw [h, wrap_add]
  unfold dayno
  rw [hy, ahead_cycle, cum_cycle]
  congr 1; omega

set_option maxHeartbeats 800000 in
theorem count_any (c : Civ) (fc : c.Fits) (hf : Formed c) (w : World) (hL : LenAt w) :
    Calls Tryd.prog 24 #[civV c] w fun e w' => e = .returned (.int .i64 (wrap64 (dayno c.year c.month c.day))) ∧ Below w.heap.size w w' := by
  have hs := split_any c.year 400 fc.y0 fc.y1 (by omega) (by omega)
  have r0 : 0 ≤ c.year % 400 := by omega
  have r1 : c.year % 400 < 400 := by omega
  obtain ⟨xb, l0⟩ := one_box w 24 (civCells c)
  have hL := hL.later l0
  generalize hq : c.year / 400 = q at *
  generalize hr : c.year % 400 = r at *
  have HR : Hid (c.year = q * 400 + r) := by show _ = _; omega
  clear hq hr
  have ha := ahead_any r r0 (by omega)
  go_enter Tryd.func24, Tryd.ntmps24
  go_wp2_with fail
  refine (hs _).mono ?_
  rintro e w1 ⟨rfl, hb1⟩
  have hL := hL.later hb1
  have xb := xb.next hb1
  have bl := l0.trans (hb1.mono l0.size)
  clear hb1 l0 hs
  go_wp2_with fail
  refine (ha _).mono ?_
  rintro e w2 ⟨rfl, rfl⟩
  have fm0 := hf.m0
  have fm1 := hf.m1
  have fd0 := hf.d0
  have fd1 := fc.d1
  have c1 := xb.cell 1 _ rfl
  have c2 := xb.cell 2 _ rfl
  have cl := count_last c.year q r c.month
  go_wp2_with fail
  go_loop [5, 6] (fun d m => ∃ D M : Int, d = .int .i64 D ∧ m = .int .i64 M ∧ 1 ≤ M ∧ M ≤ c.month ∧ D = wrap64 (q * 146097 + ahead r - 719528 + cum r M)) (fun _ m => (13 - intOf m).toNat)
  case atStart => exact ⟨_, _, rfl, rfl, by omega, fm0, count_first q r⟩
  case round =>
    obtain ⟨D, M, rfl, rfl, m0, m1, hD⟩ := hrel
    have hd := Days_any r M
    have cn := count_next q r M
    have dp := mdays_bounds r M
    obtain ⟨d0, d1⟩ := dp
    by_cases hk : M < c.month
    · have HK : Hid _ := cn D hD m0 (by omega)
      clear hD cn
      generalize mdays r M = dd at *
      go_wp2_with fail
      refine (hd _ hL).mono ?_
      rintro e w2 ⟨rfl, rfl⟩
      go_wp2_with fail
      go_round
      case rel => exact ⟨_, _, rfl, rfl, by omega, by omega, HK.out⟩
      case measure => simp [intOf]; omega
    · obtain rfl : M = c.month := by omega
      have HK : Hid _ := cl D c.day HR.out hD
      clear hD cn cl
      go_wp2_with fail
      go_ret
      exact ⟨congrArg (fun x => Ending.returned (.int .i64 x)) HK.out, bl⟩

/-- The second of a date and time, if it is one and an int64. -/
def secS (c : Civ) : Option Int := if formedB c = true ∧ -9223372036854775808 ≤ secOf c ∧ secOf c < 9223372036854775808 then some (secOf c) else none
def secV (o : Option Int) : Value := .tuple #[.int .i64 (o.getD 0), .bool o.isSome]
theorem sec_wrap (c : Civ) : IntKind.i64.wrap (IntKind.i64.wrap (wrap64 (dayno c.year c.month c.day) * 86400) + IntKind.i64.wrap (IntKind.i64.wrap (IntKind.i64.wrap (c.hour * 3600) + IntKind.i64.wrap (c.minute * 60)) + c.second)) = wrap64 (secOf c) := by
  simp only [IntWalk.i64_left]
  rw [wrap_mul, wrap_add]
  unfold secOf
  generalize dayno c.year c.month c.day * 86400 = A
  generalize c.hour * 3600 = B
  generalize c.minute * 60 = C
  unfold wrap64
  omega
theorem wrap_in (n : Int) (h0 : -9223372036854775808 ≤ n) (h1 : n < 9223372036854775808) : wrap64 n = n := by unfold wrap64; omega
theorem wrap_out (n : Int) (h : ¬ (-9223372036854775808 ≤ n ∧ n < 9223372036854775808)) : 31708800 ≤ wrap64 n - n ∨ 31708800 ≤ n - wrap64 n := by unfold wrap64; omega
theorem year_tells (c d : Civ) (fc : Formed c) (h : At (wrap64 (secOf c)) d) : d.year = c.year ↔ (-9223372036854775808 ≤ secOf c ∧ secOf c < 9223372036854775808) := by
  constructor
  · intro e
    refine Decidable.byContradiction fun k => ?_
    have h1 := year_near fc h.f e.symm
    have h2 := year_near h.f fc e
    rw [h.t] at h1 h2
    rcases wrap_out _ k with q | q <;> omega
  · rintro ⟨k0, k1⟩
    rw [wrap_in _ k0 k1] at h
    exact (h.f.unique fc h.t).1
theorem secS_no {c : Civ} (h : formedB c = false) : secS c = none := if_neg fun k => by rw [h] at k; cases k.1
theorem secS_out {c : Civ} (h : ¬ (-9223372036854775808 ≤ secOf c ∧ secOf c < 9223372036854775808)) : secS c = none := if_neg fun k => h k.2
theorem secS_in {c : Civ} (h : formedB c = true) (k : -9223372036854775808 ≤ secOf c ∧ secOf c < 9223372036854775808) : secS c = some (secOf c) := if_pos ⟨h, k⟩

theorem field_year (d : Civ) (w : World) : (Instr.field 24 (civV d) 0).run Tryd.prog w = .ok (.int .i64 d.year) w := by kernel_rfl

set_option maxHeartbeats 800000 in
theorem Seconds_any (c : Civ) (fc : c.Fits) (w : World) (hL : LenAt w) :
    Calls Tryd.prog 12 #[civV c] w fun e w' => e = .returned (secV (secS c)) ∧ Below w.heap.size w w' := by
  have hf := fun wx => formed_any c wx
  obtain ⟨xb, l0⟩ := one_box w 24 (civCells c)
  have hL := hL.later l0
  obtain ⟨o0, o1, o2, o3, o4, o5, o6, _⟩ := xb.seven
  cases hk : formedB c
  · rw [secS_no hk]
    rw [hk] at hf
    go_enter Tryd.func12, Tryd.ntmps12
    go_wp2_with fail
    refine (hf _ hL).mono ?_
    rintro e w1 ⟨rfl, hb1⟩
    go_wp2_with fail
    go_ret2
    exact ⟨rfl, l0.trans (hb1.mono l0.size)⟩
  · have F := (formedB_iff c).1 hk
    rw [hk] at hf
    have hc := count_any c fc F
    have f0 := F.h0
    have f1 := F.h1
    have f2 := F.n0
    have f3 := F.n1
    have f4 := F.s0
    have f5 := F.s1
    have sw := sec_wrap c
    generalize wrap64 (dayno c.year c.month c.day) = N at *
    have SW : Hid _ := sw
    clear sw
    go_enter Tryd.func12, Tryd.ntmps12
    go_wp2_with fail
    refine (hf _ hL).mono ?_
    rintro e w1 ⟨rfl, hb1⟩
    clear o0 o1 o2 o3 o4 o5 o6
    have hL := hL.later hb1
    have xb := xb.next hb1
    have bl := l0.trans (hb1.mono l0.size)
    clear hb1 l0
    obtain ⟨o0, o1, o2, o3, o4, o5, o6, _⟩ := xb.seven
    have lt := xb.lt
    go_wp2_with fail
    go_region_held3 (fun w' => w'.cell? ⟨w.heap.size, 0, none⟩ = some (.int .i64 c.year) ∧ w'.cell? ⟨w.heap.size, 1, none⟩ = some (.int .i64 c.month) ∧ w'.cell? ⟨w.heap.size, 2, none⟩ = some (.int .i64 c.day) ∧ w'.cell? ⟨w.heap.size, 3, none⟩ = some (.int .i64 c.hour) ∧ w'.cell? ⟨w.heap.size, 4, none⟩ = some (.int .i64 c.minute) ∧ w'.cell? ⟨w.heap.size, 5, none⟩ = some (.int .i64 c.second) ∧ w'.cell? ⟨w.heap.size, 6, none⟩ = some (.int .i64 c.week)) (simp [go_sem, *])
      (first | (go_at_call 24; refine (hc _ (hL.later (Below.refl _ _).drew)).mono ?_; rintro e w' ⟨rfl, hb⟩; have q0 := (hb.cell (p := ⟨w.heap.size, 0, none⟩) lt).trans o0; have q1 := (hb.cell (p := ⟨w.heap.size, 1, none⟩) lt).trans o1; have q2 := (hb.cell (p := ⟨w.heap.size, 2, none⟩) lt).trans o2; have q3 := (hb.cell (p := ⟨w.heap.size, 3, none⟩) lt).trans o3; have q4 := (hb.cell (p := ⟨w.heap.size, 4, none⟩) lt).trans o4; have q5 := (hb.cell (p := ⟨w.heap.size, 5, none⟩) lt).trans o5; have q6 := (hb.cell (p := ⟨w.heap.size, 6, none⟩) lt).trans o6))
    rw [SW.out]
    have yt := year_tells c
    have wr := wrap_range (secOf c)
    have hL := hL.later ((Below.refl _ _).drew.trans hb)
    have xb := xb.next ((Below.refl _ _).drew.trans hb)
    have bl := bl.trans (((Below.refl _ _).drew.trans hb).mono bl.size)
    have lt := xb.lt
    have win := wrap_in (secOf c)
    generalize wrap64 (secOf c) = T at *
    clear q1 q2 q3 q4 q5 q6 SW hb hc hf
    have fy := field_year
    by_cases hr : -9223372036854775808 ≤ secOf c ∧ secOf c < 9223372036854775808
    · have SV : Hid (secS c = some T) := by show _ = _; rw [secS_in hk hr, ← win hr.1 hr.2]
      have YT : Hid (∀ d, At T d → d.year = c.year) := fun d hd => (yt d F hd).2 hr
      clear yt hr win
      go_wp2_with fail
      go_region_held3 (fun w' => w'.cell? ⟨w.heap.size, 0, none⟩ = some (.int .i64 c.year)) (simp [go_sem, *])
        (first | (go_at_call 10; refine (Of_any T wr.1 wr.2 _ (hL.later (Below.refl _ _).drew)).mono ?_; rintro e w2 ⟨d, rfl, hat, y0, y1, hb2⟩; have q1 := (hb2.cell (p := ⟨w.heap.size, 0, none⟩) lt).trans q0; have yy := YT.out d hat; have fz := fy d; rw [yy] at fz))
      have bl := bl.trans (((Below.refl _ _).drew.trans hb2).mono bl.size)
      go_wp2_with fail
      go_ret2
      exact ⟨by rw [SV.out]; rfl, bl⟩
    · have SV : Hid (secS c = none) := secS_out hr
      have YT : Hid (∀ d, At T d → (d.year != c.year) = true) := fun d hd => by
        rw [bne_iff_ne]; exact fun e => hr ((yt d F hd).1 e)
      clear yt hr win
      go_wp2_with fail
      go_region_held3 (fun w' => w'.cell? ⟨w.heap.size, 0, none⟩ = some (.int .i64 c.year)) (simp [go_sem, *])
        (first | (go_at_call 10; refine (Of_any T wr.1 wr.2 _ (hL.later (Below.refl _ _).drew)).mono ?_; rintro e w2 ⟨d, rfl, hat, y0, y1, hb2⟩; have q1 := (hb2.cell (p := ⟨w.heap.size, 0, none⟩) lt).trans q0; have yy := YT.out d hat))
      have bl := bl.trans (((Below.refl _ _).drew.trans hb2).mono bl.size)
      go_wp2_with fail
      go_ret2
      exact ⟨by rw [SV.out]; rfl, bl⟩
end Go.Proofs.YtleffgecobeekaaDoor
