/- Package lex: numbers and durations. -/
import Derived.Test.YtecdfnpbcabdnaaGreatDoorLxE
import Derived.Test.YtecdfnpbcabdnaaGreatDoorLxG
import Derived.Test.YtecdfnpbcabdnaaGreatDoorLxH
namespace Go.Proofs.YtecdfnpbcabdnaaGreatDoor
open Go.RowKit Go.Lib

theorem str_eta (x : ByteArray) : Value.string x = strV x.data.toList := rfl
theorem read_at (x : ByteArray) (hx : x.size ≤ 1048576) (w : World) : Calls Tryz.prog 119 #[.string x] w fun e w' => e = .returned (readV x.data.toList) ∧ Below w.heap.size w w' := by
  rw [str_eta]
  exact Read_any _ (by rw [← Lib.size_eq]; omega) w
theorem span_at (x : ByteArray) (hx : x.size ≤ 1048576) (w : World) : Calls Tryz.prog 120 #[.string x] w fun e w' => e = .returned (spanR x.data.toList) ∧ Below w.heap.size w w' := by
  rw [str_eta]
  refine (ReadSpan_any _ (by rw [← Lib.size_eq]; omega) w).mono ?_
  rintro e w' ⟨rfl, rfl⟩
  exact ⟨rfl, Below.refl _ _⟩

set_option maxHeartbeats 4000000 in
theorem number_none (b i : Nat) (s : ByteArray) (w : World) (h : Rdr w b s i) (R : ∀ wx, Calls Tryz.prog 114 #[.string s, .int .i64 (i : Nat), .int .i64 2] wx fun e w' => e = .returned (.int .i64 (i : Nat)) ∧ Below wx.heap.size wx w') :
    Calls Tryz.prog 91 #[.pointer (some ⟨b, 0, none⟩)] w fun e w' => e = .returned (.tuple #[noV, .int .i64 0]) ∧ Moved w b s i w' := by
  have ST := hid2 (St.made h 47)
  have hlt := h.lt
  have R2 := hid2 R
  clear h R
  go_enter Tryz.func91, Tryz.ntmps91
  go_wp2_with fail
  obtain ⟨c0, c1, f0, f1⟩ := ST.out.rd.two
  generalize w.alloc _ = W at *
  go_region_held3 (fun w' => w'.cell? ⟨b, 0, none⟩ = some (.string s) ∧ w'.cell? ⟨b, 1, none⟩ = some (.int .i64 (i : Nat))) (simp [go_sem, *]) (first | (go_at_call 114; refine Calls.mono (R2.out _) ?_; rintro r w1 ⟨rfl, b1⟩; have S1 := hid2 (ST.out.next (below_on (Below.refl _ _).drew b1 (Nat.le_refl _))); obtain ⟨m0, m1, _, _⟩ := S1.out.rd.two; obtain ⟨m2, m3, m4, m5, m6, m7, m8, m9⟩ := S1.out.rb.four; have ml := S1.out.rd.lt; clear b1))
  clear c0 c1 f0 f1
  go_wp2_with fail
  refine bodyPost_ret (v := .tuple #[noV, .int .i64 0]) (by simp [results, Tryz.results91, go_sem, *]; rfl) rfl ⟨rfl, ?_⟩
  exact (S1.out.set _ _ _ _).stay
set_option maxHeartbeats 8000000 in
theorem number_AD (b i e1 : Nat) (s : ByteArray) (hz : s.size ≤ 1048576) (hie : i < e1) (hez : e1 ≤ s.size) (w : World) (h : Rdr w b s i) (R : ∀ wx, Calls Tryz.prog 114 #[.string s, .int .i64 (i : Nat), .int .i64 2] wx fun e w' => e = .returned (.int .i64 (e1 : Nat)) ∧ Below wx.heap.size wx w')
    (hd : (s.get! e1 == 46) = false) (bh : Nat) (hbh : e1 < bh) (hbz : bh ≤ s.size) (RB : ∀ wx, Calls Tryz.prog 114 #[.string s, .int .i64 (e1 : Nat), .int .i64 3] wx fun e w' => e = .returned (.int .i64 (bh : Nat)) ∧ Below wx.heap.size wx w') (o : Option Nat)
    (RR : ∀ wx, Calls Tryz.prog 120 #[.string (s.extract i bh)] wx fun e w' => e = .returned (match o with | some v => .tuple #[.int .i64 (v : Nat), .int .i64 0] | none => .tuple #[.int .i64 0, .int .i64 13]) ∧ Below wx.heap.size wx w') :
    Calls Tryz.prog 91 #[.pointer (some ⟨b, 0, none⟩)] w (CutPost w b s i true (valT 3 s i bh o)) := by
  have ST := hid2 (St.made h 47)
  have hlt := h.lt
  have R2 := hid2 R
  have HP := prefix_at s e1 hez 46 (by decide)
  rw [hd] at HP
  have HPX := hid2 HP
  have HRB := hid2 RB
  have s1 := fun wx => sl_l s e1 hez wx
  have s2 := fun wx => sl_lh s i bh (by omega) (by omega) wx
  have hxz : (s.extract i bh).size ≤ 1048576 := by rw [size_cut s i _ (by omega)]; omega
  have T := hid2 (fun (n : Int) w' (hw : Rdr w' b s i) => take_c b i bh s (s.extract i bh) 3 n hxz w' hw)
  generalize hgx : s.extract i bh = x at *
  have HX := hid2 hgx
  clear hgx
  have HRR := hid2 RR
  have hne : ((e1 : Int) == (i : Int)) = false := beq_eq_false_iff_ne.2 (by omega)
  have hq2 : ((e1 : Nat) : Int) < (bh : Int) := by omega
  clear h R HP RB RR hd hbh
  cases o with
  | none =>
    go_enter Tryz.func91, Tryz.ntmps91
    go_wp2_with fail
    obtain ⟨c0, c1, f0, f1⟩ := ST.out.rd.two
    generalize w.alloc _ = W at *
    go_region_held3 (fun w' => w'.cell? ⟨b, 0, none⟩ = some (.string s) ∧ w'.cell? ⟨b, 1, none⟩ = some (.int .i64 (i : Nat))) (simp [go_sem, *]) (first | (go_at_call 114; refine Calls.mono (R2.out _) ?_; rintro r w1 ⟨rfl, b1⟩; have S1 := hid2 (ST.out.next (below_on (Below.refl _ _).drew b1 (Nat.le_refl _))); obtain ⟨m0, m1, _, _⟩ := S1.out.rd.two; obtain ⟨m2, m3, m4, m5, m6, m7, m8, m9⟩ := S1.out.rb.four; have ml := S1.out.rd.lt; clear b1))
    clear c0 c1 f0 f1
    go_wp2_with fail
    refine Calls.mono (HPX.out _) ?_
    rintro r w2 ⟨rfl, rfl⟩
    go_wp2_with fail
    refine Calls.mono (HRB.out _) ?_
    rintro r w4 ⟨rfl, b4⟩
    have S4 := hid2 (S1.out.next b4)
    obtain ⟨k0, k1, _, _⟩ := S4.out.rd.two
    have kl := S4.out.rd.lt
    clear b4
    go_wp2_with fail
    go_quiet (fail)
    have S5 := hid2 (S4.out.next (drewN_b2 w4 nq))
    generalize w4.drewN nq = W5 at *
    clear k0 k1 kl
    go_wp2_with fail
    refine Calls.mono (HRR.out _) ?_
    rintro r w6 ⟨rfl, b6⟩
    have S6 := hid2 (S5.out.next b6)
    clear b6
    simp only []
    obtain ⟨p0, p1, p2, p3, g0, g1, g2, g3⟩ := S6.out.rb.four
    have bl := S6.out.rb.lt
    go_wp2_with fail
    refine bodyPost_ret (v := .tuple #[noV, .int .i64 13]) (by simp [results, Tryz.results91, go_sem, *]; rfl) rfl ⟨rfl, ?_⟩
    exact (S6.out.set _ _ _ _).stay
  | some v =>
    go_enter Tryz.func91, Tryz.ntmps91
    go_wp2_with fail
    obtain ⟨c0, c1, f0, f1⟩ := ST.out.rd.two
    generalize w.alloc _ = W at *
    go_region_held3 (fun w' => w'.cell? ⟨b, 0, none⟩ = some (.string s) ∧ w'.cell? ⟨b, 1, none⟩ = some (.int .i64 (i : Nat))) (simp [go_sem, *]) (first | (go_at_call 114; refine Calls.mono (R2.out _) ?_; rintro r w1 ⟨rfl, b1⟩; have S1 := hid2 (ST.out.next (below_on (Below.refl _ _).drew b1 (Nat.le_refl _))); obtain ⟨m0, m1, _, _⟩ := S1.out.rd.two; obtain ⟨m2, m3, m4, m5, m6, m7, m8, m9⟩ := S1.out.rb.four; have ml := S1.out.rd.lt; clear b1))
    clear c0 c1 f0 f1
    go_wp2_with fail
    refine Calls.mono (HPX.out _) ?_
    rintro r w2 ⟨rfl, rfl⟩
    go_wp2_with fail
    refine Calls.mono (HRB.out _) ?_
    rintro r w4 ⟨rfl, b4⟩
    have S4 := hid2 (S1.out.next b4)
    obtain ⟨k0, k1, _, _⟩ := S4.out.rd.two
    have kl := S4.out.rd.lt
    clear b4
    go_wp2_with fail
    go_quiet (fail)
    have S5 := hid2 (S4.out.next (drewN_b2 w4 nq))
    generalize w4.drewN nq = W5 at *
    clear k0 k1 kl
    go_wp2_with fail
    refine Calls.mono (HRR.out _) ?_
    rintro r w6 ⟨rfl, b6⟩
    have S6 := hid2 (S5.out.next b6)
    clear b6
    simp only []
    go_wp2_with fail
    refine Calls.mono (T.out _ _ S6.out.rd) ?_
    rintro r w7 ⟨rfl, M7⟩
    obtain ⟨bx, fin⟩ := S6.out.took M7
    obtain ⟨p0, p1, p2, p3, g0, g1, g2, g3⟩ := bx.four
    have bl := bx.lt
    have FIN := hid2 fin
    clear bx fin M7
    unfold tkv
    go_wp2_with fail
    refine bodyPost_ret (v := .tuple #[tkV ⟨3, x, (v : Int), i⟩, .int .i64 0]) (by simp [results, Tryz.results91, go_sem, *]; rfl) rfl ⟨by rw [HX.out], ?_⟩
    exact FIN.out _ _ _ _
set_option maxHeartbeats 8000000 in
theorem number_AN (b i e1 : Nat) (s : ByteArray) (hz : s.size ≤ 1048576) (hie : i < e1) (hez : e1 ≤ s.size) (w : World) (h : Rdr w b s i) (R : ∀ wx, Calls Tryz.prog 114 #[.string s, .int .i64 (i : Nat), .int .i64 2] wx fun e w' => e = .returned (.int .i64 (e1 : Nat)) ∧ Below wx.heap.size wx w')
    (hd : (s.get! e1 == 46) = false) (bh : Nat) (hbh : ¬ e1 < bh) (_hbz : bh ≤ s.size) (RB : ∀ wx, Calls Tryz.prog 114 #[.string s, .int .i64 (e1 : Nat), .int .i64 3] wx fun e w' => e = .returned (.int .i64 (bh : Nat)) ∧ Below wx.heap.size wx w') (o : Option Nat)
    (RR : ∀ wx, Calls Tryz.prog 119 #[.string (s.extract i e1)] wx fun e w' => e = .returned (match o with | some v => .tuple #[.int .i64 (v : Nat), .int .i64 0] | none => .tuple #[.int .i64 0, .int .i64 13]) ∧ Below wx.heap.size wx w') :
    Calls Tryz.prog 91 #[.pointer (some ⟨b, 0, none⟩)] w (CutPost w b s i true (valT 2 s i e1 o)) := by
  have ST := hid2 (St.made h 47)
  have hlt := h.lt
  have R2 := hid2 R
  have HP := prefix_at s e1 hez 46 (by decide)
  rw [hd] at HP
  have HPX := hid2 HP
  have HRB := hid2 RB
  have s1 := fun wx => sl_l s e1 hez wx
  have s2 := fun wx => sl_lh s i e1 (by omega) (by omega) wx
  have hxz : (s.extract i e1).size ≤ 1048576 := by rw [size_cut s i _ (by omega)]; omega
  have T := hid2 (fun (n : Int) w' (hw : Rdr w' b s i) => take_c b i e1 s (s.extract i e1) 2 n hxz w' hw)
  generalize hgx : s.extract i e1 = x at *
  have HX := hid2 hgx
  clear hgx
  have HRR := hid2 RR
  have hne : ((e1 : Int) == (i : Int)) = false := beq_eq_false_iff_ne.2 (by omega)
  have hq2 : ¬ (((e1 : Nat) : Int) < (bh : Int)) := by omega
  clear h R HP RB RR hd hbh
  cases o with
  | none =>
    go_enter Tryz.func91, Tryz.ntmps91
    go_wp2_with fail
    obtain ⟨c0, c1, f0, f1⟩ := ST.out.rd.two
    generalize w.alloc _ = W at *
    go_region_held3 (fun w' => w'.cell? ⟨b, 0, none⟩ = some (.string s) ∧ w'.cell? ⟨b, 1, none⟩ = some (.int .i64 (i : Nat))) (simp [go_sem, *]) (first | (go_at_call 114; refine Calls.mono (R2.out _) ?_; rintro r w1 ⟨rfl, b1⟩; have S1 := hid2 (ST.out.next (below_on (Below.refl _ _).drew b1 (Nat.le_refl _))); obtain ⟨m0, m1, _, _⟩ := S1.out.rd.two; obtain ⟨m2, m3, m4, m5, m6, m7, m8, m9⟩ := S1.out.rb.four; have ml := S1.out.rd.lt; clear b1))
    clear c0 c1 f0 f1
    go_wp2_with fail
    refine Calls.mono (HPX.out _) ?_
    rintro r w2 ⟨rfl, rfl⟩
    go_wp2_with fail
    refine Calls.mono (HRB.out _) ?_
    rintro r w4 ⟨rfl, b4⟩
    have S4 := hid2 (S1.out.next b4)
    obtain ⟨k0, k1, _, _⟩ := S4.out.rd.two
    have kl := S4.out.rd.lt
    clear b4
    go_wp2_with fail
    go_quiet (fail)
    have S5 := hid2 (S4.out.next (drewN_b2 w4 nq))
    generalize w4.drewN nq = W5 at *
    clear k0 k1 kl
    go_wp2_with fail
    refine Calls.mono (HRR.out _) ?_
    rintro r w6 ⟨rfl, b6⟩
    have S6 := hid2 (S5.out.next b6)
    clear b6
    simp only []
    obtain ⟨p0, p1, p2, p3, g0, g1, g2, g3⟩ := S6.out.rb.four
    have bl := S6.out.rb.lt
    go_wp2_with fail
    refine bodyPost_ret (v := .tuple #[noV, .int .i64 13]) (by simp [results, Tryz.results91, go_sem, *]; rfl) rfl ⟨rfl, ?_⟩
    exact (S6.out.set _ _ _ _).stay
  | some v =>
    go_enter Tryz.func91, Tryz.ntmps91
    go_wp2_with fail
    obtain ⟨c0, c1, f0, f1⟩ := ST.out.rd.two
    generalize w.alloc _ = W at *
    go_region_held3 (fun w' => w'.cell? ⟨b, 0, none⟩ = some (.string s) ∧ w'.cell? ⟨b, 1, none⟩ = some (.int .i64 (i : Nat))) (simp [go_sem, *]) (first | (go_at_call 114; refine Calls.mono (R2.out _) ?_; rintro r w1 ⟨rfl, b1⟩; have S1 := hid2 (ST.out.next (below_on (Below.refl _ _).drew b1 (Nat.le_refl _))); obtain ⟨m0, m1, _, _⟩ := S1.out.rd.two; obtain ⟨m2, m3, m4, m5, m6, m7, m8, m9⟩ := S1.out.rb.four; have ml := S1.out.rd.lt; clear b1))
    clear c0 c1 f0 f1
    go_wp2_with fail
    refine Calls.mono (HPX.out _) ?_
    rintro r w2 ⟨rfl, rfl⟩
    go_wp2_with fail
    refine Calls.mono (HRB.out _) ?_
    rintro r w4 ⟨rfl, b4⟩
    have S4 := hid2 (S1.out.next b4)
    obtain ⟨k0, k1, _, _⟩ := S4.out.rd.two
    have kl := S4.out.rd.lt
    clear b4
    go_wp2_with fail
    go_quiet (fail)
    have S5 := hid2 (S4.out.next (drewN_b2 w4 nq))
    generalize w4.drewN nq = W5 at *
    clear k0 k1 kl
    go_wp2_with fail
    refine Calls.mono (HRR.out _) ?_
    rintro r w6 ⟨rfl, b6⟩
    have S6 := hid2 (S5.out.next b6)
    clear b6
    simp only []
    go_wp2_with fail
    refine Calls.mono (T.out _ _ S6.out.rd) ?_
    rintro r w7 ⟨rfl, M7⟩
    obtain ⟨bx, fin⟩ := S6.out.took M7
    obtain ⟨p0, p1, p2, p3, g0, g1, g2, g3⟩ := bx.four
    have bl := bx.lt
    have FIN := hid2 fin
    clear bx fin M7
    unfold tkv
    go_wp2_with fail
    refine bodyPost_ret (v := .tuple #[tkV ⟨2, x, (v : Int), i⟩, .int .i64 0]) (by simp [results, Tryz.results91, go_sem, *]; rfl) rfl ⟨by rw [HX.out], ?_⟩
    exact FIN.out _ _ _ _
set_option maxHeartbeats 8000000 in
theorem number_BD (b i e1 : Nat) (s : ByteArray) (hz : s.size ≤ 1048576) (hie : i < e1) (hez : e1 ≤ s.size) (w : World) (h : Rdr w b s i) (R : ∀ wx, Calls Tryz.prog 114 #[.string s, .int .i64 (i : Nat), .int .i64 2] wx fun e w' => e = .returned (.int .i64 (e1 : Nat)) ∧ Below wx.heap.size wx w')
    (hd : (s.get! e1 == 46) = true) (pl : Nat) (hpl : ¬ e1 + 1 < pl) (_hpz : pl ≤ s.size) (RP : ∀ wx, Calls Tryz.prog 114 #[.string s, .int .i64 ((e1 : Int) + 1), .int .i64 2] wx fun e w' => e = .returned (.int .i64 (pl : Nat)) ∧ Below wx.heap.size wx w') (bh : Nat) (hbh : e1 < bh) (hbz : bh ≤ s.size) (RB : ∀ wx, Calls Tryz.prog 114 #[.string s, .int .i64 (e1 : Nat), .int .i64 3] wx fun e w' => e = .returned (.int .i64 (bh : Nat)) ∧ Below wx.heap.size wx w') (o : Option Nat)
    (RR : ∀ wx, Calls Tryz.prog 120 #[.string (s.extract i bh)] wx fun e w' => e = .returned (match o with | some v => .tuple #[.int .i64 (v : Nat), .int .i64 0] | none => .tuple #[.int .i64 0, .int .i64 13]) ∧ Below wx.heap.size wx w') :
    Calls Tryz.prog 91 #[.pointer (some ⟨b, 0, none⟩)] w (CutPost w b s i true (valT 3 s i bh o)) := by
  have ST := hid2 (St.made h 47)
  have hlt := h.lt
  have R2 := hid2 R
  have HP := prefix_at s e1 hez 46 (by decide)
  rw [hd] at HP
  have HPX := hid2 HP
  have HRB := hid2 RB
  have s1 := fun wx => sl_l s e1 hez wx
  have s2 := fun wx => sl_lh s i bh (by omega) (by omega) wx
  have hxz : (s.extract i bh).size ≤ 1048576 := by rw [size_cut s i _ (by omega)]; omega
  have T := hid2 (fun (n : Int) w' (hw : Rdr w' b s i) => take_c b i bh s (s.extract i bh) 3 n hxz w' hw)
  generalize hgx : s.extract i bh = x at *
  have HX := hid2 hgx
  clear hgx
  have HRR := hid2 RR
  have hne : ((e1 : Int) == (i : Int)) = false := beq_eq_false_iff_ne.2 (by omega)
  have HRP := hid2 RP
  have hw1 : IntKind.i64.wrap ((e1 : Int) + 1) = (e1 : Int) + 1 := by rw [IntKind.wrap_i64]; omega
  have hq : ¬ ((e1 : Int) + 1 < (pl : Int)) := by omega
  clear hpl RP
  have hq2 : ((e1 : Nat) : Int) < (bh : Int) := by omega
  clear h R HP RB RR hd hbh
  cases o with
  | none =>
    go_enter Tryz.func91, Tryz.ntmps91
    go_wp2_with fail
    obtain ⟨c0, c1, f0, f1⟩ := ST.out.rd.two
    generalize w.alloc _ = W at *
    go_region_held3 (fun w' => w'.cell? ⟨b, 0, none⟩ = some (.string s) ∧ w'.cell? ⟨b, 1, none⟩ = some (.int .i64 (i : Nat))) (simp [go_sem, *]) (first | (go_at_call 114; refine Calls.mono (R2.out _) ?_; rintro r w1 ⟨rfl, b1⟩; have S1 := hid2 (ST.out.next (below_on (Below.refl _ _).drew b1 (Nat.le_refl _))); obtain ⟨m0, m1, _, _⟩ := S1.out.rd.two; obtain ⟨m2, m3, m4, m5, m6, m7, m8, m9⟩ := S1.out.rb.four; have ml := S1.out.rd.lt; clear b1))
    clear c0 c1 f0 f1
    go_wp2_with fail
    refine Calls.mono (HPX.out _) ?_
    rintro r w2 ⟨rfl, rfl⟩
    go_wp2_with fail
    refine Calls.mono (HRP.out _) ?_
    rintro r w3 ⟨rfl, b3⟩
    have S3 := hid2 (S1.out.next b3)
    obtain ⟨n0, n1, _, _⟩ := S3.out.rd.two
    have nl := S3.out.rd.lt
    clear b3 m0 m1 m2 m3 m4 m5 m6 m7 m8 m9 ml
    go_wp2_with fail
    refine Calls.mono (HRB.out _) ?_
    rintro r w4 ⟨rfl, b4⟩
    have S4 := hid2 (S3.out.next b4)
    obtain ⟨k0, k1, _, _⟩ := S4.out.rd.two
    have kl := S4.out.rd.lt
    clear b4
    go_wp2_with fail
    go_quiet (fail)
    have S5 := hid2 (S4.out.next (drewN_b2 w4 nq))
    generalize w4.drewN nq = W5 at *
    clear k0 k1 kl
    go_wp2_with fail
    refine Calls.mono (HRR.out _) ?_
    rintro r w6 ⟨rfl, b6⟩
    have S6 := hid2 (S5.out.next b6)
    clear b6
    simp only []
    obtain ⟨p0, p1, p2, p3, g0, g1, g2, g3⟩ := S6.out.rb.four
    have bl := S6.out.rb.lt
    go_wp2_with fail
    refine bodyPost_ret (v := .tuple #[noV, .int .i64 13]) (by simp [results, Tryz.results91, go_sem, *]; rfl) rfl ⟨rfl, ?_⟩
    exact (S6.out.set _ _ _ _).stay
  | some v =>
    go_enter Tryz.func91, Tryz.ntmps91
    go_wp2_with fail
    obtain ⟨c0, c1, f0, f1⟩ := ST.out.rd.two
    generalize w.alloc _ = W at *
    go_region_held3 (fun w' => w'.cell? ⟨b, 0, none⟩ = some (.string s) ∧ w'.cell? ⟨b, 1, none⟩ = some (.int .i64 (i : Nat))) (simp [go_sem, *]) (first | (go_at_call 114; refine Calls.mono (R2.out _) ?_; rintro r w1 ⟨rfl, b1⟩; have S1 := hid2 (ST.out.next (below_on (Below.refl _ _).drew b1 (Nat.le_refl _))); obtain ⟨m0, m1, _, _⟩ := S1.out.rd.two; obtain ⟨m2, m3, m4, m5, m6, m7, m8, m9⟩ := S1.out.rb.four; have ml := S1.out.rd.lt; clear b1))
    clear c0 c1 f0 f1
    go_wp2_with fail
    refine Calls.mono (HPX.out _) ?_
    rintro r w2 ⟨rfl, rfl⟩
    go_wp2_with fail
    refine Calls.mono (HRP.out _) ?_
    rintro r w3 ⟨rfl, b3⟩
    have S3 := hid2 (S1.out.next b3)
    obtain ⟨n0, n1, _, _⟩ := S3.out.rd.two
    have nl := S3.out.rd.lt
    clear b3 m0 m1 m2 m3 m4 m5 m6 m7 m8 m9 ml
    go_wp2_with fail
    refine Calls.mono (HRB.out _) ?_
    rintro r w4 ⟨rfl, b4⟩
    have S4 := hid2 (S3.out.next b4)
    obtain ⟨k0, k1, _, _⟩ := S4.out.rd.two
    have kl := S4.out.rd.lt
    clear b4
    go_wp2_with fail
    go_quiet (fail)
    have S5 := hid2 (S4.out.next (drewN_b2 w4 nq))
    generalize w4.drewN nq = W5 at *
    clear k0 k1 kl
    go_wp2_with fail
    refine Calls.mono (HRR.out _) ?_
    rintro r w6 ⟨rfl, b6⟩
    have S6 := hid2 (S5.out.next b6)
    clear b6
    simp only []
    go_wp2_with fail
    refine Calls.mono (T.out _ _ S6.out.rd) ?_
    rintro r w7 ⟨rfl, M7⟩
    obtain ⟨bx, fin⟩ := S6.out.took M7
    obtain ⟨p0, p1, p2, p3, g0, g1, g2, g3⟩ := bx.four
    have bl := bx.lt
    have FIN := hid2 fin
    clear bx fin M7
    unfold tkv
    go_wp2_with fail
    refine bodyPost_ret (v := .tuple #[tkV ⟨3, x, (v : Int), i⟩, .int .i64 0]) (by simp [results, Tryz.results91, go_sem, *]; rfl) rfl ⟨by rw [HX.out], ?_⟩
    exact FIN.out _ _ _ _
set_option maxHeartbeats 8000000 in
theorem number_BN (b i e1 : Nat) (s : ByteArray) (hz : s.size ≤ 1048576) (hie : i < e1) (hez : e1 ≤ s.size) (w : World) (h : Rdr w b s i) (R : ∀ wx, Calls Tryz.prog 114 #[.string s, .int .i64 (i : Nat), .int .i64 2] wx fun e w' => e = .returned (.int .i64 (e1 : Nat)) ∧ Below wx.heap.size wx w')
    (hd : (s.get! e1 == 46) = true) (pl : Nat) (hpl : ¬ e1 + 1 < pl) (_hpz : pl ≤ s.size) (RP : ∀ wx, Calls Tryz.prog 114 #[.string s, .int .i64 ((e1 : Int) + 1), .int .i64 2] wx fun e w' => e = .returned (.int .i64 (pl : Nat)) ∧ Below wx.heap.size wx w') (bh : Nat) (hbh : ¬ e1 < bh) (_hbz : bh ≤ s.size) (RB : ∀ wx, Calls Tryz.prog 114 #[.string s, .int .i64 (e1 : Nat), .int .i64 3] wx fun e w' => e = .returned (.int .i64 (bh : Nat)) ∧ Below wx.heap.size wx w') (o : Option Nat)
    (RR : ∀ wx, Calls Tryz.prog 119 #[.string (s.extract i e1)] wx fun e w' => e = .returned (match o with | some v => .tuple #[.int .i64 (v : Nat), .int .i64 0] | none => .tuple #[.int .i64 0, .int .i64 13]) ∧ Below wx.heap.size wx w') :
    Calls Tryz.prog 91 #[.pointer (some ⟨b, 0, none⟩)] w (CutPost w b s i true (valT 2 s i e1 o)) := by
  have ST := hid2 (St.made h 47)
  have hlt := h.lt
  have R2 := hid2 R
  have HP := prefix_at s e1 hez 46 (by decide)
  rw [hd] at HP
  have HPX := hid2 HP
  have HRB := hid2 RB
  have s1 := fun wx => sl_l s e1 hez wx
  have s2 := fun wx => sl_lh s i e1 (by omega) (by omega) wx
  have hxz : (s.extract i e1).size ≤ 1048576 := by rw [size_cut s i _ (by omega)]; omega
  have T := hid2 (fun (n : Int) w' (hw : Rdr w' b s i) => take_c b i e1 s (s.extract i e1) 2 n hxz w' hw)
  generalize hgx : s.extract i e1 = x at *
  have HX := hid2 hgx
  clear hgx
  have HRR := hid2 RR
  have hne : ((e1 : Int) == (i : Int)) = false := beq_eq_false_iff_ne.2 (by omega)
  have HRP := hid2 RP
  have hw1 : IntKind.i64.wrap ((e1 : Int) + 1) = (e1 : Int) + 1 := by rw [IntKind.wrap_i64]; omega
  have hq : ¬ ((e1 : Int) + 1 < (pl : Int)) := by omega
  clear hpl RP
  have hq2 : ¬ (((e1 : Nat) : Int) < (bh : Int)) := by omega
  clear h R HP RB RR hd hbh
  cases o with
  | none =>
    go_enter Tryz.func91, Tryz.ntmps91
    go_wp2_with fail
    obtain ⟨c0, c1, f0, f1⟩ := ST.out.rd.two
    generalize w.alloc _ = W at *
    go_region_held3 (fun w' => w'.cell? ⟨b, 0, none⟩ = some (.string s) ∧ w'.cell? ⟨b, 1, none⟩ = some (.int .i64 (i : Nat))) (simp [go_sem, *]) (first | (go_at_call 114; refine Calls.mono (R2.out _) ?_; rintro r w1 ⟨rfl, b1⟩; have S1 := hid2 (ST.out.next (below_on (Below.refl _ _).drew b1 (Nat.le_refl _))); obtain ⟨m0, m1, _, _⟩ := S1.out.rd.two; obtain ⟨m2, m3, m4, m5, m6, m7, m8, m9⟩ := S1.out.rb.four; have ml := S1.out.rd.lt; clear b1))
    clear c0 c1 f0 f1
    go_wp2_with fail
    refine Calls.mono (HPX.out _) ?_
    rintro r w2 ⟨rfl, rfl⟩
    go_wp2_with fail
    refine Calls.mono (HRP.out _) ?_
    rintro r w3 ⟨rfl, b3⟩
    have S3 := hid2 (S1.out.next b3)
    obtain ⟨n0, n1, _, _⟩ := S3.out.rd.two
    have nl := S3.out.rd.lt
    clear b3 m0 m1 m2 m3 m4 m5 m6 m7 m8 m9 ml
    go_wp2_with fail
    refine Calls.mono (HRB.out _) ?_
    rintro r w4 ⟨rfl, b4⟩
    have S4 := hid2 (S3.out.next b4)
    obtain ⟨k0, k1, _, _⟩ := S4.out.rd.two
    have kl := S4.out.rd.lt
    clear b4
    go_wp2_with fail
    go_quiet (fail)
    have S5 := hid2 (S4.out.next (drewN_b2 w4 nq))
    generalize w4.drewN nq = W5 at *
    clear k0 k1 kl
    go_wp2_with fail
    refine Calls.mono (HRR.out _) ?_
    rintro r w6 ⟨rfl, b6⟩
    have S6 := hid2 (S5.out.next b6)
    clear b6
    simp only []
    obtain ⟨p0, p1, p2, p3, g0, g1, g2, g3⟩ := S6.out.rb.four
    have bl := S6.out.rb.lt
    go_wp2_with fail
    refine bodyPost_ret (v := .tuple #[noV, .int .i64 13]) (by simp [results, Tryz.results91, go_sem, *]; rfl) rfl ⟨rfl, ?_⟩
    exact (S6.out.set _ _ _ _).stay
  | some v =>
    go_enter Tryz.func91, Tryz.ntmps91
    go_wp2_with fail
    obtain ⟨c0, c1, f0, f1⟩ := ST.out.rd.two
    generalize w.alloc _ = W at *
    go_region_held3 (fun w' => w'.cell? ⟨b, 0, none⟩ = some (.string s) ∧ w'.cell? ⟨b, 1, none⟩ = some (.int .i64 (i : Nat))) (simp [go_sem, *]) (first | (go_at_call 114; refine Calls.mono (R2.out _) ?_; rintro r w1 ⟨rfl, b1⟩; have S1 := hid2 (ST.out.next (below_on (Below.refl _ _).drew b1 (Nat.le_refl _))); obtain ⟨m0, m1, _, _⟩ := S1.out.rd.two; obtain ⟨m2, m3, m4, m5, m6, m7, m8, m9⟩ := S1.out.rb.four; have ml := S1.out.rd.lt; clear b1))
    clear c0 c1 f0 f1
    go_wp2_with fail
    refine Calls.mono (HPX.out _) ?_
    rintro r w2 ⟨rfl, rfl⟩
    go_wp2_with fail
    refine Calls.mono (HRP.out _) ?_
    rintro r w3 ⟨rfl, b3⟩
    have S3 := hid2 (S1.out.next b3)
    obtain ⟨n0, n1, _, _⟩ := S3.out.rd.two
    have nl := S3.out.rd.lt
    clear b3 m0 m1 m2 m3 m4 m5 m6 m7 m8 m9 ml
    go_wp2_with fail
    refine Calls.mono (HRB.out _) ?_
    rintro r w4 ⟨rfl, b4⟩
    have S4 := hid2 (S3.out.next b4)
    obtain ⟨k0, k1, _, _⟩ := S4.out.rd.two
    have kl := S4.out.rd.lt
    clear b4
    go_wp2_with fail
    go_quiet (fail)
    have S5 := hid2 (S4.out.next (drewN_b2 w4 nq))
    generalize w4.drewN nq = W5 at *
    clear k0 k1 kl
    go_wp2_with fail
    refine Calls.mono (HRR.out _) ?_
    rintro r w6 ⟨rfl, b6⟩
    have S6 := hid2 (S5.out.next b6)
    clear b6
    simp only []
    go_wp2_with fail
    refine Calls.mono (T.out _ _ S6.out.rd) ?_
    rintro r w7 ⟨rfl, M7⟩
    obtain ⟨bx, fin⟩ := S6.out.took M7
    obtain ⟨p0, p1, p2, p3, g0, g1, g2, g3⟩ := bx.four
    have bl := bx.lt
    have FIN := hid2 fin
    clear bx fin M7
    unfold tkv
    go_wp2_with fail
    refine bodyPost_ret (v := .tuple #[tkV ⟨2, x, (v : Int), i⟩, .int .i64 0]) (by simp [results, Tryz.results91, go_sem, *]; rfl) rfl ⟨by rw [HX.out], ?_⟩
    exact FIN.out _ _ _ _
set_option maxHeartbeats 8000000 in
theorem number_CD (b i e1 : Nat) (s : ByteArray) (hz : s.size ≤ 1048576) (hie : i < e1) (hez : e1 ≤ s.size) (w : World) (h : Rdr w b s i) (R : ∀ wx, Calls Tryz.prog 114 #[.string s, .int .i64 (i : Nat), .int .i64 2] wx fun e w' => e = .returned (.int .i64 (e1 : Nat)) ∧ Below wx.heap.size wx w')
    (hd : (s.get! e1 == 46) = true) (pl : Nat) (hpl : e1 + 1 < pl) (_hpz : pl ≤ s.size) (RP : ∀ wx, Calls Tryz.prog 114 #[.string s, .int .i64 ((e1 : Int) + 1), .int .i64 2] wx fun e w' => e = .returned (.int .i64 (pl : Nat)) ∧ Below wx.heap.size wx w') (bh : Nat) (hbh : pl < bh) (hbz : bh ≤ s.size) (RB : ∀ wx, Calls Tryz.prog 114 #[.string s, .int .i64 (pl : Nat), .int .i64 3] wx fun e w' => e = .returned (.int .i64 (bh : Nat)) ∧ Below wx.heap.size wx w') (o : Option Nat)
    (RR : ∀ wx, Calls Tryz.prog 120 #[.string (s.extract i bh)] wx fun e w' => e = .returned (match o with | some v => .tuple #[.int .i64 (v : Nat), .int .i64 0] | none => .tuple #[.int .i64 0, .int .i64 13]) ∧ Below wx.heap.size wx w') :
    Calls Tryz.prog 91 #[.pointer (some ⟨b, 0, none⟩)] w (CutPost w b s i true (valT 3 s i bh o)) := by
  have ST := hid2 (St.made h 47)
  have hlt := h.lt
  have R2 := hid2 R
  have HP := prefix_at s e1 hez 46 (by decide)
  rw [hd] at HP
  have HPX := hid2 HP
  have HRB := hid2 RB
  have s1 := fun wx => sl_l s e1 hez wx
  have s2 := fun wx => sl_lh s i bh (by omega) (by omega) wx
  have hxz : (s.extract i bh).size ≤ 1048576 := by rw [size_cut s i _ (by omega)]; omega
  have T := hid2 (fun (n : Int) w' (hw : Rdr w' b s i) => take_c b i bh s (s.extract i bh) 3 n hxz w' hw)
  generalize hgx : s.extract i bh = x at *
  have HX := hid2 hgx
  clear hgx
  have HRR := hid2 RR
  have hne : ((e1 : Int) == (i : Int)) = false := beq_eq_false_iff_ne.2 (by omega)
  have HRP := hid2 RP
  have hw1 : IntKind.i64.wrap ((e1 : Int) + 1) = (e1 : Int) + 1 := by rw [IntKind.wrap_i64]; omega
  have hq : (e1 : Int) + 1 < (pl : Int) := by omega
  clear hpl RP
  have hq2 : ((pl : Nat) : Int) < (bh : Int) := by omega
  clear h R HP RB RR hd hbh
  cases o with
  | none =>
    go_enter Tryz.func91, Tryz.ntmps91
    go_wp2_with fail
    obtain ⟨c0, c1, f0, f1⟩ := ST.out.rd.two
    generalize w.alloc _ = W at *
    go_region_held3 (fun w' => w'.cell? ⟨b, 0, none⟩ = some (.string s) ∧ w'.cell? ⟨b, 1, none⟩ = some (.int .i64 (i : Nat))) (simp [go_sem, *]) (first | (go_at_call 114; refine Calls.mono (R2.out _) ?_; rintro r w1 ⟨rfl, b1⟩; have S1 := hid2 (ST.out.next (below_on (Below.refl _ _).drew b1 (Nat.le_refl _))); obtain ⟨m0, m1, _, _⟩ := S1.out.rd.two; obtain ⟨m2, m3, m4, m5, m6, m7, m8, m9⟩ := S1.out.rb.four; have ml := S1.out.rd.lt; clear b1))
    clear c0 c1 f0 f1
    go_wp2_with fail
    refine Calls.mono (HPX.out _) ?_
    rintro r w2 ⟨rfl, rfl⟩
    go_wp2_with fail
    refine Calls.mono (HRP.out _) ?_
    rintro r w3 ⟨rfl, b3⟩
    have S3 := hid2 (S1.out.next b3)
    obtain ⟨n0, n1, _, _⟩ := S3.out.rd.two
    have nl := S3.out.rd.lt
    clear b3 m0 m1 m2 m3 m4 m5 m6 m7 m8 m9 ml
    go_wp2_with fail
    refine Calls.mono (HRB.out _) ?_
    rintro r w4 ⟨rfl, b4⟩
    have S4 := hid2 (S3.out.next b4)
    obtain ⟨k0, k1, _, _⟩ := S4.out.rd.two
    have kl := S4.out.rd.lt
    clear b4
    go_wp2_with fail
    go_quiet (fail)
    have S5 := hid2 (S4.out.next (drewN_b2 w4 nq))
    generalize w4.drewN nq = W5 at *
    clear k0 k1 kl
    go_wp2_with fail
    refine Calls.mono (HRR.out _) ?_
    rintro r w6 ⟨rfl, b6⟩
    have S6 := hid2 (S5.out.next b6)
    clear b6
    simp only []
    obtain ⟨p0, p1, p2, p3, g0, g1, g2, g3⟩ := S6.out.rb.four
    have bl := S6.out.rb.lt
    go_wp2_with fail
    refine bodyPost_ret (v := .tuple #[noV, .int .i64 13]) (by simp [results, Tryz.results91, go_sem, *]; rfl) rfl ⟨rfl, ?_⟩
    exact (S6.out.set _ _ _ _).stay
  | some v =>
    go_enter Tryz.func91, Tryz.ntmps91
    go_wp2_with fail
    obtain ⟨c0, c1, f0, f1⟩ := ST.out.rd.two
    generalize w.alloc _ = W at *
    go_region_held3 (fun w' => w'.cell? ⟨b, 0, none⟩ = some (.string s) ∧ w'.cell? ⟨b, 1, none⟩ = some (.int .i64 (i : Nat))) (simp [go_sem, *]) (first | (go_at_call 114; refine Calls.mono (R2.out _) ?_; rintro r w1 ⟨rfl, b1⟩; have S1 := hid2 (ST.out.next (below_on (Below.refl _ _).drew b1 (Nat.le_refl _))); obtain ⟨m0, m1, _, _⟩ := S1.out.rd.two; obtain ⟨m2, m3, m4, m5, m6, m7, m8, m9⟩ := S1.out.rb.four; have ml := S1.out.rd.lt; clear b1))
    clear c0 c1 f0 f1
    go_wp2_with fail
    refine Calls.mono (HPX.out _) ?_
    rintro r w2 ⟨rfl, rfl⟩
    go_wp2_with fail
    refine Calls.mono (HRP.out _) ?_
    rintro r w3 ⟨rfl, b3⟩
    have S3 := hid2 (S1.out.next b3)
    obtain ⟨n0, n1, _, _⟩ := S3.out.rd.two
    have nl := S3.out.rd.lt
    clear b3 m0 m1 m2 m3 m4 m5 m6 m7 m8 m9 ml
    go_wp2_with fail
    refine Calls.mono (HRB.out _) ?_
    rintro r w4 ⟨rfl, b4⟩
    have S4 := hid2 (S3.out.next b4)
    obtain ⟨k0, k1, _, _⟩ := S4.out.rd.two
    have kl := S4.out.rd.lt
    clear b4
    go_wp2_with fail
    go_quiet (fail)
    have S5 := hid2 (S4.out.next (drewN_b2 w4 nq))
    generalize w4.drewN nq = W5 at *
    clear k0 k1 kl
    go_wp2_with fail
    refine Calls.mono (HRR.out _) ?_
    rintro r w6 ⟨rfl, b6⟩
    have S6 := hid2 (S5.out.next b6)
    clear b6
    simp only []
    go_wp2_with fail
    refine Calls.mono (T.out _ _ S6.out.rd) ?_
    rintro r w7 ⟨rfl, M7⟩
    obtain ⟨bx, fin⟩ := S6.out.took M7
    obtain ⟨p0, p1, p2, p3, g0, g1, g2, g3⟩ := bx.four
    have bl := bx.lt
    have FIN := hid2 fin
    clear bx fin M7
    unfold tkv
    go_wp2_with fail
    refine bodyPost_ret (v := .tuple #[tkV ⟨3, x, (v : Int), i⟩, .int .i64 0]) (by simp [results, Tryz.results91, go_sem, *]; rfl) rfl ⟨by rw [HX.out], ?_⟩
    exact FIN.out _ _ _ _
set_option maxHeartbeats 8000000 in
theorem number_CN (b i e1 : Nat) (s : ByteArray) (hz : s.size ≤ 1048576) (hie : i < e1) (hez : e1 ≤ s.size) (w : World) (h : Rdr w b s i) (R : ∀ wx, Calls Tryz.prog 114 #[.string s, .int .i64 (i : Nat), .int .i64 2] wx fun e w' => e = .returned (.int .i64 (e1 : Nat)) ∧ Below wx.heap.size wx w')
    (hd : (s.get! e1 == 46) = true) (pl : Nat) (hpl : e1 + 1 < pl) (hpz : pl ≤ s.size) (RP : ∀ wx, Calls Tryz.prog 114 #[.string s, .int .i64 ((e1 : Int) + 1), .int .i64 2] wx fun e w' => e = .returned (.int .i64 (pl : Nat)) ∧ Below wx.heap.size wx w') (bh : Nat) (hbh : ¬ pl < bh) (_hbz : bh ≤ s.size) (RB : ∀ wx, Calls Tryz.prog 114 #[.string s, .int .i64 (pl : Nat), .int .i64 3] wx fun e w' => e = .returned (.int .i64 (bh : Nat)) ∧ Below wx.heap.size wx w') (o : Option Nat)
    (RR : ∀ wx, Calls Tryz.prog 119 #[.string (s.extract i pl)] wx fun e w' => e = .returned (match o with | some v => .tuple #[.int .i64 (v : Nat), .int .i64 0] | none => .tuple #[.int .i64 0, .int .i64 13]) ∧ Below wx.heap.size wx w') :
    Calls Tryz.prog 91 #[.pointer (some ⟨b, 0, none⟩)] w (CutPost w b s i true (valT 2 s i pl o)) := by
  have ST := hid2 (St.made h 47)
  have hlt := h.lt
  have R2 := hid2 R
  have HP := prefix_at s e1 hez 46 (by decide)
  rw [hd] at HP
  have HPX := hid2 HP
  have HRB := hid2 RB
  have s1 := fun wx => sl_l s e1 hez wx
  have s2 := fun wx => sl_lh s i pl (by omega) (by omega) wx
  have hxz : (s.extract i pl).size ≤ 1048576 := by rw [size_cut s i _ (by omega)]; omega
  have T := hid2 (fun (n : Int) w' (hw : Rdr w' b s i) => take_c b i pl s (s.extract i pl) 2 n hxz w' hw)
  generalize hgx : s.extract i pl = x at *
  have HX := hid2 hgx
  clear hgx
  have HRR := hid2 RR
  have hne : ((e1 : Int) == (i : Int)) = false := beq_eq_false_iff_ne.2 (by omega)
  have HRP := hid2 RP
  have hw1 : IntKind.i64.wrap ((e1 : Int) + 1) = (e1 : Int) + 1 := by rw [IntKind.wrap_i64]; omega
  have hq : (e1 : Int) + 1 < (pl : Int) := by omega
  clear hpl RP
  have hq2 : ¬ (((pl : Nat) : Int) < (bh : Int)) := by omega
  clear h R HP RB RR hd hbh
  cases o with
  | none =>
    go_enter Tryz.func91, Tryz.ntmps91
    go_wp2_with fail
    obtain ⟨c0, c1, f0, f1⟩ := ST.out.rd.two
    generalize w.alloc _ = W at *
    go_region_held3 (fun w' => w'.cell? ⟨b, 0, none⟩ = some (.string s) ∧ w'.cell? ⟨b, 1, none⟩ = some (.int .i64 (i : Nat))) (simp [go_sem, *]) (first | (go_at_call 114; refine Calls.mono (R2.out _) ?_; rintro r w1 ⟨rfl, b1⟩; have S1 := hid2 (ST.out.next (below_on (Below.refl _ _).drew b1 (Nat.le_refl _))); obtain ⟨m0, m1, _, _⟩ := S1.out.rd.two; obtain ⟨m2, m3, m4, m5, m6, m7, m8, m9⟩ := S1.out.rb.four; have ml := S1.out.rd.lt; clear b1))
    clear c0 c1 f0 f1
    go_wp2_with fail
    refine Calls.mono (HPX.out _) ?_
    rintro r w2 ⟨rfl, rfl⟩
    go_wp2_with fail
    refine Calls.mono (HRP.out _) ?_
    rintro r w3 ⟨rfl, b3⟩
    have S3 := hid2 (S1.out.next b3)
    obtain ⟨n0, n1, _, _⟩ := S3.out.rd.two
    have nl := S3.out.rd.lt
    clear b3 m0 m1 m2 m3 m4 m5 m6 m7 m8 m9 ml
    go_wp2_with fail
    refine Calls.mono (HRB.out _) ?_
    rintro r w4 ⟨rfl, b4⟩
    have S4 := hid2 (S3.out.next b4)
    obtain ⟨k0, k1, _, _⟩ := S4.out.rd.two
    have kl := S4.out.rd.lt
    clear b4
    go_wp2_with fail
    go_quiet (fail)
    have S5 := hid2 (S4.out.next (drewN_b2 w4 nq))
    generalize w4.drewN nq = W5 at *
    clear k0 k1 kl
    go_wp2_with fail
    refine Calls.mono (HRR.out _) ?_
    rintro r w6 ⟨rfl, b6⟩
    have S6 := hid2 (S5.out.next b6)
    clear b6
    simp only []
    obtain ⟨p0, p1, p2, p3, g0, g1, g2, g3⟩ := S6.out.rb.four
    have bl := S6.out.rb.lt
    go_wp2_with fail
    refine bodyPost_ret (v := .tuple #[noV, .int .i64 13]) (by simp [results, Tryz.results91, go_sem, *]; rfl) rfl ⟨rfl, ?_⟩
    exact (S6.out.set _ _ _ _).stay
  | some v =>
    go_enter Tryz.func91, Tryz.ntmps91
    go_wp2_with fail
    obtain ⟨c0, c1, f0, f1⟩ := ST.out.rd.two
    generalize w.alloc _ = W at *
    go_region_held3 (fun w' => w'.cell? ⟨b, 0, none⟩ = some (.string s) ∧ w'.cell? ⟨b, 1, none⟩ = some (.int .i64 (i : Nat))) (simp [go_sem, *]) (first | (go_at_call 114; refine Calls.mono (R2.out _) ?_; rintro r w1 ⟨rfl, b1⟩; have S1 := hid2 (ST.out.next (below_on (Below.refl _ _).drew b1 (Nat.le_refl _))); obtain ⟨m0, m1, _, _⟩ := S1.out.rd.two; obtain ⟨m2, m3, m4, m5, m6, m7, m8, m9⟩ := S1.out.rb.four; have ml := S1.out.rd.lt; clear b1))
    clear c0 c1 f0 f1
    go_wp2_with fail
    refine Calls.mono (HPX.out _) ?_
    rintro r w2 ⟨rfl, rfl⟩
    go_wp2_with fail
    refine Calls.mono (HRP.out _) ?_
    rintro r w3 ⟨rfl, b3⟩
    have S3 := hid2 (S1.out.next b3)
    obtain ⟨n0, n1, _, _⟩ := S3.out.rd.two
    have nl := S3.out.rd.lt
    clear b3 m0 m1 m2 m3 m4 m5 m6 m7 m8 m9 ml
    go_wp2_with fail
    refine Calls.mono (HRB.out _) ?_
    rintro r w4 ⟨rfl, b4⟩
    have S4 := hid2 (S3.out.next b4)
    obtain ⟨k0, k1, _, _⟩ := S4.out.rd.two
    have kl := S4.out.rd.lt
    clear b4
    go_wp2_with fail
    go_quiet (fail)
    have S5 := hid2 (S4.out.next (drewN_b2 w4 nq))
    generalize w4.drewN nq = W5 at *
    clear k0 k1 kl
    go_wp2_with fail
    refine Calls.mono (HRR.out _) ?_
    rintro r w6 ⟨rfl, b6⟩
    have S6 := hid2 (S5.out.next b6)
    clear b6
    simp only []
    go_wp2_with fail
    refine Calls.mono (T.out _ _ S6.out.rd) ?_
    rintro r w7 ⟨rfl, M7⟩
    obtain ⟨bx, fin⟩ := S6.out.took M7
    obtain ⟨p0, p1, p2, p3, g0, g1, g2, g3⟩ := bx.four
    have bl := bx.lt
    have FIN := hid2 fin
    clear bx fin M7
    unfold tkv
    go_wp2_with fail
    refine bodyPost_ret (v := .tuple #[tkV ⟨2, x, (v : Int), i⟩, .int .i64 0]) (by simp [results, Tryz.results91, go_sem, *]; rfl) rfl ⟨by rw [HX.out], ?_⟩
    exact FIN.out _ _ _ _
theorem number_c (b i : Nat) (s : ByteArray) (hi : i < s.size) (hz : s.size ≤ 1048576) (w : World) (h : Rdr w b s i) :
    Calls Tryz.prog 91 #[.pointer (some ⟨b, 0, none⟩)] w (CutPost w b s i (decide (cls s 2 i ≠ i)) (numT s i)) := by
  have R := fun wx => run_at s i 2 (by omega) hz wx
  have hin := cls_in s 2 i (by omega)
  by_cases h1 : cls s 2 i = i
  · rw [h1] at R
    refine (number_none b i s w h R).mono ?_
    intro e w' hh
    unfold CutPost
    rw [if_neg (by simp [h1])]
    exact hh
  · have own : decide (cls s 2 i ≠ i) = true := by simp [h1]
    rw [own]
    have hlt : i < cls s 2 i := by omega
    have spn : ∀ e, e ≤ s.size → ∀ wx, Calls Tryz.prog 120 #[.string (s.extract i e)] wx fun r w' => r = .returned (match spanN (s.extract i e).data.toList with | some v => .tuple #[.int .i64 (v : Nat), .int .i64 0] | none => .tuple #[.int .i64 0, .int .i64 13]) ∧ Below wx.heap.size wx w' :=
      fun e he wx => span_at (s.extract i e) (by rw [size_cut s i e he]; omega) wx
    have rdn : ∀ e, e ≤ s.size → ∀ wx, Calls Tryz.prog 119 #[.string (s.extract i e)] wx fun r w' => r = .returned (match readN (s.extract i e).data.toList with | some v => .tuple #[.int .i64 (v : Nat), .int .i64 0] | none => .tuple #[.int .i64 0, .int .i64 13]) ∧ Below wx.heap.size wx w' :=
      fun e he wx => read_at (s.extract i e) (by rw [size_cut s i e he]; omega) wx
    have hE := numE_in (s := s) (i := i) (by omega)
    have hB := cls_in s 3 (numE s i) hE.2
    have RB := fun wx => run_at s (numE s i) 3 hE.2 hz wx
    unfold numT
    by_cases hd : s.get! (cls s 2 i) = 46
    · have hj := get_in (s := s) (i := cls s 2 i) (by rw [hd]; decide)
      have hd' : (s.get! (cls s 2 i) == 46) = true := by rw [hd]; rfl
      have hP := cls_in s 2 (cls s 2 i + 1) hj
      have RP := fun wx => run_at s (cls s 2 i + 1) 2 hj hz wx
      rw [show ((cls s 2 i + 1 : Nat) : Int) = ((cls s 2 i : Nat) : Int) + 1 by omega] at RP
      by_cases hpl : cls s 2 i + 1 < cls s 2 (cls s 2 i + 1)
      · have hN : numE s i = cls s 2 (cls s 2 i + 1) := if_pos ⟨hd, hpl⟩
        rw [hN] at RB hB ⊢
        by_cases hb : cls s 2 (cls s 2 i + 1) < cls s 3 (cls s 2 (cls s 2 i + 1))
        · rw [if_pos hb]
          exact number_CD b i _ s hz hlt hin.2 w h R hd' _ hpl hP.2 RP _ hb hB.2 RB _ (spn _ hB.2)
        · rw [if_neg hb]
          exact number_CN b i _ s hz hlt hin.2 w h R hd' _ hpl hP.2 RP _ hb hB.2 RB _ (rdn _ hP.2)
      · have hN : numE s i = cls s 2 i := if_neg (fun hh => hpl hh.2)
        rw [hN] at RB hB ⊢
        by_cases hb : cls s 2 i < cls s 3 (cls s 2 i)
        · rw [if_pos hb]
          exact number_BD b i _ s hz hlt hin.2 w h R hd' _ hpl hP.2 RP _ hb hB.2 RB _ (spn _ hB.2)
        · rw [if_neg hb]
          exact number_BN b i _ s hz hlt hin.2 w h R hd' _ hpl hP.2 RP _ hb hB.2 RB _ (rdn _ hin.2)
    · have hd' : (s.get! (cls s 2 i) == 46) = false := beq_eq_false_iff_ne.2 hd
      have hN : numE s i = cls s 2 i := if_neg (fun hh => hd hh.1)
      rw [hN] at RB hB ⊢
      by_cases hb : cls s 2 i < cls s 3 (cls s 2 i)
      · rw [if_pos hb]
        exact number_AD b i _ s hz hlt hin.2 w h R hd' _ hb hB.2 RB _ (spn _ hB.2)
      · rw [if_neg hb]
        exact number_AN b i _ s hz hlt hin.2 w h R hd' _ hb hB.2 RB _ (rdn _ hin.2)
end Go.Proofs.YtecdfnpbcabdnaaGreatDoor
