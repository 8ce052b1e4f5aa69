/- The document's cutter: number. -/
import Derived.Test.YtecdfnpbcabdnaaGreatDoorLyF
namespace Go.Proofs.YtecdfnpbcabdnaaGreatDoor
open Go.RowKit Go.Lib

theorem Ct.piece {w W : World} {B b g cap I K k : Nat} {s : ByteArray} {v : Value} {L : List Tk} (h : Ct w B W b g cap s I v L) (hp : Plc s K k) : W.cell? ⟨g, K * 2, none⟩ = some (.int .i64 (rAt s k)) ∧ W.cell? ⟨g, K * 2 + 1, none⟩ = some (.int .i64 (k : Nat)) := by
  have := pcs_get _ _ _ hp.get
  rw [Nat.mul_comm] at this
  exact ⟨h.pc.cell _ _ this.1, h.pc.cell _ _ this.2⟩

set_option maxHeartbeats 8000000 in
theorem rnum_AD (w : World) (B : Nat) (W : World) (b g cap : Nat) (s : ByteArray) (I i N1 e1 : Nat) (v : Value) (L : List Tk) (h : Ct w B W b g cap s I v L) (hp : Plc s I i) (h1 : Plc s N1 e1) (hl : L.length ≤ 16384) (_hz : s.size ≤ 1048576) (R1 : ∀ W' J, Cu W' b s J v → Calls Tryz.prog 80 #[.pointer (some ⟨b, 0, none⟩), .int .i64 (I : Nat), .int .i64 2] W' fun e w' => e = .returned (.int .i64 (N1 : Nat)) ∧ w' = W') (hd : (rAt s e1 == 46) = false) (C2 : ∀ W' J, Cu W' b s J v → Calls Tryz.prog 81 #[.pointer (some ⟨b, 0, none⟩), .int .i64 (N1 : Nat), .int .i64 1] W' fun e w' => e = .returned (.bool true) ∧ w' = W') (N3 : Nat) (R3 : ∀ W' J, Cu W' b s J v → Calls Tryz.prog 80 #[.pointer (some ⟨b, 0, none⟩), .int .i64 (N1 : Nat), .int .i64 3] W' fun e w' => e = .returned (.int .i64 (N3 : Nat)) ∧ w' = W') (e : Nat) (x : ByteArray) (T : ∀ W' J, Cu W' b s J v → Calls Tryz.prog 82 #[.pointer (some ⟨b, 0, none⟩), .int .i64 (I : Nat), .int .i64 (N3 : Nat)] W' fun r w' => r = .returned (.string x) ∧ ∃ q, w' = W'.drewN q) (he : Plc s N3 e) (hx : s.extract i e = x) (o : Option Nat) (RR : ∀ wx, Calls Tryz.prog 108 #[.string x] wx fun r w' => r = .returned (match o with | some v => .tuple #[.int .i64 (v : Nat), .int .i64 0] | none => .tuple #[.int .i64 0, .int .i64 13]) ∧ Below wx.heap.size wx w') :
    Calls Tryz.prog 84 #[.pointer (some ⟨b, 0, none⟩)] W (TkPost w B b g cap s I v L (valT 3 s i e o)) := by
  have H := hid2 h
  obtain ⟨c0, c1, c2, c3, f0, f1, f2, f3⟩ := h.box.four
  obtain ⟨r0, r1⟩ := h.piece h1
  have hlt := h.box.lt
  have hlg := h.pc.lt
  have hll := PL_len s
  have hrs := rs_length0 s
  have hN1 := h1.le
  have hI2 : (N1 : Int) < (((PL s).length : Nat) : Int) := by omega
  have HP := hid2 hp
  have HE := hid2 he
  have HT := hid2 T
  have HRR := hid2 RR
  have HR1 := hid2 R1
  have HC2 := hid2 C2
  have HR3 := hid2 R3
  generalize hPn : (PL s).length = nn at *
  generalize rAt s e1 = rr at *
  clear h hp h1 he T RR R1 C2 R3
  cases o with
  | none =>
    go_enter Tryz.func84, Tryz.ntmps84
    go_wp2_with fail
    refine Calls.mono (HR1.out _ _ H.out.cu) ?_
    rintro r w1 ⟨rfl, rfl⟩
    go_wp2_with fail
    refine Calls.mono (HC2.out _ _ H.out.cu) ?_
    rintro r w4 ⟨rfl, rfl⟩
    go_wp2_with fail
    refine Calls.mono (HR3.out _ _ H.out.cu) ?_
    rintro r w5 ⟨rfl, rfl⟩
    go_wp2_with fail
    refine Calls.mono (HT.out _ _ H.out.cu) ?_
    rintro r w6 ⟨rfl, q6, rfl⟩
    have H6 := hid2 (H.out.drewN q6)
    generalize World.drewN _ q6 = W6 at *
    go_wp2_with fail
    refine Calls.mono (HRR.out _) ?_
    rintro r w7 ⟨rfl, b7⟩
    have H7 := hid2 (H6.out.next b7)
    clear b7
    obtain ⟨d0, d1, d2, d3, _⟩ := H7.out.box.four
    have dl := H7.out.box.lt
    simp only []
    go_wp2_with fail
    go_ret
    exact ⟨rfl, H7.out⟩
  | some val =>
    go_enter Tryz.func84, Tryz.ntmps84
    go_wp2_with fail
    refine Calls.mono (HR1.out _ _ H.out.cu) ?_
    rintro r w1 ⟨rfl, rfl⟩
    go_wp2_with fail
    refine Calls.mono (HC2.out _ _ H.out.cu) ?_
    rintro r w4 ⟨rfl, rfl⟩
    go_wp2_with fail
    refine Calls.mono (HR3.out _ _ H.out.cu) ?_
    rintro r w5 ⟨rfl, rfl⟩
    go_wp2_with fail
    refine Calls.mono (HT.out _ _ H.out.cu) ?_
    rintro r w6 ⟨rfl, q6, rfl⟩
    have H6 := hid2 (H.out.drewN q6)
    generalize World.drewN _ q6 = W6 at *
    go_wp2_with fail
    refine Calls.mono (HRR.out _) ?_
    rintro r w7 ⟨rfl, b7⟩
    have H7 := hid2 (H6.out.next b7)
    clear b7
    obtain ⟨d0, d1, d2, d3, _⟩ := H7.out.box.four
    have dl := H7.out.box.lt
    simp only []
    go_wp2_with fail
    refine Calls.mono (HT.out _ _ H7.out.cu) ?_
    rintro r w8 ⟨rfl, q8, rfl⟩
    have H8 := hid2 (H7.out.drewN q8)
    generalize World.drewN _ q8 = W8 at *
    go_wp2_with fail
    refine Calls.mono (put_c w B W8 b g cap s I i N3 v L 3 x (val : Nat) H8.out HP.out hl) ?_
    rintro r w9 ⟨rfl, v9, C9⟩
    go_wp2_with fail
    go_ret
    exact ⟨rfl, N3, v9, by rw [hx]; exact C9, HE.out⟩
set_option maxHeartbeats 8000000 in
theorem rnum_AN (w : World) (B : Nat) (W : World) (b g cap : Nat) (s : ByteArray) (I i N1 e1 : Nat) (v : Value) (L : List Tk) (h : Ct w B W b g cap s I v L) (hp : Plc s I i) (h1 : Plc s N1 e1) (hl : L.length ≤ 16384) (_hz : s.size ≤ 1048576) (R1 : ∀ W' J, Cu W' b s J v → Calls Tryz.prog 80 #[.pointer (some ⟨b, 0, none⟩), .int .i64 (I : Nat), .int .i64 2] W' fun e w' => e = .returned (.int .i64 (N1 : Nat)) ∧ w' = W') (hd : (rAt s e1 == 46) = false) (C2 : ∀ W' J, Cu W' b s J v → Calls Tryz.prog 81 #[.pointer (some ⟨b, 0, none⟩), .int .i64 (N1 : Nat), .int .i64 1] W' fun e w' => e = .returned (.bool false) ∧ w' = W') (e : Nat) (x : ByteArray) (T : ∀ W' J, Cu W' b s J v → Calls Tryz.prog 82 #[.pointer (some ⟨b, 0, none⟩), .int .i64 (I : Nat), .int .i64 (N1 : Nat)] W' fun r w' => r = .returned (.string x) ∧ ∃ q, w' = W'.drewN q) (he : Plc s N1 e) (hx : s.extract i e = x) (o : Option Nat) (RR : ∀ wx, Calls Tryz.prog 107 #[.string x] wx fun r w' => r = .returned (match o with | some v => .tuple #[.int .i64 (v : Nat), .int .i64 0] | none => .tuple #[.int .i64 0, .int .i64 13]) ∧ Below wx.heap.size wx w') :
    Calls Tryz.prog 84 #[.pointer (some ⟨b, 0, none⟩)] W (TkPost w B b g cap s I v L (valT 2 s i e o)) := by
  have H := hid2 h
  obtain ⟨c0, c1, c2, c3, f0, f1, f2, f3⟩ := h.box.four
  obtain ⟨r0, r1⟩ := h.piece h1
  have hlt := h.box.lt
  have hlg := h.pc.lt
  have hll := PL_len s
  have hrs := rs_length0 s
  have hN1 := h1.le
  have hI2 : (N1 : Int) < (((PL s).length : Nat) : Int) := by omega
  have HP := hid2 hp
  have HE := hid2 he
  have HT := hid2 T
  have HRR := hid2 RR
  have HR1 := hid2 R1
  have HC2 := hid2 C2
  generalize hPn : (PL s).length = nn at *
  generalize rAt s e1 = rr at *
  clear h hp h1 he T RR R1 C2
  cases o with
  | none =>
    go_enter Tryz.func84, Tryz.ntmps84
    go_wp2_with fail
    refine Calls.mono (HR1.out _ _ H.out.cu) ?_
    rintro r w1 ⟨rfl, rfl⟩
    go_wp2_with fail
    refine Calls.mono (HC2.out _ _ H.out.cu) ?_
    rintro r w4 ⟨rfl, rfl⟩
    go_wp2_with fail
    refine Calls.mono (HT.out _ _ H.out.cu) ?_
    rintro r w6 ⟨rfl, q6, rfl⟩
    have H6 := hid2 (H.out.drewN q6)
    generalize World.drewN _ q6 = W6 at *
    go_wp2_with fail
    refine Calls.mono (HRR.out _) ?_
    rintro r w7 ⟨rfl, b7⟩
    have H7 := hid2 (H6.out.next b7)
    clear b7
    obtain ⟨d0, d1, d2, d3, _⟩ := H7.out.box.four
    have dl := H7.out.box.lt
    simp only []
    go_wp2_with fail
    go_ret
    exact ⟨rfl, H7.out⟩
  | some val =>
    go_enter Tryz.func84, Tryz.ntmps84
    go_wp2_with fail
    refine Calls.mono (HR1.out _ _ H.out.cu) ?_
    rintro r w1 ⟨rfl, rfl⟩
    go_wp2_with fail
    refine Calls.mono (HC2.out _ _ H.out.cu) ?_
    rintro r w4 ⟨rfl, rfl⟩
    go_wp2_with fail
    refine Calls.mono (HT.out _ _ H.out.cu) ?_
    rintro r w6 ⟨rfl, q6, rfl⟩
    have H6 := hid2 (H.out.drewN q6)
    generalize World.drewN _ q6 = W6 at *
    go_wp2_with fail
    refine Calls.mono (HRR.out _) ?_
    rintro r w7 ⟨rfl, b7⟩
    have H7 := hid2 (H6.out.next b7)
    clear b7
    obtain ⟨d0, d1, d2, d3, _⟩ := H7.out.box.four
    have dl := H7.out.box.lt
    simp only []
    go_wp2_with fail
    refine Calls.mono (HT.out _ _ H7.out.cu) ?_
    rintro r w8 ⟨rfl, q8, rfl⟩
    have H8 := hid2 (H7.out.drewN q8)
    generalize World.drewN _ q8 = W8 at *
    go_wp2_with fail
    refine Calls.mono (put_c w B W8 b g cap s I i N1 v L 2 x (val : Nat) H8.out HP.out hl) ?_
    rintro r w9 ⟨rfl, v9, C9⟩
    go_wp2_with fail
    go_ret
    exact ⟨rfl, N1, v9, by rw [hx]; exact C9, HE.out⟩
set_option maxHeartbeats 8000000 in
theorem rnum_BD (w : World) (B : Nat) (W : World) (b g cap : Nat) (s : ByteArray) (I i N1 e1 : Nat) (v : Value) (L : List Tk) (h : Ct w B W b g cap s I v L) (hp : Plc s I i) (h1 : Plc s N1 e1) (hl : L.length ≤ 16384) (hz : s.size ≤ 1048576) (R1 : ∀ W' J, Cu W' b s J v → Calls Tryz.prog 80 #[.pointer (some ⟨b, 0, none⟩), .int .i64 (I : Nat), .int .i64 2] W' fun e w' => e = .returned (.int .i64 (N1 : Nat)) ∧ w' = W') (hd : rAt s e1 = 46) (C1 : ∀ W' J, Cu W' b s J v → Calls Tryz.prog 81 #[.pointer (some ⟨b, 0, none⟩), .int .i64 ((N1 : Int) + 1), .int .i64 2] W' fun e w' => e = .returned (.bool false) ∧ w' = W') (C2 : ∀ W' J, Cu W' b s J v → Calls Tryz.prog 81 #[.pointer (some ⟨b, 0, none⟩), .int .i64 (N1 : Nat), .int .i64 1] W' fun e w' => e = .returned (.bool true) ∧ w' = W') (N3 : Nat) (R3 : ∀ W' J, Cu W' b s J v → Calls Tryz.prog 80 #[.pointer (some ⟨b, 0, none⟩), .int .i64 (N1 : Nat), .int .i64 3] W' fun e w' => e = .returned (.int .i64 (N3 : Nat)) ∧ w' = W') (e : Nat) (x : ByteArray) (T : ∀ W' J, Cu W' b s J v → Calls Tryz.prog 82 #[.pointer (some ⟨b, 0, none⟩), .int .i64 (I : Nat), .int .i64 (N3 : Nat)] W' fun r w' => r = .returned (.string x) ∧ ∃ q, w' = W'.drewN q) (he : Plc s N3 e) (hx : s.extract i e = x) (o : Option Nat) (RR : ∀ wx, Calls Tryz.prog 108 #[.string x] wx fun r w' => r = .returned (match o with | some v => .tuple #[.int .i64 (v : Nat), .int .i64 0] | none => .tuple #[.int .i64 0, .int .i64 13]) ∧ Below wx.heap.size wx w') :
    Calls Tryz.prog 84 #[.pointer (some ⟨b, 0, none⟩)] W (TkPost w B b g cap s I v L (valT 3 s i e o)) := by
  have H := hid2 h
  obtain ⟨c0, c1, c2, c3, f0, f1, f2, f3⟩ := h.box.four
  obtain ⟨r0, r1⟩ := h.piece h1
  have hlt := h.box.lt
  have hlg := h.pc.lt
  have hll := PL_len s
  have hrs := rs_length0 s
  have hN1 := h1.le
  have hI2 : (N1 : Int) < (((PL s).length : Nat) : Int) := by omega
  have HP := hid2 hp
  have HE := hid2 he
  have HT := hid2 T
  have HRR := hid2 RR
  have HR1 := hid2 R1
  have HC2 := hid2 C2
  have HC1 := hid2 C1
  have hw1 : IntKind.i64.wrap ((N1 : Int) + 1) = (N1 : Int) + 1 := by rw [IntKind.wrap_i64]; omega
  rw [hd] at r0
  have HR3 := hid2 R3
  generalize hPn : (PL s).length = nn at *
  generalize rAt s e1 = rr at *
  clear h hp h1 he T RR R1 C2 C1 R3
  cases o with
  | none =>
    go_enter Tryz.func84, Tryz.ntmps84
    go_wp2_with fail
    refine Calls.mono (HR1.out _ _ H.out.cu) ?_
    rintro r w1 ⟨rfl, rfl⟩
    go_wp2_with fail
    refine Calls.mono (HC1.out _ _ H.out.cu) ?_
    rintro r w2 ⟨rfl, rfl⟩
    go_wp2_with fail
    refine Calls.mono (HC2.out _ _ H.out.cu) ?_
    rintro r w4 ⟨rfl, rfl⟩
    go_wp2_with fail
    refine Calls.mono (HR3.out _ _ H.out.cu) ?_
    rintro r w5 ⟨rfl, rfl⟩
    go_wp2_with fail
    refine Calls.mono (HT.out _ _ H.out.cu) ?_
    rintro r w6 ⟨rfl, q6, rfl⟩
    have H6 := hid2 (H.out.drewN q6)
    generalize World.drewN _ q6 = W6 at *
    go_wp2_with fail
    refine Calls.mono (HRR.out _) ?_
    rintro r w7 ⟨rfl, b7⟩
    have H7 := hid2 (H6.out.next b7)
    clear b7
    obtain ⟨d0, d1, d2, d3, _⟩ := H7.out.box.four
    have dl := H7.out.box.lt
    simp only []
    go_wp2_with fail
    go_ret
    exact ⟨rfl, H7.out⟩
  | some val =>
    go_enter Tryz.func84, Tryz.ntmps84
    go_wp2_with fail
    refine Calls.mono (HR1.out _ _ H.out.cu) ?_
    rintro r w1 ⟨rfl, rfl⟩
    go_wp2_with fail
    refine Calls.mono (HC1.out _ _ H.out.cu) ?_
    rintro r w2 ⟨rfl, rfl⟩
    go_wp2_with fail
    refine Calls.mono (HC2.out _ _ H.out.cu) ?_
    rintro r w4 ⟨rfl, rfl⟩
    go_wp2_with fail
    refine Calls.mono (HR3.out _ _ H.out.cu) ?_
    rintro r w5 ⟨rfl, rfl⟩
    go_wp2_with fail
    refine Calls.mono (HT.out _ _ H.out.cu) ?_
    rintro r w6 ⟨rfl, q6, rfl⟩
    have H6 := hid2 (H.out.drewN q6)
    generalize World.drewN _ q6 = W6 at *
    go_wp2_with fail
    refine Calls.mono (HRR.out _) ?_
    rintro r w7 ⟨rfl, b7⟩
    have H7 := hid2 (H6.out.next b7)
    clear b7
    obtain ⟨d0, d1, d2, d3, _⟩ := H7.out.box.four
    have dl := H7.out.box.lt
    simp only []
    go_wp2_with fail
    refine Calls.mono (HT.out _ _ H7.out.cu) ?_
    rintro r w8 ⟨rfl, q8, rfl⟩
    have H8 := hid2 (H7.out.drewN q8)
    generalize World.drewN _ q8 = W8 at *
    go_wp2_with fail
    refine Calls.mono (put_c w B W8 b g cap s I i N3 v L 3 x (val : Nat) H8.out HP.out hl) ?_
    rintro r w9 ⟨rfl, v9, C9⟩
    go_wp2_with fail
    go_ret
    exact ⟨rfl, N3, v9, by rw [hx]; exact C9, HE.out⟩
set_option maxHeartbeats 8000000 in
theorem rnum_BN (w : World) (B : Nat) (W : World) (b g cap : Nat) (s : ByteArray) (I i N1 e1 : Nat) (v : Value) (L : List Tk) (h : Ct w B W b g cap s I v L) (hp : Plc s I i) (h1 : Plc s N1 e1) (hl : L.length ≤ 16384) (hz : s.size ≤ 1048576) (R1 : ∀ W' J, Cu W' b s J v → Calls Tryz.prog 80 #[.pointer (some ⟨b, 0, none⟩), .int .i64 (I : Nat), .int .i64 2] W' fun e w' => e = .returned (.int .i64 (N1 : Nat)) ∧ w' = W') (hd : rAt s e1 = 46) (C1 : ∀ W' J, Cu W' b s J v → Calls Tryz.prog 81 #[.pointer (some ⟨b, 0, none⟩), .int .i64 ((N1 : Int) + 1), .int .i64 2] W' fun e w' => e = .returned (.bool false) ∧ w' = W') (C2 : ∀ W' J, Cu W' b s J v → Calls Tryz.prog 81 #[.pointer (some ⟨b, 0, none⟩), .int .i64 (N1 : Nat), .int .i64 1] W' fun e w' => e = .returned (.bool false) ∧ w' = W') (e : Nat) (x : ByteArray) (T : ∀ W' J, Cu W' b s J v → Calls Tryz.prog 82 #[.pointer (some ⟨b, 0, none⟩), .int .i64 (I : Nat), .int .i64 (N1 : Nat)] W' fun r w' => r = .returned (.string x) ∧ ∃ q, w' = W'.drewN q) (he : Plc s N1 e) (hx : s.extract i e = x) (o : Option Nat) (RR : ∀ wx, Calls Tryz.prog 107 #[.string x] wx fun r w' => r = .returned (match o with | some v => .tuple #[.int .i64 (v : Nat), .int .i64 0] | none => .tuple #[.int .i64 0, .int .i64 13]) ∧ Below wx.heap.size wx w') :
    Calls Tryz.prog 84 #[.pointer (some ⟨b, 0, none⟩)] W (TkPost w B b g cap s I v L (valT 2 s i e o)) := by
  have H := hid2 h
  obtain ⟨c0, c1, c2, c3, f0, f1, f2, f3⟩ := h.box.four
  obtain ⟨r0, r1⟩ := h.piece h1
  have hlt := h.box.lt
  have hlg := h.pc.lt
  have hll := PL_len s
  have hrs := rs_length0 s
  have hN1 := h1.le
  have hI2 : (N1 : Int) < (((PL s).length : Nat) : Int) := by omega
  have HP := hid2 hp
  have HE := hid2 he
  have HT := hid2 T
  have HRR := hid2 RR
  have HR1 := hid2 R1
  have HC2 := hid2 C2
  have HC1 := hid2 C1
  have hw1 : IntKind.i64.wrap ((N1 : Int) + 1) = (N1 : Int) + 1 := by rw [IntKind.wrap_i64]; omega
  rw [hd] at r0
  generalize hPn : (PL s).length = nn at *
  generalize rAt s e1 = rr at *
  clear h hp h1 he T RR R1 C2 C1
  cases o with
  | none =>
    go_enter Tryz.func84, Tryz.ntmps84
    go_wp2_with fail
    refine Calls.mono (HR1.out _ _ H.out.cu) ?_
    rintro r w1 ⟨rfl, rfl⟩
    go_wp2_with fail
    refine Calls.mono (HC1.out _ _ H.out.cu) ?_
    rintro r w2 ⟨rfl, rfl⟩
    go_wp2_with fail
    refine Calls.mono (HC2.out _ _ H.out.cu) ?_
    rintro r w4 ⟨rfl, rfl⟩
    go_wp2_with fail
    refine Calls.mono (HT.out _ _ H.out.cu) ?_
    rintro r w6 ⟨rfl, q6, rfl⟩
    have H6 := hid2 (H.out.drewN q6)
    generalize World.drewN _ q6 = W6 at *
    go_wp2_with fail
    refine Calls.mono (HRR.out _) ?_
    rintro r w7 ⟨rfl, b7⟩
    have H7 := hid2 (H6.out.next b7)
    clear b7
    obtain ⟨d0, d1, d2, d3, _⟩ := H7.out.box.four
    have dl := H7.out.box.lt
    simp only []
    go_wp2_with fail
    go_ret
    exact ⟨rfl, H7.out⟩
  | some val =>
    go_enter Tryz.func84, Tryz.ntmps84
    go_wp2_with fail
    refine Calls.mono (HR1.out _ _ H.out.cu) ?_
    rintro r w1 ⟨rfl, rfl⟩
    go_wp2_with fail
    refine Calls.mono (HC1.out _ _ H.out.cu) ?_
    rintro r w2 ⟨rfl, rfl⟩
    go_wp2_with fail
    refine Calls.mono (HC2.out _ _ H.out.cu) ?_
    rintro r w4 ⟨rfl, rfl⟩
    go_wp2_with fail
    refine Calls.mono (HT.out _ _ H.out.cu) ?_
    rintro r w6 ⟨rfl, q6, rfl⟩
    have H6 := hid2 (H.out.drewN q6)
    generalize World.drewN _ q6 = W6 at *
    go_wp2_with fail
    refine Calls.mono (HRR.out _) ?_
    rintro r w7 ⟨rfl, b7⟩
    have H7 := hid2 (H6.out.next b7)
    clear b7
    obtain ⟨d0, d1, d2, d3, _⟩ := H7.out.box.four
    have dl := H7.out.box.lt
    simp only []
    go_wp2_with fail
    refine Calls.mono (HT.out _ _ H7.out.cu) ?_
    rintro r w8 ⟨rfl, q8, rfl⟩
    have H8 := hid2 (H7.out.drewN q8)
    generalize World.drewN _ q8 = W8 at *
    go_wp2_with fail
    refine Calls.mono (put_c w B W8 b g cap s I i N1 v L 2 x (val : Nat) H8.out HP.out hl) ?_
    rintro r w9 ⟨rfl, v9, C9⟩
    go_wp2_with fail
    go_ret
    exact ⟨rfl, N1, v9, by rw [hx]; exact C9, HE.out⟩
set_option maxHeartbeats 8000000 in
theorem rnum_CD (w : World) (B : Nat) (W : World) (b g cap : Nat) (s : ByteArray) (I i N1 e1 : Nat) (v : Value) (L : List Tk) (h : Ct w B W b g cap s I v L) (hp : Plc s I i) (h1 : Plc s N1 e1) (hl : L.length ≤ 16384) (hz : s.size ≤ 1048576) (R1 : ∀ W' J, Cu W' b s J v → Calls Tryz.prog 80 #[.pointer (some ⟨b, 0, none⟩), .int .i64 (I : Nat), .int .i64 2] W' fun e w' => e = .returned (.int .i64 (N1 : Nat)) ∧ w' = W') (hd : rAt s e1 = 46) (C1 : ∀ W' J, Cu W' b s J v → Calls Tryz.prog 81 #[.pointer (some ⟨b, 0, none⟩), .int .i64 ((N1 : Int) + 1), .int .i64 2] W' fun e w' => e = .returned (.bool true) ∧ w' = W') (N2 : Nat) (R2 : ∀ W' J, Cu W' b s J v → Calls Tryz.prog 80 #[.pointer (some ⟨b, 0, none⟩), .int .i64 ((N1 : Int) + 1), .int .i64 2] W' fun e w' => e = .returned (.int .i64 (N2 : Nat)) ∧ w' = W') (C2 : ∀ W' J, Cu W' b s J v → Calls Tryz.prog 81 #[.pointer (some ⟨b, 0, none⟩), .int .i64 (N2 : Nat), .int .i64 1] W' fun e w' => e = .returned (.bool true) ∧ w' = W') (N3 : Nat) (R3 : ∀ W' J, Cu W' b s J v → Calls Tryz.prog 80 #[.pointer (some ⟨b, 0, none⟩), .int .i64 (N2 : Nat), .int .i64 3] W' fun e w' => e = .returned (.int .i64 (N3 : Nat)) ∧ w' = W') (e : Nat) (x : ByteArray) (T : ∀ W' J, Cu W' b s J v → Calls Tryz.prog 82 #[.pointer (some ⟨b, 0, none⟩), .int .i64 (I : Nat), .int .i64 (N3 : Nat)] W' fun r w' => r = .returned (.string x) ∧ ∃ q, w' = W'.drewN q) (he : Plc s N3 e) (hx : s.extract i e = x) (o : Option Nat) (RR : ∀ wx, Calls Tryz.prog 108 #[.string x] wx fun r w' => r = .returned (match o with | some v => .tuple #[.int .i64 (v : Nat), .int .i64 0] | none => .tuple #[.int .i64 0, .int .i64 13]) ∧ Below wx.heap.size wx w') :
    Calls Tryz.prog 84 #[.pointer (some ⟨b, 0, none⟩)] W (TkPost w B b g cap s I v L (valT 3 s i e o)) := by
  have H := hid2 h
  obtain ⟨c0, c1, c2, c3, f0, f1, f2, f3⟩ := h.box.four
  obtain ⟨r0, r1⟩ := h.piece h1
  have hlt := h.box.lt
  have hlg := h.pc.lt
  have hll := PL_len s
  have hrs := rs_length0 s
  have hN1 := h1.le
  have hI2 : (N1 : Int) < (((PL s).length : Nat) : Int) := by omega
  have HP := hid2 hp
  have HE := hid2 he
  have HT := hid2 T
  have HRR := hid2 RR
  have HR1 := hid2 R1
  have HC2 := hid2 C2
  have HC1 := hid2 C1
  have hw1 : IntKind.i64.wrap ((N1 : Int) + 1) = (N1 : Int) + 1 := by rw [IntKind.wrap_i64]; omega
  rw [hd] at r0
  have HR2 := hid2 R2
  have HR3 := hid2 R3
  generalize hPn : (PL s).length = nn at *
  generalize rAt s e1 = rr at *
  clear h hp h1 he T RR R1 C2 C1 R2 R3
  cases o with
  | none =>
    go_enter Tryz.func84, Tryz.ntmps84
    go_wp2_with fail
    refine Calls.mono (HR1.out _ _ H.out.cu) ?_
    rintro r w1 ⟨rfl, rfl⟩
    go_wp2_with fail
    refine Calls.mono (HC1.out _ _ H.out.cu) ?_
    rintro r w2 ⟨rfl, rfl⟩
    go_wp2_with fail
    refine Calls.mono (HR2.out _ _ H.out.cu) ?_
    rintro r w3 ⟨rfl, rfl⟩
    go_wp2_with fail
    refine Calls.mono (HC2.out _ _ H.out.cu) ?_
    rintro r w4 ⟨rfl, rfl⟩
    go_wp2_with fail
    refine Calls.mono (HR3.out _ _ H.out.cu) ?_
    rintro r w5 ⟨rfl, rfl⟩
    go_wp2_with fail
    refine Calls.mono (HT.out _ _ H.out.cu) ?_
    rintro r w6 ⟨rfl, q6, rfl⟩
    have H6 := hid2 (H.out.drewN q6)
    generalize World.drewN _ q6 = W6 at *
    go_wp2_with fail
    refine Calls.mono (HRR.out _) ?_
    rintro r w7 ⟨rfl, b7⟩
    have H7 := hid2 (H6.out.next b7)
    clear b7
    obtain ⟨d0, d1, d2, d3, _⟩ := H7.out.box.four
    have dl := H7.out.box.lt
    simp only []
    go_wp2_with fail
    go_ret
    exact ⟨rfl, H7.out⟩
  | some val =>
    go_enter Tryz.func84, Tryz.ntmps84
    go_wp2_with fail
    refine Calls.mono (HR1.out _ _ H.out.cu) ?_
    rintro r w1 ⟨rfl, rfl⟩
    go_wp2_with fail
    refine Calls.mono (HC1.out _ _ H.out.cu) ?_
    rintro r w2 ⟨rfl, rfl⟩
    go_wp2_with fail
    refine Calls.mono (HR2.out _ _ H.out.cu) ?_
    rintro r w3 ⟨rfl, rfl⟩
    go_wp2_with fail
    refine Calls.mono (HC2.out _ _ H.out.cu) ?_
    rintro r w4 ⟨rfl, rfl⟩
    go_wp2_with fail
    refine Calls.mono (HR3.out _ _ H.out.cu) ?_
    rintro r w5 ⟨rfl, rfl⟩
    go_wp2_with fail
    refine Calls.mono (HT.out _ _ H.out.cu) ?_
    rintro r w6 ⟨rfl, q6, rfl⟩
    have H6 := hid2 (H.out.drewN q6)
    generalize World.drewN _ q6 = W6 at *
    go_wp2_with fail
    refine Calls.mono (HRR.out _) ?_
    rintro r w7 ⟨rfl, b7⟩
    have H7 := hid2 (H6.out.next b7)
    clear b7
    obtain ⟨d0, d1, d2, d3, _⟩ := H7.out.box.four
    have dl := H7.out.box.lt
    simp only []
    go_wp2_with fail
    refine Calls.mono (HT.out _ _ H7.out.cu) ?_
    rintro r w8 ⟨rfl, q8, rfl⟩
    have H8 := hid2 (H7.out.drewN q8)
    generalize World.drewN _ q8 = W8 at *
    go_wp2_with fail
    refine Calls.mono (put_c w B W8 b g cap s I i N3 v L 3 x (val : Nat) H8.out HP.out hl) ?_
    rintro r w9 ⟨rfl, v9, C9⟩
    go_wp2_with fail
    go_ret
    exact ⟨rfl, N3, v9, by rw [hx]; exact C9, HE.out⟩
set_option maxHeartbeats 8000000 in
theorem rnum_CN (w : World) (B : Nat) (W : World) (b g cap : Nat) (s : ByteArray) (I i N1 e1 : Nat) (v : Value) (L : List Tk) (h : Ct w B W b g cap s I v L) (hp : Plc s I i) (h1 : Plc s N1 e1) (hl : L.length ≤ 16384) (hz : s.size ≤ 1048576) (R1 : ∀ W' J, Cu W' b s J v → Calls Tryz.prog 80 #[.pointer (some ⟨b, 0, none⟩), .int .i64 (I : Nat), .int .i64 2] W' fun e w' => e = .returned (.int .i64 (N1 : Nat)) ∧ w' = W') (hd : rAt s e1 = 46) (C1 : ∀ W' J, Cu W' b s J v → Calls Tryz.prog 81 #[.pointer (some ⟨b, 0, none⟩), .int .i64 ((N1 : Int) + 1), .int .i64 2] W' fun e w' => e = .returned (.bool true) ∧ w' = W') (N2 : Nat) (R2 : ∀ W' J, Cu W' b s J v → Calls Tryz.prog 80 #[.pointer (some ⟨b, 0, none⟩), .int .i64 ((N1 : Int) + 1), .int .i64 2] W' fun e w' => e = .returned (.int .i64 (N2 : Nat)) ∧ w' = W') (C2 : ∀ W' J, Cu W' b s J v → Calls Tryz.prog 81 #[.pointer (some ⟨b, 0, none⟩), .int .i64 (N2 : Nat), .int .i64 1] W' fun e w' => e = .returned (.bool false) ∧ w' = W') (e : Nat) (x : ByteArray) (T : ∀ W' J, Cu W' b s J v → Calls Tryz.prog 82 #[.pointer (some ⟨b, 0, none⟩), .int .i64 (I : Nat), .int .i64 (N2 : Nat)] W' fun r w' => r = .returned (.string x) ∧ ∃ q, w' = W'.drewN q) (he : Plc s N2 e) (hx : s.extract i e = x) (o : Option Nat) (RR : ∀ wx, Calls Tryz.prog 107 #[.string x] wx fun r w' => r = .returned (match o with | some v => .tuple #[.int .i64 (v : Nat), .int .i64 0] | none => .tuple #[.int .i64 0, .int .i64 13]) ∧ Below wx.heap.size wx w') :
    Calls Tryz.prog 84 #[.pointer (some ⟨b, 0, none⟩)] W (TkPost w B b g cap s I v L (valT 2 s i e o)) := by
  have H := hid2 h
  obtain ⟨c0, c1, c2, c3, f0, f1, f2, f3⟩ := h.box.four
  obtain ⟨r0, r1⟩ := h.piece h1
  have hlt := h.box.lt
  have hlg := h.pc.lt
  have hll := PL_len s
  have hrs := rs_length0 s
  have hN1 := h1.le
  have hI2 : (N1 : Int) < (((PL s).length : Nat) : Int) := by omega
  have HP := hid2 hp
  have HE := hid2 he
  have HT := hid2 T
  have HRR := hid2 RR
  have HR1 := hid2 R1
  have HC2 := hid2 C2
  have HC1 := hid2 C1
  have hw1 : IntKind.i64.wrap ((N1 : Int) + 1) = (N1 : Int) + 1 := by rw [IntKind.wrap_i64]; omega
  rw [hd] at r0
  have HR2 := hid2 R2
  generalize hPn : (PL s).length = nn at *
  generalize rAt s e1 = rr at *
  clear h hp h1 he T RR R1 C2 C1 R2
  cases o with
  | none =>
    go_enter Tryz.func84, Tryz.ntmps84
    go_wp2_with fail
    refine Calls.mono (HR1.out _ _ H.out.cu) ?_
    rintro r w1 ⟨rfl, rfl⟩
    go_wp2_with fail
    refine Calls.mono (HC1.out _ _ H.out.cu) ?_
    rintro r w2 ⟨rfl, rfl⟩
    go_wp2_with fail
    refine Calls.mono (HR2.out _ _ H.out.cu) ?_
    rintro r w3 ⟨rfl, rfl⟩
    go_wp2_with fail
    refine Calls.mono (HC2.out _ _ H.out.cu) ?_
    rintro r w4 ⟨rfl, rfl⟩
    go_wp2_with fail
    refine Calls.mono (HT.out _ _ H.out.cu) ?_
    rintro r w6 ⟨rfl, q6, rfl⟩
    have H6 := hid2 (H.out.drewN q6)
    generalize World.drewN _ q6 = W6 at *
    go_wp2_with fail
    refine Calls.mono (HRR.out _) ?_
    rintro r w7 ⟨rfl, b7⟩
    have H7 := hid2 (H6.out.next b7)
    clear b7
    obtain ⟨d0, d1, d2, d3, _⟩ := H7.out.box.four
    have dl := H7.out.box.lt
    simp only []
    go_wp2_with fail
    go_ret
    exact ⟨rfl, H7.out⟩
  | some val =>
    go_enter Tryz.func84, Tryz.ntmps84
    go_wp2_with fail
    refine Calls.mono (HR1.out _ _ H.out.cu) ?_
    rintro r w1 ⟨rfl, rfl⟩
    go_wp2_with fail
    refine Calls.mono (HC1.out _ _ H.out.cu) ?_
    rintro r w2 ⟨rfl, rfl⟩
    go_wp2_with fail
    refine Calls.mono (HR2.out _ _ H.out.cu) ?_
    rintro r w3 ⟨rfl, rfl⟩
    go_wp2_with fail
    refine Calls.mono (HC2.out _ _ H.out.cu) ?_
    rintro r w4 ⟨rfl, rfl⟩
    go_wp2_with fail
    refine Calls.mono (HT.out _ _ H.out.cu) ?_
    rintro r w6 ⟨rfl, q6, rfl⟩
    have H6 := hid2 (H.out.drewN q6)
    generalize World.drewN _ q6 = W6 at *
    go_wp2_with fail
    refine Calls.mono (HRR.out _) ?_
    rintro r w7 ⟨rfl, b7⟩
    have H7 := hid2 (H6.out.next b7)
    clear b7
    obtain ⟨d0, d1, d2, d3, _⟩ := H7.out.box.four
    have dl := H7.out.box.lt
    simp only []
    go_wp2_with fail
    refine Calls.mono (HT.out _ _ H7.out.cu) ?_
    rintro r w8 ⟨rfl, q8, rfl⟩
    have H8 := hid2 (H7.out.drewN q8)
    generalize World.drewN _ q8 = W8 at *
    go_wp2_with fail
    refine Calls.mono (put_c w B W8 b g cap s I i N2 v L 2 x (val : Nat) H8.out HP.out hl) ?_
    rintro r w9 ⟨rfl, v9, C9⟩
    go_wp2_with fail
    go_ret
    exact ⟨rfl, N2, v9, by rw [hx]; exact C9, HE.out⟩
theorem number_r (w : World) (B : Nat) (W : World) (b g cap : Nat) (s : ByteArray) (hz : s.size ≤ 1048576) (I i : Nat) (v : Value) (L : List Tk) (h : Ct w B W b g cap s I v L) (hp : Plc s I i) (hv : Vd s i) (hl : L.length ≤ 16384) :
    Calls Tryz.prog 84 #[.pointer (some ⟨b, 0, none⟩)] W (TkPost w B b g cap s I v L (numT s i)) := by
  have hin := cls_in s 2 i hp.inn
  have h1 : Plc s _ (cls s 2 i) := hp.run (fun r => isC (r : Int) 2)
  have hE := numE_in (s := s) (i := i) hp.inn
  have hB := cls_in s 3 (numE s i) hE.2
  have hstop := cls3_1 (numE_stop (s := s) (i := i) hp.inn)
  rw [rAt_cls hE.2 3] at hstop
  have h46 := rAt_byte (rn_vd (fun r => isC (r : Int) 2) i hv) 46 (by decide) (by decide)
  have rdn : ∀ e, e ≤ s.size → ∀ wx, Calls Tryz.prog 107 #[.string (s.extract i e)] wx fun r w' => r = .returned (match readN (s.extract i e).data.toList with | some v => .tuple #[.int .i64 (v : Nat), .int .i64 0] | none => .tuple #[.int .i64 0, .int .i64 13]) ∧ Below wx.heap.size wx w' :=
    fun e he wx => (rd_at (s.extract i e) (by rw [size_cut s i e he]; omega) wx).mono fun _ _ k => ⟨k.1, by rw [k.2]; exact Below.refl _ _⟩
  have spn : ∀ e, e ≤ s.size → ∀ wx, Calls Tryz.prog 108 #[.string (s.extract i e)] wx fun r w' => r = .returned (match spanN (s.extract i e).data.toList with | some v => .tuple #[.int .i64 (v : Nat), .int .i64 0] | none => .tuple #[.int .i64 0, .int .i64 13]) ∧ Below wx.heap.size wx w' :=
    fun e he wx => sp_at (s.extract i e) (by rw [size_cut s i e he]; omega) wx
  have R1 := fun W' J hc => run_r b s hz I J i v 2 W' hc hp
  have txt := fun K e (hk : Plc s K e) (hle : i ≤ e) W' J hc => text_c b s I J K i e v W' hc hp hk hle
  unfold numT
  by_cases hd : s.get! (cls s 2 i) = 46
  · have hj := get_in (s := s) (i := cls s 2 i) (by rw [hd]; decide)
    have hd' : rAt s (cls s 2 i) = 46 := h46.2 hd
    have h2 : Plc s (I + (seg s (fun r => isC (r : Int) 2) i).length + 1) (cls s 2 i + 1) := by
      have := h1.step hj
      rw [dec_low (by rw [hd]; decide)] at this
      exact this
    have h3 := h2.run (fun r => isC (r : Int) 2)
    have C1 := fun W' J hc => class_c b s _ J _ v 2 W' hc h2
    have R2 := fun W' J hc => run_r b s hz _ J _ v 2 W' hc h2
    rw [rAt_cls hj 2] at C1
    simp only [Int.natCast_add, Int.natCast_one] at C1 R2
    by_cases hpl : cls s 2 i + 1 < cls s 2 (cls s 2 i + 1)
    · have hN : numE s i = cls s 2 (cls s 2 i + 1) := if_pos ⟨hd, hpl⟩
      rw [decide_eq_true hpl] at C1
      rw [hN] at hB hstop hE ⊢
      have C2 := fun W' J hc => class_c b s _ J _ v 1 W' hc h3
      have R3 := fun W' J hc => run_r b s hz _ J _ v 3 W' hc h3
      have h4 := h3.run (fun r => isC (r : Int) 3)
      by_cases hb : cls s 2 (cls s 2 i + 1) < cls s 3 (cls s 2 (cls s 2 i + 1))
      · rw [if_pos hb]
        rw [decide_eq_true hb] at hstop
        rw [show isC (rAt s (rn s (fun r => isC (r : Int) 2) (cls s 2 i + 1))) 1 = true from hstop.symm] at C2
        exact rnum_CD w B W b g cap s I i _ _ v L h hp h1 hl hz R1 hd' C1 _ R2 C2 _ R3 _ _ (txt _ (cls s 3 (cls s 2 (cls s 2 i + 1))) h4 (by omega)) h4 rfl _ (spn _ hB.2)
      · rw [if_neg hb]
        rw [decide_eq_false hb] at hstop
        rw [show isC (rAt s (rn s (fun r => isC (r : Int) 2) (cls s 2 i + 1))) 1 = false from hstop.symm] at C2
        exact rnum_CN w B W b g cap s I i _ _ v L h hp h1 hl hz R1 hd' C1 _ R2 C2 _ _ (txt _ (cls s 2 (cls s 2 i + 1)) h3 (by omega)) h3 rfl _ (rdn _ hE.2)
    · have hN : numE s i = cls s 2 i := if_neg (fun hh => hpl hh.2)
      rw [decide_eq_false hpl] at C1
      rw [hN] at hB hstop hE ⊢
      have C2 := fun W' J hc => class_c b s _ J _ v 1 W' hc h1
      have R3 := fun W' J hc => run_r b s hz _ J _ v 3 W' hc h1
      have h4 := h1.run (fun r => isC (r : Int) 3)
      by_cases hb : cls s 2 i < cls s 3 (cls s 2 i)
      · rw [if_pos hb]
        rw [decide_eq_true hb] at hstop
        rw [← hstop] at C2
        exact rnum_BD w B W b g cap s I i _ _ v L h hp h1 hl hz R1 hd' C1 C2 _ R3 _ _ (txt _ (cls s 3 (cls s 2 i)) h4 (by omega)) h4 rfl _ (spn _ hB.2)
      · rw [if_neg hb]
        rw [decide_eq_false hb] at hstop
        rw [← hstop] at C2
        exact rnum_BN w B W b g cap s I i _ _ v L h hp h1 hl hz R1 hd' C1 C2 _ _ (txt _ (cls s 2 i) h1 (by omega)) h1 rfl _ (rdn _ hE.2)
  · have hd' : (rAt s (cls s 2 i) == 46) = false := beq_eq_false_iff_ne.2 (fun hh => hd (h46.1 hh))
    have hN : numE s i = cls s 2 i := if_neg (fun hh => hd hh.1)
    rw [hN] at hB hstop hE ⊢
    have C2 := fun W' J hc => class_c b s _ J _ v 1 W' hc h1
    have R3 := fun W' J hc => run_r b s hz _ J _ v 3 W' hc h1
    have h4 := h1.run (fun r => isC (r : Int) 3)
    by_cases hb : cls s 2 i < cls s 3 (cls s 2 i)
    · rw [if_pos hb]
      rw [decide_eq_true hb] at hstop
      rw [← hstop] at C2
      exact rnum_AD w B W b g cap s I i _ _ v L h hp h1 hl hz R1 hd' C2 _ R3 _ _ (txt _ (cls s 3 (cls s 2 i)) h4 (by omega)) h4 rfl _ (spn _ hB.2)
    · rw [if_neg hb]
      rw [decide_eq_false hb] at hstop
      rw [← hstop] at C2
      exact rnum_AN w B W b g cap s I i _ _ v L h hp h1 hl hz R1 hd' C2 _ _ (txt _ (cls s 2 i) h1 (by omega)) h1 rfl _ (rdn _ hE.2)
end Go.Proofs.YtecdfnpbcabdnaaGreatDoor
