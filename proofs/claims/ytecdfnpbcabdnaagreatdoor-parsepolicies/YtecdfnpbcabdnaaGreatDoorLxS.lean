/- Package lex: signs. -/
import Derived.Test.YtecdfnpbcabdnaaGreatDoorLxE
namespace Go.Proofs.YtecdfnpbcabdnaaGreatDoor
open Go.RowKit Go.Lib

theorem cut_two (s : ByteArray) (i : Nat) (h : i + 2 ≤ s.size) : (s.extract i (i + 2)).data.toList = [s.get! i, s.get! (i + 1)] := by
  have hz := size_cut s i (i + 2) h
  have e0 := toL_get (s.extract i (i + 2)) 0 (by omega)
  have e1 := toL_get (s.extract i (i + 2)) 1 (by omega)
  rw [gd_cut s i (i + 2) 0 h (by omega)] at e0
  rw [gd_cut s i (i + 2) 1 h (by omega)] at e1
  have hl : (s.extract i (i + 2)).data.toList.length = 2 := by rw [← Lib.size_eq]; omega
  match hm : (s.extract i (i + 2)).data.toList, hl with
  | [a, b], _ =>
    rw [hm] at e0 e1
    simp at e0 e1
    rw [e0, e1]
theorem cut_one (s : ByteArray) (i : Nat) (h : i + 1 ≤ s.size) : (s.extract i (i + 1)).data.toList = [s.get! i] := by
  have hz := size_cut s i (i + 1) h
  have e0 := toL_get (s.extract i (i + 1)) 0 (by omega)
  rw [gd_cut s i (i + 1) 0 h (by omega)] at e0
  have hl : (s.extract i (i + 1)).data.toList.length = 1 := by rw [← Lib.size_eq]; omega
  match hm : (s.extract i (i + 1)).data.toList, hl with
  | [a], _ =>
    rw [hm] at e0
    simp at e0
    rw [e0]
theorem sgn_two (a b : UInt8) : sgn [a, b] = two a b := by
  unfold sgn signs two
  simp only [List.contains_cons, List.contains_nil, Bool.or_false]
  have h1 : ∀ (x y : UInt8), ([a, b] == [x, y]) = (a == x && b == y) := fun x y => by rw [Bool.eq_iff_iff]; simp
  have h2 : ∀ (x : UInt8), ([a, b] == [x]) = false := fun x => by rw [beq_eq_false_iff_ne]; simp
  simp only [h1, h2, Bool.or_false]
  cases (a == 46 && b == 46) <;> cases (a == 60) <;> cases (a == 62) <;> cases (b == 61) <;> rfl
theorem sgn_one (a : UInt8) : sgn [a] = one a := by
  unfold sgn signs one
  simp only [List.contains_cons, List.contains_nil, Bool.or_false]
  have h1 : ∀ (x : UInt8), ([a] == [x]) = (a == x) := fun x => by rw [Bool.eq_iff_iff]; simp
  have h2 : ∀ (x y : UInt8), ([a] == [x, y]) = false := fun x y => by rw [beq_eq_false_iff_ne]; simp
  simp only [h1, h2, Bool.false_or]
theorem two_in {s : ByteArray} {i : Nat} (h : two (s.get! i) (s.get! (i + 1)) = true) : i + 2 ≤ s.size := by
  unfold two at h
  simp only [Bool.or_eq_true, Bool.and_eq_true, beq_iff_eq] at h
  have : s.get! (i + 1) ≠ 0 := by rcases h with ⟨_, h⟩ | ⟨_, h⟩ <;> (rw [h]; decide)
  exact get_in this
set_option maxHeartbeats 8000000 in
theorem sign_c (b i : Nat) (s : ByteArray) (hi : i < s.size) (hz : s.size ≤ 1048576) (w : World) (h : Rdr w b s i) :
    Calls Tryz.prog 94 #[.pointer (some ⟨b, 0, none⟩)] w (CutPost w b s i (two (s.get! i) (s.get! (i + 1)) || one (s.get! i)) (sigT s i)) := by
  have ST := hid2 (St.made h 47)
  have hlt := h.lt
  have hN2 : Hid (two (s.get! i) (s.get! (i + 1)) = true → i + 2 ≤ s.size) := two_in
  have HG1 : Hid (∀ wx, Calls Tryz.prog 122 #[.string (s.extract i (i + 1))] wx fun e w' => e = .returned (.bool (one (s.get! i))) ∧ w' = wx) := fun wx => by
    have := isSign_c (s.extract i (i + 1)) wx
    rw [cut_one s i hi, sgn_one] at this
    exact this.mono fun _ _ k => ⟨k.1, k.2.symm⟩
  have HG2 : Hid (i + 2 ≤ s.size → ∀ wx, Calls Tryz.prog 122 #[.string (s.extract i (i + 2))] wx fun e w' => e = .returned (.bool (two (s.get! i) (s.get! (i + 1)))) ∧ w' = wx) := fun hi2 wx => by
    have := isSign_c (s.extract i (i + 2)) wx
    rw [cut_two s i hi2, sgn_two] at this
    exact this.mono fun _ _ k => ⟨k.1, k.2.symm⟩
  have T1 : Hid (∀ w', Rdr w' b s i → Calls Tryz.prog 116 #[.pointer (some ⟨b, 0, none⟩), .int .i64 ((i : Int) + 1), .int .i64 5, .string (s.extract i (i + 1)), .int .i64 0] w' fun r w2 => r = .returned (tkv 5 (s.extract i (i + 1)) 0 i) ∧ Moved w' b s (i + 1) w2) := fun w' hw => by
    have := take_c b i (i + 1) s (s.extract i (i + 1)) 5 0 (by rw [size_cut s i _ hi]; omega) w' hw
    rw [show ((i + 1 : Nat) : Int) = (i : Int) + 1 by omega] at this
    exact this
  have T2 : Hid (i + 2 ≤ s.size → ∀ w', Rdr w' b s i → Calls Tryz.prog 116 #[.pointer (some ⟨b, 0, none⟩), .int .i64 ((i : Int) + 2), .int .i64 5, .string (s.extract i (i + 2)), .int .i64 0] w' fun r w2 => r = .returned (tkv 5 (s.extract i (i + 2)) 0 i) ∧ Moved w' b s (i + 2) w2) := fun hi2 w' hw => by
    have := take_c b i (i + 2) s (s.extract i (i + 2)) 5 0 (by rw [size_cut s i _ hi2]; omega) w' hw
    rw [show ((i + 2 : Nat) : Int) = (i : Int) + 2 by omega] at this
    exact this
  have hs1 := fun wx => sl_lh s i (i + 1) (by omega) hi wx
  have hs2 : Hid (i + 2 ≤ s.size → ∀ wx, (Instr.slice 9 (.string s) (some (.int .i64 (i : Nat))) (some (.int .i64 ((i : Int) + 2))) none).run Tryz.prog wx = .ok (.string (s.extract i (i + 2))) wx) := fun hi2 wx => by
    have := sl_lh s i (i + 2) (by omega) hi2 wx
    rw [show ((i + 2 : Nat) : Int) = (i : Int) + 2 by omega] at this
    exact this
  rw [show ((i + 1 : Nat) : Int) = (i : Int) + 1 by omega] at hs1
  have HO2 : Hid (two (s.get! i) (s.get! (i + 1)) = true → ∀ r w', r = Ending.returned (.tuple #[tkV ⟨5, s.extract i (i + 2), 0, i⟩, .int .i64 0]) ∧ Moved w b s (i + 2) w' → CutPost w b s i (two (s.get! i) (s.get! (i + 1)) || one (s.get! i)) (sigT s i) r w') := fun h2 r w' hh => by
    unfold CutPost sigT
    rw [h2]
    exact hh
  have HO1 : Hid (two (s.get! i) (s.get! (i + 1)) = false → one (s.get! i) = true → ∀ r w', r = Ending.returned (.tuple #[tkV ⟨5, s.extract i (i + 1), 0, i⟩, .int .i64 0]) ∧ Moved w b s (i + 1) w' → CutPost w b s i (two (s.get! i) (s.get! (i + 1)) || one (s.get! i)) (sigT s i) r w') := fun h2 h1 r w' hh => by
    unfold CutPost sigT
    rw [h2, h1]
    exact hh
  have HO0 : Hid (two (s.get! i) (s.get! (i + 1)) = false → one (s.get! i) = false → ∀ r w', r = Ending.returned (.tuple #[noV, .int .i64 0]) ∧ Moved w b s i w' → CutPost w b s i (two (s.get! i) (s.get! (i + 1)) || one (s.get! i)) (sigT s i) r w') := fun h2 h1 r w' hh => by
    unfold CutPost
    rw [h2, h1]
    exact hh
  generalize CutPost w b s i (two (s.get! i) (s.get! (i + 1)) || one (s.get! i)) (sigT s i) = Post at *
  generalize two (s.get! i) (s.get! (i + 1)) = t2 at *
  generalize one (s.get! i) = t1 at *
  generalize s.extract i (i + 2) = x2 at *
  generalize s.extract i (i + 1) = x1 at *
  have hw2 : IntKind.i64.wrap ((i : Int) + 2) = (i : Int) + 2 := by rw [IntKind.wrap_i64]; omega
  have hw1 : IntKind.i64.wrap ((i : Int) + 1) = (i : Int) + 1 := by rw [IntKind.wrap_i64]; omega
  clear h
  go_enter Tryz.func94, Tryz.ntmps94
  go_wp2_with fail
  have hm : Hid (St w ((w.alloc (.cells zs.toArray 47)).alloc (.cells #[.int .i64 2, .int .i64 1] 3)) b i s zs ∧ Box ((w.alloc (.cells zs.toArray 47)).alloc (.cells #[.int .i64 2, .int .i64 1] 3)) (w.heap.size + 1) [.int .i64 2, .int .i64 1]) :=
    ⟨ST.out.next ((Below.refl _ _).alloc (Nat.le_refl _) _), by simpa using Box.new (w.alloc (.cells zs.toArray 47)) [.int .i64 2, .int .i64 1] 3⟩
  go_loopw [9] (fun s9 wr => ∃ j : Nat, s9 = .int .i64 (j : Nat) ∧ j ≤ 2 ∧ Hid (St w wr b i s zs ∧ Box wr (w.heap.size + 1) [.int .i64 2, .int .i64 1]) ∧ Hid (1 ≤ j → t2 = false) ∧ Hid (2 ≤ j → t1 = false)) (fun s9 _ => 2 - (RowKit.intOf s9).toNat)
  case atStart => exact ⟨0, rfl, by omega, hm, fun h => by omega, fun h => by omega⟩
  case round =>
    obtain ⟨j, rfl, hj, HM, H2, H1⟩ := hrel
    obtain ⟨c0, c1, f0, f1⟩ := HM.out.1.rd.two
    obtain ⟨d0, d1, _, _⟩ := HM.out.2.two
    have bl0 := HM.out.1.rd.lt
    have bl1 := HM.out.2.lt
    clear hm ST
    rcases (show j = 0 ∨ j = 1 ∨ j = 2 by omega) with rfl | rfl | rfl
    · by_cases hi2 : i + 2 ≤ s.size
      · have hs2 := hs2.out hi2
        have HT2 := hid2 (T2.out hi2)
        have HG := hid2 (HG2.out hi2)
        have hle : (i : Int) + 2 ≤ (s.size : Int) := by omega
        have hle2 : decide ((i : Int) + 2 ≤ (s.size : Int)) = true := decide_eq_true hle
        cases t2 with
        | true =>
          go_wp2_with fail
          go_quiet (exact Calls.quiet_of_same (HG.out _))
          have S3 := hid2 (HM.out.1.next (drewN_b2 wr nq))
          generalize wr.drewN nq = W3 at *
          clear c0 c1 f0 f1 d0 d1
          obtain ⟨c0, c1, f0, f1⟩ := S3.out.rd.two
          go_wp2_with fail
          go_region_with (first | (go_at_call 116; refine Calls.mono (HT2.out _ (S3.out.rd.next (Below.refl _ _).drew)) ?_; rintro r w3 ⟨rfl, M3⟩; obtain ⟨bx, fin⟩ := (S3.out.next (Below.refl _ _).drew).took M3; obtain ⟨p0, p1, p2, p3, g0, g1, g2, g3⟩ := bx.four; have bl := bx.lt; have FIN := hid2 fin; unfold tkv; clear bx fin M3))
          all_goals go_wp2_with fail
          all_goals refine bodyPost_ret (v := .tuple #[tkV ⟨5, x2, 0, i⟩, .int .i64 0]) (by simp [results, Tryz.results94, go_sem, *]; rfl) rfl ?_
          all_goals exact HO2.out (by first | rfl | trivial) _ _ ⟨rfl, FIN.out _ _ _ _⟩
        | false =>
          go_wp2_with fail
          go_quiet (exact Calls.quiet_of_same (HG.out _))
          have S3 := hid2 (HM.out.1.next (drewN_b2 wr nq))
          have B3 := hid2 (HM.out.2.next (drewN_b2 wr nq))
          generalize wr.drewN nq = W3 at *
          go_wp2_with fail
          go_roundw
          case rel => exact ⟨1, rfl, by omega, ⟨S3.out, B3.out⟩, fun _ => by first | rfl | trivial, fun h => by omega⟩
          case measure => simp [RowKit.intOf]
      · have hle : ¬ ((i : Int) + 2 ≤ (s.size : Int)) := by omega
        have hle2 : decide ((i : Int) + 2 ≤ (s.size : Int)) = false := decide_eq_false hle
        have ht2 : t2 = false := by
          cases t2 with
          | false => rfl
          | true => exact absurd (hN2.out rfl) hi2
        go_wp2_with fail
        go_quiet (fail)
        have S3 := hid2 (HM.out.1.next (drewN_b2 wr nq))
        have B3 := hid2 (HM.out.2.next (drewN_b2 wr nq))
        generalize wr.drewN nq = W3 at *
        go_wp2_with fail
        go_roundw
        case rel => exact ⟨1, rfl, by omega, ⟨S3.out, B3.out⟩, fun _ => ht2, fun h => by omega⟩
        case measure => simp [RowKit.intOf]
    · have ht2 := H2.out (Nat.le_refl _)
      have hle : (i : Int) + 1 ≤ (s.size : Int) := by omega
      have hle2 : decide ((i : Int) + 1 ≤ (s.size : Int)) = true := decide_eq_true hle
      have HG := HG1
      cases t1 with
      | true =>
        go_wp2_with fail
        go_quiet (exact Calls.quiet_of_same (HG.out _))
        have S3 := hid2 (HM.out.1.next (drewN_b2 wr nq))
        generalize wr.drewN nq = W3 at *
        clear c0 c1 f0 f1 d0 d1
        obtain ⟨c0, c1, f0, f1⟩ := S3.out.rd.two
        go_wp2_with fail
        go_region_with (first | (go_at_call 116; refine Calls.mono (T1.out _ (S3.out.rd.next (Below.refl _ _).drew)) ?_; rintro r w3 ⟨rfl, M3⟩; obtain ⟨bx, fin⟩ := (S3.out.next (Below.refl _ _).drew).took M3; obtain ⟨p0, p1, p2, p3, g0, g1, g2, g3⟩ := bx.four; have bl := bx.lt; have FIN := hid2 fin; unfold tkv; clear bx fin M3))
        all_goals go_wp2_with fail
        all_goals refine bodyPost_ret (v := .tuple #[tkV ⟨5, x1, 0, i⟩, .int .i64 0]) (by simp [results, Tryz.results94, go_sem, *]; rfl) rfl ?_
        all_goals exact HO1.out ht2 (by first | rfl | trivial) _ _ ⟨rfl, FIN.out _ _ _ _⟩
      | false =>
        go_wp2_with fail
        go_quiet (exact Calls.quiet_of_same (HG.out _))
        have S3 := hid2 (HM.out.1.next (drewN_b2 wr nq))
        have B3 := hid2 (HM.out.2.next (drewN_b2 wr nq))
        generalize wr.drewN nq = W3 at *
        go_wp2_with fail
        go_roundw
        case rel => exact ⟨2, rfl, by omega, ⟨S3.out, B3.out⟩, fun _ => ht2, fun _ => by first | rfl | trivial⟩
        case measure => simp [RowKit.intOf]
    · have ht2 := H2.out (by omega)
      have ht1 := H1.out (Nat.le_refl _)
      obtain ⟨p0, p1, p2, p3, g0, g1, g2, g3⟩ := HM.out.1.rb.four
      have bl := HM.out.1.rb.lt
      go_wp2_with fail
      refine bodyPost_ret (v := .tuple #[noV, .int .i64 0]) (by simp [results, Tryz.results94, go_sem, *]; rfl) rfl ?_
      exact HO0.out ht2 ht1 _ _ ⟨rfl, (HM.out.1.set _ _ _ _).stay⟩
end Go.Proofs.YtecdfnpbcabdnaaGreatDoor
