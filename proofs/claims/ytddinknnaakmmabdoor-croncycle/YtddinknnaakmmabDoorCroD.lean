/- Package cron: items and fields. -/
import Derived.Test.YtddinknnaakmmabDoorCroC
namespace Go.Proofs.YtddinknnaakmmabDoor
open Go.RowKit

abbrev fldV (lo hi : Nat) : Value := .agg #[.int .i64 lo, .int .i64 hi]
set_option maxHeartbeats 1600000 in
theorem item_any (s : ByteArray) (l : List UInt8) (hl : s.data.toList = l) (hz : s.size ≤ 256) (g n lo hi : Nat) (hn : n ≤ s.size) (hlh : lo ≤ hi) (h64 : hi < 64) (w : World) (hb : Box w g [.string s, .int .i64 n]) :
    Calls Tryd.prog 20 #[.pointer (some ⟨g, 0, none⟩), fldV lo hi] w (ExPost (itemS l n lo hi) s w g) := by
  have hs : l.length = s.size := by rw [← hl]; rfl
  have ht := fun wx hx => take_any s l hl hz g n 42 hn wx hx
  obtain ⟨fb, _⟩ := one_box w 41 [.int .i64 lo, .int .i64 hi]
  have m0 := hb.movedA (.cells #[.int .i64 lo, .int .i64 hi] 41)
  have ne : w.heap.size ≠ g := by have := hb.lt; omega
  cases hc : isB l n 42 with
  | true =>
    have hlt := ((isB_iff _ _ _).1 hc).1
    have e0 : itemS l n lo hi = stepsS l (n + 1) lo hi := if_pos hc
    rw [e0]
    simp only [hc, if_true] at ht
    have HT : Hid _ := ht
    have hst := fun wx hx => steps_any s l hl hz g (n + 1) lo hi (by omega) hlh h64 wx hx
    have HS : Hid _ := hst
    clear ht hst e0 hc
    go_enter Tryd.func20, Tryd.ntmps20
    go_wp2_with fail
    refine (HT.out _ m0.box).mono ?_
    rintro e w1 ⟨rfl, hm⟩
    obtain ⟨p0, p1, _⟩ := (hm.rest _ _ ne fb).two
    go_wp2_with fail
    refine (HS.out _ hm.box).mono ?_
    rintro e w2 ⟨rfl, hm2⟩
    cases hx : stepsS l (n + 1) lo hi with
    | error p =>
      rw [hx] at hm2
      simp only [exV]
      go_wp2_with fail
      go_ret2
      exact ⟨by rw [hx]; rfl, by rw [hx]; exact m0.trans (hm.trans hm2)⟩
    | ok q =>
      rw [hx] at hm2
      simp only [exV]
      go_wp2_with fail
      go_ret2
      exact ⟨by rw [hx]; rfl, by rw [hx]; exact m0.trans (hm.trans hm2)⟩
  | false =>
    simp only [hc, Bool.false_eq_true, if_false] at ht
    have HT : Hid _ := ht
    have hnum := fun wx hx => number_any s l hl hz g n lo hi hn (by omega) (by omega) wx hx
    have HN : Hid _ := hnum
    have e0 : itemS l n lo hi = match numS l n lo hi with
        | none => .error n
        | some (a, e) => if isB l e 45 = true then match numS l (e + 1) a hi with | none => .error (e + 1) | some (b, f) => stepsS l f a b else .ok (2 ^ a, e) := if_neg (by rw [hc]; decide)
    cases hk : numS l n lo hi with
    | none =>
      rw [e0, hk]
      have HK : Hid _ := hk
      clear ht hnum e0 hc hk
      go_enter Tryd.func20, Tryd.ntmps20
      go_wp2_with fail
      refine (HT.out _ m0.box).mono ?_
      rintro e w1 ⟨rfl, hm⟩
      obtain ⟨p0, p1, _⟩ := (hm.rest _ _ ne fb).two
      go_wp2_with fail
      refine (HN.out _ hm.box).mono ?_
      rintro e w2 ⟨rfl, hm2⟩
      rw [HK.out] at hm2 ⊢
      simp only [numV, Option.getD, Option.isSome]
      go_wp2_with fail
      go_ret2
      exact ⟨rfl, m0.trans (hm.trans hm2)⟩
    | some af =>
      obtain ⟨a, f⟩ := af
      have hq := numS_some hk
      have hd := fun wx hx => take_any s l hl hz g f 45 (by omega) wx hx
      cases hd45 : isB l f 45 with
      | false =>
        have e1 : itemS l n lo hi = .ok (2 ^ a, f) := by rw [e0, hk]; exact if_neg (by rw [hd45]; decide)
        rw [e1]
        simp only [hd45, Bool.false_eq_true, if_false] at hd
        have HD : Hid _ := hd
        have HK : Hid _ := hk
        have ha : a < 64 := by omega
        have s1 := shl_one a ha
        clear ht hnum e0 hc hk hd e1 hq
        go_enter Tryd.func20, Tryd.ntmps20
        go_wp2_with fail
        refine (HT.out _ m0.box).mono ?_
        rintro e w1 ⟨rfl, hm⟩
        obtain ⟨p0, p1, _⟩ := (hm.rest _ _ ne fb).two
        go_wp2_with fail
        refine (HN.out _ hm.box).mono ?_
        rintro e w2 ⟨rfl, hm2⟩
        rw [HK.out] at hm2 ⊢
        simp only [numV, Option.getD, Option.isSome]
        go_wp2_with fail
        refine (HD.out _ hm2.box).mono ?_
        rintro e w3 ⟨rfl, hm3⟩
        obtain ⟨r0, r1, _⟩ := (hm3.rest _ _ ne (hm2.rest _ _ ne (hm.rest _ _ ne fb))).two
        go_wp2_with fail
        go_ret2
        refine ⟨?_, m0.trans ((hm.trans hm2).trans hm3)⟩
        simp only [exV, cast_pow]; rfl
      | true =>
        have hlt := ((isB_iff _ _ _).1 hd45).1
        simp only [hd45, if_true] at hd
        have HD : Hid _ := hd
        have hnum2 := fun wx hx => number_any s l hl hz g (f + 1) a hi (by omega) (by omega) (by omega) wx hx
        have HN2 : Hid _ := hnum2
        have e1 : itemS l n lo hi = match numS l (f + 1) a hi with | none => .error (f + 1) | some (b, f) => stepsS l f a b := by rw [e0, hk]; exact if_pos hd45
        cases hk2 : numS l (f + 1) a hi with
        | none =>
          rw [e1, hk2]
          have HK : Hid _ := hk
          have HK2 : Hid _ := hk2
          clear ht hnum e0 hc hk hd e1 hk2 hnum2 hq
          go_enter Tryd.func20, Tryd.ntmps20
          go_wp2_with fail
          refine (HT.out _ m0.box).mono ?_
          rintro e w1 ⟨rfl, hm⟩
          obtain ⟨p0, p1, _⟩ := (hm.rest _ _ ne fb).two
          go_wp2_with fail
          refine (HN.out _ hm.box).mono ?_
          rintro e w2 ⟨rfl, hm2⟩
          rw [HK.out] at hm2 ⊢
          simp only [numV, Option.getD, Option.isSome]
          go_wp2_with fail
          refine (HD.out _ hm2.box).mono ?_
          rintro e w3 ⟨rfl, hm3⟩
          obtain ⟨r0, r1, _⟩ := (hm3.rest _ _ ne (hm2.rest _ _ ne (hm.rest _ _ ne fb))).two
          go_wp2_with fail
          refine (HN2.out _ hm3.box).mono ?_
          rintro e w4 ⟨rfl, hm4⟩
          rw [HK2.out] at hm4 ⊢
          simp only [numV, Option.getD, Option.isSome]
          go_wp2_with fail
          go_ret2
          exact ⟨rfl, m0.trans (((hm.trans hm2).trans hm3).trans hm4)⟩
        | some bf =>
          obtain ⟨b, f2⟩ := bf
          have hq2 := numS_some hk2
          rw [e1, hk2]
          have hst := fun wx hx => steps_any s l hl hz g f2 a b (by omega) (by omega) (by omega) wx hx
          have HS : Hid _ := hst
          have HK : Hid _ := hk
          have HK2 : Hid _ := hk2
          clear ht hnum e0 hc hk hd e1 hk2 hnum2 hst hq hq2
          go_enter Tryd.func20, Tryd.ntmps20
          go_wp2_with fail
          refine (HT.out _ m0.box).mono ?_
          rintro e w1 ⟨rfl, hm⟩
          obtain ⟨p0, p1, _⟩ := (hm.rest _ _ ne fb).two
          go_wp2_with fail
          refine (HN.out _ hm.box).mono ?_
          rintro e w2 ⟨rfl, hm2⟩
          rw [HK.out] at hm2 ⊢
          simp only [numV, Option.getD, Option.isSome]
          go_wp2_with fail
          refine (HD.out _ hm2.box).mono ?_
          rintro e w3 ⟨rfl, hm3⟩
          obtain ⟨r0, r1, _⟩ := (hm3.rest _ _ ne (hm2.rest _ _ ne (hm.rest _ _ ne fb))).two
          go_wp2_with fail
          refine (HN2.out _ hm3.box).mono ?_
          rintro e w4 ⟨rfl, hm4⟩
          rw [HK2.out] at hm4 ⊢
          simp only [numV, Option.getD, Option.isSome]
          go_wp2_with fail
          refine (HS.out _ hm4.box).mono ?_
          rintro e w5 ⟨rfl, hm5⟩
          have mm := m0.trans ((((hm.trans hm2).trans hm3).trans hm4).trans hm5)
          clear hm hm2 hm3 hm4 hm5
          cases hx : stepsS l f2 a b with
          | error p =>
            rw [hx] at mm
            simp only [exV]
            go_wp2_with fail
            go_ret2
            exact ⟨by rw [hx]; rfl, by rw [hx]; exact mm⟩
          | ok q =>
            rw [hx] at mm
            simp only [exV]
            go_wp2_with fail
            go_ret2
            exact ⟨by rw [hx]; rfl, by rw [hx]; exact mm⟩

theorem fieldS_go {l : List UInt8} {lo hi k n acc s e : Nat} (h : itemS l n lo hi = .ok (s, e)) (hc : isB l e 44 = true) : fieldS l lo hi (k + 1) n acc = fieldS l lo hi k (e + 1) (acc ||| s) := by
  conv => lhs; unfold fieldS
  rw [h]; exact if_pos hc
theorem fieldS_end {l : List UInt8} {lo hi k n acc s e : Nat} (h : itemS l n lo hi = .ok (s, e)) (hc : isB l e 44 = false) : fieldS l lo hi (k + 1) n acc = .ok (acc ||| s, e) := by
  conv => lhs; unfold fieldS
  rw [h]; exact if_neg (by rw [hc]; decide)
theorem fieldS_bad {l : List UInt8} {lo hi k n acc p : Nat} (h : itemS l n lo hi = .error p) : fieldS l lo hi (k + 1) n acc = .error p := by
  conv => lhs; unfold fieldS
  rw [h]
set_option maxHeartbeats 1600000 in
theorem field_any (s : ByteArray) (l : List UInt8) (hl : s.data.toList = l) (hz : s.size ≤ 256) (g n lo hi : Nat) (hn : n ≤ s.size) (hlh : lo ≤ hi) (h64 : hi < 64) (w : World) (hb : Box w g [.string s, .int .i64 n]) :
    Calls Tryd.prog 12 #[.pointer (some ⟨g, 0, none⟩), fldV lo hi] w (ExPost (fieldS l lo hi (l.length + 1) n 0) s w g) := by
  have hs : l.length = s.size := by rw [← hl]; rfl
  obtain ⟨fb, _⟩ := one_box w 41 [.int .i64 lo, .int .i64 hi]
  have m0 := hb.movedA (.cells #[.int .i64 lo, .int .i64 hi] 41)
  have ne : w.heap.size ≠ g := by have := hb.lt; omega
  generalize hF : fieldS l lo hi (l.length + 1) n 0 = F
  have HF : Hid _ := hF
  clear hF
  have hit := fun n hn wx hx => item_any s l hl hz g n lo hi hn hlh h64 wx hx
  have HI : Hid _ := hit
  have HT : Hid _ := fun n hn wx hx => take_any s l hl hz g n 44 hn wx hx
  clear hit
  go_enter Tryd.func12, Tryd.ntmps12
  go_wp2_with fail
  go_loopw [6] (fun p wr => ∃ k m acc : Nat, p = .int .u64 (acc : Nat) ∧ acc < 18446744073709551616 ∧ m ≤ s.size ∧ l.length ≤ k + m ∧ fieldS l lo hi (k + 1) m acc = F ∧ Moved w g s m wr ∧ Box wr w.heap.size [.int .i64 lo, .int .i64 hi]) (fun _ wr => s.size + 1 - (intOf ((wr.cell? ⟨g, 1, none⟩).getD undef)).toNat)
  case atStart => exact ⟨l.length, n, 0, rfl, by decide, hn, by omega, HF.out, m0, fb⟩
  case round =>
    obtain ⟨k, m, acc, rfl, hacc, hm1, hk, hf, mv, fx⟩ := hrel
    have hI := HI.out m hm1
    have hcell := mv.box.cell 1 _ rfl
    obtain ⟨o0, o1, _⟩ := fx.two
    cases hx : itemS l m lo hi with
    | error p =>
      rw [fieldS_bad hx] at hf
      have HF : Hid _ := hf
      have HX : Hid _ := hx
      clear hf hx
      go_wp2_with fail
      refine (hI _ mv.box).mono ?_
      rintro e w1 ⟨rfl, hm⟩
      rw [HX.out] at hm ⊢
      simp only [exV]
      go_wp2_with fail
      go_ret2
      refine ⟨by rw [← HF.out]; rfl, by rw [← HF.out]; exact mv.trans hm⟩
    | ok q =>
      obtain ⟨z, e⟩ := q
      have hq := itemS_ok (by omega) h64 hx
      have hT := HT.out e (by omega)
      have hor := bits_or_u64_nat acc z hacc hq.2.2
      have hlt := or_lt64 hacc hq.2.2
      cases hc : isB l e 44 with
      | false =>
        rw [fieldS_end hx hc] at hf
        simp only [hc, Bool.false_eq_true, if_false] at hT
        have HF : Hid _ := hf
        have HX : Hid _ := hx
        have HO : Hid _ := hor
        clear hf hx hc hq hor
        go_wp2_with fail
        refine (hI _ mv.box).mono ?_
        rintro e w1 ⟨rfl, hm⟩
        rw [HX.out] at hm ⊢
        simp only [exV]
        go_wp2_with fail
        refine (hT _ hm.box).mono ?_
        rintro e w2 ⟨rfl, hm2⟩
        go_wp2_with fail
        go_ret2
        refine ⟨by rw [← HF.out, HO.out]; rfl, by rw [← HF.out]; exact (mv.trans hm).trans hm2⟩
      | true =>
        have hlt2 := ((isB_iff _ _ _).1 hc).1
        obtain ⟨k, rfl⟩ : ∃ k', k = k' + 1 := ⟨k - 1, by omega⟩
        rw [fieldS_go hx hc] at hf
        simp only [hc, if_true] at hT
        have HF : Hid _ := hf
        have HX : Hid _ := hx
        have HO : Hid _ := hor
        have hq1 := hq.1
        clear hf hx hc hq hor
        go_wp2_with fail
        refine (hI _ mv.box).mono ?_
        rintro e w1 ⟨rfl, hm⟩
        rw [HX.out] at hm ⊢
        simp only [exV]
        go_wp2_with fail
        refine (hT _ hm.box).mono ?_
        rintro e w2 ⟨rfl, hm2⟩
        go_wp2_with fail
        have mz := (mv.trans hm).trans hm2
        have hcell2 := mz.box.cell 1 _ rfl
        refine ⟨⟨k, _, acc ||| z, by rw [HO.out], hlt, ?_, ?_, HF.out, mz, hm2.rest _ _ ne (hm.rest _ _ ne fx)⟩, ?_⟩
        · omega
        · omega
        · rw [hcell, hcell2]; simp [intOf]; omega
end Go.Proofs.YtddinknnaakmmabDoor
