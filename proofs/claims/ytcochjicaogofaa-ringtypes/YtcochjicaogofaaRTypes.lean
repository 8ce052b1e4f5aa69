/- The walk of the statement RingTypes. -/
import Derived.Test.YtcochjicaogofaaRqI
import Derived.OpenShut
namespace Go.Proofs.Ytcochjicaogofaa
open Go.RowKit Go.ChangeShapes Go.WideShapes

/-- The argument is a slice of pairs: texts O and numbers V. -/
def IsPairs (w : World) (a : Option Addr) (len : Nat) (O : Nat → ByteArray) (V : Nat → Int) : Prop := len = 0 ∨ ∃ b off, a = some ⟨b, off, none⟩ ∧ b < w.heap.size ∧ ∀ i, i < len → w.cell? ⟨b, off + i * 2, none⟩ = some (.string (O i)) ∧ w.cell? ⟨b, off + i * 2 + 1, none⟩ = some (.int .i64 (V i))
theorem eqPair (s : ByteArray) (n : Int) (w : World) : (Op.equalIn 10000 45 (.agg #[.string s, .int .i64 n]) (.agg #[.string s, .int .i64 n])).run Try.prog w = .ok true w := by
  have t3 := Try.underlying9
  have q3 := Try.isAgg9
  have z3 := Try.sizeOf9
  have t4 := Try.underlying3
  have q4 := Try.isAgg3
  have z4 := Try.sizeOf3
  rw [show (10000 : Nat) = 9999 + 1 from rfl, Op.equalIn]
  simp only [Sem.run_bind, run_underlying Try.underlying45, Result.andThen_ok]
  go_simp
/-- The pairs as a list. -/
def zl (len : Nat) (O : Nat → ByteArray) (V : Nat → Int) : List Pr := (List.range len).map (fun i => (O i, V i))
theorem zl_length (len : Nat) (O : Nat → ByteArray) (V : Nat → Int) : (zl len O V).length = len := by simp [zl]
theorem zl_get {len : Nat} {O : Nat → ByteArray} {V : Nat → Int} {i : Nat} (h : i < len) : (zl len O V)[i]? = some (O i, V i) := by simp [zl, h]
theorem zl_take {len : Nat} {O : Nat → ByteArray} {V : Nat → Int} {k : Nat} (h : k < len) : (zl len O V).take (k + 1) = (zl len O V).take k ++ [(O k, V k)] := by rw [List.take_add_one, zl_get h]; rfl
set_option maxRecDepth 20000 in
set_option maxHeartbeats 1000000 in
theorem ringTypes_walk (room : Int) (a : Option Addr) (len cap : Nat) (O : Nat → ByteArray) (V : Nat → Int) (w : World) (hr : (Lit.int .i64 room).wf = true) (hO : IsPairs w a len O V) (hl : len ≤ 9223372036854775807) :
    Calls Try.prog 4 #[.int .i64 room, .slice a len cap] w fun e w' => e = .returned (.bool true) ∧ Below w.heap.size w w' := by
  have HO := hid hO
  have hq := eqPair
  have bd := bounds_i64 hr
  clear hO hr
  obtain ⟨A, hA⟩ : ∃ A, wrap64 (room + 1) = A := ⟨_, rfl⟩
  obtain ⟨C, hC⟩ : ∃ C, wrap64 (-A) = C := ⟨_, rfl⟩
  obtain ⟨M, hM⟩ : ∃ M, (if room < C then C else room) = M := ⟨_, rfl⟩
  have h0M : 0 ≤ M ∧ M ≤ 9223372036854775807 := by
    unfold wrap64 at hA hC
    split at hM <;> omega
  obtain ⟨h0M, h1M⟩ := h0M
  obtain ⟨n, hn⟩ : ∃ n : Nat, 1 + M % 50 = (n : Int) := ⟨(1 + M % 50).toNat, by omega⟩
  have hn1 : 1 ≤ n := by omega
  have hn2 : n ≤ 50 := by omega
  go_enter Try.func4, Try.ntmps4
  go_wp2_with fail
  refine (awake_any w).mono ?_
  rintro e w1 ⟨rfl, hb1⟩
  go_wp2_with fail
  refine Calls.mono (qNew_yes n w1 hn1 (by omega)) ?_
  rintro e w2 ⟨rfl, hg2, hb2⟩
  have s1 := hb1.size
  have s2 := hg2.lt
  have hbw := hb1.trans (hb2.mono hb1.size)
  have HG := hid hg2
  have HW := hid hbw
  clear hb1 hb2 hg2 hbw hA hC hM hn h0M h1M bd
  go_wp2_with fail
  go_loopw [8] (fun p wr => ∃ (k q : Nat), p = .int .i64 k ∧ k ≤ len ∧ Rq wr w1.heap.size q n (newq n ((zl len O V).take k)) ∧ w1.heap.size ≤ q ∧ Below w.heap.size w wr) (fun p _ => len - (intOf p).toNat)
  case atStart => exact ⟨0, w1.heap.size, rfl, by omega, by simpa [newq] using HG.out, Nat.le_refl _, HW.out⟩
  case round =>
    clear HG HW
    obtain ⟨k, q, rfl, hk, hg, hq, hbw⟩ := hrel
    have hlt1 := hg.lt
    have hlt2 := hg.qlt
    by_cases hlt : k < len
    · have hO := HO.out
      rcases hO with h0 | ⟨bl, off, rfl, hbl, hcell⟩
      · omega
      have c0 := (hbw.cell (p := ⟨bl, off + k * 2, none⟩) hbl).trans (hcell k hlt).1
      have c1 := (hbw.cell (p := ⟨bl, off + k * 2 + 1, none⟩) hbl).trans (hcell k hlt).2
      have hlt' : (k : Int) < (len : Int) := by omega
      have htl : ((zl len O V).take k).length = k := by rw [List.length_take, zl_length]; omega
      have HG := hid hg
      have HW := hid hbw
      have HT := hid htl
      have HCl := hid hcell
      clear hg hbw htl hcell
      by_cases hkn : k < n
      · have hkn' : ¬ (n : Int) ≤ (k : Int) := by omega
        go_wp2_with fail
        refine Calls.mono (qPush_few w1.heap.size q n ((zl len O V).take k) (O k, V k) wr HG.out (by omega) (by rw [HT.out]; exact hkn)) ?_
        rintro e w3 ⟨q3, rfl, hg3, t3, o3⟩
        rw [← zl_take hlt] at hg3
        have b3 := t3.below (B := w.heap.size) (by simp; omega) (by omega)
        have d0 := (b3.cell (p := ⟨bl, off + k * 2, none⟩) hbl).trans c0
        have d1 := (b3.cell (p := ⟨bl, off + k * 2 + 1, none⟩) hbl).trans c1
        have s3 := t3.size
        have HG3 := hid hg3
        have HB3 := hid b3
        clear hg3 t3 b3 c0 c1
        simp only [pv, pz]
        go_wp2_with fail
        have hkd : decide (n ≤ k) = false := decide_eq_false (by omega)
        go_big_quiet (fail)
        go_wp2_with fail
        have b4 : Below w3.heap.size w3 ((w3.alloc (.cells #[.string ⟨#[]⟩, .int .i64 0] 45)).drewN nq) := below_drewQ ((Below.refl _ _).alloc (Nat.le_refl _) _) nq
        obtain ⟨W4, hW4⟩ : ∃ W4, W4 = (w3.alloc (.cells #[.string ⟨#[]⟩, .int .i64 0] 45)).drewN nq := ⟨_, rfl⟩
        rw [← hW4] at b4 ⊢
        have hbl3 : bl < w3.heap.size := by omega
        have f0 := (b4.cell (p := ⟨bl, off + k * 2, none⟩) hbl3).trans d0
        have f1 := (b4.cell (p := ⟨bl, off + k * 2 + 1, none⟩) hbl3).trans d1
        have hg4 := HG3.out.next b4
        have s4 := b4.size
        have hlast := newq_last n ((zl len O V).take k) (O k, V k) hn1
        rw [← zl_take hlt] at hlast
        have hml : 1 ≤ (newq n ((zl len O V).take (k + 1))).length := by rw [newq_length, List.length_take, zl_length]; omega
        have hmm : (newq n ((zl len O V).take (k + 1))).length ≤ 50 := by rw [newq_length]; omega
        have HG4 := hid hg4
        have HB4 := hid b4
        clear hg4 b4 hW4 d0 d1
        refine (qLen w1.heap.size q3 n _ W4 HG4.out).mono ?_
        rintro e w5 ⟨rfl, rfl⟩
        obtain ⟨m, hm⟩ : ∃ m, m = (newq n ((zl len O V).take (k + 1))).length := ⟨_, rfl⟩
        rw [← hm] at hlast hml hmm ⊢
        have HLa := hid hlast
        clear hlast hm
        go_wp2_with fail
        have e9 : (m : Int) - 1 = ((m - 1 : Nat) : Int) := by omega
        rw [e9]
        refine Calls.mono (qAt_yes w1.heap.size q3 n _ (m - 1) (O k, V k) W4 HG4.out (by omega) HLa.out) ?_
        rintro e w5 ⟨rfl, b5⟩
        have hbl4 : bl < W4.heap.size := by omega
        have g0 := (b5.cell (p := ⟨bl, off + k * 2, none⟩) hbl4).trans f0
        have g1 := (b5.cell (p := ⟨bl, off + k * 2 + 1, none⟩) hbl4).trans f1
        have HB5 := hid b5
        have s5 := b5.size
        have b5a : Below w5.heap.size w5 (w5.alloc (.cells #[.string (O k), .int .i64 (V k)] 45)) := (Below.refl _ _).alloc (Nat.le_refl _) _
        have hbl5 : bl < w5.heap.size := by omega
        have h0a := (b5a.cell (p := ⟨bl, off + k * 2, none⟩) hbl5).trans g0
        have h1a := (b5a.cell (p := ⟨bl, off + k * 2 + 1, none⟩) hbl5).trans g1
        clear b5a
        clear b5 f0 f1 e9
        simp only [pv]
        go_wp2_with fail
        go_big_quiet (fail)
        go_wp2_with fail
        go_roundw
        case rel =>
          have b6 : Below w5.heap.size w5 ((w5.alloc (.cells #[.string (O k), .int .i64 (V k)] 45)).drewN nq) := below_drewQ ((Below.refl _ _).alloc (Nat.le_refl _) _) nq
          exact ⟨k + 1, q3, by simp, by omega, (HG4.out.next HB5.out).next b6, by omega, (((HW.out.trans HB3.out).trans (HB4.out.mono (by omega))).trans (HB5.out.mono (by omega))).trans (b6.mono (by omega))⟩
        case measure => simp [intOf]; omega
      · have hkn' : (n : Int) ≤ (k : Int) := by omega
        obtain ⟨j, hj⟩ : ∃ j, k = n + j := ⟨k - n, by omega⟩
        have hjl : j < len := by omega
        have hsub : (k : Int) - (n : Int) = (j : Int) := by omega
        have p0 := (HW.out.cell (p := ⟨bl, off + j * 2, none⟩) hbl).trans (HCl.out j hjl).1
        have p1 := (HW.out.cell (p := ⟨bl, off + j * 2 + 1, none⟩) hbl).trans (HCl.out j hjl).2
        have hjl' : (j : Int) < (len : Int) := by omega
        have HJ := hid hj
        clear hj
        go_wp2_with fail
        refine Calls.mono (qPush_many w1.heap.size q n ((zl len O V).take k) (O j, V j) (O k, V k) wr HG.out (by omega) hn1 (by rw [HT.out]; omega) (by have hj := HJ.out; rw [HT.out, List.getElem?_take_of_lt (by omega), show k - n = j by omega]; exact zl_get hjl)) ?_
        rintro e w3 ⟨q3, rfl, hg3, t3, o3⟩
        rw [← zl_take hlt] at hg3
        have b3 := t3.below (B := w.heap.size) (by simp; omega) (by omega)
        have d0 := (b3.cell (p := ⟨bl, off + k * 2, none⟩) hbl).trans c0
        have d1 := (b3.cell (p := ⟨bl, off + k * 2 + 1, none⟩) hbl).trans c1
        have r0 := (b3.cell (p := ⟨bl, off + j * 2, none⟩) hbl).trans p0
        have r1 := (b3.cell (p := ⟨bl, off + j * 2 + 1, none⟩) hbl).trans p1
        have hb3l : bl < w3.heap.size := by have := t3.size; omega
        have b3a : Below w3.heap.size w3 (w3.alloc (.cells #[.string (O j), .int .i64 (V j)] 45)) := (Below.refl _ _).alloc (Nat.le_refl _) _
        have v0 := (b3a.cell (p := ⟨bl, off + j * 2, none⟩) hb3l).trans r0
        have v1 := (b3a.cell (p := ⟨bl, off + j * 2 + 1, none⟩) hb3l).trans r1
        clear p0 p1 b3a
        have s3 := t3.size
        have HG3 := hid hg3
        have HB3 := hid b3
        clear hg3 t3 b3 c0 c1
        simp only [pv]
        go_wp2_with fail
        have hkd : decide (n ≤ k) = true := decide_eq_true (by omega)
        go_big_quiet (fail)
        go_wp2_with fail
        have b4 : Below w3.heap.size w3 ((w3.alloc (.cells #[.string (O j), .int .i64 (V j)] 45)).drewN nq) := below_drewQ ((Below.refl _ _).alloc (Nat.le_refl _) _) nq
        obtain ⟨W4, hW4⟩ : ∃ W4, W4 = (w3.alloc (.cells #[.string (O j), .int .i64 (V j)] 45)).drewN nq := ⟨_, rfl⟩
        rw [← hW4] at b4 ⊢
        have hbl3 : bl < w3.heap.size := by omega
        have f0 := (b4.cell (p := ⟨bl, off + k * 2, none⟩) hbl3).trans d0
        have f1 := (b4.cell (p := ⟨bl, off + k * 2 + 1, none⟩) hbl3).trans d1
        have hg4 := HG3.out.next b4
        have s4 := b4.size
        have hlast := newq_last n ((zl len O V).take k) (O k, V k) hn1
        rw [← zl_take hlt] at hlast
        have hml : 1 ≤ (newq n ((zl len O V).take (k + 1))).length := by rw [newq_length, List.length_take, zl_length]; omega
        have hmm : (newq n ((zl len O V).take (k + 1))).length ≤ 50 := by rw [newq_length]; omega
        have HG4 := hid hg4
        have HB4 := hid b4
        clear hg4 b4 hW4 d0 d1
        refine (qLen w1.heap.size q3 n _ W4 HG4.out).mono ?_
        rintro e w5 ⟨rfl, rfl⟩
        obtain ⟨m, hm⟩ : ∃ m, m = (newq n ((zl len O V).take (k + 1))).length := ⟨_, rfl⟩
        rw [← hm] at hlast hml hmm ⊢
        have HLa := hid hlast
        clear hlast hm
        go_wp2_with fail
        have e9 : (m : Int) - 1 = ((m - 1 : Nat) : Int) := by omega
        rw [e9]
        refine Calls.mono (qAt_yes w1.heap.size q3 n _ (m - 1) (O k, V k) W4 HG4.out (by omega) HLa.out) ?_
        rintro e w5 ⟨rfl, b5⟩
        have hbl4 : bl < W4.heap.size := by omega
        have g0 := (b5.cell (p := ⟨bl, off + k * 2, none⟩) hbl4).trans f0
        have g1 := (b5.cell (p := ⟨bl, off + k * 2 + 1, none⟩) hbl4).trans f1
        have HB5 := hid b5
        have s5 := b5.size
        have b5a : Below w5.heap.size w5 (w5.alloc (.cells #[.string (O k), .int .i64 (V k)] 45)) := (Below.refl _ _).alloc (Nat.le_refl _) _
        have hbl5 : bl < w5.heap.size := by omega
        have h0a := (b5a.cell (p := ⟨bl, off + k * 2, none⟩) hbl5).trans g0
        have h1a := (b5a.cell (p := ⟨bl, off + k * 2 + 1, none⟩) hbl5).trans g1
        clear b5a
        clear b5 f0 f1 e9
        simp only [pv]
        go_wp2_with fail
        go_big_quiet (fail)
        go_wp2_with fail
        go_roundw
        case rel =>
          have b6 : Below w5.heap.size w5 ((w5.alloc (.cells #[.string (O k), .int .i64 (V k)] 45)).drewN nq) := below_drewQ ((Below.refl _ _).alloc (Nat.le_refl _) _) nq
          exact ⟨k + 1, q3, by simp, by omega, (HG4.out.next HB5.out).next b6, by omega, (((HW.out.trans HB3.out).trans (HB4.out.mono (by omega))).trans (HB5.out.mono (by omega))).trans (b6.mono (by omega))⟩
        case measure => simp [intOf]; omega
    · obtain rfl : k = len := by omega
      have e1 : (zl k O V).take k = zl k O V := List.take_of_length_le (by rw [zl_length]; omega)
      rw [e1] at hg
      obtain ⟨f, hf⟩ : ∃ f : Nat, f = k - n := ⟨_, rfl⟩
      have e2 : newq n (zl k O V) = (zl k O V).drop f := by rw [newq, zl_length, hf]
      rw [e2] at hg
      have hif : (if n < k then (k : Int) - (n : Int) else 0) = (f : Int) := by split <;> omega
      have hfk : f ≤ k := by omega
      have HG := hid hg
      have HW := hid hbw
      clear hg hbw e1 e2 hf hlt hk
      go_wp2_with fail
      go_loopw [14] (fun p wr => ∃ (k2 q2 : Nat), p = .int .i64 k2 ∧ k2 ≤ k ∧ Rq wr w1.heap.size q2 n ((zl k O V).drop k2) ∧ w1.heap.size ≤ q2 ∧ Below w.heap.size w wr) (fun p _ => k - (intOf p).toNat)
      case atStart => exact ⟨f, q, rfl, hfk, HG.out, hq, HW.out⟩
      case round =>
        clear HG HW hif hfk
        obtain ⟨k2, q2, rfl, hk2, hg, hq2, hbw⟩ := hrel
        have hlt3 := hg.lt
        have hlt4 := hg.qlt
        by_cases hlt : k2 < k
        · have hO := HO.out
          rcases hO with h0 | ⟨bl, off, rfl, hbl, hcell⟩
          · omega
          have c0 := (hbw.cell (p := ⟨bl, off + k2 * 2, none⟩) hbl).trans (hcell k2 hlt).1
          have c1 := (hbw.cell (p := ⟨bl, off + k2 * 2 + 1, none⟩) hbl).trans (hcell k2 hlt).2
          have hlt' : (k2 : Int) < (k : Int) := by omega
          have hdr : (zl k O V).drop k2 = (O k2, V k2) :: (zl k O V).drop (k2 + 1) := by
            have hl2 : k2 < (zl k O V).length := by rw [zl_length]; exact hlt
            rw [List.drop_eq_getElem_cons hl2]
            congr 1
            have := zl_get (O := O) (V := V) hlt
            rw [List.getElem?_eq_getElem hl2] at this
            exact Option.some.inj this
          rw [hdr] at hg
          have HG := hid hg
          have HW := hid hbw
          clear hg hbw hcell hdr
          go_wp2_with fail
          refine Calls.mono (qDrop_yes w1.heap.size q2 n _ (O k2, V k2) wr HG.out (by omega)) ?_
          rintro e w3 ⟨q3, rfl, hg3, t3, o3⟩
          have b3 := t3.below (B := w.heap.size) (by simp; omega) (by omega)
          have d0 := (b3.cell (p := ⟨bl, off + k2 * 2, none⟩) hbl).trans c0
          have d1 := (b3.cell (p := ⟨bl, off + k2 * 2 + 1, none⟩) hbl).trans c1
          have s3 := t3.size
          have hbl3 : bl < w3.heap.size := by omega
          have b3a : Below w3.heap.size w3 (w3.alloc (.cells #[.string (O k2), .int .i64 (V k2)] 45)) := (Below.refl _ _).alloc (Nat.le_refl _) _
          have v0 := (b3a.cell (p := ⟨bl, off + k2 * 2, none⟩) hbl3).trans d0
          have v1 := (b3a.cell (p := ⟨bl, off + k2 * 2 + 1, none⟩) hbl3).trans d1
          have HG3 := hid hg3
          have HB3 := hid b3
          clear hg3 t3 b3 c0 c1 b3a
          simp only [pv]
          go_wp2_with fail
          go_big_quiet (fail)
          go_wp2_with fail
          go_roundw
          case rel =>
            have b6 : Below w3.heap.size w3 ((w3.alloc (.cells #[.string (O k2), .int .i64 (V k2)] 45)).drewN nq) := below_drewQ ((Below.refl _ _).alloc (Nat.le_refl _) _) nq
            exact ⟨k2 + 1, q3, by simp, by omega, HG3.out.next b6, by omega, (HW.out.trans HB3.out).trans (b6.mono (by omega))⟩
          case measure => simp [intOf]; omega
        · obtain rfl : k2 = k := by omega
          have e1 : (zl k2 O V).drop k2 = [] := List.drop_eq_nil_of_le (by rw [zl_length]; omega)
          rw [e1] at hg
          have HG := hid hg
          have HW := hid hbw
          clear hg hbw e1 hlt
          go_wp2_with fail
          refine (qDrop_no w1.heap.size q2 n wr HG.out).mono ?_
          rintro e w3 ⟨rfl, b3⟩
          have HG3 := hid (HG.out.next b3)
          have HB3 := hid b3
          clear b3
          simp only [pv, pz]
          go_wp2_with fail
          have b4 : Below w3.heap.size w3 (w3.alloc (.cells #[.string ⟨#[]⟩, .int .i64 0] 45)) := (Below.refl _ _).alloc (Nat.le_refl _) _
          have HB4 := hid b4
          refine (qLen w1.heap.size q2 n [] _ (HG3.out.next b4)).mono ?_
          rintro e w4 ⟨rfl, rfl⟩
          clear b4
          go_wp2_with fail
          go_ret
          exact ⟨rfl, (HW.out.trans (HB3.out.mono (by omega))).trans (HB4.out.mono (by have := HB3.out.size; omega))⟩
end Go.Proofs.Ytcochjicaogofaa
