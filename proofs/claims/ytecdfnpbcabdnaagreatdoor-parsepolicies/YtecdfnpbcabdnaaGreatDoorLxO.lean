/- Package lex: quoted texts and brackets. -/
import Derived.Test.YtecdfnpbcabdnaaGreatDoorLxE
namespace Go.Proofs.YtecdfnpbcabdnaaGreatDoor
open Go.RowKit Go.Lib

theorem tail_list (s : ByteArray) (i : Nat) : (s.extract i s.size).data.toList = s.data.toList.drop i := by
  simp only [ByteArray.data_extract, Array.toList_extract, List.extract_eq_take_drop]
  rw [List.take_of_length_le]
  rw [List.length_drop, ← Lib.size_eq]
  omega
theorem tail_cons (s : ByteArray) (i : Nat) (hi : i < s.size) : (s.extract i s.size).data.toList = s.get! i :: (s.extract (i + 1) s.size).data.toList := by
  have hl : i < s.data.toList.length := by rw [← Lib.size_eq]; exact hi
  rw [tail_list, tail_list, List.drop_eq_getElem_cons hl]
  congr 1
  have := toL_get s i hi
  rw [List.getElem?_eq_getElem hl] at this
  exact Option.some.inj this
theorem prefix_yes (s : ByteArray) (i : Nat) (c : UInt8) (h : s.get! i = c) (hi : i < s.size) (w : World) : Calls Tryz.prog 141 #[.string (s.extract i s.size), .string ⟨#[c]⟩] w fun e w' => e = .returned (.tuple #[.string (s.extract (i + 1) s.size), .bool true]) ∧ w' = w := by
  refine (Go.Proofs.Tryz.strings_CutPrefix _ ⟨#[c]⟩ w).mono ?_
  rintro e w' ⟨rfl, rfl⟩
  refine ⟨?_, rfl⟩
  show Ending.returned (Value.tuple #[.string ⟨(Lib.trimPrefix (s.extract i s.size).data.toList [c]).toArray⟩, .bool (Lib.hasPrefix (s.extract i s.size).data.toList [c])]) = _
  have hp : Lib.hasPrefix (s.extract i s.size).data.toList [c] = true := by
    rw [tail_cons s i hi, h]
    simp [Lib.hasPrefix]
  have ht : Lib.trimPrefix (s.extract i s.size).data.toList [c] = (s.extract (i + 1) s.size).data.toList := by
    unfold Lib.trimPrefix
    rw [if_pos hp, tail_cons s i hi]
    rfl
  rw [hp, ht]
theorem prefix_not (s : ByteArray) (i : Nat) (c : UInt8) (h : s.get! i ≠ c) (hi : i < s.size) (w : World) : Calls Tryz.prog 141 #[.string (s.extract i s.size), .string ⟨#[c]⟩] w fun e w' => e = .returned (.tuple #[.string (s.extract i s.size), .bool false]) ∧ w' = w := by
  refine (Go.Proofs.Tryz.strings_CutPrefix _ ⟨#[c]⟩ w).mono ?_
  rintro e w' ⟨rfl, rfl⟩
  refine ⟨?_, rfl⟩
  show Ending.returned (Value.tuple #[.string ⟨(Lib.trimPrefix (s.extract i s.size).data.toList [c]).toArray⟩, .bool (Lib.hasPrefix (s.extract i s.size).data.toList [c])]) = _
  have hp : Lib.hasPrefix (s.extract i s.size).data.toList [c] = false := by
    rw [tail_cons s i hi]
    have : (c == s.get! i) = false := beq_eq_false_iff_ne.2 (fun e => h e.symm)
    show (c == s.get! i && List.isPrefixOf [] _) = false
    rw [this]
    rfl
  have ht : Lib.trimPrefix (s.extract i s.size).data.toList [c] = (s.extract i s.size).data.toList := by
    unfold Lib.trimPrefix
    rw [if_neg (by rw [hp]; decide)]
  rw [hp, ht]
theorem cut_cut (s : ByteArray) (a m : Nat) (h : a + m ≤ s.size) : (s.extract a s.size).extract 0 m = s.extract a (a + m) := by
  apply ByteArray.ext
  apply Array.ext'
  simp only [ByteArray.data_extract, Array.toList_extract, List.extract_eq_take_drop]
  rw [List.drop_zero, List.take_take]
  congr 1
  have := Lib.size_eq s
  omega
theorem cut_tail (s : ByteArray) (a m : Nat) : (s.extract a s.size).extract m (s.extract a s.size).size = s.extract (a + m) s.size := by
  apply ByteArray.ext
  apply Array.ext'
  rw [tail_list (s.extract a s.size) m, tail_list s a, tail_list s (a + m), List.drop_drop]
/-- What a cut answers, handed on. -/
theorem cut_through {w W w2 : World} {b i : Nat} {s : ByteArray} {own : Bool} {tr : TR} {r : Ending} (st : St w W b i s zs) (hh : CutPost W b s i own tr r w2) : ∃ (k : Int) (x : ByteArray) (n a e : Int), r = .returned (.tuple #[.agg #[.int .i64 k, .string x, .int .i64 n, .int .i64 a], .int .i64 e]) ∧ Box w2 w.heap.size zs ∧
    CutPost w b s i own tr (.returned (.tuple #[.agg #[.int .i64 k, .string x, .int .i64 n, .int .i64 a], .int .i64 e])) ((((w2.setCell ⟨w.heap.size, 0, none⟩ (.int .i64 k)).setCell ⟨w.heap.size, 1, none⟩ (.string x)).setCell ⟨w.heap.size, 2, none⟩ (.int .i64 n)).setCell ⟨w.heap.size, 3, none⟩ (.int .i64 a)) := by
  unfold CutPost at hh ⊢
  split at hh
  · rename_i ho
    split at hh
    · obtain ⟨rfl, m⟩ := hh
      obtain ⟨bx, fin⟩ := st.took m
      refine ⟨_, _, _, _, _, rfl, bx, ?_⟩
      rw [if_pos ho]
      exact ⟨rfl, fin _ _ _ _⟩
    · obtain ⟨rfl, m⟩ := hh
      obtain ⟨bx, fin⟩ := st.took m
      refine ⟨_, _, _, _, _, rfl, bx, ?_⟩
      rw [if_pos ho]
      exact ⟨rfl, fin _ _ _ _⟩
  · rename_i ho
    obtain ⟨rfl, m⟩ := hh
    obtain ⟨bx, fin⟩ := st.took m
    refine ⟨_, _, _, _, _, rfl, bx, ?_⟩
    rw [if_neg ho]
    exact ⟨rfl, fin _ _ _ _⟩
set_option maxHeartbeats 4000000 in
theorem enclosed_c (b i : Nat) (s : ByteArray) (hi : i < s.size) (hz : s.size ≤ 1048576) (hv : Vd s i) (k : Int) (nv : List UInt8) (c d : UInt8) (hc0 : c ≠ 0) (hc1 : c.toNat < 128) (hd0 : d ≠ 0) (hch : ∀ x ∈ nv, x.toNat < 128) (h2 : 2 ≤ nv.length) (h4 : nv.length ≤ 4) (w : World) (h : Rdr w b s i) :
    Calls Tryz.prog 121 #[.pointer (some ⟨b, 0, none⟩), .int .i64 k, .string ⟨#[c]⟩, .string ⟨#[d]⟩, .string (ofL nv)] w (CutPost w b s i (decide (s.get! i = c)) (encT k nv d s i)) := by
  have ST := hid2 (St.made h 47)
  have hlt := h.lt
  have s0 := fun wx => sl_l s i (by omega) wx
  by_cases h1 : s.get! i = c
  · have own : decide (s.get! i = c) = true := decide_eq_true h1
    rw [own]
    have HP := hid2 (fun wx => prefix_yes s i c h1 hi wx)
    have hv1 := vd_low hv (by rw [h1]; exact hc0) (by rw [h1]; exact hc1)
    have HI := fun wx => indexAny_c s nv hch h2 h4 (i + 1) hi hv1 hz wx
    have hin := rn_in s (nin nv) (i + 1) hi
    have hct := count_cut (nin nv) (i + 1) hi hv1
    obtain ⟨tr, HWd⟩ : ∃ tr, Hid (tr = encT k nv d s i) := ⟨_, rfl⟩
    rw [← HWd.out]
    unfold encT at HWd
    unfold anyI at HI
    generalize hr : rn s (nin nv) (i + 1) = rr at *
    clear hr
    by_cases hrs : rr < s.size
    · rw [if_pos hrs] at HI
      obtain ⟨m, rfl⟩ : ∃ m, rr = i + 1 + m := ⟨rr - (i + 1), by omega⟩
      rw [show i + 1 + m - (i + 1) = m by omega] at HI
      have s1 := fun wx => sl_l (s.extract (i + 1) s.size) m (by rw [size_tail]; omega) wx
      rw [cut_tail s (i + 1) m] at s1
      have s2 := fun wx => sl_h (s.extract (i + 1) s.size) m (by rw [size_tail]; omega) wx
      rw [cut_cut s (i + 1) m (by omega)] at s2
      have HQ := fun wx => prefix_at s (i + 1 + m) (by omega) d hd0 wx
      have hxz : (s.extract (i + 1) (i + 1 + m)).size = m := by rw [size_cut s _ _ (by omega)]; omega
      have C := fun wx => Go.Proofs.Tryz.utf8_RuneCountInString (s.extract (i + 1) (i + 1 + m)) wx (by omega)
      rw [hct] at C
      have T := fun w' (hw : Rdr w' b s i) => take_c b i (i + 1 + m + 1) s (s.extract (i + 1) (i + 1 + m)) k 0 (by omega) w' hw
      have hcl : (seg s (nin nv) (i + 1)).length ≤ m := by
        rw [← hct, count_all]
        have := rs_length0 (s.extract (i + 1) (i + 1 + m))
        omega
      generalize hgx : s.extract (i + 1) (i + 1 + m) = x at *
      generalize hgt : s.extract (i + 1) s.size = rest at *
      generalize hgq : s.extract (i + 1 + m) s.size = rest2 at *
      generalize (seg s (nin nv) (i + 1)).length = cn at *
      have he : ((i + 1 + m + 1 : Nat) : Int) = (i : Int) + 1 + (m : Int) + 1 := by omega
      rw [he] at T
      have HT := hid2 T
      have HHI := hid2 HI
      have HC := hid2 C
      clear T HI C hct hgx hgt hgq hxz hv hv1 own he hch h1
      cases hq : (s.get! (i + 1 + m) == d) with
      | false =>
        have ht : tr = .error 12 := by rw [HWd.out]; exact if_neg (fun hh => by rw [hh.1] at hq; simp at hq)
        refine Calls.mono ?_ (fun r w' (hh : r = Ending.returned (.tuple #[noV, .int .i64 12]) ∧ Moved w b s i w') => show CutPost w b s i true tr r w' from by unfold CutPost; rw [ht]; exact hh)
        rw [hq] at HQ
        have HHQ := hid2 HQ
        clear ht HWd hq HQ HC HT
        go_enter Tryz.func121, Tryz.ntmps121
        go_wp2_with fail
        obtain ⟨c0, c1, f0, f1⟩ := ST.out.rd.two
        generalize w.alloc _ = W at *
        go_quiet (exact Calls.quiet_of_same (HP.out _))
        have S1 := hid2 (ST.out.next (drewN_b2 W nq))
        generalize W.drewN nq = W1 at *
        clear c0 c1 f0 f1
        go_wp2_with fail
        refine Calls.mono (HHI.out _) ?_
        rintro r w2 ⟨rfl, b2⟩
        have S2 := hid2 (S1.out.next b2)
        clear b2
        go_wp2_with fail
        refine Calls.mono (HHQ.out _) ?_
        rintro r w3 ⟨rfl, rfl⟩
        obtain ⟨p0, p1, p2, p3, g0, g1, g2, g3⟩ := S2.out.rb.four
        have bl := S2.out.rb.lt
        go_wp2_with fail
        refine bodyPost_ret (v := .tuple #[noV, .int .i64 12]) (by simp [results, Tryz.results121, go_sem, *]; rfl) rfl ⟨rfl, ?_⟩
        exact (S2.out.set _ _ _ _).stay
      | true =>
        rw [hq] at HQ
        have HHQ := hid2 HQ
        have hqe : s.get! (i + 1 + m) = d := by simpa using hq
        by_cases h64 : cn ≤ 64
        · have h64' : ¬ ((64 : Int) < (cn : Int)) := by omega
          have ht : tr = .ok (⟨k, x, 0, i⟩, i + 1 + m + 1) := by rw [HWd.out]; exact if_pos ⟨hqe, h64⟩
          refine Calls.mono ?_ (fun r w' (hh : r = Ending.returned (.tuple #[tkV ⟨k, x, 0, i⟩, .int .i64 0]) ∧ Moved w b s (i + 1 + m + 1) w') => show CutPost w b s i true tr r w' from by unfold CutPost; rw [ht]; exact hh)
          clear ht HWd hq HQ hqe h64
          go_enter Tryz.func121, Tryz.ntmps121
          go_wp2_with fail
          obtain ⟨c0, c1, f0, f1⟩ := ST.out.rd.two
          generalize w.alloc _ = W at *
          go_quiet (exact Calls.quiet_of_same (HP.out _))
          have S1 := hid2 (ST.out.next (drewN_b2 W nq))
          generalize W.drewN nq = W1 at *
          clear c0 c1 f0 f1
          go_wp2_with fail
          refine Calls.mono (HHI.out _) ?_
          rintro r w2 ⟨rfl, b2⟩
          have S2 := hid2 (S1.out.next b2)
          clear b2
          go_wp2_with fail
          refine Calls.mono (HHQ.out _) ?_
          rintro r w3 ⟨rfl, rfl⟩
          go_wp2_with fail
          refine Calls.mono (HC.out _) ?_
          rintro r w4 ⟨rfl, pos, rfl⟩
          have S4 : Hid (St w (w3.iter x pos) b i s zs) := S2.out.next ((Below.refl _ _).alloc (Nat.le_refl _) _)
          generalize w3.iter x pos = w4 at *
          clear HC HHQ HHI HP
          obtain ⟨n0, n1, _, _⟩ := S4.out.rd.two
          have nl := S4.out.rd.lt
          go_wp2_with fail
          refine Calls.mono (HT.out _ S4.out.rd) ?_
          rintro r w5 ⟨rfl, M5⟩
          obtain ⟨bx, fin⟩ := S4.out.took M5
          obtain ⟨p0, p1, p2, p3, g0, g1, g2, g3⟩ := bx.four
          have bl := bx.lt
          have FIN := hid2 fin
          clear bx fin M5
          unfold tkv
          go_wp2_with fail
          refine bodyPost_ret (v := .tuple #[tkV ⟨k, x, 0, i⟩, .int .i64 0]) (by simp [results, Tryz.results121, go_sem, *]; rfl) rfl ⟨rfl, ?_⟩
          exact FIN.out _ _ _ _
        · have h64' : (64 : Int) < (cn : Int) := by omega
          have ht : tr = .error 12 := by rw [HWd.out]; exact if_neg (fun hh => h64 hh.2)
          refine Calls.mono ?_ (fun r w' (hh : r = Ending.returned (.tuple #[noV, .int .i64 12]) ∧ Moved w b s i w') => show CutPost w b s i true tr r w' from by unfold CutPost; rw [ht]; exact hh)
          clear ht HWd hq HQ hqe h64 HT
          go_enter Tryz.func121, Tryz.ntmps121
          go_wp2_with fail
          obtain ⟨c0, c1, f0, f1⟩ := ST.out.rd.two
          generalize w.alloc _ = W at *
          go_quiet (exact Calls.quiet_of_same (HP.out _))
          have S1 := hid2 (ST.out.next (drewN_b2 W nq))
          generalize W.drewN nq = W1 at *
          clear c0 c1 f0 f1
          go_wp2_with fail
          refine Calls.mono (HHI.out _) ?_
          rintro r w2 ⟨rfl, b2⟩
          have S2 := hid2 (S1.out.next b2)
          clear b2
          go_wp2_with fail
          refine Calls.mono (HHQ.out _) ?_
          rintro r w3 ⟨rfl, rfl⟩
          go_wp2_with fail
          refine Calls.mono (HC.out _) ?_
          rintro r w4 ⟨rfl, pos, rfl⟩
          have S4 : Hid (St w (w3.iter x pos) b i s zs) := S2.out.next ((Below.refl _ _).alloc (Nat.le_refl _) _)
          generalize w3.iter x pos = w4 at *
          obtain ⟨p0, p1, p2, p3, g0, g1, g2, g3⟩ := S4.out.rb.four
          have bl := S4.out.rb.lt
          go_wp2_with fail
          refine bodyPost_ret (v := .tuple #[noV, .int .i64 12]) (by simp [results, Tryz.results121, go_sem, *]; rfl) rfl ⟨rfl, ?_⟩
          exact (S4.out.set _ _ _ _).stay
    · obtain rfl : rr = s.size := by omega
      rw [if_neg hrs] at HI
      have ht : tr = .error 12 := by rw [HWd.out]; exact if_neg (fun hh => absurd (get_in (s := s) (by rw [hh.1]; exact hd0)) hrs)
      refine Calls.mono ?_ (fun r w' (hh : r = Ending.returned (.tuple #[noV, .int .i64 12]) ∧ Moved w b s i w') => show CutPost w b s i true tr r w' from by unfold CutPost; rw [ht]; exact hh)
      generalize s.extract (i + 1) s.size = rest at *
      have HHI := hid2 HI
      clear ht HWd HI hct hrs hv hv1 own hch h1
      go_enter Tryz.func121, Tryz.ntmps121
      go_wp2_with fail
      obtain ⟨c0, c1, f0, f1⟩ := ST.out.rd.two
      generalize w.alloc _ = W at *
      go_quiet (exact Calls.quiet_of_same (HP.out _))
      have S1 := hid2 (ST.out.next (drewN_b2 W nq))
      generalize W.drewN nq = W1 at *
      clear c0 c1 f0 f1
      go_wp2_with fail
      refine Calls.mono (HHI.out _) ?_
      rintro r w2 ⟨rfl, b2⟩
      have S2 := hid2 (S1.out.next b2)
      clear b2
      obtain ⟨p0, p1, p2, p3, g0, g1, g2, g3⟩ := S2.out.rb.four
      have bl := S2.out.rb.lt
      go_wp2_with fail
      refine bodyPost_ret (v := .tuple #[noV, .int .i64 12]) (by simp [results, Tryz.results121, go_sem, *]; rfl) rfl ⟨rfl, ?_⟩
      exact (S2.out.set _ _ _ _).stay
  · have hP : ∀ r w', r = Ending.returned (.tuple #[noV, .int .i64 0]) ∧ Moved w b s i w' → CutPost w b s i (decide (s.get! i = c)) (encT k nv d s i) r w' := fun r w' hh => by
      unfold CutPost
      rw [if_neg (by simp [h1])]
      exact hh
    refine Calls.mono ?_ hP
    have HP := hid2 (fun wx => prefix_not s i c h1 hi wx)
    generalize s.extract i s.size = rest at *
    clear hP h1 h hv hch hc0 hc1 hd0 h2 h4
    go_enter Tryz.func121, Tryz.ntmps121
    go_wp2_with fail
    obtain ⟨c0, c1, f0, f1⟩ := ST.out.rd.two
    generalize w.alloc _ = W at *
    go_quiet (exact Calls.quiet_of_same (HP.out _))
    have S1 := hid2 (ST.out.next (drewN_b2 W nq))
    generalize W.drewN nq = W1 at *
    clear c0 c1 f0 f1
    obtain ⟨p0, p1, p2, p3, g0, g1, g2, g3⟩ := S1.out.rb.four
    have bl := S1.out.rb.lt
    go_wp2_with fail
    refine bodyPost_ret (v := .tuple #[noV, .int .i64 0]) (by simp [results, Tryz.results121, go_sem, *]; rfl) rfl ⟨rfl, ?_⟩
    exact (S1.out.set _ _ _ _).stay
theorem quoted_c (b i : Nat) (s : ByteArray) (hi : i < s.size) (hz : s.size ≤ 1048576) (hv : Vd s i) (w : World) (h : Rdr w b s i) :
    Calls Tryz.prog 92 #[.pointer (some ⟨b, 0, none⟩)] w (CutPost w b s i (decide (s.get! i = 34)) (encT 4 [34, 10] 34 s i)) := by
  have ST := hid2 (St.made h 47)
  have hlt := h.lt
  have E := hid2 (fun w' (hw : Rdr w' b s i) => enclosed_c b i s hi hz hv 4 [34, 10] 34 34 (by decide) (by decide) (by decide) (by decide) (by decide) (by decide) w' hw)
  have hQ := hid2 (fun (W w2 : World) (st : St w W b i s zs) (r : Ending) (hh : CutPost W b s i (decide (s.get! i = 34)) (encT 4 [34, 10] 34 s i) r w2) => cut_through st hh)
  clear h hv
  generalize decide (s.get! i = 34) = own at *
  generalize encT 4 [34, 10] 34 s i = tr at *
  go_enter Tryz.func92, Tryz.ntmps92
  go_wp2_with fail
  generalize w.alloc _ = W at *
  refine Calls.mono (E.out _ ST.out.rd) ?_
  intro r w2 hh
  obtain ⟨k, x, n, a, e, rfl, bx, hp⟩ := hQ.out _ _ ST.out _ hh
  obtain ⟨p0, p1, p2, p3, g0, g1, g2, g3⟩ := bx.four
  have bl := bx.lt
  have HP := hid2 hp
  clear hh hp bx hQ E
  go_wp2_with fail
  refine bodyPost_ret (v := .tuple #[.agg #[.int .i64 k, .string x, .int .i64 n, .int .i64 a], .int .i64 e]) (by simp [results, Tryz.results92, go_sem, *]) rfl ?_
  exact HP.out
theorem bracket_c (b i : Nat) (s : ByteArray) (hi : i < s.size) (hz : s.size ≤ 1048576) (hv : Vd s i) (w : World) (h : Rdr w b s i) :
    Calls Tryz.prog 93 #[.pointer (some ⟨b, 0, none⟩)] w (CutPost w b s i (decide (s.get! i = 91)) (encT 8 [91, 93, 34, 10] 93 s i)) := by
  have ST := hid2 (St.made h 47)
  have hlt := h.lt
  have E := hid2 (fun w' (hw : Rdr w' b s i) => enclosed_c b i s hi hz hv 8 [91, 93, 34, 10] 91 93 (by decide) (by decide) (by decide) (by decide) (by decide) (by decide) w' hw)
  have hQ := hid2 (fun (W w2 : World) (st : St w W b i s zs) (r : Ending) (hh : CutPost W b s i (decide (s.get! i = 91)) (encT 8 [91, 93, 34, 10] 93 s i) r w2) => cut_through st hh)
  clear h hv
  generalize decide (s.get! i = 91) = own at *
  generalize encT 8 [91, 93, 34, 10] 93 s i = tr at *
  go_enter Tryz.func93, Tryz.ntmps93
  go_wp2_with fail
  generalize w.alloc _ = W at *
  refine Calls.mono (E.out _ ST.out.rd) ?_
  intro r w2 hh
  obtain ⟨k, x, n, a, e, rfl, bx, hp⟩ := hQ.out _ _ ST.out _ hh
  obtain ⟨p0, p1, p2, p3, g0, g1, g2, g3⟩ := bx.four
  have bl := bx.lt
  have HP := hid2 hp
  clear hh hp bx hQ E
  go_wp2_with fail
  refine bodyPost_ret (v := .tuple #[.agg #[.int .i64 k, .string x, .int .i64 n, .int .i64 a], .int .i64 e]) (by simp [results, Tryz.results93, go_sem, *]) rfl ?_
  exact HP.out
end Go.Proofs.YtecdfnpbcabdnaaGreatDoor
