/- The document's answer: Read. -/
import Derived.Test.YtddinknnaakmmaaDoorRCroU
namespace Go.Proofs.YtddinknnaakmmaaDoor
open Go.RowKit Go.Deep

theorem mk_bools (w : World) : (Instr.makeSlice 47 (.int .i64 64) (.int .i64 64)).run Tryd.prog w = .ok (boolsV w.heap.size) (w.alloc (.cells (boolCells 0).toArray 4)) := by kernel_rfl
theorem set5 (ss : List Nat) (h : ss.length < 5) (x : Nat) : (rowC ss).set ss.length (.int .u64 (x : Nat)) = rowC (ss ++ [x]) := rowC_set ss h x
/-- What one item does to a field's reading. -/
theorem item_go {l : List UInt8} {lo hi k m acc z e : Nat} {F : Except Nat (Nat × Nat)} (hf : fieldS l lo hi (k + 1) m acc = F) (h : itemS l m lo hi = .ok (z, e)) (hc : isB l e 44 = true) : fieldS l lo hi k (e + 1) (acc ||| z) = F := by rw [← hf, fieldS_go h hc]
theorem item_end {l : List UInt8} {lo hi k m acc z e : Nat} {F : Except Nat (Nat × Nat)} (hf : fieldS l lo hi (k + 1) m acc = F) (h : itemS l m lo hi = .ok (z, e)) (hc : isB l e 44 = false) : F = .ok (acc ||| z, e) := by rw [← hf, fieldS_end h hc]
theorem item_bad {l : List UInt8} {lo hi k m acc p : Nat} {F : Except Nat (Nat × Nat)} (hf : fieldS l lo hi (k + 1) m acc = F) (h : itemS l m lo hi = .error p) : F = .error p := by rw [← hf, fieldS_bad h]
set_option maxRecDepth 100000 in
set_option maxHeartbeats 16000000 in
theorem rRead_any (s : ByteArray) (l : List UInt8) (hl : s.data.toList = l) (w : World) :
    Calls Tryd.prog 11 #[.string s] w (ReadPost l w) := by
  have hs : l.length = s.size := by rw [← hl]; rfl
  by_cases hz : 256 < s.size
  · have k1 : (256 : Int) < (s.size : Int) := by omega
    obtain ⟨cb, l0⟩ := one_box w 25 zero5
    go_enter Tryd.func11, Tryd.ntmps11
    go_wp2_with fail
    refine bodyPost_ret (v := .tuple #[cronV ⟨0, 0, 0, 0, 0⟩, .int .i64 0, .int .i64 2]) (by simp [results, Tryd.results11, go_sem]) rfl ⟨?_, l0⟩
    unfold readV
    rw [if_pos (by omega)]
  · have k1 : ¬ (256 : Int) < (s.size : Int) := by omega
    have hz' : ¬ 256 < l.length := by omega
    obtain ⟨cb, rb, l0⟩ := two_boxes w 25 39 zero5 zero5
    have hit := fun n f hn hf S g wx hx => ritem_any s l hl (by omega) n f hn hf S g wx hx
    have HIT : Hid _ := hit
    have hmk := mk_bools
    clear hit
    go_enter Tryd.func11, Tryd.ntmps11
    go_wp2_with fail
    go_loopw [6, 7] (fun p q wr => ∃ (i n : Nat) (ss : List Nat), p = .int .i64 n ∧ q = .int .i64 i ∧ i ≤ 5 ∧ upto l i = .ok (ss, n) ∧ Box wr w.heap.size zero5 ∧ Box wr (w.heap.size + 1) (rowC ss) ∧ Below w.heap.size w wr) (fun _ q _ => (5 - intOf q).toNat)
    case atStart => exact ⟨0, 0, [], rfl, rfl, by decide, rfl, cb, rb, l0⟩
    case round =>
      obtain ⟨i, n, ss, rfl, rfl, hi, hu, cb, rb, bl⟩ := hrel
      obtain ⟨un, ul, us⟩ := upto_ok i hu
      by_cases hlt : i < 5
      · have k2 : (i : Int) < 5 := by omega
        have hset := rowC_set ss (by omega : ss.length < 5)
        rw [ul] at hset
        have hgo := fun z e hc hf => upto_go (s := z) (e := e) hu hc hf
        have hbad := fun p hc hf => upto_bad (p := p) hu hc hf
        have hsep := upto_sep hu
        have hor := fun p (h : upto l (i + 1) = .error p) => readS_stays h (by omega)
        have HS : Hid _ := hset
        have HGO : Hid _ := hgo
        have HBAD : Hid _ := hbad
        have HSEP : Hid _ := hsep
        have HOR : Hid _ := hor
        clear hset hgo hbad hsep hor hu
        go_upto_if 20 with fail
        go_cut [6] from 15 to 64 (fun s6 wc => ∃ m : Nat, s6 = .int .i64 m ∧ m ≤ s.size ∧ (if i = 0 then n else n + 1) = m ∧ (i = 0 ∨ isB l n 32 = true) ∧ wr = wc)
        case first =>
          by_cases h0 : i = 0
          · have k3 : ¬ (0 : Int) < (i : Int) := by omega
            have H0 : Hid _ := h0
            clear h0
            go_wp2_with fail
            go_meet
            exact ⟨n, rfl, by omega, by rw [if_pos H0.out], .inl H0.out, rfl⟩
          · have k3 : (0 : Int) < (i : Int) := by omega
            have H0 : Hid _ := h0
            clear h0
            cases hb : isB l n 32 with
            | true =>
              obtain ⟨q0, q1, q2⟩ := is_yes hl hb
              have q3 : ¬ (s.size : Int) ≤ (n : Int) := by omega
              have q4 : (bt l n != 32) = false := by simp [q2]
              have HBB : Hid _ := hb
              clear q2 hb
              generalize bt l n = cc at *
              go_wp2_with fail
              go_meet
              exact ⟨n + 1, by go_num, by omega, by rw [if_neg H0.out], .inr HBB.out, rfl⟩
            | false =>
              have HRS : Hid _ := HOR.out n (HSEP.out H0.out hb)
              rcases is_no hl hb with q0 | ⟨q0, q1, q2⟩
              · have q3 : (s.size : Int) ≤ (n : Int) := by omega
                clear hb HIT HS HGO HBAD HSEP HOR
                obtain ⟨s0, s1, s2, s3, s4, g0, g1, g2, g3, g4⟩ := cb.five
                go_wp2_with fail
                clear s0 s1 s2 s3 s4 g0 g1 g2 g3 g4
                have cb9 := cb.put_five (.int .u64 0) (.int .u64 0) (.int .u64 0) (.int .u64 0) (.int .u64 0)
                have bl9 := below_five bl (Nat.le_refl _) (.int .u64 0) (.int .u64 0) (.int .u64 0) (.int .u64 0) (.int .u64 0)
                generalize (((((wr.setCell ⟨w.heap.size, 0, none⟩ (.int .u64 0)).setCell ⟨w.heap.size, 1, none⟩ (.int .u64 0)).setCell ⟨w.heap.size, 2, none⟩ (.int .u64 0)).setCell ⟨w.heap.size, 3, none⟩ (.int .u64 0)).setCell ⟨w.heap.size, 4, none⟩ (.int .u64 0)) = W at *
                obtain ⟨t0, t1, t2, t3, t4, _⟩ := cb9.five
                exact bodyPost_ret (v := .tuple #[cronV ⟨0, 0, 0, 0, 0⟩, .int .i64 (n : Nat), .int .i64 26]) (by simp [results, Tryd.results11, go_sem, t0, t1, t2, t3, t4]) rfl (ReadPost.bad hz' HRS.out bl9)
              · have q3 : ¬ (s.size : Int) ≤ (n : Int) := by omega
                have q4 : (bt l n != 32) = true := bne_iff_ne.2 q2
                clear hb q2 HIT HS HGO HBAD HSEP HOR
                generalize bt l n = cc at *
                obtain ⟨s0, s1, s2, s3, s4, g0, g1, g2, g3, g4⟩ := cb.five
                go_wp2_with fail
                clear s0 s1 s2 s3 s4 g0 g1 g2 g3 g4
                have cb9 := cb.put_five (.int .u64 0) (.int .u64 0) (.int .u64 0) (.int .u64 0) (.int .u64 0)
                have bl9 := below_five bl (Nat.le_refl _) (.int .u64 0) (.int .u64 0) (.int .u64 0) (.int .u64 0) (.int .u64 0)
                generalize (((((wr.setCell ⟨w.heap.size, 0, none⟩ (.int .u64 0)).setCell ⟨w.heap.size, 1, none⟩ (.int .u64 0)).setCell ⟨w.heap.size, 2, none⟩ (.int .u64 0)).setCell ⟨w.heap.size, 3, none⟩ (.int .u64 0)).setCell ⟨w.heap.size, 4, none⟩ (.int .u64 0)) = W at *
                obtain ⟨t0, t1, t2, t3, t4, _⟩ := cb9.five
                exact bodyPost_ret (v := .tuple #[cronV ⟨0, 0, 0, 0, 0⟩, .int .i64 (n : Nat), .int .i64 26]) (by simp [results, Tryd.results11, go_sem, t0, t1, t2, t3, t4]) rfl (ReadPost.bad hz' HRS.out bl9)
        case rest =>
          obtain ⟨m, rfl, hm, hmn, hcc, rfl⟩ := hcut
          obtain ⟨F, hF⟩ : ∃ F, fieldS l (lowN i) (highN i) (l.length + 1) m 0 = F := ⟨_, rfl⟩
          have hgo2 : ∀ z e, F = .ok (z, e) → upto l (i + 1) = .ok (ss ++ [z], e) := fun z e h => HGO.out z e hcc (by rw [hmn, hF, h])
          have hbad2 : ∀ p, F = .error p → readS l = .error p := fun p h => HOR.out p (HBAD.out p hcc (by rw [hmn, hF, h]))
          have h64 := highN_lt i
          have hlh := low_high i
          have HG2 : Hid _ := hgo2
          have HB2 : Hid _ := hbad2
          have HF : Hid _ := hF
          clear hgo2 hbad2 hF hmn hcc HGO HBAD HSEP HOR
          have hit := fun n hn S g wx hx => HIT.out n i hn hlt S g wx hx
          have HI2 : Hid _ := hit
          clear hit HIT
          generalize lowN i = lo at *
          generalize highN i = hi5 at *
          obtain ⟨nb, l1⟩ := one_box wr 4 (boolCells 0)
          have cb1 := cb.next l1
          have rb1 := rb.next l1
          have bl1 := bl.trans (l1.mono bl.size)
          have gne0 : w.heap.size ≠ wr.heap.size := by have := cb.lt; omega
          have gne1 : w.heap.size + 1 ≠ wr.heap.size := by have := rb.lt; omega
          have gge : w.heap.size ≤ wr.heap.size := bl.size
          go_wp2_with fail
          generalize wr.alloc (Obj.cells (boolCells 0).toArray 4) = W0 at *
          generalize wr.heap.size = g at *
          go_loopw [6] (fun p wx => ∃ k q acc : Nat, p = .int .i64 q ∧ acc < 18446744073709551616 ∧ q ≤ s.size ∧ l.length ≤ k + q ∧ fieldS l lo hi5 (k + 1) q acc = F ∧ Marked W0 g acc wx) (fun p _ => s.size + 1 - (intOf p).toNat)
          case atStart => exact ⟨l.length, m, 0, rfl, by decide, hm, by omega, HF.out, Marked.refl nb⟩
          case round =>
            obtain ⟨k, q, acc, rfl, hacc, hq, hkq, hf, mk⟩ := hrel
            have hI := HI2.out q hq acc g _ mk.box
            cases hx : itemS l q lo hi5 with
            | error p =>
              have HRS : Hid _ := HB2.out p (item_bad hf hx)
              unfold RItemPost at hI
              rw [hx] at hI
              have HII : Hid _ := hI
              clear hI hx hf HI2 HG2 HB2 HF HS
              go_wp2_with fail
              refine Calls.mono HII.out ?_
              rintro e2 w2 ⟨rfl, mk2⟩
              have mkk := mk.trans mk2
              have cb2 := mkk.rest _ _ gne0 cb1
              have bl2 := mkk.keep _ _ gge bl1
              obtain ⟨s0, s1, s2, s3, s4, g0, g1, g2, g3, g4⟩ := cb2.five
              clear mk mk2 mkk
              go_wp2_with fail
              clear s0 s1 s2 s3 s4 g0 g1 g2 g3 g4
              have cb9 := cb2.put_five (.int .u64 0) (.int .u64 0) (.int .u64 0) (.int .u64 0) (.int .u64 0)
              have bl9 := below_five bl2 (Nat.le_refl _) (.int .u64 0) (.int .u64 0) (.int .u64 0) (.int .u64 0) (.int .u64 0)
              generalize (((((w2.setCell ⟨w.heap.size, 0, none⟩ (.int .u64 0)).setCell ⟨w.heap.size, 1, none⟩ (.int .u64 0)).setCell ⟨w.heap.size, 2, none⟩ (.int .u64 0)).setCell ⟨w.heap.size, 3, none⟩ (.int .u64 0)).setCell ⟨w.heap.size, 4, none⟩ (.int .u64 0)) = W at *
              obtain ⟨t0, t1, t2, t3, t4, _⟩ := cb9.five
              exact bodyPost_ret (v := .tuple #[cronV ⟨0, 0, 0, 0, 0⟩, .int .i64 (p : Nat), .int .i64 26]) (by simp [results, Tryd.results11, go_sem, t0, t1, t2, t3, t4]) rfl (ReadPost.bad hz' HRS.out bl9)
            | ok zq =>
              obtain ⟨z, e⟩ := zq
              unfold RItemPost at hI
              rw [hx] at hI
              have hok := itemS_ok (by omega) h64 hx
              have hlt64 := or_lt64 hacc hok.2.2
              have hel : e ≤ s.size := by omega
              have hqe : q < e := hok.1
              have HII : Hid _ := hI
              cases hc : isB l e 44 with
              | true =>
                have hel2 := ((isB_iff _ _ _).1 hc).1
                obtain ⟨k, rfl⟩ : ∃ k', k = k' + 1 := ⟨k - 1, by omega⟩
                have HF2 : Hid _ := item_go hf hx hc
                obtain ⟨q0, q1, q2⟩ := is_yes hl hc
                have q3 : ¬ (s.size : Int) ≤ (e : Int) := by omega
                have q4 : (bt l e != 44) = false := by simp [q2]
                clear hI hx hf HI2 HG2 HB2 HF HS hok hc q2
                generalize bt l e = cc at *
                go_wp2_with fail
                refine Calls.mono HII.out ?_
                rintro e2 w2 ⟨rfl, mk2⟩
                have mkk := mk.trans mk2
                clear mk mk2
                go_wp2_with fail
                exact ⟨⟨k, e + 1, acc ||| z, by go_num, hlt64, by omega, by omega, HF2.out, mkk⟩, by simp [intOf]; omega⟩
              | false =>
                have HUP : Hid _ := HG2.out _ _ (item_end hf hx hc)
                have hno := is_no hl hc
                have HNO : Hid _ := hno
                clear hI hx hf HI2 HG2 HB2 HF hok hc hno
                go_wp2_with fail
                refine Calls.mono HII.out ?_
                rintro e2 w2 ⟨rfl, mk2⟩
                have mkk := mk.trans mk2
                have cb2 := mkk.rest _ _ gne0 cb1
                have rb2 := mkk.rest _ _ gne1 rb1
                have bl2 := mkk.keep _ _ gge bl1
                have HBO : Hid _ := fun (_ : Unit) => bitsOf_any (acc ||| z) g hlt64 w2 mkk.box
                clear mk mk2 mkk HII
                rcases HNO.out with q0 | ⟨q0, q1, q2⟩
                · have q3 : (s.size : Int) ≤ (e : Int) := by omega
                  clear HNO
                  go_wp2_with fail
                  refine (HBO.out ()).mono ?_
                  rintro e5 w5 ⟨rfl, rfl⟩
                  have rc := rb2.cell i _ (List.getElem?_eq_getElem (show i < (rowC ss).length from hlt))
                  have rf := rb2.free i (show i < (rowC ss).length from hlt)
                  have rb3 := rb2.set i (show i < (rowC ss).length from hlt) (.int .u64 (acc ||| z : Nat))
                  rw [HS.out] at rb3
                  have cb3 := cb2.other (j := i) (v := .int .u64 (acc ||| z : Nat)) (show w.heap.size ≠ w.heap.size + 1 by omega)
                  have bl3 := bl2.setCell (p := ⟨w.heap.size + 1, i, none⟩) (by simp) (.int .u64 (acc ||| z : Nat))
                  generalize acc ||| z = AZ at *
                  go_wp2_with fail
                  exact ⟨⟨i + 1, e, ss ++ [AZ], rfl, by go_num, by omega, HUP.out, cb3, rb3, bl3⟩, by simp [intOf]; omega⟩
                · have q3 : ¬ (s.size : Int) ≤ (e : Int) := by omega
                  have q4 : (bt l e != 44) = true := bne_iff_ne.2 q2
                  clear q2 HNO
                  generalize bt l e = cc at *
                  go_wp2_with fail
                  refine (HBO.out ()).mono ?_
                  rintro e5 w5 ⟨rfl, rfl⟩
                  have rc := rb2.cell i _ (List.getElem?_eq_getElem (show i < (rowC ss).length from hlt))
                  have rf := rb2.free i (show i < (rowC ss).length from hlt)
                  have rb3 := rb2.set i (show i < (rowC ss).length from hlt) (.int .u64 (acc ||| z : Nat))
                  rw [HS.out] at rb3
                  have cb3 := cb2.other (j := i) (v := .int .u64 (acc ||| z : Nat)) (show w.heap.size ≠ w.heap.size + 1 by omega)
                  have bl3 := bl2.setCell (p := ⟨w.heap.size + 1, i, none⟩) (by simp) (.int .u64 (acc ||| z : Nat))
                  generalize acc ||| z = AZ at *
                  go_wp2_with fail
                  exact ⟨⟨i + 1, e, ss ++ [AZ], rfl, by go_num, by omega, HUP.out, cb3, rb3, bl3⟩, by simp [intOf]; omega⟩
      · obtain rfl : i = 5 := by omega
        have HU : Hid _ := hu
        clear hu HIT
        obtain ⟨s0, s1, s2, s3, s4, g0, g1, g2, g3, g4⟩ := cb.five
        by_cases hend : n < s.size
        · have k3 : (n : Int) < (s.size : Int) := by omega
          have hrs : readS l = .error n := by unfold readS; rw [HU.out]; exact if_pos (by omega)
          have HRS : Hid _ := hrs
          clear hrs
          go_wp2_with fail
          clear s0 s1 s2 s3 s4 g0 g1 g2 g3 g4
          have cb9 := cb.put_five (.int .u64 0) (.int .u64 0) (.int .u64 0) (.int .u64 0) (.int .u64 0)
          have bl9 := below_five bl (Nat.le_refl _) (.int .u64 0) (.int .u64 0) (.int .u64 0) (.int .u64 0) (.int .u64 0)
          generalize (((((wr.setCell ⟨w.heap.size, 0, none⟩ (.int .u64 0)).setCell ⟨w.heap.size, 1, none⟩ (.int .u64 0)).setCell ⟨w.heap.size, 2, none⟩ (.int .u64 0)).setCell ⟨w.heap.size, 3, none⟩ (.int .u64 0)).setCell ⟨w.heap.size, 4, none⟩ (.int .u64 0)) = W at *
          obtain ⟨t0, t1, t2, t3, t4, _⟩ := cb9.five
          exact bodyPost_ret (v := .tuple #[cronV ⟨0, 0, 0, 0, 0⟩, .int .i64 (n : Nat), .int .i64 26]) (by simp [results, Tryd.results11, go_sem, t0, t1, t2, t3, t4]) rfl (ReadPost.bad hz' HRS.out bl9)
        · have k3 : ¬ (n : Int) < (s.size : Int) := by omega
          have hrs : readS l = .ok ss := by unfold readS; rw [HU.out]; exact if_neg (by omega)
          have HRS : Hid _ := hrs
          clear hrs
          obtain ⟨r0, r1, r2, r3, r4, _⟩ := rb.five
          have ecr : crOf ss = ⟨ss.getD 0 0, ss.getD 1 0, ss.getD 2 0, ss.getD 3 0, ss.getD 4 0⟩ := rfl
          have ECR : Hid _ := ecr
          clear ecr
          generalize ss.getD 0 0 = c0 at *
          generalize ss.getD 1 0 = c1 at *
          generalize ss.getD 2 0 = c2 at *
          generalize ss.getD 3 0 = c3 at *
          generalize ss.getD 4 0 = c4 at *
          go_wp2_with fail
          have cb9 := cb.put_five (.int .u64 (c0 : Nat)) (.int .u64 (c1 : Nat)) (.int .u64 (c2 : Nat)) (.int .u64 (c3 : Nat)) (.int .u64 (c4 : Nat))
          have bl9 := below_five bl (Nat.le_refl _) (.int .u64 (c0 : Nat)) (.int .u64 (c1 : Nat)) (.int .u64 (c2 : Nat)) (.int .u64 (c3 : Nat)) (.int .u64 (c4 : Nat))
          clear s0 s1 s2 s3 s4 g0 g1 g2 g3 g4 r0 r1 r2 r3 r4
          generalize (((((wr.setCell ⟨w.heap.size, 0, none⟩ (.int .u64 (c0 : Nat))).setCell ⟨w.heap.size, 1, none⟩ (.int .u64 (c1 : Nat))).setCell ⟨w.heap.size, 2, none⟩ (.int .u64 (c2 : Nat))).setCell ⟨w.heap.size, 3, none⟩ (.int .u64 (c3 : Nat))).setCell ⟨w.heap.size, 4, none⟩ (.int .u64 (c4 : Nat))) = W at *
          obtain ⟨t0, t1, t2, t3, t4, _⟩ := cb9.five
          refine bodyPost_ret (v := .tuple #[cronV ⟨c0, c1, c2, c3, c4⟩, .int .i64 0, .int .i64 0]) (by simp [results, Tryd.results11, go_sem, t0, t1, t2, t3, t4]) rfl ⟨?_, bl9⟩
          unfold readV
          rw [if_neg hz', HRS.out]
          simp only [ECR.out]
end Go.Proofs.YtddinknnaakmmaaDoor
