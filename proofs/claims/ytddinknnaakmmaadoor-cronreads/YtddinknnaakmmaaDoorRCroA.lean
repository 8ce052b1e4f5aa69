/- The document's answer: the fields' numbers, and what is formed. -/
import Derived.Test.YtddinknnaakmmaaDoorCroN
namespace Go.Proofs.YtddinknnaakmmaaDoor
open Go.RowKit Go.Deep

theorem idx_low (k : Nat) (h : k < 5) (w : World) : (Instr.index 87 (.agg #[.int .i64 0, .int .i64 0, .int .i64 1, .int .i64 1, .int .i64 0]) (.int .i64 k)).run Tryd.prog w = .ok (.int .i64 (lowN k : Nat)) w := by
  rcases (show k = 0 ∨ k = 1 ∨ k = 2 ∨ k = 3 ∨ k = 4 by omega) with rfl | rfl | rfl | rfl | rfl
  all_goals kernel_rfl
theorem idx_high (k : Nat) (h : k < 5) (w : World) : (Instr.index 87 (.agg #[.int .i64 59, .int .i64 23, .int .i64 31, .int .i64 12, .int .i64 6]) (.int .i64 k)).run Tryd.prog w = .ok (.int .i64 (highN k : Nat)) w := by
  rcases (show k = 0 ∨ k = 1 ∨ k = 2 ∨ k = 3 ∨ k = 4 by omega) with rfl | rfl | rfl | rfl | rfl
  all_goals kernel_rfl
theorem Low_any (k : Nat) (h : k < 5) (w : World) :
    Calls Tryd.prog 32 #[.int .i64 k] w fun e w' => e = .returned (.int .i64 (lowN k : Nat)) ∧ w = w' := by
  have hi := idx_low k h
  generalize lowN k = r at *
  go_enter Tryd.func32, Tryd.ntmps32
  go_wp2_with fail
  go_ret
  exact ⟨rfl, rfl⟩
theorem High_any (k : Nat) (h : k < 5) (w : World) :
    Calls Tryd.prog 33 #[.int .i64 k] w fun e w' => e = .returned (.int .i64 (highN k : Nat)) ∧ w = w' := by
  have hi := idx_high k h
  generalize highN k = r at *
  go_enter Tryd.func33, Tryd.ntmps33
  go_wp2_with fail
  go_ret
  exact ⟨rfl, rfl⟩
set_option maxRecDepth 20000 in
theorem Has_any (S n : Nat) (hS : S < 18446744073709551616) (hn : n ≤ 1000) (w : World) :
    Calls Tryd.prog 31 #[.int .u64 S, .int .i64 n] w fun e w' => e = .returned (.bool (S.testBit n)) ∧ w = w' := by
  by_cases h : n < 64
  · exact Has_nat S n h w
  · have e : S.testBit n = false := by
      cases hb : S.testBit n with
      | false => rfl
      | true => exact absurd (bit_lt hS hb) h
    rw [e]
    have k1 : ¬ (n : Int) < 64 := by omega
    clear e
    go_enter Tryd.func31, Tryd.ntmps31
    go_wp2_with fail
    go_ret
    exact ⟨rfl, rfl⟩
set_option maxRecDepth 20000 in
theorem Has_neg (S : Nat) (w : World) :
    Calls Tryd.prog 31 #[.int .u64 S, .int .i64 (-1)] w fun e w' => e = .returned (.bool false) ∧ w = w' := by
  go_enter Tryd.func31, Tryd.ntmps31
  go_wp2_with fail
  go_ret
  exact ⟨rfl, rfl⟩
theorem Box.get {w : World} {g : Nat} {c : Cr} (h : Box w g (u5 c.a c.b c.c c.d c.e)) (i : Nat) (hi : i < 5) : w.cell? ⟨g, i, none⟩ = some (.int .u64 (c.get i : Nat)) := by
  rcases (show i = 0 ∨ i = 1 ∨ i = 2 ∨ i = 3 ∨ i = 4 by omega) with rfl | rfl | rfl | rfl | rfl
  all_goals exact h.cell _ _ rfl
set_option maxRecDepth 20000 in
theorem Sets_any (c : Cr) (w : World) :
    Calls Tryd.prog 28 #[cronV c] w fun e w' => e = .returned (.agg (u5 c.a c.b c.c c.d c.e).toArray) ∧ Below w.heap.size w w' := by
  go_enter Tryd.func28, Tryd.ntmps28
  go_wp2_with fail
  refine bodyPost_ret (v := .agg (u5 c.a c.b c.c c.d c.e).toArray) (by simp [results, Tryd.results28, go_sem]) rfl ⟨rfl, below_two _ _⟩
/-- The first n numbers of the set are of the field. -/
def OkUp (S lo hi n : Nat) : Prop := ∀ m, m < n → S.testBit m = true → lo ≤ m ∧ m ≤ hi
theorem okUp_next {S lo hi n : Nat} (h : OkUp S lo hi n) (k : S.testBit n = true → lo ≤ n ∧ n ≤ hi) : OkUp S lo hi (n + 1) := fun m hm hb => by
  by_cases e : m = n
  · subst e; exact k hb
  · exact h m (by omega) hb
theorem okB_no {S lo hi n : Nat} (hn : n < 64) (hb : S.testBit n = true) (h : ¬ (lo ≤ n ∧ n ≤ hi)) : okB S lo hi = false := by
  cases hk : okB S lo hi with
  | false => rfl
  | true => exact absurd (((okB_iff _ _ _).1 hk).2 n hn hb) h
set_option maxRecDepth 20000 in
set_option maxHeartbeats 4000000 in
theorem rFormed_any (c : Cr) (fc : c.Fits) (w : World) :
    Calls Tryd.prog 15 #[cronV c] w (FormedPost c w) := by
  obtain ⟨cb, l0⟩ := one_box w 25 (u5 c.a c.b c.c c.d c.e)
  obtain ⟨o0, o1, o2, o3, o4, _⟩ := cb.five
  have hs := Sets_any c
  go_enter Tryd.func15, Tryd.ntmps15
  go_wp2_with fail
  refine (hs _).mono ?_
  rintro e w1 ⟨rfl, hb1⟩
  obtain ⟨rb, l1⟩ := one_box w1 39 (u5 c.a c.b c.c c.d c.e)
  have bl1 := l0.trans (hb1.mono l0.size)
  have bl := bl1.trans (l1.mono bl1.size)
  clear o0 o1 o2 o3 o4 cb l0 hs hb1 bl1 l1
  go_wp2_with fail
  have hcell := fun i hi => rb.get i hi
  clear rb
  generalize (w1.alloc (Obj.cells (u5 c.a c.b c.c c.d c.e).toArray 39)) = W at *
  go_loopw [4] (fun p wr => ∃ i : Nat, p = .int .i64 i ∧ i ≤ 5 ∧ (∀ j, j < i → okB (c.get j) (lowN j) (highN j) = true) ∧ W = wr) (fun p _ => (5 - intOf p).toNat)
  case atStart => exact ⟨0, rfl, by decide, (fun j hj => absurd hj (by omega)), rfl⟩
  case round =>
    obtain ⟨i, rfl, hi, hok, rfl⟩ := hrel
    by_cases hlt : i < 5
    · have k1 : (i : Int) < 5 := by omega
      have hc := hcell i hlt
      have hfi := fc.get i
      have hL := Low_any i hlt
      have hH := High_any i hlt
      have hH0 := fun n hn => Has_any (c.get i) n hfi hn
      by_cases h0 : c.get i = 0
      · have hno := cfB_no (c := c) hlt (by rw [okB_and _ _ _ hfi, h0]; rfl)
        have h0' : (((c.get i : Nat) : Int) == 0) = true := beq_iff_eq.2 (by omega)
        have HNO : Hid _ := hno
        clear hno hok h0 hL hH hH0 hcell
        generalize c.get i = S at *
        go_wp2_with fail
        go_ret
        exact ⟨by rw [HNO.out]; rfl, bl⟩
      · have h0' : (((c.get i : Nat) : Int) == 0) = false := beq_eq_false_iff_ne.2 (by omega)
        have hbad := fun n (hn : n < 64) hb hk => cfB_no (c := c) hlt (okB_no (lo := lowN i) (hi := highN i) hn hb hk)
        have hgood := fun (h : OkUp (c.get i) (lowN i) (highN i) 64) => (okB_iff (c.get i) (lowN i) (highN i)).2 ⟨h0, h⟩
        have hok' := fun (h : okB (c.get i) (lowN i) (highN i) = true) j (hj : j < i + 1) => show okB (c.get j) (lowN j) (highN j) = true from by
          rcases Nat.lt_or_ge j i with q | q
          · exact hok j q
          · obtain rfl : j = i := by omega
            exact h
        have HB : Hid _ := hbad
        have HG : Hid _ := hgood
        have HO : Hid _ := hok'
        have HL : Hid _ := hL
        have HH : Hid _ := hH
        have HA : Hid _ := hH0
        clear hbad hgood hok' hok hL hH hH0 h0 hcell
        generalize c.get i = S at *
        generalize lowN i = lo at *
        generalize highN i = hi5 at *
        go_wp2_with fail
        go_loopw [5] (fun p wr => ∃ n : Nat, p = .int .i64 n ∧ n ≤ 64 ∧ OkUp S lo hi5 n ∧ W = wr) (fun p _ => (64 - intOf p).toNat)
        case atStart => exact ⟨0, rfl, by decide, (fun j hj => absurd hj (by omega)), rfl⟩
        case round =>
          obtain ⟨n, rfl, hn, hup, rfl⟩ := hrel
          by_cases hn64 : n < 64
          · have k2 : (n : Int) < 64 := by omega
            have ha := HA.out n (by omega)
            have hnx := fun k => okUp_next (n := n) hup k
            have hbd := HB.out n hn64
            cases hb : S.testBit n with
            | false =>
              rw [hb] at ha
              have HU : Hid _ := hnx (by rw [hb]; intro h; cases h)
              clear hnx hbd hb hup
              go_wp2_with fail
              refine (ha _).mono ?_
              rintro e w2 ⟨rfl, rfl⟩
              go_wp2_with fail
              exact ⟨⟨n + 1, by go_num, by omega, HU.out, trivial⟩, by simp [intOf]; omega⟩
            | true =>
              rw [hb] at ha
              by_cases hlo : n < lo
              · have k3 : (n : Int) < (lo : Int) := by omega
                have HU : Hid _ := hbd hb (by omega)
                clear hnx hbd hb hup
                go_wp2_with fail
                refine (ha _).mono ?_
                rintro e w2 ⟨rfl, rfl⟩
                go_wp2_with fail
                refine (HL.out _).mono ?_
                rintro e w2 ⟨rfl, rfl⟩
                go_wp2_with fail
                go_ret
                exact ⟨by rw [HU.out]; rfl, bl⟩
              · have k3 : ¬ (n : Int) < (lo : Int) := by omega
                by_cases hhi : hi5 < n
                · have k4 : (hi5 : Int) < (n : Int) := by omega
                  have HU : Hid _ := hbd hb (by omega)
                  clear hnx hbd hb hup
                  go_wp2_with fail
                  refine (ha _).mono ?_
                  rintro e w2 ⟨rfl, rfl⟩
                  go_wp2_with fail
                  refine (HL.out _).mono ?_
                  rintro e w2 ⟨rfl, rfl⟩
                  go_wp2_with fail
                  refine (HH.out _).mono ?_
                  rintro e w2 ⟨rfl, rfl⟩
                  go_wp2_with fail
                  go_ret
                  exact ⟨by rw [HU.out]; rfl, bl⟩
                · have k4 : ¬ (hi5 : Int) < (n : Int) := by omega
                  have HU : Hid _ := hnx (fun _ => by omega)
                  clear hnx hbd hb hup
                  go_wp2_with fail
                  refine (ha _).mono ?_
                  rintro e w2 ⟨rfl, rfl⟩
                  go_wp2_with fail
                  refine (HL.out _).mono ?_
                  rintro e w2 ⟨rfl, rfl⟩
                  go_wp2_with fail
                  refine (HH.out _).mono ?_
                  rintro e w2 ⟨rfl, rfl⟩
                  go_wp2_with fail
                  exact ⟨⟨n + 1, by go_num, by omega, HU.out, trivial⟩, by simp [intOf]; omega⟩
          · obtain rfl : n = 64 := by omega
            have HU : Hid _ := HO.out (HG.out hup)
            clear hup
            go_wp2_with fail
            exact ⟨⟨i + 1, by go_num, by omega, HU.out, trivial⟩, by simp [intOf]; omega⟩
    · obtain rfl : i = 5 := by omega
      have hyes := (cfB_iff c).2 hok
      have HNO : Hid _ := hyes
      clear hyes hok hcell
      go_wp2_with fail
      go_ret
      exact ⟨by rw [HNO.out]; rfl, bl⟩
end Go.Proofs.YtddinknnaakmmaaDoor
