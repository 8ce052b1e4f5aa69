/- Package cron: Read. -/
import Derived.Test.YtddinknnaakmmabDoorCroD
namespace Go.Proofs.YtddinknnaakmmabDoor
open Go.RowKit

abbrev cronV (c : Cr) : Value := .agg #[.int .u64 (c.a : Nat), .int .u64 (c.b : Nat), .int .u64 (c.c : Nat), .int .u64 (c.d : Nat), .int .u64 (c.e : Nat)]
def crOf (ss : List Nat) : Cr := ⟨ss.getD 0 0, ss.getD 1 0, ss.getD 2 0, ss.getD 3 0, ss.getD 4 0⟩
abbrev fldCells : List Value := [.int .i64 0, .int .i64 59, .int .i64 0, .int .i64 23, .int .i64 1, .int .i64 31, .int .i64 1, .int .i64 12, .int .i64 0, .int .i64 6]
/-- The table of the fields lies where the program's text lays it. -/
def FldAt (w : World) : Prop := w.rangeAt 0 0 fldCells ∧ 0 < w.heap.size
theorem FldAt.later {w w' : World} (h : FldAt w) (hb : Below w.heap.size w w') : FldAt w' :=
  ⟨fun j v hv => (hb.cell (p := ⟨0, 0 + j, none⟩) h.2).trans (h.1 j v hv), Nat.lt_of_lt_of_le h.2 hb.size⟩
theorem FldAt.cell {w : World} (h : FldAt w) (j : Nat) (v : Value) (hv : fldCells[j]? = some v) : w.cell? ⟨0, j, none⟩ = some v := by
  have := h.1 j v hv
  rwa [Nat.zero_add] at this
theorem FldAt.all {w : World} (h : FldAt w) : w.cell? ⟨0, 0, none⟩ = some (.int .i64 0) ∧ w.cell? ⟨0, 1, none⟩ = some (.int .i64 59) ∧ w.cell? ⟨0, 2, none⟩ = some (.int .i64 0) ∧ w.cell? ⟨0, 3, none⟩ = some (.int .i64 23) ∧ w.cell? ⟨0, 4, none⟩ = some (.int .i64 1) ∧ w.cell? ⟨0, 5, none⟩ = some (.int .i64 31) ∧ w.cell? ⟨0, 6, none⟩ = some (.int .i64 1) ∧ w.cell? ⟨0, 7, none⟩ = some (.int .i64 12) ∧ w.cell? ⟨0, 8, none⟩ = some (.int .i64 0) ∧ w.cell? ⟨0, 9, none⟩ = some (.int .i64 6) :=
  ⟨h.cell 0 _ rfl, h.cell 1 _ rfl, h.cell 2 _ rfl, h.cell 3 _ rfl, h.cell 4 _ rfl, h.cell 5 _ rfl, h.cell 6 _ rfl, h.cell 7 _ rfl, h.cell 8 _ rfl, h.cell 9 _ rfl⟩

abbrev zero5 : List Value := [.int .u64 0, .int .u64 0, .int .u64 0, .int .u64 0, .int .u64 0]
abbrev u5 (a b c d e : Nat) : List Value := [.int .u64 (a : Nat), .int .u64 (b : Nat), .int .u64 (c : Nat), .int .u64 (d : Nat), .int .u64 (e : Nat)]
abbrev rowC (ss : List Nat) : List Value := u5 (ss.getD 0 0) (ss.getD 1 0) (ss.getD 2 0) (ss.getD 3 0) (ss.getD 4 0)
theorem rowC_set (ss : List Nat) (h : ss.length < 5) (x : Nat) : (rowC ss).set ss.length (.int .u64 (x : Nat)) = rowC (ss ++ [x]) := by
  match ss, h with
  | [], _ => rfl
  | [a], _ => rfl
  | [a, b], _ => rfl
  | [a, b, c], _ => rfl
  | [a, b, c, d], _ => rfl
  | a :: b :: c :: d :: e :: r, h => exact absurd h (by simp)
theorem idx_fld (k : Nat) (h : k < 5) (w : World) : (Instr.index 42 (.agg fldCells.toArray) (.int .i64 k)).run Tryd.prog w = .ok (fldV (lowN k) (highN k)) w := by
  rcases (show k = 0 ∨ k = 1 ∨ k = 2 ∨ k = 3 ∨ k = 4 by omega) with rfl | rfl | rfl | rfl | rfl
  all_goals kernel_rfl
theorem below_two {w : World} (o o' : Obj) : Below w.heap.size w ((w.alloc o).alloc o') := ((Below.refl _ _).alloc (Nat.le_refl _) _).alloc (by simp) _
theorem join_any (a b c d e : Nat) (w : World) :
    Calls Tryd.prog 13 #[.agg (u5 a b c d e).toArray] w fun x w' => x = .returned (cronV ⟨a, b, c, d, e⟩) ∧ Below w.heap.size w w' := by
  go_enter Tryd.func13, Tryd.ntmps13
  go_wp2_with fail
  refine bodyPost_ret (v := cronV ⟨a, b, c, d, e⟩) (by simp [results, Tryd.results13, go_sem]) rfl ⟨rfl, below_two _ _⟩
theorem sets_any (a b c d e : Nat) (w : World) :
    Calls Tryd.prog 15 #[cronV ⟨a, b, c, d, e⟩] w fun x w' => x = .returned (.agg (u5 a b c d e).toArray) ∧ Below w.heap.size w w' := by
  go_enter Tryd.func15, Tryd.ntmps15
  go_wp2_with fail
  refine bodyPost_ret (v := .agg (u5 a b c d e).toArray) (by simp [results, Tryd.results15, go_sem]) rfl ⟨rfl, below_two _ _⟩

/-- What Read answers. -/
def readV (l : List UInt8) : Value :=
  if 256 < l.length then .tuple #[cronV ⟨0, 0, 0, 0, 0⟩, .int .i64 0, .int .i64 2]
  else match readS l with
    | .error p => .tuple #[cronV ⟨0, 0, 0, 0, 0⟩, .int .i64 (p : Nat), .int .i64 26]
    | .ok ss => .tuple #[cronV (crOf ss), .int .i64 0, .int .i64 0]
def ReadPost (l : List UInt8) (w : World) (e : Ending) (w' : World) : Prop := e = .returned (readV l) ∧ Below w.heap.size w w'
theorem ReadPost.bad {l : List UInt8} {w w' : World} {p : Nat} (hz : ¬ 256 < l.length) (h : readS l = .error p) (hb : Below w.heap.size w w') : ReadPost l w (.returned (.tuple #[cronV ⟨0, 0, 0, 0, 0⟩, .int .i64 (p : Nat), .int .i64 26])) w' :=
  ⟨by unfold readV; rw [if_neg hz, h], hb⟩
theorem upto_go {l : List UInt8} {i : Nat} {ss : List Nat} {n s e : Nat} (h : upto l i = .ok (ss, n)) (hc : i = 0 ∨ isB l n 32 = true) (hf : fieldS l (lowN i) (highN i) (l.length + 1) (if i = 0 then n else n + 1) 0 = .ok (s, e)) : upto l (i + 1) = .ok (ss ++ [s], e) := by
  conv => lhs; unfold upto
  rw [h]
  simp only
  rw [if_neg (by rintro ⟨h0, h1⟩; rcases hc with h | h; exact h0 h; rw [h1] at h; cases h), hf]
theorem upto_sep {l : List UInt8} {i : Nat} {ss : List Nat} {n : Nat} (h : upto l i = .ok (ss, n)) (h0 : i ≠ 0) (hc : isB l n 32 = false) : upto l (i + 1) = .error n := by
  conv => lhs; unfold upto
  rw [h]
  exact if_pos ⟨h0, hc⟩
theorem upto_bad {l : List UInt8} {i : Nat} {ss : List Nat} {n p : Nat} (h : upto l i = .ok (ss, n)) (hc : i = 0 ∨ isB l n 32 = true) (hf : fieldS l (lowN i) (highN i) (l.length + 1) (if i = 0 then n else n + 1) 0 = .error p) : upto l (i + 1) = .error p := by
  conv => lhs; unfold upto
  rw [h]
  simp only
  rw [if_neg (by rintro ⟨h0, h1⟩; rcases hc with h | h; exact h0 h; rw [h1] at h; cases h), hf]
set_option maxHeartbeats 4000000 in
theorem Read_any (s : ByteArray) (l : List UInt8) (hl : s.data.toList = l) (w : World) (hF : FldAt w) :
    Calls Tryd.prog 6 #[.string s] w (ReadPost l w) := by
  have hs : l.length = s.size := by rw [← hl]; rfl
  by_cases hz : 256 < s.size
  · have k1 : (256 : Int) < (s.size : Int) := by omega
    go_enter Tryd.func6, Tryd.ntmps6
    go_wp2_with fail
    refine bodyPost_ret (v := .tuple #[cronV ⟨0, 0, 0, 0, 0⟩, .int .i64 0, .int .i64 2]) (by simp [results, Tryd.results6, go_sem]) rfl ⟨?_, (Below.refl _ _).alloc (Nat.le_refl _) _⟩
    unfold readV
    rw [if_pos (by omega)]
  · have k1 : ¬ (256 : Int) < (s.size : Int) := by omega
    have hz' : ¬ 256 < l.length := by omega
    obtain ⟨cb, xb, rb, l0⟩ := three_boxes w 24 38 39 zero5 [.string s, .int .i64 0] zero5
    have hr := (hF.later l0).1
    have HT : Hid _ := fun n hn wx hx => take_any s l hl (by omega) (w.heap.size + 1) n 32 hn wx hx
    have HI : Hid _ := fun i n hn wx hx => field_any s l hl (by omega) (w.heap.size + 1) n (lowN i) (highN i) hn (low_high i) (highN_lt i) wx hx
    go_enter Tryd.func6, Tryd.ntmps6
    go_wp2_with (first | (refine wpList_load_mid rfl 42 _ rfl 0 0 rfl fldCells _ hr Tryd.underlying42 rfl (by kernel_rfl) ?_))
    go_loopw [18] (fun p wr => ∃ (i : Nat) (ss : List Nat) (n : Nat), p = .int .i64 i ∧ i ≤ 5 ∧ upto l i = .ok (ss, n) ∧ Box wr w.heap.size zero5 ∧ Box wr (w.heap.size + 1) [.string s, .int .i64 n] ∧ Box wr (w.heap.size + 1 + 1) (rowC ss) ∧ Below w.heap.size w wr) (fun p _ => (5 - intOf p).toNat)
    case atStart => exact ⟨0, [], 0, rfl, by decide, rfl, cb, xb, rb, l0⟩
    case round =>
      obtain ⟨i, ss, n, rfl, hi, hu, cb, xb, rb, bl⟩ := hrel
      obtain ⟨un, ul, us⟩ := upto_ok i hu
      by_cases hlt : i < 5
      · have hix := idx_fld i hlt
        have k2 : (i : Int) < 5 := by omega
        obtain ⟨fb, fl⟩ := one_box wr 41 [.int .i64 (lowN i : Nat), .int .i64 (highN i : Nat)]
        have gne : wr.heap.size ≠ w.heap.size + 1 := by have := xb.lt; omega
        have rlt : ss.length < 5 := by omega
        have hset := rowC_set ss rlt
        rw [ul] at hset
        have hI := HI.out i
        have hgo := fun z e hc hf => upto_go (s := z) (e := e) hu hc hf
        have hbad := fun p hc hf => upto_bad (p := p) hu hc hf
        have hsep := upto_sep hu
        have hor := fun p (h : upto l (i + 1) = .error p) => readS_stays h (by omega)
        have HU : Hid _ := hu
        have HS : Hid _ := hset
        have HGO : Hid _ := hgo
        have HBAD : Hid _ := hbad
        have HSEP : Hid _ := hsep
        have HOR : Hid _ := hor
        have HI2 : Hid _ := hI
        clear hu hset hgo hbad hsep hor hI HI
        generalize lowN i = lo at *
        generalize highN i = hi5 at *
        have xb1 := xb.next fl
        have cb1 := cb.next fl
        have rb1 := rb.next fl
        have bl1 := bl.trans (fl.mono bl.size)
        have g1 : w.heap.size ≠ w.heap.size + 1 := by omega
        have g2 : w.heap.size + 1 + 1 ≠ w.heap.size + 1 := by omega
        obtain ⟨f0, f1, _⟩ := fb.two
        by_cases h0 : i = 0
        · have k3 : ¬ (0 : Int) < (i : Int) := by omega
          have hI := HI2.out n (by omega)
          have H0 : Hid _ := h0
          clear h0
          cases hx : fieldS l lo hi5 (l.length + 1) n 0 with
          | error p =>
            have hrs := HOR.out p (HBAD.out p (.inl H0.out) (by rw [if_pos H0.out]; exact hx))
            have HX : Hid _ := hx
            have HRS : Hid _ := hrs
            clear hx hrs
            go_wp2_with fail
            refine (hI _ xb1).mono ?_
            rintro e w2 ⟨rfl, hm⟩
            rw [HX.out] at hm ⊢
            simp only [exV]
            have cb2 := hm.rest _ _ g1 cb1
            have bl2 := hm.keep _ _ (by omega) bl1
            obtain ⟨r0, r1, _⟩ := hm.box.two
            simp only [exP] at r1
            go_wp2_with fail
            obtain ⟨s0, s1, s2, s3, s4, g0, g1, g2, g3, g4⟩ := cb2.five
            go_region_held3 (fun w' => w'.cell? ⟨w.heap.size + 1, 1, none⟩ = some (.int .i64 (p : Nat)) ∧ w'.frozen? ⟨w.heap.size, 0, none⟩ = false ∧ w'.frozen? ⟨w.heap.size, 1, none⟩ = false ∧ w'.frozen? ⟨w.heap.size, 2, none⟩ = false ∧ w'.frozen? ⟨w.heap.size, 3, none⟩ = false ∧ w'.frozen? ⟨w.heap.size, 4, none⟩ = false) (simp [go_sem, *]) (fail)
            have cb9 := cb2.put_five (.int .u64 0) (.int .u64 0) (.int .u64 0) (.int .u64 0) (.int .u64 0)
            have bl9 := below_five bl2 (Nat.le_refl _) (.int .u64 0) (.int .u64 0) (.int .u64 0) (.int .u64 0) (.int .u64 0)
            generalize (((((w2.setCell ⟨w.heap.size, 0, none⟩ (.int .u64 0)).setCell ⟨w.heap.size, 1, none⟩ (.int .u64 0)).setCell ⟨w.heap.size, 2, none⟩ (.int .u64 0)).setCell ⟨w.heap.size, 3, none⟩ (.int .u64 0)).setCell ⟨w.heap.size, 4, none⟩ (.int .u64 0)) = W at *
            obtain ⟨t0, t1, t2, t3, t4, _⟩ := cb9.five
            go_wp2_with fail
            exact bodyPost_ret (v := .tuple #[cronV ⟨0, 0, 0, 0, 0⟩, .int .i64 (p : Nat), .int .i64 26]) (by simp [results, Tryd.results6, go_sem, t0, t1, t2, t3, t4]) rfl (ReadPost.bad hz' HRS.out bl9.drew)
          | ok q =>
            obtain ⟨z, n2⟩ := q
            have hup := HGO.out z n2 (.inl H0.out) (by rw [if_pos H0.out]; exact hx)
            have HX : Hid _ := hx
            have HUP : Hid _ := hup
            clear hx hup
            go_wp2_with fail
            refine (hI _ xb1).mono ?_
            rintro e w2 ⟨rfl, hm⟩
            rw [HX.out] at hm ⊢
            simp only [exV]
            have cb2 := hm.rest _ _ g1 cb1
            have rb2 := hm.rest _ _ g2 rb1
            have bl2 := hm.keep _ _ (by omega) bl1
            have xb2 := hm.box
            simp only [exP] at xb2
            have rc := rb2.cell i _ (List.getElem?_eq_getElem (show i < (rowC ss).length from hlt))
            have rf := rb2.free i (show i < (rowC ss).length from hlt)
            have rb3 := rb2.set i (show i < (rowC ss).length from hlt) (.int .u64 (z : Nat))
            rw [HS.out] at rb3
            have cb3 := cb2.other (j := i) (v := .int .u64 (z : Nat)) (show w.heap.size ≠ w.heap.size + 1 + 1 by omega)
            have xb3 := xb2.other (j := i) (v := .int .u64 (z : Nat)) (show w.heap.size + 1 ≠ w.heap.size + 1 + 1 by omega)
            have bl3 := bl2.setCell (p := ⟨w.heap.size + 1 + 1, i, none⟩) (by simp; omega) (.int .u64 (z : Nat))
            go_wp2_with fail
            exact ⟨⟨i + 1, ss ++ [z], n2, by go_num, by omega, HUP.out, cb3, xb3, rb3, bl3⟩, by simp [intOf]; omega⟩
        · have k3 : (0 : Int) < (i : Int) := by omega
          have hT := HT.out n (by omega)
          have H0 : Hid _ := h0
          clear h0
          cases hc : isB l n 32 with
          | false =>
            have hrs := HOR.out n (HSEP.out H0.out hc)
            simp only [hc, Bool.false_eq_true, if_false] at hT
            have HRS : Hid _ := hrs
            clear hrs hc
            go_wp2_with fail
            refine (hT _ xb1).mono ?_
            rintro e w2 ⟨rfl, hm⟩
            have cb2 := hm.rest _ _ g1 cb1
            have bl2 := hm.keep _ _ (by omega) bl1
            obtain ⟨r0, r1, _⟩ := hm.box.two
            go_wp2_with fail
            obtain ⟨s0, s1, s2, s3, s4, g0, g1, g2, g3, g4⟩ := cb2.five
            go_region_held3 (fun w' => w'.cell? ⟨w.heap.size + 1, 1, none⟩ = some (.int .i64 (n : Nat)) ∧ w'.frozen? ⟨w.heap.size, 0, none⟩ = false ∧ w'.frozen? ⟨w.heap.size, 1, none⟩ = false ∧ w'.frozen? ⟨w.heap.size, 2, none⟩ = false ∧ w'.frozen? ⟨w.heap.size, 3, none⟩ = false ∧ w'.frozen? ⟨w.heap.size, 4, none⟩ = false) (simp [go_sem, *]) (fail)
            have cb9 := cb2.put_five (.int .u64 0) (.int .u64 0) (.int .u64 0) (.int .u64 0) (.int .u64 0)
            have bl9 := below_five bl2 (Nat.le_refl _) (.int .u64 0) (.int .u64 0) (.int .u64 0) (.int .u64 0) (.int .u64 0)
            generalize (((((w2.setCell ⟨w.heap.size, 0, none⟩ (.int .u64 0)).setCell ⟨w.heap.size, 1, none⟩ (.int .u64 0)).setCell ⟨w.heap.size, 2, none⟩ (.int .u64 0)).setCell ⟨w.heap.size, 3, none⟩ (.int .u64 0)).setCell ⟨w.heap.size, 4, none⟩ (.int .u64 0)) = W at *
            obtain ⟨t0, t1, t2, t3, t4, _⟩ := cb9.five
            go_wp2_with fail
            exact bodyPost_ret (v := .tuple #[cronV ⟨0, 0, 0, 0, 0⟩, .int .i64 (n : Nat), .int .i64 26]) (by simp [results, Tryd.results6, go_sem, t0, t1, t2, t3, t4]) rfl (ReadPost.bad hz' HRS.out bl9.drew)
          | true =>
            have hq := ((isB_iff _ _ _).1 hc).1
            simp only [hc, if_true] at hT
            have hI := HI2.out (n + 1) (by omega)
            have HC : Hid _ := hc
            clear hc
            cases hx : fieldS l lo hi5 (l.length + 1) (n + 1) 0 with
            | error p =>
              have hrs := HOR.out p (HBAD.out p (.inr HC.out) (by rw [if_neg H0.out]; exact hx))
              have HX : Hid _ := hx
              have HRS : Hid _ := hrs
              clear hx hrs
              go_wp2_with fail
              refine (hT _ xb1).mono ?_
              rintro e w1 ⟨rfl, hmt⟩
              have cb4 := hmt.rest _ _ g1 cb1
              have rb4 := hmt.rest _ _ g2 rb1
              have fb4 := hmt.rest _ _ gne fb
              have bl4 := hmt.keep _ _ (by omega) bl1
              obtain ⟨f0, f1, _⟩ := fb4.two
              go_wp2_with fail
              refine (hI _ hmt.box).mono ?_
              rintro e w2 ⟨rfl, hm⟩
              rw [HX.out] at hm ⊢
              simp only [exV]
              have cb2 := hm.rest _ _ g1 cb4
              have bl2 := hm.keep _ _ (by omega) bl4
              obtain ⟨r0, r1, _⟩ := hm.box.two
              simp only [exP] at r1
              go_wp2_with fail
              obtain ⟨s0, s1, s2, s3, s4, g0, g1, g2, g3, g4⟩ := cb2.five
              go_region_held3 (fun w' => w'.cell? ⟨w.heap.size + 1, 1, none⟩ = some (.int .i64 (p : Nat)) ∧ w'.frozen? ⟨w.heap.size, 0, none⟩ = false ∧ w'.frozen? ⟨w.heap.size, 1, none⟩ = false ∧ w'.frozen? ⟨w.heap.size, 2, none⟩ = false ∧ w'.frozen? ⟨w.heap.size, 3, none⟩ = false ∧ w'.frozen? ⟨w.heap.size, 4, none⟩ = false) (simp [go_sem, *]) (fail)
              have cb9 := cb2.put_five (.int .u64 0) (.int .u64 0) (.int .u64 0) (.int .u64 0) (.int .u64 0)
              have bl9 := below_five bl2 (Nat.le_refl _) (.int .u64 0) (.int .u64 0) (.int .u64 0) (.int .u64 0) (.int .u64 0)
              generalize (((((w2.setCell ⟨w.heap.size, 0, none⟩ (.int .u64 0)).setCell ⟨w.heap.size, 1, none⟩ (.int .u64 0)).setCell ⟨w.heap.size, 2, none⟩ (.int .u64 0)).setCell ⟨w.heap.size, 3, none⟩ (.int .u64 0)).setCell ⟨w.heap.size, 4, none⟩ (.int .u64 0)) = W at *
              obtain ⟨t0, t1, t2, t3, t4, _⟩ := cb9.five
              go_wp2_with fail
              exact bodyPost_ret (v := .tuple #[cronV ⟨0, 0, 0, 0, 0⟩, .int .i64 (p : Nat), .int .i64 26]) (by simp [results, Tryd.results6, go_sem, t0, t1, t2, t3, t4]) rfl (ReadPost.bad hz' HRS.out bl9.drew)
            | ok q =>
              obtain ⟨z, n2⟩ := q
              have hup := HGO.out z n2 (.inr HC.out) (by rw [if_neg H0.out]; exact hx)
              have HX : Hid _ := hx
              have HUP : Hid _ := hup
              clear hx hup
              go_wp2_with fail
              refine (hT _ xb1).mono ?_
              rintro e w1 ⟨rfl, hmt⟩
              have cb4 := hmt.rest _ _ g1 cb1
              have rb4 := hmt.rest _ _ g2 rb1
              have fb4 := hmt.rest _ _ gne fb
              have bl4 := hmt.keep _ _ (by omega) bl1
              obtain ⟨f0, f1, _⟩ := fb4.two
              go_wp2_with fail
              refine (hI _ hmt.box).mono ?_
              rintro e w2 ⟨rfl, hm⟩
              rw [HX.out] at hm ⊢
              simp only [exV]
              have cb2 := hm.rest _ _ g1 cb4
              have rb2 := hm.rest _ _ g2 rb4
              have bl2 := hm.keep _ _ (by omega) bl4
              have xb2 := hm.box
              simp only [exP] at xb2
              have rc := rb2.cell i _ (List.getElem?_eq_getElem (show i < (rowC ss).length from hlt))
              have rf := rb2.free i (show i < (rowC ss).length from hlt)
              have rb3 := rb2.set i (show i < (rowC ss).length from hlt) (.int .u64 (z : Nat))
              rw [HS.out] at rb3
              have cb3 := cb2.other (j := i) (v := .int .u64 (z : Nat)) (show w.heap.size ≠ w.heap.size + 1 + 1 by omega)
              have xb3 := xb2.other (j := i) (v := .int .u64 (z : Nat)) (show w.heap.size + 1 ≠ w.heap.size + 1 + 1 by omega)
              have bl3 := bl2.setCell (p := ⟨w.heap.size + 1 + 1, i, none⟩) (by simp; omega) (.int .u64 (z : Nat))
              go_wp2_with fail
              exact ⟨⟨i + 1, ss ++ [z], n2, by go_num, by omega, HUP.out, cb3, xb3, rb3, bl3⟩, by simp [intOf]; omega⟩
      · obtain rfl : i = 5 := by omega
        have HU : Hid _ := hu
        clear hu
        obtain ⟨r0, r1, _⟩ := xb.two
        by_cases hend : n < s.size
        · have k3 : (n : Int) < (s.size : Int) := by omega
          have hrs : readS l = .error n := by unfold readS; rw [HU.out]; exact if_pos (by omega)
          have HRS : Hid _ := hrs
          clear hrs
          go_wp2_with fail
          obtain ⟨s0, s1, s2, s3, s4, g0, g1, g2, g3, g4⟩ := cb.five
          go_region_held3 (fun w' => w'.cell? ⟨w.heap.size + 1, 1, none⟩ = some (.int .i64 (n : Nat)) ∧ w'.frozen? ⟨w.heap.size, 0, none⟩ = false ∧ w'.frozen? ⟨w.heap.size, 1, none⟩ = false ∧ w'.frozen? ⟨w.heap.size, 2, none⟩ = false ∧ w'.frozen? ⟨w.heap.size, 3, none⟩ = false ∧ w'.frozen? ⟨w.heap.size, 4, none⟩ = false) (simp [go_sem, *]) (fail)
          have cb9 := cb.put_five (.int .u64 0) (.int .u64 0) (.int .u64 0) (.int .u64 0) (.int .u64 0)
          have bl9 := below_five bl (Nat.le_refl _) (.int .u64 0) (.int .u64 0) (.int .u64 0) (.int .u64 0) (.int .u64 0)
          generalize (((((wr.setCell ⟨w.heap.size, 0, none⟩ (.int .u64 0)).setCell ⟨w.heap.size, 1, none⟩ (.int .u64 0)).setCell ⟨w.heap.size, 2, none⟩ (.int .u64 0)).setCell ⟨w.heap.size, 3, none⟩ (.int .u64 0)).setCell ⟨w.heap.size, 4, none⟩ (.int .u64 0)) = W at *
          obtain ⟨t0, t1, t2, t3, t4, _⟩ := cb9.five
          go_wp2_with fail
          exact bodyPost_ret (v := .tuple #[cronV ⟨0, 0, 0, 0, 0⟩, .int .i64 (n : Nat), .int .i64 26]) (by simp [results, Tryd.results6, go_sem, t0, t1, t2, t3, t4]) rfl (ReadPost.bad hz' HRS.out bl9.drew)
        · have k3 : ¬ (n : Int) < (s.size : Int) := by omega
          have hrs : readS l = .ok ss := by unfold readS; rw [HU.out]; exact if_neg (by omega)
          have HRS : Hid _ := hrs
          clear hrs
          obtain ⟨s0, s1, s2, s3, s4, _⟩ := rb.five
          have hj := join_any (ss.getD 0 0) (ss.getD 1 0) (ss.getD 2 0) (ss.getD 3 0) (ss.getD 4 0)
          have ecr : crOf ss = ⟨ss.getD 0 0, ss.getD 1 0, ss.getD 2 0, ss.getD 3 0, ss.getD 4 0⟩ := rfl
          have ECR : Hid _ := ecr
          clear ecr
          generalize ss.getD 0 0 = c0 at *
          generalize ss.getD 1 0 = c1 at *
          generalize ss.getD 2 0 = c2 at *
          generalize ss.getD 3 0 = c3 at *
          generalize ss.getD 4 0 = c4 at *
          go_wp2_with fail
          refine (hj _).mono ?_
          rintro e w2 ⟨rfl, hb2⟩
          have cb2 := cb.next hb2
          have bl2 := bl.trans (hb2.mono bl.size)
          obtain ⟨p0, p1, p2, p3, p4, g0, g1, g2, g3, g4⟩ := cb2.five
          have cb9 := cb2.put_five (.int .u64 (c0 : Nat)) (.int .u64 (c1 : Nat)) (.int .u64 (c2 : Nat)) (.int .u64 (c3 : Nat)) (.int .u64 (c4 : Nat))
          have bl9 := below_five bl2 (Nat.le_refl _) (.int .u64 (c0 : Nat)) (.int .u64 (c1 : Nat)) (.int .u64 (c2 : Nat)) (.int .u64 (c3 : Nat)) (.int .u64 (c4 : Nat))
          go_wp2_with fail
          generalize (((((w2.setCell ⟨w.heap.size, 0, none⟩ (.int .u64 (c0 : Nat))).setCell ⟨w.heap.size, 1, none⟩ (.int .u64 (c1 : Nat))).setCell ⟨w.heap.size, 2, none⟩ (.int .u64 (c2 : Nat))).setCell ⟨w.heap.size, 3, none⟩ (.int .u64 (c3 : Nat))).setCell ⟨w.heap.size, 4, none⟩ (.int .u64 (c4 : Nat))) = W at *
          obtain ⟨t0, t1, t2, t3, t4, _⟩ := cb9.five
          refine bodyPost_ret (v := .tuple #[cronV ⟨c0, c1, c2, c3, c4⟩, .int .i64 0, .int .i64 0]) (by simp [results, Tryd.results6, go_sem, t0, t1, t2, t3, t4]) rfl ⟨?_, bl9⟩
          unfold readV
          rw [if_neg hz', HRS.out]
          simp only [ECR.out]
end Go.Proofs.YtddinknnaakmmabDoor
