/- The document's reader in memory: may, must, take. -/
import Derived.Test.YtecdfnpbcabdnaaGreatDoorPrC
namespace Go.Proofs.YtecdfnpbcabdnaaGreatDoor
open Go.RowKit Go.Lib

def MaP (z : Nat) (w : World) (rb tb : Nat) (LL : List Tk) (c : Int) (b : Bool) (S' : Sr) (o : Nat) (e : Ending) (w' : World) : Prop := e = .returned (.bool b) ∧ Turn [rb] w w' ∧ Rr z w' rb tb LL c S' o
theorem Rr.any {z : Nat} {w : World} {rb tb : Nat} {LL : List Tk} {c : Int} {S : Sr} {o : Nat} (h : Rr z w rb tb LL c S o) (he : S.good = false) {o' : Nat} (ho : o' ≤ 64) : Rr z w rb tb LL c S o' := by
  obtain ⟨off, cap, i, ov, h⟩ := h
  refine ⟨off, cap, i, ov, h.box, h.le, h.mx, h.toks, h.nt, h.lt, h.il, h.dr, h.tl, h.er, fun hg => ?_, h.oi, ho, h.ci⟩
  unfold Sr.good at he
  rw [hg] at he
  cases he
theorem isR_good {x : ByteArray} {S : Sr} (h : isR x S = true) : S.er = none ∧ isT x (hdT S.L) = true := by
  unfold isR Sr.good at h
  simp only [Bool.and_eq_true] at h
  exact ⟨Option.isNone_iff_eq_none.1 h.1, h.2⟩
theorem wr_good {c e : Int} {S : Sr} : (wrR c e S).good = false := by
  unfold wrR
  split
  · rfl
  · rename_i h
    simpa using h
set_option maxHeartbeats 2000000 in
/-- A plain sign or word, if it stands there. -/
theorem qMay_c {z rb tb : Nat} {LL : List Tk} {c : Int} {S : Sr} {o : Nat} (x : ByteArray) (hx : (x.toList == [40]) = false ∧ (x.toList == [123]) = false ∧ (x.toList == [41]) = false ∧ (x.toList == [125]) = false) (w : World) (hr : Rr z w rb tb LL c S o) :
    Calls Tryz.prog 31 #[.pointer (some ⟨rb, 0, none⟩), .string x] w (MaP z w rb tb LL c (isR x S) (mayR x S) o) := by
  have HI := hid2 (qIs_c x w hr)
  cases h1 : isR x S with
  | true =>
    rw [h1] at HI
    obtain ⟨g1, g2⟩ := isR_good h1
    obtain ⟨off, cap, i, ov, h⟩ := hr
    have HX := hid2 h
    have hP : Hid (∀ w', Turn [rb] w w' → Box w' rb (rrL tb off LL.length cap (i + 1) ov c (erI S.er) (erW S.er)) → MaP z w rb tb LL c true (mayR x S) o (.returned (.bool true)) w') := fun w' ht hb => ⟨rfl, ht, off, cap, i + 1, ov, by
      unfold mayR
      rw [if_pos h1]
      exact HX.out.step hb ht (isT_kind g2) HX.out.op HX.out.oi HX.out.dp⟩
    generalize MaP z w rb tb LL c true (mayR x S) o = Post at *
    have hil : (i : Int) < (LL.length : Int) := by have := h.il; omega
    have hmx := h.mx
    have hle := h.le
    have HB := hid2 h.box
    generalize LL.length = n at *
    generalize erI S.er = er at *
    generalize erW S.er = wh at *
    obtain ⟨x1, x2, x3, x4⟩ := hx
    clear h HX h1 g1 g2
    go_enter Tryz.func31, Tryz.ntmps31
    go_wp2_with fail
    refine Calls.mono HI.out ?_
    rintro e w1 ⟨rfl, b1⟩
    obtain ⟨c0, c1, c2, c3, c4, c5, f0, f1, f2, f3, f4, f5⟩ := (HB.out.next b1).six
    have hl := (HB.out.next b1).lt
    go_wp2_with fail
    exact hP.out _ ((Turn.of_below b1).andSet _ _ (.inl (by simp))) ((HB.out.next b1).set 1 (by simp) _)
  | false =>
    rw [h1] at HI
    have hP : Hid (∀ w', Below w.heap.size w w' → MaP z w rb tb LL c false (mayR x S) o (.returned (.bool false)) w') := fun w' b => ⟨rfl, Turn.of_below b, by unfold mayR; rw [if_neg (by rw [h1]; simp)]; exact hr.next b⟩
    generalize MaP z w rb tb LL c false (mayR x S) o = Post at *
    clear hr h1
    go_enter Tryz.func31, Tryz.ntmps31
    go_wp2_with fail
    refine Calls.mono HI.out ?_
    rintro e w1 ⟨rfl, b1⟩
    go_wp2_with fail
    exact hP.out _ b1
set_option maxHeartbeats 2000000 in
theorem qMayLp_c {z rb tb : Nat} {LL : List Tk} {c : Int} {S : Sr} {o : Nat} (ho : o ≠ 64) (w : World) (hr : Rr z w rb tb LL c S o) :
    Calls Tryz.prog 31 #[.pointer (some ⟨rb, 0, none⟩), .string k_lp] w (MaP z w rb tb LL c (isR k_lp S) (mayR k_lp S) (if isR k_lp S = true then o + 1 else o)) := by
  have HI := hid2 (qIs_c k_lp w hr)
  cases h1 : isR k_lp S with
  | true =>
    rw [h1] at HI
    rw [if_pos rfl]
    obtain ⟨g1, g2⟩ := isR_good h1
    obtain ⟨off, cap, i, ov, h⟩ := hr
    have HX := hid2 h
    have hov : ov = (o : Nat) := h.op g1
    subst hov
    have hil : (i : Int) < (LL.length : Int) := by have := h.il; omega
    have hmx := h.mx
    have hle := h.le
    have hdp := h.dp
    have HB := hid2 h.box
    have hP : Hid (∀ w', Turn [rb] w w' → Box w' rb (rrL tb off LL.length cap (i + 1) ((o + 1 : Nat) : Int) c (erI S.er) (erW S.er)) → MaP z w rb tb LL c true (mayR k_lp S) (o + 1) (.returned (.bool true)) w') := fun w' ht hb => ⟨rfl, ht, off, cap, i + 1, _, by
      unfold mayR
      rw [if_pos h1]
      exact HX.out.step hb ht (isT_kind g2) (fun _ => rfl) (by unfold In64; omega) (by omega)⟩
    generalize MaP z w rb tb LL c true (mayR k_lp S) (o + 1) = Post at *
    generalize LL.length = n at *
    generalize erI S.er = er at *
    generalize erW S.er = wh at *
    have k64 : ((o : Int) == 64) = false := by simp; omega
    clear h HX h1 g1 g2
    go_enter Tryz.func31, Tryz.ntmps31
    go_wp2_with fail
    refine Calls.mono HI.out ?_
    rintro e w1 ⟨rfl, b1⟩
    obtain ⟨c0, c1, c2, c3, c4, c5, f0, f1, f2, f3, f4, f5⟩ := (HB.out.next b1).six
    have hl := (HB.out.next b1).lt
    go_wp2_with fail
    exact hP.out _ (((Turn.of_below b1).andSet _ _ (.inl (by simp))).andSet _ _ (.inl (by simp))) (((HB.out.next b1).set 2 (by simp) _).set 1 (by simp) _)
  | false =>
    rw [h1] at HI
    have hP : Hid (∀ w', Below w.heap.size w w' → MaP z w rb tb LL c false (mayR k_lp S) (if false = true then o + 1 else o) (.returned (.bool false)) w') := fun w' b => ⟨rfl, Turn.of_below b, by unfold mayR; rw [if_neg (by rw [h1]; simp), if_neg (by simp)]; exact hr.next b⟩
    generalize MaP z w rb tb LL c false (mayR k_lp S) (if false = true then o + 1 else o) = Post at *
    clear hr h1
    go_enter Tryz.func31, Tryz.ntmps31
    go_wp2_with fail
    refine Calls.mono HI.out ?_
    rintro e w1 ⟨rfl, b1⟩
    go_wp2_with fail
    exact hP.out _ b1
set_option maxHeartbeats 2000000 in
theorem qMayLpF_c {z rb tb : Nat} {LL : List Tk} {c : Int} {S : Sr} (w : World) (hr : Rr z w rb tb LL c S 64) :
    Calls Tryz.prog 31 #[.pointer (some ⟨rb, 0, none⟩), .string k_lp] w (MaP z w rb tb LL c false (if isR k_lp S = true then wrR c 15 S else S) 64) := by
  have HI := hid2 (qIs_c k_lp w hr)
  cases h1 : isR k_lp S with
  | true =>
    rw [h1] at HI
    rw [if_pos rfl]
    have HW := hid2 (fun W (k : Below w.heap.size w W) => qWrong_c 15 ⟨by decide, by unfold In64; omega⟩ W (hr.next k))
    obtain ⟨g1, g2⟩ := isR_good h1
    have HC : Hid (∀ W, Below w.heap.size w W → W.cell? ⟨rb, 2, none⟩ = some (.int .i64 64) ∧ rb < W.heap.size) := by
      obtain ⟨off, cap, i, ov, h⟩ := hr
      intro W k
      have hh := (h.box.next k).cell 2 _ rfl
      rw [h.op g1] at hh
      exact ⟨hh, (h.box.next k).lt⟩
    have hP : Hid (∀ w', Turn [rb] w w' → Rr z w' rb tb LL c (wrR c 15 S) 64 → MaP z w rb tb LL c false (wrR c 15 S) 64 (.returned (.bool false)) w') := fun w' ht hr' => ⟨rfl, ht, hr'⟩
    generalize MaP z w rb tb LL c false (wrR c 15 S) 64 = Post at *
    clear h1 g1 g2 hr
    go_enter Tryz.func31, Tryz.ntmps31
    go_wp2_with fail
    refine Calls.mono HI.out ?_
    rintro e w1 ⟨rfl, b1⟩
    obtain ⟨c2, hl⟩ := HC.out _ b1
    go_wp2_with fail
    refine Calls.mono (HW.out _ b1) ?_
    rintro e w2 ⟨rfl, t2, r2⟩
    go_wp2_with fail
    exact hP.out _ ((Turn.of_below b1).trans t2 (fun _ hi => .inl hi)) r2
  | false =>
    rw [h1] at HI
    have hP : Hid (∀ w', Below w.heap.size w w' → MaP z w rb tb LL c false (if false = true then wrR c 15 S else S) 64 (.returned (.bool false)) w') := fun w' b => ⟨rfl, Turn.of_below b, hr.next b⟩
    generalize MaP z w rb tb LL c false (if false = true then wrR c 15 S else S) 64 = Post at *
    clear hr h1
    go_enter Tryz.func31, Tryz.ntmps31
    go_wp2_with fail
    refine Calls.mono HI.out ?_
    rintro e w1 ⟨rfl, b1⟩
    go_wp2_with fail
    exact hP.out _ b1
set_option maxHeartbeats 2000000 in
theorem qMayLb_c {z rb tb : Nat} {LL : List Tk} {c : Int} {S : Sr} {o : Nat} (ho : o ≠ 64) (w : World) (hr : Rr z w rb tb LL c S o) :
    Calls Tryz.prog 31 #[.pointer (some ⟨rb, 0, none⟩), .string k_lb] w (MaP z w rb tb LL c (isR k_lb S) (mayR k_lb S) (if isR k_lb S = true then o + 1 else o)) := by
  have HI := hid2 (qIs_c k_lb w hr)
  cases h1 : isR k_lb S with
  | true =>
    rw [h1] at HI
    rw [if_pos rfl]
    obtain ⟨g1, g2⟩ := isR_good h1
    obtain ⟨off, cap, i, ov, h⟩ := hr
    have HX := hid2 h
    have hov : ov = (o : Nat) := h.op g1
    subst hov
    have hil : (i : Int) < (LL.length : Int) := by have := h.il; omega
    have hmx := h.mx
    have hle := h.le
    have hdp := h.dp
    have HB := hid2 h.box
    have hP : Hid (∀ w', Turn [rb] w w' → Box w' rb (rrL tb off LL.length cap (i + 1) ((o + 1 : Nat) : Int) c (erI S.er) (erW S.er)) → MaP z w rb tb LL c true (mayR k_lb S) (o + 1) (.returned (.bool true)) w') := fun w' ht hb => ⟨rfl, ht, off, cap, i + 1, _, by
      unfold mayR
      rw [if_pos h1]
      exact HX.out.step hb ht (isT_kind g2) (fun _ => rfl) (by unfold In64; omega) (by omega)⟩
    generalize MaP z w rb tb LL c true (mayR k_lb S) (o + 1) = Post at *
    generalize LL.length = n at *
    generalize erI S.er = er at *
    generalize erW S.er = wh at *
    have k64 : ((o : Int) == 64) = false := by simp; omega
    clear h HX h1 g1 g2
    go_enter Tryz.func31, Tryz.ntmps31
    go_wp2_with fail
    refine Calls.mono HI.out ?_
    rintro e w1 ⟨rfl, b1⟩
    obtain ⟨c0, c1, c2, c3, c4, c5, f0, f1, f2, f3, f4, f5⟩ := (HB.out.next b1).six
    have hl := (HB.out.next b1).lt
    go_wp2_with fail
    exact hP.out _ (((Turn.of_below b1).andSet _ _ (.inl (by simp))).andSet _ _ (.inl (by simp))) (((HB.out.next b1).set 2 (by simp) _).set 1 (by simp) _)
  | false =>
    rw [h1] at HI
    have hP : Hid (∀ w', Below w.heap.size w w' → MaP z w rb tb LL c false (mayR k_lb S) (if false = true then o + 1 else o) (.returned (.bool false)) w') := fun w' b => ⟨rfl, Turn.of_below b, by unfold mayR; rw [if_neg (by rw [h1]; simp), if_neg (by simp)]; exact hr.next b⟩
    generalize MaP z w rb tb LL c false (mayR k_lb S) (if false = true then o + 1 else o) = Post at *
    clear hr h1
    go_enter Tryz.func31, Tryz.ntmps31
    go_wp2_with fail
    refine Calls.mono HI.out ?_
    rintro e w1 ⟨rfl, b1⟩
    go_wp2_with fail
    exact hP.out _ b1
set_option maxHeartbeats 2000000 in
theorem qMayLbF_c {z rb tb : Nat} {LL : List Tk} {c : Int} {S : Sr} (w : World) (hr : Rr z w rb tb LL c S 64) :
    Calls Tryz.prog 31 #[.pointer (some ⟨rb, 0, none⟩), .string k_lb] w (MaP z w rb tb LL c false (if isR k_lb S = true then wrR c 15 S else S) 64) := by
  have HI := hid2 (qIs_c k_lb w hr)
  cases h1 : isR k_lb S with
  | true =>
    rw [h1] at HI
    rw [if_pos rfl]
    have HW := hid2 (fun W (k : Below w.heap.size w W) => qWrong_c 15 ⟨by decide, by unfold In64; omega⟩ W (hr.next k))
    obtain ⟨g1, g2⟩ := isR_good h1
    have HC : Hid (∀ W, Below w.heap.size w W → W.cell? ⟨rb, 2, none⟩ = some (.int .i64 64) ∧ rb < W.heap.size) := by
      obtain ⟨off, cap, i, ov, h⟩ := hr
      intro W k
      have hh := (h.box.next k).cell 2 _ rfl
      rw [h.op g1] at hh
      exact ⟨hh, (h.box.next k).lt⟩
    have hP : Hid (∀ w', Turn [rb] w w' → Rr z w' rb tb LL c (wrR c 15 S) 64 → MaP z w rb tb LL c false (wrR c 15 S) 64 (.returned (.bool false)) w') := fun w' ht hr' => ⟨rfl, ht, hr'⟩
    generalize MaP z w rb tb LL c false (wrR c 15 S) 64 = Post at *
    clear h1 g1 g2 hr
    go_enter Tryz.func31, Tryz.ntmps31
    go_wp2_with fail
    refine Calls.mono HI.out ?_
    rintro e w1 ⟨rfl, b1⟩
    obtain ⟨c2, hl⟩ := HC.out _ b1
    go_wp2_with fail
    refine Calls.mono (HW.out _ b1) ?_
    rintro e w2 ⟨rfl, t2, r2⟩
    go_wp2_with fail
    exact hP.out _ ((Turn.of_below b1).trans t2 (fun _ hi => .inl hi)) r2
  | false =>
    rw [h1] at HI
    have hP : Hid (∀ w', Below w.heap.size w w' → MaP z w rb tb LL c false (if false = true then wrR c 15 S else S) 64 (.returned (.bool false)) w') := fun w' b => ⟨rfl, Turn.of_below b, hr.next b⟩
    generalize MaP z w rb tb LL c false (if false = true then wrR c 15 S else S) 64 = Post at *
    clear hr h1
    go_enter Tryz.func31, Tryz.ntmps31
    go_wp2_with fail
    refine Calls.mono HI.out ?_
    rintro e w1 ⟨rfl, b1⟩
    go_wp2_with fail
    exact hP.out _ b1
set_option maxHeartbeats 2000000 in
theorem qMayRp_c {z rb tb : Nat} {LL : List Tk} {c : Int} {S : Sr} {o : Nat} (w : World) (hr : Rr z w rb tb LL c S (o + 1)) :
    Calls Tryz.prog 31 #[.pointer (some ⟨rb, 0, none⟩), .string k_rp] w (MaP z w rb tb LL c (isR k_rp S) (mayR k_rp S) (if isR k_rp S = true then o else o + 1)) := by
  have HI := hid2 (qIs_c k_rp w hr)
  cases h1 : isR k_rp S with
  | true =>
    rw [h1] at HI
    rw [if_pos rfl]
    obtain ⟨g1, g2⟩ := isR_good h1
    obtain ⟨off, cap, i, ov, h⟩ := hr
    have HX := hid2 h
    have hov : ov = ((o + 1 : Nat) : Int) := h.op g1
    subst hov
    have hil : (i : Int) < (LL.length : Int) := by have := h.il; omega
    have hmx := h.mx
    have hle := h.le
    have hdp := h.dp
    have HB := hid2 h.box
    have hP : Hid (∀ w', Turn [rb] w w' → Box w' rb (rrL tb off LL.length cap (i + 1) (o : Nat) c (erI S.er) (erW S.er)) → MaP z w rb tb LL c true (mayR k_rp S) o (.returned (.bool true)) w') := fun w' ht hb => ⟨rfl, ht, off, cap, i + 1, _, by
      unfold mayR
      rw [if_pos h1]
      exact HX.out.step hb ht (isT_kind g2) (fun _ => rfl) (by unfold In64; omega) (by omega)⟩
    generalize MaP z w rb tb LL c true (mayR k_rp S) o = Post at *
    generalize LL.length = n at *
    generalize erI S.er = er at *
    generalize erW S.er = wh at *
    have ko : ((o + 1 : Nat) : Int) - 1 = (o : Nat) := by omega
    clear h HX h1 g1 g2
    go_enter Tryz.func31, Tryz.ntmps31
    go_wp2_with fail
    refine Calls.mono HI.out ?_
    rintro e w1 ⟨rfl, b1⟩
    obtain ⟨c0, c1, c2, c3, c4, c5, f0, f1, f2, f3, f4, f5⟩ := (HB.out.next b1).six
    have hl := (HB.out.next b1).lt
    go_wp2_with fail
    refine hP.out _ (((Turn.of_below b1).andSet _ _ (.inl (by simp))).andSet _ _ (.inl (by simp))) ?_
    have hb := ((HB.out.next b1).set 2 (by simp) (.int .i64 (o : Nat))).set 1 (by simp) (.int .i64 ((i + 1 : Nat) : Int))
    exact hb
  | false =>
    rw [h1] at HI
    have hP : Hid (∀ w', Below w.heap.size w w' → MaP z w rb tb LL c false (mayR k_rp S) (if false = true then o else o + 1) (.returned (.bool false)) w') := fun w' b => ⟨rfl, Turn.of_below b, by unfold mayR; rw [if_neg (by rw [h1]; simp), if_neg (by simp)]; exact hr.next b⟩
    generalize MaP z w rb tb LL c false (mayR k_rp S) (if false = true then o else o + 1) = Post at *
    clear hr h1
    go_enter Tryz.func31, Tryz.ntmps31
    go_wp2_with fail
    refine Calls.mono HI.out ?_
    rintro e w1 ⟨rfl, b1⟩
    go_wp2_with fail
    exact hP.out _ b1
set_option maxHeartbeats 2000000 in
theorem qMayRb_c {z rb tb : Nat} {LL : List Tk} {c : Int} {S : Sr} {o : Nat} (w : World) (hr : Rr z w rb tb LL c S (o + 1)) :
    Calls Tryz.prog 31 #[.pointer (some ⟨rb, 0, none⟩), .string k_rb] w (MaP z w rb tb LL c (isR k_rb S) (mayR k_rb S) (if isR k_rb S = true then o else o + 1)) := by
  have HI := hid2 (qIs_c k_rb w hr)
  cases h1 : isR k_rb S with
  | true =>
    rw [h1] at HI
    rw [if_pos rfl]
    obtain ⟨g1, g2⟩ := isR_good h1
    obtain ⟨off, cap, i, ov, h⟩ := hr
    have HX := hid2 h
    have hov : ov = ((o + 1 : Nat) : Int) := h.op g1
    subst hov
    have hil : (i : Int) < (LL.length : Int) := by have := h.il; omega
    have hmx := h.mx
    have hle := h.le
    have hdp := h.dp
    have HB := hid2 h.box
    have hP : Hid (∀ w', Turn [rb] w w' → Box w' rb (rrL tb off LL.length cap (i + 1) (o : Nat) c (erI S.er) (erW S.er)) → MaP z w rb tb LL c true (mayR k_rb S) o (.returned (.bool true)) w') := fun w' ht hb => ⟨rfl, ht, off, cap, i + 1, _, by
      unfold mayR
      rw [if_pos h1]
      exact HX.out.step hb ht (isT_kind g2) (fun _ => rfl) (by unfold In64; omega) (by omega)⟩
    generalize MaP z w rb tb LL c true (mayR k_rb S) o = Post at *
    generalize LL.length = n at *
    generalize erI S.er = er at *
    generalize erW S.er = wh at *
    have ko : ((o + 1 : Nat) : Int) - 1 = (o : Nat) := by omega
    clear h HX h1 g1 g2
    go_enter Tryz.func31, Tryz.ntmps31
    go_wp2_with fail
    refine Calls.mono HI.out ?_
    rintro e w1 ⟨rfl, b1⟩
    obtain ⟨c0, c1, c2, c3, c4, c5, f0, f1, f2, f3, f4, f5⟩ := (HB.out.next b1).six
    have hl := (HB.out.next b1).lt
    go_wp2_with fail
    refine hP.out _ (((Turn.of_below b1).andSet _ _ (.inl (by simp))).andSet _ _ (.inl (by simp))) ?_
    have hb := ((HB.out.next b1).set 2 (by simp) (.int .i64 (o : Nat))).set 1 (by simp) (.int .i64 ((i + 1 : Nat) : Int))
    exact hb
  | false =>
    rw [h1] at HI
    have hP : Hid (∀ w', Below w.heap.size w w' → MaP z w rb tb LL c false (mayR k_rb S) (if false = true then o else o + 1) (.returned (.bool false)) w') := fun w' b => ⟨rfl, Turn.of_below b, by unfold mayR; rw [if_neg (by rw [h1]; simp), if_neg (by simp)]; exact hr.next b⟩
    generalize MaP z w rb tb LL c false (mayR k_rb S) (if false = true then o else o + 1) = Post at *
    clear hr h1
    go_enter Tryz.func31, Tryz.ntmps31
    go_wp2_with fail
    refine Calls.mono HI.out ?_
    rintro e w1 ⟨rfl, b1⟩
    go_wp2_with fail
    exact hP.out _ b1
theorem must_t {c : Int} {x : ByteArray} {S : Sr} (h : isR x S = true) : mustR c x S = mayR x S := by unfold mustR mayR; rw [if_pos h, if_pos h]
theorem must_f {c : Int} {x : ByteArray} {S : Sr} (h : isR x S = false) : mustR c x S = wrR c 16 (mayR x S) := by unfold mustR mayR; rw [if_neg (by rw [h]; simp), if_neg (by rw [h]; simp)]
theorem open_t {c : Int} {x : ByteArray} {S : Sr} (h : isR x S = true) : openR c x false S = mayR x S := by unfold openR mayR; rw [if_pos h, if_pos h, if_neg (by simp)]
theorem open_f {c : Int} {x : ByteArray} {S : Sr} (h : isR x S = false) : openR c x false S = wrR c 16 (mayR x S) := by unfold openR mayR; rw [if_neg (by rw [h]; simp), if_neg (by rw [h]; simp)]
theorem wr_twice {c a b : Int} {S : Sr} : wrR c a (wrR c b S) = wrR c b S := by
  rw [wrR, if_neg (by rw [wr_good]; simp)]
theorem open_full {c : Int} {x : ByteArray} {S : Sr} : openR c x true S = wrR c 16 (if isR x S = true then wrR c 15 S else S) := by
  unfold openR
  cases isR x S with
  | true => rw [if_pos rfl, if_pos rfl, if_pos rfl, wr_twice]
  | false => rw [if_neg (by simp), if_neg (by simp)]
set_option maxHeartbeats 2000000 in
theorem qMust_c {z rb tb : Nat} {LL : List Tk} {c : Int} {S : Sr} {o : Nat} (x : ByteArray) (hx : (x.toList == [40]) = false ∧ (x.toList == [123]) = false ∧ (x.toList == [41]) = false ∧ (x.toList == [125]) = false) (w : World) (hr : Rr z w rb tb LL c S o) :
    Calls Tryz.prog 16 #[.pointer (some ⟨rb, 0, none⟩), .string x] w (WrP z w rb tb LL c (mustR c x S) (o)) := by
  have HM := hid2 (qMay_c x hx w hr)
  cases h1 : isR x S with
  | true =>
    have hP : Hid (∀ w', Turn [rb] w w' → Rr z w' rb tb LL c (mayR x S) (o) → WrP z w rb tb LL c (mustR c x S) (o) (.returned (.tuple #[])) w') := fun w' ht hr' => ⟨rfl, ht, (by rw [must_t h1]; exact hr')⟩
    generalize WrP z w rb tb LL c (mustR c x S) (o) = Post at *
    generalize (mayR x S) = S1 at *
    rw [h1] at HM
    clear hr h1
    go_enter Tryz.func16, Tryz.ntmps16
    go_wp2_with fail
    refine Calls.mono HM.out ?_
    rintro e w1 ⟨rfl, t1, r1⟩
    go_wp2_with fail
    refine bodyPost_ret (v := .tuple #[]) (by simp [results, Tryz.results16, go_sem]) rfl ?_
    exact hP.out _ t1 r1
  | false =>
    have HW := hid2 (fun W (h : Rr z W rb tb LL c (mayR x S) (o)) => qWrong_c 16 ⟨by decide, by unfold In64; omega⟩ W h)
    have hP : Hid (∀ w', Turn [rb] w w' → Rr z w' rb tb LL c (wrR c 16 (mayR x S)) (o) → WrP z w rb tb LL c (mustR c x S) (o) (.returned (.tuple #[])) w') := fun w' ht hr' => ⟨rfl, ht, (by rw [must_f h1]; exact hr')⟩
    generalize WrP z w rb tb LL c (mustR c x S) (o) = Post at *
    generalize (mayR x S) = S1 at *
    rw [h1] at HM
    clear hr h1
    go_enter Tryz.func16, Tryz.ntmps16
    go_wp2_with fail
    refine Calls.mono HM.out ?_
    rintro e w1 ⟨rfl, t1, r1⟩
    go_wp2_with fail
    refine Calls.mono (HW.out _ r1) ?_
    rintro e w2 ⟨rfl, t2, r2⟩
    go_wp2_with fail
    refine bodyPost_ret (v := .tuple #[]) (by simp [results, Tryz.results16, go_sem]) rfl ?_
    exact hP.out _ (turn_one t1 t2) r2
set_option maxHeartbeats 2000000 in
theorem qMustLp_c {z rb tb : Nat} {LL : List Tk} {c : Int} {S : Sr} {o : Nat} (ho : o ≠ 64) (w : World) (hr : Rr z w rb tb LL c S o) :
    Calls Tryz.prog 16 #[.pointer (some ⟨rb, 0, none⟩), .string k_lp] w (WrP z w rb tb LL c (openR c k_lp false S) (o + 1)) := by
  have HM := hid2 (qMayLp_c ho w hr)
  cases h1 : isR k_lp S with
  | true =>
    have hP : Hid (∀ w', Turn [rb] w w' → Rr z w' rb tb LL c (mayR k_lp S) (if isR k_lp S = true then o + 1 else o) → WrP z w rb tb LL c (openR c k_lp false S) (o + 1) (.returned (.tuple #[])) w') := fun w' ht hr' => ⟨rfl, ht, (by rw [if_pos h1] at hr'; rw [open_t h1]; exact hr')⟩
    generalize WrP z w rb tb LL c (openR c k_lp false S) (o + 1) = Post at *
    generalize (mayR k_lp S) = S1 at *
    generalize (if isR k_lp S = true then o + 1 else o) = o1 at *
    rw [h1] at HM
    clear hr h1
    go_enter Tryz.func16, Tryz.ntmps16
    go_wp2_with fail
    refine Calls.mono HM.out ?_
    rintro e w1 ⟨rfl, t1, r1⟩
    go_wp2_with fail
    refine bodyPost_ret (v := .tuple #[]) (by simp [results, Tryz.results16, go_sem]) rfl ?_
    exact hP.out _ t1 r1
  | false =>
    have HW := hid2 (fun W (h : Rr z W rb tb LL c (mayR k_lp S) (if isR k_lp S = true then o + 1 else o)) => qWrong_c 16 ⟨by decide, by unfold In64; omega⟩ W h)
    have hP : Hid (∀ w', Turn [rb] w w' → Rr z w' rb tb LL c (wrR c 16 (mayR k_lp S)) (if isR k_lp S = true then o + 1 else o) → WrP z w rb tb LL c (openR c k_lp false S) (o + 1) (.returned (.tuple #[])) w') := fun w' ht hr' => ⟨rfl, ht, (by rw [if_neg (by rw [h1]; simp)] at hr'; rw [open_f h1]; exact hr'.any wr_good (by obtain ⟨_, _, _, _, hh⟩ := hr; have := hh.dp; omega))⟩
    generalize WrP z w rb tb LL c (openR c k_lp false S) (o + 1) = Post at *
    generalize (mayR k_lp S) = S1 at *
    generalize (if isR k_lp S = true then o + 1 else o) = o1 at *
    rw [h1] at HM
    clear hr h1
    go_enter Tryz.func16, Tryz.ntmps16
    go_wp2_with fail
    refine Calls.mono HM.out ?_
    rintro e w1 ⟨rfl, t1, r1⟩
    go_wp2_with fail
    refine Calls.mono (HW.out _ r1) ?_
    rintro e w2 ⟨rfl, t2, r2⟩
    go_wp2_with fail
    refine bodyPost_ret (v := .tuple #[]) (by simp [results, Tryz.results16, go_sem]) rfl ?_
    exact hP.out _ (turn_one t1 t2) r2
set_option maxHeartbeats 2000000 in
theorem qMustLpF_c {z rb tb : Nat} {LL : List Tk} {c : Int} {S : Sr} (w : World) (hr : Rr z w rb tb LL c S 64) :
    Calls Tryz.prog 16 #[.pointer (some ⟨rb, 0, none⟩), .string k_lp] w (WrP z w rb tb LL c (openR c k_lp true S) (64)) := by
  have HM := hid2 (qMayLpF_c w hr)
  have HW := hid2 (fun W (h : Rr z W rb tb LL c (if isR k_lp S = true then wrR c 15 S else S) (64)) => qWrong_c 16 ⟨by decide, by unfold In64; omega⟩ W h)
  have hP : Hid (∀ w', Turn [rb] w w' → Rr z w' rb tb LL c (wrR c 16 (if isR k_lp S = true then wrR c 15 S else S)) (64) → WrP z w rb tb LL c (openR c k_lp true S) (64) (.returned (.tuple #[])) w') := fun w' ht hr' => ⟨rfl, ht, (by rw [open_full]; exact hr')⟩
  generalize WrP z w rb tb LL c (openR c k_lp true S) (64) = Post at *
  generalize (if isR k_lp S = true then wrR c 15 S else S) = S1 at *
  clear hr
  go_enter Tryz.func16, Tryz.ntmps16
  go_wp2_with fail
  refine Calls.mono HM.out ?_
  rintro e w1 ⟨rfl, t1, r1⟩
  go_wp2_with fail
  refine Calls.mono (HW.out _ r1) ?_
  rintro e w2 ⟨rfl, t2, r2⟩
  go_wp2_with fail
  refine bodyPost_ret (v := .tuple #[]) (by simp [results, Tryz.results16, go_sem]) rfl ?_
  exact hP.out _ (turn_one t1 t2) r2
set_option maxHeartbeats 2000000 in
theorem qMustLb_c {z rb tb : Nat} {LL : List Tk} {c : Int} {S : Sr} {o : Nat} (ho : o ≠ 64) (w : World) (hr : Rr z w rb tb LL c S o) :
    Calls Tryz.prog 16 #[.pointer (some ⟨rb, 0, none⟩), .string k_lb] w (WrP z w rb tb LL c (openR c k_lb false S) (o + 1)) := by
  have HM := hid2 (qMayLb_c ho w hr)
  cases h1 : isR k_lb S with
  | true =>
    have hP : Hid (∀ w', Turn [rb] w w' → Rr z w' rb tb LL c (mayR k_lb S) (if isR k_lb S = true then o + 1 else o) → WrP z w rb tb LL c (openR c k_lb false S) (o + 1) (.returned (.tuple #[])) w') := fun w' ht hr' => ⟨rfl, ht, (by rw [if_pos h1] at hr'; rw [open_t h1]; exact hr')⟩
    generalize WrP z w rb tb LL c (openR c k_lb false S) (o + 1) = Post at *
    generalize (mayR k_lb S) = S1 at *
    generalize (if isR k_lb S = true then o + 1 else o) = o1 at *
    rw [h1] at HM
    clear hr h1
    go_enter Tryz.func16, Tryz.ntmps16
    go_wp2_with fail
    refine Calls.mono HM.out ?_
    rintro e w1 ⟨rfl, t1, r1⟩
    go_wp2_with fail
    refine bodyPost_ret (v := .tuple #[]) (by simp [results, Tryz.results16, go_sem]) rfl ?_
    exact hP.out _ t1 r1
  | false =>
    have HW := hid2 (fun W (h : Rr z W rb tb LL c (mayR k_lb S) (if isR k_lb S = true then o + 1 else o)) => qWrong_c 16 ⟨by decide, by unfold In64; omega⟩ W h)
    have hP : Hid (∀ w', Turn [rb] w w' → Rr z w' rb tb LL c (wrR c 16 (mayR k_lb S)) (if isR k_lb S = true then o + 1 else o) → WrP z w rb tb LL c (openR c k_lb false S) (o + 1) (.returned (.tuple #[])) w') := fun w' ht hr' => ⟨rfl, ht, (by rw [if_neg (by rw [h1]; simp)] at hr'; rw [open_f h1]; exact hr'.any wr_good (by obtain ⟨_, _, _, _, hh⟩ := hr; have := hh.dp; omega))⟩
    generalize WrP z w rb tb LL c (openR c k_lb false S) (o + 1) = Post at *
    generalize (mayR k_lb S) = S1 at *
    generalize (if isR k_lb S = true then o + 1 else o) = o1 at *
    rw [h1] at HM
    clear hr h1
    go_enter Tryz.func16, Tryz.ntmps16
    go_wp2_with fail
    refine Calls.mono HM.out ?_
    rintro e w1 ⟨rfl, t1, r1⟩
    go_wp2_with fail
    refine Calls.mono (HW.out _ r1) ?_
    rintro e w2 ⟨rfl, t2, r2⟩
    go_wp2_with fail
    refine bodyPost_ret (v := .tuple #[]) (by simp [results, Tryz.results16, go_sem]) rfl ?_
    exact hP.out _ (turn_one t1 t2) r2
set_option maxHeartbeats 2000000 in
theorem qMustLbF_c {z rb tb : Nat} {LL : List Tk} {c : Int} {S : Sr} (w : World) (hr : Rr z w rb tb LL c S 64) :
    Calls Tryz.prog 16 #[.pointer (some ⟨rb, 0, none⟩), .string k_lb] w (WrP z w rb tb LL c (openR c k_lb true S) (64)) := by
  have HM := hid2 (qMayLbF_c w hr)
  have HW := hid2 (fun W (h : Rr z W rb tb LL c (if isR k_lb S = true then wrR c 15 S else S) (64)) => qWrong_c 16 ⟨by decide, by unfold In64; omega⟩ W h)
  have hP : Hid (∀ w', Turn [rb] w w' → Rr z w' rb tb LL c (wrR c 16 (if isR k_lb S = true then wrR c 15 S else S)) (64) → WrP z w rb tb LL c (openR c k_lb true S) (64) (.returned (.tuple #[])) w') := fun w' ht hr' => ⟨rfl, ht, (by rw [open_full]; exact hr')⟩
  generalize WrP z w rb tb LL c (openR c k_lb true S) (64) = Post at *
  generalize (if isR k_lb S = true then wrR c 15 S else S) = S1 at *
  clear hr
  go_enter Tryz.func16, Tryz.ntmps16
  go_wp2_with fail
  refine Calls.mono HM.out ?_
  rintro e w1 ⟨rfl, t1, r1⟩
  go_wp2_with fail
  refine Calls.mono (HW.out _ r1) ?_
  rintro e w2 ⟨rfl, t2, r2⟩
  go_wp2_with fail
  refine bodyPost_ret (v := .tuple #[]) (by simp [results, Tryz.results16, go_sem]) rfl ?_
  exact hP.out _ (turn_one t1 t2) r2
set_option maxHeartbeats 2000000 in
theorem qMustRp_c {z rb tb : Nat} {LL : List Tk} {c : Int} {S : Sr} {o : Nat} (w : World) (hr : Rr z w rb tb LL c S (o + 1)) :
    Calls Tryz.prog 16 #[.pointer (some ⟨rb, 0, none⟩), .string k_rp] w (WrP z w rb tb LL c (mustR c k_rp S) (o)) := by
  have HM := hid2 (qMayRp_c w hr)
  cases h1 : isR k_rp S with
  | true =>
    have hP : Hid (∀ w', Turn [rb] w w' → Rr z w' rb tb LL c (mayR k_rp S) (if isR k_rp S = true then o else o + 1) → WrP z w rb tb LL c (mustR c k_rp S) (o) (.returned (.tuple #[])) w') := fun w' ht hr' => ⟨rfl, ht, (by rw [if_pos h1] at hr'; rw [must_t h1]; exact hr')⟩
    generalize WrP z w rb tb LL c (mustR c k_rp S) (o) = Post at *
    generalize (mayR k_rp S) = S1 at *
    generalize (if isR k_rp S = true then o else o + 1) = o1 at *
    rw [h1] at HM
    clear hr h1
    go_enter Tryz.func16, Tryz.ntmps16
    go_wp2_with fail
    refine Calls.mono HM.out ?_
    rintro e w1 ⟨rfl, t1, r1⟩
    go_wp2_with fail
    refine bodyPost_ret (v := .tuple #[]) (by simp [results, Tryz.results16, go_sem]) rfl ?_
    exact hP.out _ t1 r1
  | false =>
    have HW := hid2 (fun W (h : Rr z W rb tb LL c (mayR k_rp S) (if isR k_rp S = true then o else o + 1)) => qWrong_c 16 ⟨by decide, by unfold In64; omega⟩ W h)
    have hP : Hid (∀ w', Turn [rb] w w' → Rr z w' rb tb LL c (wrR c 16 (mayR k_rp S)) (if isR k_rp S = true then o else o + 1) → WrP z w rb tb LL c (mustR c k_rp S) (o) (.returned (.tuple #[])) w') := fun w' ht hr' => ⟨rfl, ht, (by rw [if_neg (by rw [h1]; simp)] at hr'; rw [must_f h1]; exact hr'.any wr_good (by obtain ⟨_, _, _, _, hh⟩ := hr; have := hh.dp; omega))⟩
    generalize WrP z w rb tb LL c (mustR c k_rp S) (o) = Post at *
    generalize (mayR k_rp S) = S1 at *
    generalize (if isR k_rp S = true then o else o + 1) = o1 at *
    rw [h1] at HM
    clear hr h1
    go_enter Tryz.func16, Tryz.ntmps16
    go_wp2_with fail
    refine Calls.mono HM.out ?_
    rintro e w1 ⟨rfl, t1, r1⟩
    go_wp2_with fail
    refine Calls.mono (HW.out _ r1) ?_
    rintro e w2 ⟨rfl, t2, r2⟩
    go_wp2_with fail
    refine bodyPost_ret (v := .tuple #[]) (by simp [results, Tryz.results16, go_sem]) rfl ?_
    exact hP.out _ (turn_one t1 t2) r2
set_option maxHeartbeats 2000000 in
theorem qMustRb_c {z rb tb : Nat} {LL : List Tk} {c : Int} {S : Sr} {o : Nat} (w : World) (hr : Rr z w rb tb LL c S (o + 1)) :
    Calls Tryz.prog 16 #[.pointer (some ⟨rb, 0, none⟩), .string k_rb] w (WrP z w rb tb LL c (mustR c k_rb S) (o)) := by
  have HM := hid2 (qMayRb_c w hr)
  cases h1 : isR k_rb S with
  | true =>
    have hP : Hid (∀ w', Turn [rb] w w' → Rr z w' rb tb LL c (mayR k_rb S) (if isR k_rb S = true then o else o + 1) → WrP z w rb tb LL c (mustR c k_rb S) (o) (.returned (.tuple #[])) w') := fun w' ht hr' => ⟨rfl, ht, (by rw [if_pos h1] at hr'; rw [must_t h1]; exact hr')⟩
    generalize WrP z w rb tb LL c (mustR c k_rb S) (o) = Post at *
    generalize (mayR k_rb S) = S1 at *
    generalize (if isR k_rb S = true then o else o + 1) = o1 at *
    rw [h1] at HM
    clear hr h1
    go_enter Tryz.func16, Tryz.ntmps16
    go_wp2_with fail
    refine Calls.mono HM.out ?_
    rintro e w1 ⟨rfl, t1, r1⟩
    go_wp2_with fail
    refine bodyPost_ret (v := .tuple #[]) (by simp [results, Tryz.results16, go_sem]) rfl ?_
    exact hP.out _ t1 r1
  | false =>
    have HW := hid2 (fun W (h : Rr z W rb tb LL c (mayR k_rb S) (if isR k_rb S = true then o else o + 1)) => qWrong_c 16 ⟨by decide, by unfold In64; omega⟩ W h)
    have hP : Hid (∀ w', Turn [rb] w w' → Rr z w' rb tb LL c (wrR c 16 (mayR k_rb S)) (if isR k_rb S = true then o else o + 1) → WrP z w rb tb LL c (mustR c k_rb S) (o) (.returned (.tuple #[])) w') := fun w' ht hr' => ⟨rfl, ht, (by rw [if_neg (by rw [h1]; simp)] at hr'; rw [must_f h1]; exact hr'.any wr_good (by obtain ⟨_, _, _, _, hh⟩ := hr; have := hh.dp; omega))⟩
    generalize WrP z w rb tb LL c (mustR c k_rb S) (o) = Post at *
    generalize (mayR k_rb S) = S1 at *
    generalize (if isR k_rb S = true then o else o + 1) = o1 at *
    rw [h1] at HM
    clear hr h1
    go_enter Tryz.func16, Tryz.ntmps16
    go_wp2_with fail
    refine Calls.mono HM.out ?_
    rintro e w1 ⟨rfl, t1, r1⟩
    go_wp2_with fail
    refine Calls.mono (HW.out _ r1) ?_
    rintro e w2 ⟨rfl, t2, r2⟩
    go_wp2_with fail
    refine bodyPost_ret (v := .tuple #[]) (by simp [results, Tryz.results16, go_sem]) rfl ?_
    exact hP.out _ (turn_one t1 t2) r2
end Go.Proofs.YtecdfnpbcabdnaaGreatDoor
