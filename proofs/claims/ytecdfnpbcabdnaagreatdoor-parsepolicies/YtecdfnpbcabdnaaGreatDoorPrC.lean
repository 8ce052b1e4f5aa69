/- The document's reader in memory: at, is, wrong, may, must, take. -/
import Derived.Test.YtecdfnpbcabdnaaGreatDoorPrA
import Derived.Test.YtecdfnpbcabdnaaGreatDoorPxA
import Derived.Deep.RegionHeld3
namespace Go.Proofs.YtecdfnpbcabdnaaGreatDoor
open Go.RowKit Go.Lib

abbrev rrL (tb off n cap i : Nat) (ov c er : Int) (wh : Nat) : List Value := [.slice (some ⟨tb, off, none⟩) n cap, .int .i64 (i : Nat), .int .i64 ov, .int .i64 c, .int .i64 er, .int .i64 (wh : Nat)]
def erI : Option Flt → Int
  | none => 0
  | some f => f.2
def erW : Option Flt → Nat
  | none => 0
  | some f => f.1
/-- The document's reader at rb: its tokens LL lie in tb; it stands in S; o brackets are open, as long as no fault was met. -/
structure RrX (z : Nat) (w : World) (rb tb : Nat) (LL : List Tk) (c : Int) (S : Sr) (o off cap i : Nat) (ov : Int) : Prop where
  box : Box w rb (rrL tb off LL.length cap i ov c (erI S.er) (erW S.er))
  le : LL.length ≤ cap
  mx : cap ≤ 9223372036854775807
  toks : ∀ q u, (tkL LL)[q]? = some u → w.cell? ⟨tb, off + q, none⟩ = some u
  nt : tb ≠ rb
  lt : tb < w.heap.size
  il : i < LL.length
  dr : S.L = LL.drop i
  tl : TL z S.L
  er : ∀ f, S.er = some f → f.2 ≠ 0 ∧ In64 f.2 ∧ f.1 ≤ z
  op : S.er = none → ov = (o : Nat)
  oi : In64 ov
  dp : o ≤ 64
  ci : In64 c
def Rr (z : Nat) (w : World) (rb tb : Nat) (LL : List Tk) (c : Int) (S : Sr) (o : Nat) : Prop := ∃ off cap i ov, RrX z w rb tb LL c S o off cap i ov
theorem RrX.turn {z : Nat} {w w' : World} {rb tb : Nat} {LL : List Tk} {c : Int} {S : Sr} {o off cap i : Nat} {ov : Int} {T : List Nat} (h : RrX z w rb tb LL c S o off cap i ov) (k : Turn T w w') (h1 : rb ∉ T) (h2 : tb ∉ T) : RrX z w' rb tb LL c S o off cap i ov :=
  ⟨h.box.turn k h1, h.le, h.mx, fun q u hu => (turn_cell k h.lt h2).trans (h.toks q u hu), h.nt, Nat.lt_of_lt_of_le h.lt k.size, h.il, h.dr, h.tl, h.er, h.op, h.oi, h.dp, h.ci⟩
theorem Rr.turn {z : Nat} {w w' : World} {rb tb : Nat} {LL : List Tk} {c : Int} {S : Sr} {o : Nat} {T : List Nat} (h : Rr z w rb tb LL c S o) (k : Turn T w w') (h1 : rb ∉ T) (h2 : tb ∉ T) : Rr z w' rb tb LL c S o := by
  obtain ⟨off, cap, i, ov, h⟩ := h
  exact ⟨off, cap, i, ov, h.turn k h1 h2⟩
theorem Rr.next {z : Nat} {w w' : World} {rb tb : Nat} {LL : List Tk} {c : Int} {S : Sr} {o : Nat} (h : Rr z w rb tb LL c S o) (k : Below w.heap.size w w') : Rr z w' rb tb LL c S o := h.turn (S := S) (T := []) (Turn.of_below k) (by simp) (by simp)
theorem Rr.lts {z : Nat} {w : World} {rb tb : Nat} {LL : List Tk} {c : Int} {S : Sr} {o : Nat} (h : Rr z w rb tb LL c S o) : rb < w.heap.size ∧ tb < w.heap.size := by
  obtain ⟨off, cap, i, ov, h⟩ := h
  exact ⟨h.box.lt, h.lt⟩
theorem Rr.tl {z : Nat} {w : World} {rb tb : Nat} {LL : List Tk} {c : Int} {S : Sr} {o : Nat} (h : Rr z w rb tb LL c S o) : TL z S.L := by
  obtain ⟨off, cap, i, ov, h⟩ := h
  exact h.tl
theorem Rr.turn1 {z : Nat} {w w' : World} {rb tb : Nat} {LL : List Tk} {c : Int} {S : Sr} {o g : Nat} (h : Rr z w rb tb LL c S o) (k : Turn [g] w w') (hg : rb < g ∧ tb < g) : Rr z w' rb tb LL c S o :=
  h.turn k (by simp; omega) (by simp; omega)
/-- The present token's cells. -/
theorem RrX.hd {z : Nat} {w : World} {rb tb : Nat} {LL : List Tk} {c : Int} {S : Sr} {o off cap i : Nat} {ov : Int} (h : RrX z w rb tb LL c S o off cap i ov) :
    w.cell? ⟨tb, off + i * 4, none⟩ = some (.int .i64 (hdT S.L).kind) ∧ w.cell? ⟨tb, off + i * 4 + 1, none⟩ = some (.string (hdT S.L).text) ∧ w.cell? ⟨tb, off + i * 4 + 2, none⟩ = some (.int .i64 (hdT S.L).n) ∧ w.cell? ⟨tb, off + i * 4 + 3, none⟩ = some (.int .i64 ((hdT S.L).at_ : Nat)) := by
  have hdrop : ∀ (L : List Tk) (i q : Nat), (tkL (L.drop i))[q]? = (tkL L)[i * 4 + q]? := by
    intro L
    induction L with
    | nil => intro i q; simp [tkL]
    | cons t L ih =>
      intro i q
      cases i with
      | zero => simp
      | succ i =>
        rw [List.drop_succ_cons, ih]
        show _ = (tkC t ++ tkL L)[(i + 1) * 4 + q]?
        rw [List.getElem?_append_right (by simp; omega)]
        congr 1
        simp
        omega
  have g := fun q (hq : q < 4) => h.toks (i * 4 + q) _ ((hdrop LL i q).symm.trans ((by rw [← h.dr]; exact tkL_hd h.tl.ne q hq : (tkL (LL.drop i))[q]? = (tkC (hdT S.L))[q]?).trans (List.getElem?_eq_getElem (by simpa using hq))))
  exact ⟨by simpa using g 0 (by omega), by simpa [Nat.add_assoc] using g 1 (by omega), by simpa [Nat.add_assoc] using g 2 (by omega), by simpa [Nat.add_assoc] using g 3 (by omega)⟩
set_option maxHeartbeats 1000000 in
theorem qAt_c {z rb tb : Nat} {LL : List Tk} {c : Int} {S : Sr} {o : Nat} (w : World) (hr : Rr z w rb tb LL c S o) :
    Calls Tryz.prog 33 #[.pointer (some ⟨rb, 0, none⟩)] w fun e w' => e = .returned (.int .i64 ((hdT S.L).at_ : Nat)) ∧ Below w.heap.size w w' := by
  obtain ⟨off, cap, i, ov, h⟩ := hr
  obtain ⟨t0, t1, t2, t3⟩ := h.hd
  obtain ⟨c0, c1, c2, c3, c4, c5, f0, f1, f2, f3, f4, f5⟩ := h.box.six
  have hl := h.box.lt
  have htl := h.lt
  have hil : (i : Int) < (LL.length : Int) := by have := h.il; omega
  have hmx := h.mx
  have hle := h.le
  generalize hdT S.L = t at *
  generalize hn : LL.length = n at *
  generalize erI S.er = er at *
  generalize erW S.er = wh at *
  clear h hn
  go_enter Tryz.func33, Tryz.ntmps33
  go_wp2_with fail
  go_quiet (fail)
  go_wp2_with fail
  go_ret
  exact ⟨rfl, below_drewN (Below.refl _ _) _⟩
theorem Rr.good {z : Nat} {w : World} {rb tb : Nat} {LL : List Tk} {c : Int} {S : Sr} {o : Nat} (hr : Rr z w rb tb LL c S o) : S.good = decide (erI S.er = 0) := by
  obtain ⟨off, cap, i, ov, h⟩ := hr
  unfold Sr.good
  cases he : S.er with
  | none => rfl
  | some f => exact (decide_eq_false (h.er f he).1).symm
set_option maxHeartbeats 2000000 in
theorem qIs_c {z rb tb : Nat} {LL : List Tk} {c : Int} {S : Sr} {o : Nat} (x : ByteArray) (w : World) (hr : Rr z w rb tb LL c S o) :
    Calls Tryz.prog 39 #[.pointer (some ⟨rb, 0, none⟩), .string x] w fun e w' => e = .returned (.bool (isR x S)) ∧ Below w.heap.size w w' := by
  have hgood := hr.good
  unfold isR isT
  rw [hgood]
  obtain ⟨off, cap, i, ov, h⟩ := hr
  obtain ⟨t0, t1, t2, t3⟩ := h.hd
  obtain ⟨c0, c1, c2, c3, c4, c5, f0, f1, f2, f3, f4, f5⟩ := h.box.six
  have hl := h.box.lt
  have htl := h.lt
  have hil : (i : Int) < (LL.length : Int) := by have := h.il; omega
  have hmx := h.mx
  have hle := h.le
  generalize hdT S.L = t at *
  generalize hn : LL.length = n at *
  generalize erI S.er = er at *
  generalize erW S.er = wh at *
  clear h hn hgood
  obtain ⟨b, hb⟩ : ∃ b, Hid (b = (decide (er = 0) && (decide (t.text = x) && (decide (t.kind = 5) || decide (t.kind = 6))))) := ⟨_, rfl⟩
  rw [← hb.out]
  have B0 : Hid (∀ o, Below w.heap.size w (w.alloc o).drew) := fun o => ((Below.refl _ _).alloc (Nat.le_refl _) _).drew
  go_enter Tryz.func39, Tryz.ntmps39
  go_wp2_with fail
  go_region_held3 (fun w' => w'.cell? ⟨rb, 0, none⟩ = some (.slice (some ⟨tb, off, none⟩) n cap) ∧ w'.cell? ⟨rb, 1, none⟩ = some (.int .i64 (i : Nat)) ∧ w'.cell? ⟨tb, off + i * 4, none⟩ = some (.int .i64 t.kind) ∧ w'.cell? ⟨tb, off + i * 4 + 1, none⟩ = some (.string t.text) ∧ w'.cell? ⟨tb, off + i * 4 + 2, none⟩ = some (.int .i64 t.n) ∧ w'.cell? ⟨tb, off + i * 4 + 3, none⟩ = some (.int .i64 (t.at_ : Nat))) (simp [go_sem, *]) (fail)
  rename_i hh
  clear hh
  by_cases e1 : er = 0
  · by_cases e2 : t.text = x
    · by_cases e3 : t.kind = 5
      · have hb' : b = true := by rw [hb.out, e1, e2, e3]; simp
        go_wp2_with fail
        go_ret
        exact ⟨by rw [hb']; rfl, B0.out _⟩
      · by_cases e4 : t.kind = 6
        · have hb' : b = true := by rw [hb.out, e1, e2, e4]; simp
          go_wp2_with fail
          go_ret
          exact ⟨by rw [hb']; rfl, B0.out _⟩
        · have hb' : b = false := by rw [hb.out, decide_eq_false e3, decide_eq_false e4]; simp
          have k3 : (t.kind == 5) = false := by simpa using e3
          have k4 : (t.kind == 6) = false := by simpa using e4
          go_wp2_with fail
          go_ret
          exact ⟨by rw [hb']; rfl, B0.out _⟩
    · have hb' : b = false := by rw [hb.out, decide_eq_false e2]; simp
      have k2 := ba_ne e2
      go_wp2_with fail
      go_ret
      exact ⟨by rw [hb']; rfl, B0.out _⟩
  · have hb' : b = false := by rw [hb.out, decide_eq_false e1]; simp
    have k1 : (er == 0) = false := by simpa using e1
    go_wp2_with fail
    go_ret
    exact ⟨by rw [hb']; rfl, B0.out _⟩
/-- A fault is told. -/
theorem RrX.fault {z : Nat} {w : World} {rb tb : Nat} {LL : List Tk} {c : Int} {S : Sr} {o off cap i : Nat} {ov : Int} (h : RrX z w rb tb LL c S o off cap i ov) {w' : World} {f : Flt} (hb : Box w' rb (rrL tb off LL.length cap i ov c f.2 f.1)) (k : Turn [rb] w w') (hf : f.2 ≠ 0 ∧ In64 f.2) (hz : f.1 ≤ z) : RrX z w' rb tb LL c ⟨some f, S.L⟩ o off cap i ov :=
  ⟨hb, h.le, h.mx, fun q u hu => (turn_cell k h.lt (by simp; exact h.nt)).trans (h.toks q u hu), h.nt, Nat.lt_of_lt_of_le h.lt k.size, h.il, h.dr, h.tl, fun g hg => by rw [← Option.some.inj hg]; exact ⟨hf.1, hf.2, hz⟩, fun hg => (by cases hg), h.oi, h.dp, h.ci⟩
/-- A token is taken. -/
theorem RrX.step {z : Nat} {w : World} {rb tb : Nat} {LL : List Tk} {c : Int} {S : Sr} {o off cap i : Nat} {ov : Int} (h : RrX z w rb tb LL c S o off cap i ov) {w' : World} {o' : Nat} {ov' : Int} (hb : Box w' rb (rrL tb off LL.length cap (i + 1) ov' c (erI S.er) (erW S.er))) (k : Turn [rb] w w') (hk : (hdT S.L).kind ≠ 7) (ho : S.er = none → ov' = (o' : Nat)) (hi : In64 ov') (hd : o' ≤ 64) : RrX z w' rb tb LL c (adv S) o' off cap (i + 1) ov' :=
  ⟨hb, h.le, h.mx, fun q u hu => (turn_cell k h.lt (by simp; exact h.nt)).trans (h.toks q u hu), h.nt, Nat.lt_of_lt_of_le h.lt k.size, by
    have h1 := (h.tl.tail hk).pos
    rw [h.dr, List.tail_drop, List.length_drop] at h1
    omega, by show S.L.tail = _; rw [h.dr, List.tail_drop], h.tl.tail hk, h.er, ho, hi, hd, h.ci⟩
def WrP (z : Nat) (w : World) (rb tb : Nat) (LL : List Tk) (c : Int) (S' : Sr) (o : Nat) (e : Ending) (w' : World) : Prop := e = .returned (.tuple #[]) ∧ Turn [rb] w w' ∧ Rr z w' rb tb LL c S' o
theorem RrX.at_le {z : Nat} {w : World} {rb tb : Nat} {LL : List Tk} {c : Int} {S : Sr} {o off cap i : Nat} {ov : Int} (h : RrX z w rb tb LL c S o off cap i ov) : (hdT S.L).at_ ≤ z := h.tl.ok.a
set_option maxHeartbeats 2000000 in
theorem qWrong_c {z rb tb : Nat} {LL : List Tk} {c : Int} {S : Sr} {o : Nat} (x : Int) (hx : x ≠ 0 ∧ In64 x) (w : World) (hr : Rr z w rb tb LL c S o) :
    Calls Tryz.prog 32 #[.pointer (some ⟨rb, 0, none⟩), .int .i64 x] w (WrP z w rb tb LL c (wrR c x S) o) := by
  have hgood := hr.good
  obtain ⟨off, cap, i, ov, h⟩ := hr
  have HX := hid2 h
  have Ha := h.at_le
  unfold wrR
  by_cases e1 : erI S.er = 0
  · rw [if_pos (by rw [hgood]; exact decide_eq_true e1)]
    have hF : Hid (∀ w' f, Box w' rb (rrL tb off LL.length cap i ov c f.2 f.1) → Turn [rb] w w' → f = ((hdT S.L).at_, (if (hdT S.L).kind = 7 ∧ c ≠ 0 then c else x)) → WrP z w rb tb LL c ⟨some ((hdT S.L).at_, (if (hdT S.L).kind = 7 ∧ c ≠ 0 then c else x)), S.L⟩ o (.returned (.tuple #[])) w') := fun w' f hb k hf => ⟨rfl, k, off, cap, i, ov, by
      subst hf
      refine h.fault hb k ?_ Ha
      show (if (hdT S.L).kind = 7 ∧ c ≠ 0 then c else x) ≠ 0 ∧ In64 (if (hdT S.L).kind = 7 ∧ c ≠ 0 then c else x)
      split
      · rename_i hh
        exact ⟨hh.2, h.ci⟩
      · exact hx⟩
    generalize WrP z w rb tb LL c ⟨some ((hdT S.L).at_, (if (hdT S.L).kind = 7 ∧ c ≠ 0 then c else x)), S.L⟩ o = Post at *
    have HB := hid2 h.box
    obtain ⟨t0, t1, t2, t3⟩ := h.hd
    obtain ⟨c0, c1, c2, c3, c4, c5, f0, f1, f2, f3, f4, f5⟩ := h.box.six
    have hl := h.box.lt
    have htl := h.lt
    have hil : (i : Int) < (LL.length : Int) := by have := h.il; omega
    have hmx := h.mx
    have hle := h.le
    generalize hdT S.L = t at *
    generalize hn : LL.length = n at *
    generalize erI S.er = er at *
    generalize erW S.er = wh at *
    clear h hn hgood HX
    have B0 : Hid (∀ o, Below w.heap.size w (w.alloc o).drew) := fun o => ((Below.refl _ _).alloc (Nat.le_refl _) _).drew
    go_enter Tryz.func32, Tryz.ntmps32
    go_wp2_with fail
    go_region_held3 (fun w' => w'.cell? ⟨rb, 0, none⟩ = some (.slice (some ⟨tb, off, none⟩) n cap) ∧ w'.cell? ⟨rb, 1, none⟩ = some (.int .i64 (i : Nat)) ∧ w'.cell? ⟨tb, off + i * 4, none⟩ = some (.int .i64 t.kind) ∧ w'.cell? ⟨tb, off + i * 4 + 1, none⟩ = some (.string t.text) ∧ w'.cell? ⟨tb, off + i * 4 + 2, none⟩ = some (.int .i64 t.n) ∧ w'.cell? ⟨tb, off + i * 4 + 3, none⟩ = some (.int .i64 (t.at_ : Nat))) (simp [go_sem, *]) (fail)
    rename_i hh
    clear hh
    have B1 : Hid (∀ (W : World) o, Below W.heap.size W (W.alloc o).drew) := fun W o => ((Below.refl _ _).alloc (Nat.le_refl _) _).drew
    have TD : Hid (∀ (W : World) o, Turn [rb] w W → Turn [rb] w (W.alloc o).drew) := fun W o k => k.andBelow (B1.out W o)
    have T0 : Hid (Turn [rb] w w) := Turn.refl _ _
    by_cases e2 : t.kind = 7
    · by_cases e3 : c = 0
      · rw [if_neg (fun hh => hh.2 e3)] at hF
        go_wp2_with fail
        refine bodyPost_ret (v := .tuple #[]) (by simp [results, Tryz.results32, go_sem]) rfl ?_
        exact hF.out _ (t.at_, x) (((HB.out.set 5 (by simp) _).set 4 (by simp) _).next (B1.out _ _)) (TD.out _ _ ((T0.out.andSet _ _ (.inl (by simp))).andSet _ _ (.inl (by simp)))) rfl
      · rw [if_pos ⟨e2, e3⟩] at hF
        have k3 : (c != 0) = true := by simpa using e3
        go_wp2_with fail
        refine bodyPost_ret (v := .tuple #[]) (by simp [results, Tryz.results32, go_sem]) rfl ?_
        exact hF.out _ (t.at_, c) ((((HB.out.set 5 (by simp) _).set 4 (by simp) _).set 4 (by simp) _).next (B1.out _ _)) (TD.out _ _ (((T0.out.andSet _ _ (.inl (by simp))).andSet _ _ (.inl (by simp))).andSet _ _ (.inl (by simp)))) rfl
    · rw [if_neg (fun hh => e2 hh.1)] at hF
      have k2 : (t.kind == 7) = false := by simpa using e2
      go_wp2_with fail
      refine bodyPost_ret (v := .tuple #[]) (by simp [results, Tryz.results32, go_sem]) rfl ?_
      exact hF.out _ (t.at_, x) (((HB.out.set 5 (by simp) _).set 4 (by simp) _).next (B1.out _ _)) (TD.out _ _ ((T0.out.andSet _ _ (.inl (by simp))).andSet _ _ (.inl (by simp)))) rfl
  · rw [if_neg (by rw [hgood, decide_eq_false e1]; simp)]
    have hP : Hid (WrP z w rb tb LL c S o (.returned (.tuple #[])) w) := ⟨rfl, Turn.refl _ _, off, cap, i, ov, h⟩
    generalize WrP z w rb tb LL c S o = Post at *
    have c4 := h.box.cell 4 _ rfl
    have hl := h.box.lt
    generalize erI S.er = er at *
    generalize erW S.er = wh at *
    have k1 : (er != 0) = true := by simpa using e1
    clear h HX hgood
    go_enter Tryz.func32, Tryz.ntmps32
    go_wp2_with fail
    refine bodyPost_ret (v := .tuple #[]) (by simp [results, Tryz.results32, go_sem]) rfl ?_
    exact hP.out
end Go.Proofs.YtecdfnpbcabdnaaGreatDoor
