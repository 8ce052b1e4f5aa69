/- Package parse: may, begin, close, end, unit, term, number. -/
import Derived.Test.YtecdfnpbcabdnaaGreatDoorPxA
import Derived.Deep.RegionHeld2
namespace Go.Proofs.YtecdfnpbcabdnaaGreatDoor
open Go.RowKit Go.Lib

theorem mustS_of {c : Int} {x : ByteArray} {L : List Tk} {t : Tk} (hx : nxt c L = .ok t) (h : isT x t = true) : mustS c x L = .ok (t.at_, L.tail) := by unfold mustS; rw [hx]; exact if_pos h
set_option maxHeartbeats 1000000 in
theorem may_c {z rb tb lb : Nat} {c : Int} {L : List Tk} {o : Nat} (x : ByteArray) (w : World) (hr : Rea z w rb tb lb c L o) :
    Calls Tryz.prog 75 #[.pointer (some ⟨rb, 0, none⟩), .string x] w (Out VBo z w rb tb lb c o (mayS c x L)) := by
  rcases hx : nxt c L with f | t
  · have HI := hid2 (is_err hx x w hr)
    have hP : Hid (∀ w', Turn [rb] w w' → Out VBo z w rb tb lb c o (mayS c x L) (.panicked [fltE f]) w') := fun w' ht => Out.mk_err (by unfold mayS; rw [hx]; rfl) ht
    generalize Out VBo z w rb tb lb c o (mayS c x L) = Post at *
    clear hr hx
    go_enter Tryz.func75, Tryz.ntmps75
    go_wp2_with fail
    refine Calls.mono HI.out ?_
    rintro e w1 ⟨rfl, b1⟩
    go_wp2_with fail
    exact ⟨rfl, hP.out _ (Turn.of_below b1)⟩
  · cases h1 : isT x t with
    | true =>
      have HI := hid2 (is_ok hx x w hr)
      have HM := hid2 (fun W (k : Below w.heap.size w W) => must_c x W (hr.next k))
      rw [mustS_of hx h1] at HM
      have hP : Hid (∀ w', Turn [rb] w w' → Rea z w' rb tb lb c L.tail o → Out VBo z w rb tb lb c o (mayS c x L) (.returned (.bool true)) w') := fun w' ht hr' => Out.mk_ok (by unfold mayS; rw [hx]; exact if_pos h1) ht rfl hr'
      generalize Out VBo z w rb tb lb c o (mayS c x L) = Post at *
      rw [h1] at HI
      clear hr hx h1
      go_enter Tryz.func75, Tryz.ntmps75
      go_wp2_with fail
      refine Calls.mono HI.out ?_
      rintro e w1 ⟨rfl, b1⟩
      go_wp2_with fail
      refine Calls.mono (HM.out _ b1) ?_
      rintro e w2 ⟨t2, v, rfl, rfl, r2⟩
      go_wp2_with fail
      try go_ret
      exact hP.out _ ((Turn.of_below b1).trans t2 (fun i hi => .inl hi)) r2
    | false =>
      have HI := hid2 (is_ok hx x w hr)
      have hP : Hid (∀ w', Below w.heap.size w w' → Out VBo z w rb tb lb c o (mayS c x L) (.returned (.bool false)) w') := fun w' hb => Out.mk_ok (by unfold mayS; rw [hx]; exact if_neg (by rw [h1]; simp)) (Turn.of_below hb) rfl (hr.next hb)
      generalize Out VBo z w rb tb lb c o (mayS c x L) = Post at *
      rw [h1] at HI
      clear hr hx h1
      go_enter Tryz.func75, Tryz.ntmps75
      go_wp2_with fail
      refine Calls.mono HI.out ?_
      rintro e w1 ⟨rfl, b1⟩
      go_wp2_with fail
      try go_ret
      exact hP.out _ b1
theorem Rea.opened {z : Nat} {w : World} {rb tb lb : Nat} {c : Int} {L : List Tk} {o : Nat} (h : Rea z w rb tb lb c L o) (o' : Nat) (ho : o' ≤ 64) : Rea z (w.setCell ⟨rb, 2, none⟩ (.int .i64 (o' : Nat))) rb tb lb c L o' := by
  obtain ⟨off, cap, h⟩ := h
  have h1 := h.nt
  have h2 := h.nl
  refine ⟨off, cap, h.box.set 2 (by simp) _, h.le, h.mx, fun q u hu => ?_, fun q u hu => ?_, h.nt, h.nl, by simpa using h.lt, by simpa using h.ll, h.tl, ho, h.ci⟩
  · rw [World.cell?_setCell_far _ _ _ _ (by simpa using fun h => h1 h.symm)]
    exact h.toks _ _ hu
  · rw [World.cell?_setCell_far _ _ _ _ (by simpa using fun h => h2 h.symm)]
    exact h.levs _ _ hu
theorem Rea.c2 {z : Nat} {w : World} {rb tb lb : Nat} {c : Int} {L : List Tk} {o : Nat} (h : Rea z w rb tb lb c L o) : w.cell? ⟨rb, 2, none⟩ = some (.int .i64 (o : Nat)) ∧ w.frozen? ⟨rb, 2, none⟩ = false ∧ rb < w.heap.size ∧ o ≤ 64 := by
  obtain ⟨off, cap, h⟩ := h
  exact ⟨h.box.cell 2 _ rfl, h.box.free 2 (by simp), h.box.lt, h.dp⟩
/-- begin: a bracket is open, or one too many is. -/
def BegP (x : ByteArray) (z : Nat) (w : World) (rb tb lb : Nat) (c : Int) (o : Nat) (L : List Tk) (e : Ending) (w' : World) : Prop :=
  Turn [rb] w w' ∧ match mustS c x L with
    | .ok y => if o = 64 then e = .panicked [fltE (y.1, 15)] else e = .returned (.tuple #[]) ∧ Rea z w' rb tb lb c y.2 (o + 1)
    | .error f => e = .panicked [fltE f]
set_option maxHeartbeats 1000000 in
theorem begin_c {z rb tb lb : Nat} {c : Int} {L : List Tk} {o : Nat} (x : ByteArray) (w : World) (hr : Rea z w rb tb lb c L o) :
    Calls Tryz.prog 102 #[.pointer (some ⟨rb, 0, none⟩), .string x] w (BegP x z w rb tb lb c o L) := by
  have HM := hid2 (must_c x w hr)
  rcases hx : mustS c x L with f | y
  · have hP : Hid (∀ w', Turn [rb] w w' → BegP x z w rb tb lb c o L (.panicked [fltE f]) w') := fun w' ht => ⟨ht, by rw [hx]⟩
    generalize BegP x z w rb tb lb c o L = Post at *
    rw [hx] at HM
    clear hr hx
    go_enter Tryz.func102, Tryz.ntmps102
    go_wp2_with fail
    refine Calls.mono HM.out ?_
    rintro e w1 ⟨t1, rfl⟩
    go_wp2_with fail
    exact ⟨rfl, hP.out _ t1⟩
  · by_cases h1 : o = 64
    · have hP : Hid (∀ w', Turn [rb] w w' → BegP x z w rb tb lb c o L (.panicked [fltE (y.1, 15)]) w') := fun w' ht => ⟨ht, by rw [hx]; show (if o = 64 then _ else _); rw [if_pos h1]⟩
      generalize BegP x z w rb tb lb c o L = Post at *
      rw [hx] at HM
      clear hr hx
      go_enter Tryz.func102, Tryz.ntmps102
      go_wp2_with fail
      refine Calls.mono HM.out ?_
      rintro e w1 ⟨t1, v, rfl, rfl, r1⟩
      obtain ⟨c2, f2, hl, ho⟩ := r1.c2
      have hL := r1.lts
      have h64 : ((o : Nat) : Int) = 64 := by omega
      rw [h64] at c2
      clear r1
      go_wp2_with fail
      exact ⟨rfl, hP.out _ t1⟩
    · have hP : Hid (∀ w', Turn [rb] w w' → Rea z w' rb tb lb c y.2 (o + 1) → BegP x z w rb tb lb c o L (.returned (.tuple #[])) w') := fun w' ht hr' => ⟨ht, by rw [hx]; show (if o = 64 then _ else _); rw [if_neg h1]; exact ⟨rfl, hr'⟩⟩
      generalize BegP x z w rb tb lb c o L = Post at *
      rw [hx] at HM
      clear hr hx
      go_enter Tryz.func102, Tryz.ntmps102
      go_wp2_with fail
      refine Calls.mono HM.out ?_
      rintro e w1 ⟨t1, v, rfl, rfl, r1⟩
      obtain ⟨c2, f2, hl, ho⟩ := r1.c2
      have R := hid2 r1
      have h64 : ¬ ((o : Nat) : Int) = 64 := by omega
      clear r1
      go_wp2_with fail
      go_end0
      exact hP.out _ (t1.andSet _ _ (.inl (by simp))) (R.out.opened (o + 1) (by omega))
set_option maxHeartbeats 1000000 in
theorem close_c {z rb tb lb : Nat} {c : Int} {L : List Tk} {o : Nat} (x : ByteArray) (w : World) (hr : Rea z w rb tb lb c L (o + 1)) :
    Calls Tryz.prog 104 #[.pointer (some ⟨rb, 0, none⟩), .string x] w (Out VNo z w rb tb lb c o (mustS c x L)) := by
  have HM := hid2 (must_c x w hr)
  rcases hx : mustS c x L with f | y
  · have hP : Hid (∀ w', Turn [rb] w w' → Out VNo z w rb tb lb c o (mustS c x L) (.panicked [fltE f]) w') := fun w' ht => Out.mk_err hx ht
    rw [← hx]
    generalize Out VNo z w rb tb lb c o (mustS c x L) = Post at *
    rw [hx] at HM
    clear hr hx
    go_enter Tryz.func104, Tryz.ntmps104
    go_wp2_with fail
    refine Calls.mono HM.out ?_
    rintro e w1 ⟨t1, rfl⟩
    go_wp2_with fail
    exact ⟨rfl, hP.out _ t1⟩
  · have hP : Hid (∀ w', Turn [rb] w w' → Rea z w' rb tb lb c y.2 o → Out VNo z w rb tb lb c o (mustS c x L) (.returned (.tuple #[])) w') := fun w' ht hr' => Out.mk_ok hx ht rfl hr'
    rw [← hx]
    generalize Out VNo z w rb tb lb c o (mustS c x L) = Post at *
    rw [hx] at HM
    clear hr hx
    go_enter Tryz.func104, Tryz.ntmps104
    go_wp2_with fail
    refine Calls.mono HM.out ?_
    rintro e w1 ⟨t1, v, rfl, rfl, r1⟩
    obtain ⟨c2, f2, hl, ho⟩ := r1.c2
    have R := hid2 r1
    clear r1
    go_wp2_with fail
    go_end0
    exact hP.out _ (t1.andSet _ _ (.inl (by simp))) (R.out.opened o (by omega))
/-- end: nothing is left. -/
def EndQ (w : World) (c : Int) (L : List Tk) (e : Ending) (w' : World) : Prop :=
  Below w.heap.size w w' ∧ match (endP c ((), L) : Except Flt Unit) with
    | .ok _ => e = .returned (.tuple #[])
    | .error f => e = .panicked [fltE f]
set_option maxHeartbeats 1000000 in
theorem end_c {z rb tb lb : Nat} {c : Int} {L : List Tk} {o : Nat} (w : World) (hr : Rea z w rb tb lb c L o) :
    Calls Tryz.prog 26 #[.pointer (some ⟨rb, 0, none⟩)] w (EndQ w c L) := by
  have g0 := fld0
  rcases hx : nxt c L with f | t
  · have HN := hid2 (next_err hx w hr)
    have hP : Hid (∀ w', Below w.heap.size w w' → EndQ w c L (.panicked [fltE f]) w') := fun w' ht => ⟨ht, by unfold endP; rw [hx]; rfl⟩
    generalize EndQ w c L = Post at *
    clear hr hx
    go_enter Tryz.func26, Tryz.ntmps26
    go_wp2_with fail
    refine Calls.mono HN.out ?_
    rintro e w1 ⟨rfl, b1⟩
    go_wp2_with fail
    exact ⟨rfl, hP.out _ b1⟩
  · have HN := hid2 (next_ok hx w hr)
    by_cases h1 : t.kind = 7
    · have hP : Hid (∀ w', Below w.heap.size w w' → EndQ w c L (.returned (.tuple #[])) w') := fun w' ht => ⟨ht, by unfold endP; rw [hx, bnd_ok, if_pos h1]⟩
      generalize EndQ w c L = Post at *
      clear hr hx
      go_enter Tryz.func26, Tryz.ntmps26
      go_wp2_with fail
      refine Calls.mono HN.out ?_
      rintro e w1 ⟨rfl, b1⟩
      go_wp2_with fail
      go_end0
      exact hP.out _ b1
    · have hP : Hid (∀ w', Below w.heap.size w w' → EndQ w c L (.panicked [fltE (t.at_, 16)]) w') := fun w' ht => ⟨ht, by unfold endP; rw [hx, bnd_ok, if_neg h1]⟩
      have HU := hid2 (fun W (k : Below w.heap.size w W) => unfit_ok hx W (hr.next k))
      have hk : (t.kind != 7) = true := by simpa using h1
      generalize EndQ w c L = Post at *
      clear hr hx
      go_enter Tryz.func26, Tryz.ntmps26
      go_wp2_with fail
      refine Calls.mono HN.out ?_
      rintro e w1 ⟨rfl, b1⟩
      go_wp2_with fail
      refine Calls.mono (HU.out _ b1) ?_
      rintro e w2 ⟨rfl, b2⟩
      go_wp2_with fail
      exact ⟨rfl, hP.out _ (below_on b1 b2 b1.size)⟩
set_option maxHeartbeats 1000000 in
theorem unit_c {z rb tb lb : Nat} {c : Int} {L : List Tk} {o : Nat} (w : World) (hr : Rea z w rb tb lb c L o) :
    Calls Tryz.prog 74 #[.pointer (some ⟨rb, 0, none⟩)] w (Out VSt z w rb tb lb c o (unitP c L)) := by
  have g0 := fld0
  have g1 := fld1
  rcases hx : nxt c L with f | t
  · have HN := hid2 (next_err hx w hr)
    have hP : Hid (∀ w', Turn [rb] w w' → Out VSt z w rb tb lb c o (unitP c L) (.panicked [fltE f]) w') := fun w' ht => Out.mk_err (by unfold unitP; rw [hx]; rfl) ht
    generalize Out VSt z w rb tb lb c o (unitP c L) = Post at *
    clear hr hx
    go_enter Tryz.func74, Tryz.ntmps74
    go_wp2_with fail
    refine Calls.mono HN.out ?_
    rintro e w1 ⟨rfl, b1⟩
    go_wp2_with fail
    exact ⟨rfl, hP.out _ (Turn.of_below b1)⟩
  · have HN := hid2 (next_ok hx w hr)
    by_cases h1 : t.kind = 8
    · have HT := hid2 (fun W (k : Below w.heap.size w W) => take_c2 8 (by decide) W (hr.next k))
      have ht : takeK c 8 L = .ok (t, L.tail) := by unfold takeK; rw [hx]; exact if_pos h1
      rw [ht] at HT
      have hP : Hid (∀ w', Turn [rb] w w' → Rea z w' rb tb lb c L.tail o → Out VSt z w rb tb lb c o (unitP c L) (.returned (.string t.text)) w') := fun w' ht hr' => Out.mk_ok (by unfold unitP; rw [hx]; exact if_pos h1) ht rfl hr'
      generalize Out VSt z w rb tb lb c o (unitP c L) = Post at *
      clear hr hx ht
      go_enter Tryz.func74, Tryz.ntmps74
      go_wp2_with fail
      refine Calls.mono HN.out ?_
      rintro e w1 ⟨rfl, b1⟩
      go_wp2_with fail
      refine Calls.mono (HT.out _ b1) ?_
      rintro e w2 ⟨t2, v, rfl, rfl, r2⟩
      simp only [tkW]
      go_wp2_with fail
      try go_ret
      exact hP.out _ ((Turn.of_below b1).trans t2 (fun i hi => .inl hi)) r2
    · have hk : (t.kind != 8) = true := by simpa using h1
      have hP : Hid (∀ w', Below w.heap.size w w' → Out VSt z w rb tb lb c o (unitP c L) (.returned (.string ⟨#[]⟩)) w') := fun w' hb => Out.mk_ok (by unfold unitP; rw [hx]; exact if_neg h1) (Turn.of_below hb) rfl (hr.next hb)
      generalize Out VSt z w rb tb lb c o (unitP c L) = Post at *
      clear hr hx
      go_enter Tryz.func74, Tryz.ntmps74
      go_wp2_with fail
      refine Calls.mono HN.out ?_
      rintro e w1 ⟨rfl, b1⟩
      go_wp2_with fail
      try go_ret
      exact hP.out _ b1
theorem term_c (k a : Int) (ad : Option Addr) (n cap : Nat) (w : World) : Calls Tryz.prog 76 #[.int .i64 k, .int .i64 a, .slice ad n cap] w fun e w' => e = .returned (.agg #[.int .i64 k, .string ⟨#[]⟩, .int .i64 0, .int .i64 0, .int .i64 a, .slice ad n cap]) ∧ Below w.heap.size w w' := by
  have B0 : Hid (∀ o, Below w.heap.size w (w.alloc o)) := fun o => (Below.refl _ _).alloc (Nat.le_refl _) _
  go_enter Tryz.func76, Tryz.ntmps76
  go_wp2_with fail
  refine bodyPost_ret (v := .agg #[.int .i64 k, .string ⟨#[]⟩, .int .i64 0, .int .i64 0, .int .i64 a, .slice ad n cap]) (by simp [results, Tryz.results76, go_sem, *]) rfl ⟨rfl, ?_⟩
  exact B0.out _
abbrev VTm (B z : Nat) : Tm → Value → World → Prop := fun t v w' => ∃ u, v = tmV t u ∧ SitB B z w' t u
abbrev zs6 : List Value := [.int .i64 0, .string ⟨#[]⟩, .int .i64 0, .int .i64 0, .int .i64 0, .slice none 0 0]
theorem takeK_inv {c k : Int} {L : List Tk} {y : Tk × List Tk} (h : takeK c k L = .ok y) : y = (hdT L, L.tail) ∧ (hdT L).kind = k := by
  obtain ⟨t, h1, h2⟩ := bnd_inv h
  unfold nxt at h1
  split at h1
  · cases h1
  · cases h1
    split at h2
    · cases h2
      exact ⟨rfl, by assumption⟩
    · cases h2
theorem takeK_tl {z : Nat} {c k : Int} {L : List Tk} {y : Tk × List Tk} (hL : TL z L) (h : takeK c k L = .ok y) (hk : k ≠ 7) : TkOk z y.1 ∧ TL z y.2 := by
  obtain ⟨rfl, h2⟩ := takeK_inv h
  exact ⟨hL.ok, hL.tail (by rw [h2]; exact hk)⟩
theorem nxt_inv {c : Int} {L : List Tk} {t : Tk} (h : nxt c L = .ok t) : t = hdT L := by
  unfold nxt at h
  split at h
  · cases h
  · cases h; rfl
theorem unit_size {z : Nat} {c : Int} {L : List Tk} {u : ByteArray × List Tk} (hL : TL z L) (h : unitP c L = .ok u) : u.1.size ≤ z := by
  obtain ⟨t, h1, h2⟩ := bnd_inv h
  obtain rfl := nxt_inv h1
  split at h2
  · cases h2; exact hL.ok.x
  · cases h2; exact Nat.zero_le _
/-- Places and numbers are what Go may hold. -/
theorem at64 {z : Nat} {t : Tk} (hz : z ≤ 9223372036854775807) (h : TkOk z t) : In64 (t.at_ : Int) := by
  have := h.a
  unfold In64
  omega
theorem n64 {z : Nat} {t : Tk} (h : TkOk z t) : In64 t.n := by
  have := h.n
  unfold In64
  omega
theorem zero64 : In64 0 := by unfold In64; omega
theorem fit_num {z : Nat} {c : Int} {L : List Tk} {t : Tk × List Tk} {u : ByteArray × List Tk} (hz : z ≤ 9223372036854775807) (hL : TL z L) (hx : takeK c 2 L = .ok t) (hy : unitP c t.2 = .ok u) : Fit z ⟨1, u.1, t.1.n, 0, (t.1.at_ : Int), []⟩ := by
  obtain ⟨h1, h2⟩ := takeK_tl hL hx (by decide)
  exact ⟨by show In64 1; unfold In64; omega, n64 h1, zero64, at64 hz h1, unit_size h2 hy⟩
set_option maxHeartbeats 1000000 in
theorem numb_c {z rb tb lb : Nat} {c : Int} {L : List Tk} {o : Nat} (hz : z ≤ 9223372036854775807) (w : World) (hr : Rea z w rb tb lb c L o) :
    Calls Tryz.prog 109 #[.pointer (some ⟨rb, 0, none⟩)] w (Out (VTm w.heap.size z) z w rb tb lb c o (numberP c L)) := by
  have g0 := fld0
  have HT := hid2 (fun W (k : Below w.heap.size w W) => take_c2 2 (by decide) W (hr.next k))
  rcases hx : takeK c 2 L with f | t
  · rw [hx] at HT
    have hP : Hid (∀ w', Turn [rb] w w' → Out (VTm w.heap.size z) z w rb tb lb c o (numberP c L) (.panicked [fltE f]) w') := fun w' ht => Out.mk_err (by unfold numberP; rw [hx]; rfl) ht
    generalize Out (VTm w.heap.size z) z w rb tb lb c o (numberP c L) = Post at *
    clear hr hx
    go_enter Tryz.func109, Tryz.ntmps109
    go_wp2_with fail
    refine Calls.mono (HT.out _ ((Below.refl _ _).alloc (Nat.le_refl _) _)) ?_
    rintro e w1 ⟨t1, rfl⟩
    go_wp2_with fail
    exact ⟨rfl, hP.out _ ((Turn.of_below ((Below.refl _ _).alloc (Nat.le_refl _) _)).trans t1 (fun i hi => .inl hi))⟩
  · rw [hx] at HT
    have hL := hr.lts
    have hok := hr.tl
    rcases hy : unitP c t.2 with f | u
    · have hP : Hid (∀ w', Turn [rb] w w' → Out (VTm w.heap.size z) z w rb tb lb c o (numberP c L) (.panicked [fltE f]) w') := fun w' ht => Out.mk_err (by unfold numberP; rw [hx, bnd_ok, hy]; rfl) ht
      have HU := hid2 (fun W (h : Rea z W rb tb lb c t.2 o) => unit_c W h)
      rw [hy] at HU
      generalize Out (VTm w.heap.size z) z w rb tb lb c o (numberP c L) = Post at *
      clear hr hx
      go_enter Tryz.func109, Tryz.ntmps109
      go_wp2_with fail
      refine Calls.mono (HT.out _ ((Below.refl _ _).alloc (Nat.le_refl _) _)) ?_
      rintro e w1 ⟨t1, v, rfl, rfl, r1⟩
      have T1 := (Turn.of_below (S := [rb]) ((Below.refl _ _).alloc (Nat.le_refl _) _)).trans t1 (fun i hi => .inl hi)
      have hg : rb ≠ w.heap.size := by omega
      have RB0 := (Box.new w zs6 33).turn t1 (by simp; omega)
      have g2 := t1.size
      simp only [World.size_alloc] at g2
      clear t1
      simp only [tkW]
      go_wp2_with fail
      have RB := hid2 (RB0.next ((Below.refl _ w1).alloc (Nat.le_refl _) (.cells #[.int .i64 t.1.kind, .string t.1.text, .int .i64 t.1.n, .int .i64 (t.1.at_ : Nat)] 47)))
      have TB := hid2 (Box.new w1 (tkC t.1) 47)
      have R := hid2 (r1.next ((Below.refl _ w1).alloc (Nat.le_refl _) (.cells #[.int .i64 t.1.kind, .string t.1.text, .int .i64 t.1.n, .int .i64 (t.1.at_ : Nat)] 47)))
      have T := hid2 (T1.andBelow ((Below.refl _ w1).alloc (Nat.le_refl _) (.cells #[.int .i64 t.1.kind, .string t.1.text, .int .i64 t.1.n, .int .i64 (t.1.at_ : Nat)] 47)))
      clear RB0 T1 r1
      have sz := World.size_alloc w1 (.cells #[.int .i64 t.1.kind, .string t.1.text, .int .i64 t.1.n, .int .i64 (t.1.at_ : Nat)] 47)
      generalize hW : w1.alloc _ = W at *
      have k2 := TB.out.cell 2 _ rfl
      have k3 := TB.out.cell 3 _ rfl
      clear hW
      go_region_dies
      all_goals refine Calls.mono (HU.out _ (R.out.next (Below.refl _ _).drew)) ?_
      all_goals rintro e w2 ⟨t2, rfl⟩
      all_goals exact ⟨rfl, hP.out _ (T.out.trans ((Turn.of_below (Below.refl _ _).drew).trans t2 (fun i hi => .inl hi)) (fun i hi => .inl hi))⟩
    · have hP : Hid (∀ w' v, Turn [rb] w w' → Rea z w' rb tb lb c u.2 o → v = .agg #[.int .i64 1, .string u.1, .int .i64 t.1.n, .int .i64 0, .int .i64 (t.1.at_ : Nat), .slice none 0 0] → Out (VTm w.heap.size z) z w rb tb lb c o (numberP c L) (.returned v) w') := fun w' v ht hr' hv => Out.mk_ok (by unfold numberP; rw [hx, bnd_ok, hy]; rfl) ht ⟨.slice none 0 0, hv, sitb_leaf (fit_num hz hok hx hy) rfl⟩ hr'
      have HU := hid2 (fun W (h : Rea z W rb tb lb c t.2 o) => unit_c W h)
      rw [hy] at HU
      generalize Out (VTm w.heap.size z) z w rb tb lb c o (numberP c L) = Post at *
      clear hr hx
      go_enter Tryz.func109, Tryz.ntmps109
      go_wp2_with fail
      refine Calls.mono (HT.out _ ((Below.refl _ _).alloc (Nat.le_refl _) _)) ?_
      rintro e w1 ⟨t1, v, rfl, rfl, r1⟩
      have T1 := (Turn.of_below (S := [rb]) ((Below.refl _ _).alloc (Nat.le_refl _) _)).trans t1 (fun i hi => .inl hi)
      have hg : rb ≠ w.heap.size := by omega
      have RB0 := (Box.new w zs6 33).turn t1 (by simp; omega)
      have g2 := t1.size
      simp only [World.size_alloc] at g2
      clear t1
      simp only [tkW]
      go_wp2_with fail
      have RB := hid2 (RB0.next ((Below.refl _ w1).alloc (Nat.le_refl _) (.cells #[.int .i64 t.1.kind, .string t.1.text, .int .i64 t.1.n, .int .i64 (t.1.at_ : Nat)] 47)))
      have TB := hid2 (Box.new w1 (tkC t.1) 47)
      have R := hid2 (r1.next ((Below.refl _ w1).alloc (Nat.le_refl _) (.cells #[.int .i64 t.1.kind, .string t.1.text, .int .i64 t.1.n, .int .i64 (t.1.at_ : Nat)] 47)))
      have T := hid2 (T1.andBelow ((Below.refl _ w1).alloc (Nat.le_refl _) (.cells #[.int .i64 t.1.kind, .string t.1.text, .int .i64 t.1.n, .int .i64 (t.1.at_ : Nat)] 47)))
      clear RB0 T1 r1
      have sz := World.size_alloc w1 (.cells #[.int .i64 t.1.kind, .string t.1.text, .int .i64 t.1.n, .int .i64 (t.1.at_ : Nat)] 47)
      generalize hW : w1.alloc _ = W at *
      have k2 := TB.out.cell 2 _ rfl
      have k3 := TB.out.cell 3 _ rfl
      clear hW
      go_region_held3 (fun w' => w'.cell? ⟨w1.heap.size, 2, none⟩ = some (.int .i64 t.1.n) ∧ w'.cell? ⟨w1.heap.size, 3, none⟩ = some (.int .i64 (t.1.at_ : Nat))) (simp [go_sem, *]) (first | (go_at_call 74; refine Calls.mono (HU.out _ (R.out.next (Below.refl _ _).drew)) ?_; rintro e w2 ⟨t2, v, rfl, rfl, r2⟩; have t3 := (Turn.of_below (S := [rb]) (Below.refl _ _).drew).trans t2 (fun i hi => .inl hi); have T2 := hid2 (T.out.trans t3 (fun i hi => .inl hi)); obtain ⟨p0, p1, p2, p3, p4, p5, q0, q1, q2, q3, q4, q5⟩ := (RB.out.turn t3 (by simp; omega)).six; have m2 := (TB.out.turn t3 (by simp; omega)).cell 2 _ rfl; have m3 := (TB.out.turn t3 (by simp; omega)).cell 3 _ rfl; have R2 := hid2 r2; clear t3 t2 r2))
      all_goals go_wp2_with fail
      all_goals refine bodyPost_ret (v := .agg #[.int .i64 1, .string u.1, .int .i64 t.1.n, .int .i64 0, .int .i64 (t.1.at_ : Nat), .slice none 0 0]) (by simp [results, Tryz.results109, go_sem, *]) rfl (hP.out _ _ ?_ ?_ rfl)
      all_goals first
        | exact T2.out.trans (turn_six _ _ _ _ _ _ _ _) (fun i hi => .inr (by simp at hi; omega))
        | exact Rea.turn1 R2.out (turn_six _ _ _ _ _ _ _ _) hL
end Go.Proofs.YtecdfnpbcabdnaaGreatDoor
