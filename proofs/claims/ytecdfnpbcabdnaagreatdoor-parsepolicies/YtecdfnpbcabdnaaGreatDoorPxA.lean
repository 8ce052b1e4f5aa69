/- Package parse: the reader; next, unfit, is, take. -/
import Derived.Test.YtecdfnpbcabdnaaGreatDoorPyB
import Derived.Test.YtecdfnpbcabdnaaGreatDoorPxM
import Derived.Deep.RegionHeld3
import Derived.WalkLawsBesides
import Derived.RegionDies
namespace Go.Proofs.YtecdfnpbcabdnaaGreatDoor
open Go.RowKit Go.Lib

/-- What the reader gives up with. -/
abbrev fltV (f : Flt) : Value := .agg #[.int .i64 (f.1 : Nat), .int .i64 f.2]
abbrev fltE (f : Flt) : PanicEntry := { v := .iface 74 (fltV f), recovered := false }
abbrev tkW (t : Tk) : Value := .agg #[.int .i64 t.kind, .string t.text, .int .i64 t.n, .int .i64 (t.at_ : Nat)]
abbrev tkC (t : Tk) : List Value := [.int .i64 t.kind, .string t.text, .int .i64 t.n, .int .i64 (t.at_ : Nat)]
def tkL (L : List Tk) : List Value := L.flatMap tkC
abbrev lvC : List Value := [.func (.func 65) #[] #[], .func (.func 66) #[] #[], .func (.func 67) #[] #[], .func (.func 68) #[] #[], .func (.func 69) #[] #[]]
abbrev rdL (tb off n cap : Nat) (c : Int) (o lb : Nat) : List Value := [.slice (some ⟨tb, off, none⟩) n cap, .int .i64 c, .int .i64 (o : Nat), .slice (some ⟨lb, 0, none⟩) 5 5]
theorem Box.six {w : World} {g : Nat} {v0 v1 v2 v3 v4 v5 : Value} (h : Box w g [v0, v1, v2, v3, v4, v5]) : w.cell? ⟨g, 0, none⟩ = some v0 ∧ w.cell? ⟨g, 1, none⟩ = some v1 ∧ w.cell? ⟨g, 2, none⟩ = some v2 ∧ w.cell? ⟨g, 3, none⟩ = some v3 ∧ w.cell? ⟨g, 4, none⟩ = some v4 ∧ w.cell? ⟨g, 5, none⟩ = some v5 ∧ w.frozen? ⟨g, 0, none⟩ = false ∧ w.frozen? ⟨g, 1, none⟩ = false ∧ w.frozen? ⟨g, 2, none⟩ = false ∧ w.frozen? ⟨g, 3, none⟩ = false ∧ w.frozen? ⟨g, 4, none⟩ = false ∧ w.frozen? ⟨g, 5, none⟩ = false :=
  ⟨h.cell 0 _ rfl, h.cell 1 _ rfl, h.cell 2 _ rfl, h.cell 3 _ rfl, h.cell 4 _ rfl, h.cell 5 _ rfl, h.free 0 (by simp), h.free 1 (by simp), h.free 2 (by simp), h.free 3 (by simp), h.free 4 (by simp), h.free 5 (by simp)⟩
/-- One block alone was written into. -/
theorem turn_set (w : World) (g k : Nat) (v : Value) : Turn [g] w (w.setCell ⟨g, k, none⟩ v) := (Turn.refl [g] w).andSet _ _ (.inl (by simp))
theorem turn_one {a b d : World} {g : Nat} (h : Turn [g] a b) (k : Turn [g] b d) : Turn [g] a d := h.trans k (fun _ hi => .inl hi)
theorem turn_four (w : World) (g : Nat) (v0 v1 v2 v3 : Value) : Turn [g] w ((((w.setCell ⟨g, 0, none⟩ v0).setCell ⟨g, 1, none⟩ v1).setCell ⟨g, 2, none⟩ v2).setCell ⟨g, 3, none⟩ v3) :=
  turn_one (turn_one (turn_one (turn_set _ _ _ _) (turn_set _ _ _ _)) (turn_set _ _ _ _)) (turn_set _ _ _ _)
theorem turn_six (w : World) (g : Nat) (v0 v1 v2 v3 v4 v5 : Value) : Turn [g] w ((((((w.setCell ⟨g, 0, none⟩ v0).setCell ⟨g, 1, none⟩ v1).setCell ⟨g, 2, none⟩ v2).setCell ⟨g, 3, none⟩ v3).setCell ⟨g, 4, none⟩ v4).setCell ⟨g, 5, none⟩ v5) :=
  turn_one (turn_one (turn_four _ _ _ _ _ _) (turn_set _ _ _ _)) (turn_set _ _ _ _)
/-- A reader at rb: its tokens, the last of which is the end, lie in tb; o brackets are open. -/
structure ReaX (z : Nat) (w : World) (rb tb lb : Nat) (c : Int) (L : List Tk) (o off cap : Nat) : Prop where
  box : Box w rb (rdL tb off L.length cap c o lb)
  le : L.length ≤ cap
  mx : cap ≤ 9223372036854775807
  toks : ∀ q u, (tkL L)[q]? = some u → w.cell? ⟨tb, off + q, none⟩ = some u
  levs : ∀ q u, lvC[q]? = some u → w.cell? ⟨lb, q, none⟩ = some u
  nt : tb ≠ rb
  nl : lb ≠ rb
  lt : tb < w.heap.size
  ll : lb < w.heap.size
  tl : TL z L
  dp : o ≤ 64
  ci : In64 c
def Rea (z : Nat) (w : World) (rb tb lb : Nat) (c : Int) (L : List Tk) (o : Nat) : Prop := ∃ off cap, ReaX z w rb tb lb c L o off cap
theorem ReaX.next {z : Nat} {w w' : World} {rb tb lb : Nat} {c : Int} {L : List Tk} {o off cap : Nat} (h : ReaX z w rb tb lb c L o off cap) (k : Below w.heap.size w w') : ReaX z w' rb tb lb c L o off cap :=
  ⟨h.box.next k, h.le, h.mx, fun q u hu => (k.cell (p := ⟨tb, off + q, none⟩) h.lt).trans (h.toks q u hu), fun q u hu => (k.cell (p := ⟨lb, q, none⟩) h.ll).trans (h.levs q u hu), h.nt, h.nl, Nat.lt_of_lt_of_le h.lt k.size, Nat.lt_of_lt_of_le h.ll k.size, h.tl, h.dp, h.ci⟩
theorem Rea.next {z : Nat} {w w' : World} {rb tb lb : Nat} {c : Int} {L : List Tk} {o : Nat} (h : Rea z w rb tb lb c L o) (k : Below w.heap.size w w') : Rea z w' rb tb lb c L o := by
  obtain ⟨off, cap, h⟩ := h
  exact ⟨off, cap, h.next k⟩
theorem Rea.tl {z : Nat} {w : World} {rb tb lb : Nat} {c : Int} {L : List Tk} {o : Nat} (h : Rea z w rb tb lb c L o) : TL z L := by
  obtain ⟨off, cap, h⟩ := h
  exact h.tl
theorem Rea.rlt {z : Nat} {w : World} {rb tb lb : Nat} {c : Int} {L : List Tk} {o : Nat} (h : Rea z w rb tb lb c L o) : rb < w.heap.size := by
  obtain ⟨off, cap, h⟩ := h
  exact h.box.lt
theorem turn_cell {S : List Nat} {w w' : World} (k : Turn S w w') {b j : Nat} (hb : b < w.heap.size) (hS : b ∉ S) : w'.cell? ⟨b, j, none⟩ = w.cell? ⟨b, j, none⟩ := by
  unfold World.cell?
  rw [k.block b hb hS]
theorem ReaX.turn {z : Nat} {w w' : World} {rb tb lb : Nat} {c : Int} {L : List Tk} {o off cap : Nat} {S : List Nat} (h : ReaX z w rb tb lb c L o off cap) (k : Turn S w w') (h1 : rb ∉ S) (h2 : tb ∉ S) (h3 : lb ∉ S) : ReaX z w' rb tb lb c L o off cap :=
  ⟨h.box.turn k h1, h.le, h.mx, fun q u hu => (turn_cell k h.lt h2).trans (h.toks q u hu), fun q u hu => (turn_cell k h.ll h3).trans (h.levs q u hu), h.nt, h.nl, Nat.lt_of_lt_of_le h.lt k.size, Nat.lt_of_lt_of_le h.ll k.size, h.tl, h.dp, h.ci⟩
theorem Rea.turn {z : Nat} {w w' : World} {rb tb lb : Nat} {c : Int} {L : List Tk} {o : Nat} {S : List Nat} (h : Rea z w rb tb lb c L o) (k : Turn S w w') (h1 : rb ∉ S) (h2 : tb ∉ S) (h3 : lb ∉ S) : Rea z w' rb tb lb c L o := by
  obtain ⟨off, cap, h⟩ := h
  exact ⟨off, cap, h.turn k h1 h2 h3⟩
theorem Rea.lts {z : Nat} {w : World} {rb tb lb : Nat} {c : Int} {L : List Tk} {o : Nat} (h : Rea z w rb tb lb c L o) : rb < w.heap.size ∧ tb < w.heap.size ∧ lb < w.heap.size := by
  obtain ⟨off, cap, h⟩ := h
  exact ⟨h.box.lt, h.lt, h.ll⟩
/-- The block g is another one than the reader's. -/
theorem Rea.turn1 {z : Nat} {w w' : World} {rb tb lb : Nat} {c : Int} {L : List Tk} {o g : Nat} (h : Rea z w rb tb lb c L o) (k : Turn [g] w w') (hg : rb < g ∧ tb < g ∧ lb < g) : Rea z w' rb tb lb c L o :=
  h.turn k (by simp; omega) (by simp; omega) (by simp; omega)
theorem fld0 (a b c d : Value) (w : World) : (Instr.field 47 (.agg #[a, b, c, d]) 0).run Tryz.prog w = .ok a w := by kernel_rfl
theorem fld1 (a b c d : Value) (w : World) : (Instr.field 47 (.agg #[a, b, c, d]) 1).run Tryz.prog w = .ok b w := by kernel_rfl
theorem fld2 (a b c d : Value) (w : World) : (Instr.field 47 (.agg #[a, b, c, d]) 2).run Tryz.prog w = .ok c w := by kernel_rfl
theorem fld3 (a b c d : Value) (w : World) : (Instr.field 47 (.agg #[a, b, c, d]) 3).run Tryz.prog w = .ok d w := by kernel_rfl
theorem tkL_hd {L : List Tk} (hL : L ≠ []) (q : Nat) (hq : q < 4) : (tkL L)[q]? = (tkC (hdT L))[q]? := by
  cases L with
  | nil => exact absurd rfl hL
  | cons t L =>
    show (tkC t ++ tkL L)[q]? = _
    rw [List.getElem?_append_left (by simpa using hq)]
    rfl
theorem tkL_tl {L : List Tk} (hL : L ≠ []) (q : Nat) : (tkL L.tail)[q]? = (tkL L)[4 + q]? := by
  cases L with
  | nil => exact absurd rfl hL
  | cons t L =>
    show _ = (tkC t ++ tkL L)[4 + q]?
    rw [List.getElem?_append_right (by simp)]
    simp
/-- The next token's cells. -/
theorem ReaX.hd {z : Nat} {w : World} {rb tb lb : Nat} {c : Int} {L : List Tk} {o off cap : Nat} (h : ReaX z w rb tb lb c L o off cap) :
    w.cell? ⟨tb, off, none⟩ = some (.int .i64 (hdT L).kind) ∧ w.cell? ⟨tb, off + 1, none⟩ = some (.string (hdT L).text) ∧ w.cell? ⟨tb, off + 2, none⟩ = some (.int .i64 (hdT L).n) ∧ w.cell? ⟨tb, off + 3, none⟩ = some (.int .i64 ((hdT L).at_ : Nat)) := by
  have g := fun q (hq : q < 4) => h.toks q _ ((tkL_hd h.tl.ne q hq).trans (List.getElem?_eq_getElem (by simpa using hq)))
  exact ⟨by simpa using g 0 (by omega), by simpa using g 1 (by omega), by simpa using g 2 (by omega), by simpa using g 3 (by omega)⟩
def NxP (c : Int) (L : List Tk) (w : World) (e : Ending) (w' : World) : Prop := Below w.heap.size w w' ∧
  match nxt c L with
  | .ok t => e = .returned (tkW t)
  | .error f => e = .panicked [fltE f]
set_option maxHeartbeats 1000000 in
theorem next_c {z rb tb lb : Nat} {c : Int} {L : List Tk} {o : Nat} (w : World) (hr : Rea z w rb tb lb c L o) :
    Calls Tryz.prog 45 #[.pointer (some ⟨rb, 0, none⟩)] w (NxP c L w) := by
  obtain ⟨off, cap, h⟩ := hr
  obtain ⟨t0, t1, t2, t3⟩ := h.hd
  have c0 := h.box.cell 0 _ rfl
  have c1 := h.box.cell 1 _ rfl
  have hlt := h.box.lt
  have htl := h.lt
  have hpos : (0 : Int) < (L.length : Int) := by have := h.tl.pos; omega
  generalize hn : L.length = n at *
  have hP : Hid (∀ e w', Below w.heap.size w w' → (e = match nxt c L with | .ok t => .returned (tkW t) | .error f => .panicked [fltE f]) → NxP c L w e w') := fun e w' hb he => ⟨hb, by rw [he]; cases nxt c L <;> rfl⟩
  unfold nxt at hP
  generalize NxP c L w = Post at *
  generalize hdT L = t at *
  clear h hn
  have B1 : Hid (∀ o1 o2, Below w.heap.size w ((w.alloc o1).alloc o2)) := fun o1 o2 => ((Below.refl _ _).alloc (Nat.le_refl _) _).alloc (by simp) _
  by_cases h1 : t.kind = 7
  · by_cases h2 : c = 0
    · rw [if_neg (fun hh => hh.2 h2)] at hP
      go_enter Tryz.func45, Tryz.ntmps45
      go_wp2_with fail
      refine bodyPost_ret (v := tkW t) (by simp [results, Tryz.results45, go_sem, *]) rfl (hP.out _ _ ?_ rfl)
      exact B1.out _ _
    · rw [if_pos ⟨h1, h2⟩] at hP
      have hc : (c != 0) = true := by simpa using h2
      go_enter Tryz.func45, Tryz.ntmps45
      go_wp2_with fail
      go_region_dies
      all_goals try go_wp2_with fail
      all_goals exact ⟨rfl, hP.out _ _ (B1.out _ _).drew rfl⟩
  · rw [if_neg (fun hh => h1 hh.1)] at hP
    have hk : (t.kind == 7) = false := by simpa using h1
    go_enter Tryz.func45, Tryz.ntmps45
    go_wp2_with fail
    refine bodyPost_ret (v := tkW t) (by simp [results, Tryz.results45, go_sem, *]) rfl (hP.out _ _ ?_ rfl)
    exact B1.out _ _
theorem next_ok {z rb tb lb : Nat} {c : Int} {L : List Tk} {o : Nat} {t : Tk} (hx : nxt c L = .ok t) (w : World) (hr : Rea z w rb tb lb c L o) :
    Calls Tryz.prog 45 #[.pointer (some ⟨rb, 0, none⟩)] w fun e w' => e = .returned (.agg #[.int .i64 t.kind, .string t.text, .int .i64 t.n, .int .i64 (t.at_ : Nat)]) ∧ Below w.heap.size w w' :=
  (next_c w hr).mono fun e w' h => by
    obtain ⟨h1, h2⟩ := h
    rw [hx] at h2
    exact ⟨h2, h1⟩
theorem next_err {z rb tb lb : Nat} {c : Int} {L : List Tk} {o : Nat} {f : Flt} (hx : nxt c L = .error f) (w : World) (hr : Rea z w rb tb lb c L o) :
    Calls Tryz.prog 45 #[.pointer (some ⟨rb, 0, none⟩)] w fun e w' => e = .panicked [fltE f] ∧ Below w.heap.size w w' :=
  (next_c w hr).mono fun e w' h => by
    obtain ⟨h1, h2⟩ := h
    rw [hx] at h2
    exact ⟨h2, h1⟩
theorem ba_eq {a b : ByteArray} (h : a.toList = b.toList) : a = b := by
  rw [Lib.toList_data, Lib.toList_data] at h
  have e := Array.toList_inj.1 h
  calc a = ⟨a.data⟩ := rfl
    _ = ⟨b.data⟩ := by rw [e]
    _ = b := rfl
theorem ba_ne {a b : ByteArray} (h : ¬ a = b) : (a.toList == b.toList) = false := by
  rw [beq_eq_false_iff_ne]
  exact fun hh => h (ba_eq hh)
set_option maxHeartbeats 1000000 in
theorem is_ok {z rb tb lb : Nat} {c : Int} {L : List Tk} {o : Nat} {t : Tk} (hx : nxt c L = .ok t) (x : ByteArray) (w : World) (hr : Rea z w rb tb lb c L o) :
    Calls Tryz.prog 47 #[.pointer (some ⟨rb, 0, none⟩), .string x] w fun e w' => e = .returned (.bool (isT x t)) ∧ Below w.heap.size w w' := by
  have HN := hid2 (fun W (k : Below w.heap.size w W) => next_ok hx W (hr.next k))
  have B0 : Hid (∀ o, Below w.heap.size w (w.alloc o)) := fun o => (Below.refl _ _).alloc (Nat.le_refl _) _
  clear hr hx
  unfold isT
  by_cases h1 : t.text = x
  · by_cases h2 : t.kind = 5
    · have e1 : (decide (t.text = x) && (decide (t.kind = 5) || decide (t.kind = 6))) = true := by simp [h1, h2]
      rw [e1]
      clear e1
      go_enter Tryz.func47, Tryz.ntmps47
      go_wp2_with fail
      refine Calls.mono (HN.out _ (by first | exact Below.refl _ _ | exact B0.out _)) ?_
      rintro e w1 ⟨rfl, b1⟩
      go_wp2_with fail
      go_ret
      exact ⟨rfl, b1.alloc b1.size _⟩
    · by_cases h3 : t.kind = 6
      · have e1 : (decide (t.text = x) && (decide (t.kind = 5) || decide (t.kind = 6))) = true := by simp [h1, h3]
        rw [e1]
        clear e1 h2
        go_enter Tryz.func47, Tryz.ntmps47
        go_wp2_with fail
        refine Calls.mono (HN.out _ (by first | exact Below.refl _ _ | exact B0.out _)) ?_
        rintro e w1 ⟨rfl, b1⟩
        go_wp2_with fail
        go_ret
        exact ⟨rfl, b1.alloc b1.size _⟩
      · have e1 : (decide (t.text = x) && (decide (t.kind = 5) || decide (t.kind = 6))) = false := by simp [h2, h3]
        rw [e1]
        have k2 : (t.kind == 5) = false := by simpa using h2
        have k3 : (t.kind == 6) = false := by simpa using h3
        clear e1
        go_enter Tryz.func47, Tryz.ntmps47
        go_wp2_with fail
        refine Calls.mono (HN.out _ (by first | exact Below.refl _ _ | exact B0.out _)) ?_
        rintro e w1 ⟨rfl, b1⟩
        go_wp2_with fail
        go_ret
        exact ⟨rfl, b1.alloc b1.size _⟩
  · have e1 : (decide (t.text = x) && (decide (t.kind = 5) || decide (t.kind = 6))) = false := by simp [h1]
    rw [e1]
    have k1 := ba_ne h1
    clear e1
    go_enter Tryz.func47, Tryz.ntmps47
    go_wp2_with fail
    refine Calls.mono (HN.out _ (by first | exact Below.refl _ _ | exact B0.out _)) ?_
    rintro e w1 ⟨rfl, b1⟩
    go_wp2_with fail
    go_ret
    exact ⟨rfl, b1.alloc b1.size _⟩
theorem is_err {z rb tb lb : Nat} {c : Int} {L : List Tk} {o : Nat} {f : Flt} (hx : nxt c L = .error f) (x : ByteArray) (w : World) (hr : Rea z w rb tb lb c L o) :
    Calls Tryz.prog 47 #[.pointer (some ⟨rb, 0, none⟩), .string x] w fun e w' => e = .panicked [fltE f] ∧ Below w.heap.size w w' := by
  have HN := hid2 (fun W (k : Below w.heap.size w W) => next_err hx W (hr.next k))
  have B0 : Hid (∀ o, Below w.heap.size w (w.alloc o)) := fun o => (Below.refl _ _).alloc (Nat.le_refl _) _
  clear hr hx
  go_enter Tryz.func47, Tryz.ntmps47
  go_wp2_with fail
  refine Calls.mono (HN.out _ (by first | exact Below.refl _ _ | exact B0.out _)) ?_
  rintro e w1 ⟨rfl, b1⟩
  go_wp2_with fail
  exact ⟨rfl, rfl, b1⟩
set_option maxRecDepth 20000 in
theorem unfit_ok {z rb tb lb : Nat} {c : Int} {L : List Tk} {o : Nat} {t : Tk} (hx : nxt c L = .ok t) (w : World) (hr : Rea z w rb tb lb c L o) :
    Calls Tryz.prog 46 #[.pointer (some ⟨rb, 0, none⟩)] w fun e w' => e = .returned (fltV (t.at_, 16)) ∧ Below w.heap.size w w' := by
  have HN := hid2 (fun W (k : Below w.heap.size w W) => next_ok hx W (hr.next k))
  have B0 : Hid (∀ o, Below w.heap.size w (w.alloc o)) := fun o => (Below.refl _ _).alloc (Nat.le_refl _) _
  clear hr hx
  have g3 := fld3
  have b0 := (Box.new w [.int .i64 0, .int .i64 0] 74)
  go_enter Tryz.func46, Tryz.ntmps46
  go_wp2_with fail
  refine Calls.mono (HN.out _ (by first | exact Below.refl _ _ | exact B0.out _)) ?_
  rintro e w1 ⟨rfl, b1⟩
  have X := b0.next b1
  obtain ⟨c0, c1, f0, f1⟩ := X.two
  go_wp2_with fail
  refine bodyPost_ret (v := fltV (t.at_, 16)) (by simp [results, Tryz.results46, go_sem, *]) rfl ⟨rfl, ?_⟩
  exact (((below_on (B0.out _) b1 (by simp)).setCell (Nat.le_refl _) _).setCell (Nat.le_refl _) _)
/-- What a method of the reader does: it answers, or gives up. -/
def Out {α : Type} (V : α → Value → World → Prop) (z : Nat) (w : World) (rb tb lb : Nat) (c : Int) (o : Nat) (r : Rs α) (e : Ending) (w' : World) : Prop :=
  Turn [rb] w w' ∧ match r with
    | .ok y => ∃ v, e = .returned v ∧ V y.1 v w' ∧ Rea z w' rb tb lb c y.2 o
    | .error f => e = .panicked [fltE f]
theorem Out.of_ok {α : Type} {V : α → Value → World → Prop} {z : Nat} {w : World} {rb tb lb : Nat} {c : Int} {o : Nat} {r : Rs α} {y : α × List Tk} {e : Ending} {w' : World} (hx : r = .ok y) (h : Out V z w rb tb lb c o r e w') : Turn [rb] w w' ∧ ∃ v, e = .returned v ∧ V y.1 v w' ∧ Rea z w' rb tb lb c y.2 o := by
  subst hx
  exact h
theorem Out.of_err {α : Type} {V : α → Value → World → Prop} {z : Nat} {w : World} {rb tb lb : Nat} {c : Int} {o : Nat} {r : Rs α} {f : Flt} {e : Ending} {w' : World} (hx : r = .error f) (h : Out V z w rb tb lb c o r e w') : e = .panicked [fltE f] ∧ Turn [rb] w w' := by
  subst hx
  exact ⟨h.2, h.1⟩
theorem Out.mk_ok {α : Type} {V : α → Value → World → Prop} {z : Nat} {w : World} {rb tb lb : Nat} {c : Int} {o : Nat} {r : Rs α} {y : α} {L : List Tk} {v : Value} {w' : World} (hx : r = .ok (y, L)) (ht : Turn [rb] w w') (hv : V y v w') (hr : Rea z w' rb tb lb c L o) : Out V z w rb tb lb c o r (.returned v) w' := by
  subst hx
  exact ⟨ht, v, rfl, hv, hr⟩
theorem Out.mk_err {α : Type} {V : α → Value → World → Prop} {z : Nat} {w : World} {rb tb lb : Nat} {c : Int} {o : Nat} {r : Rs α} {f : Flt} {w' : World} (hx : r = .error f) (ht : Turn [rb] w w') : Out V z w rb tb lb c o r (.panicked [fltE f]) w' := by
  subst hx
  exact ⟨ht, rfl⟩
abbrev VTk : Tk → Value → World → Prop := fun t v _ => v = tkW t
abbrev VAt : Nat → Value → World → Prop := fun a v _ => v = .int .i64 (a : Nat)
abbrev VBo : Bool → Value → World → Prop := fun b v _ => v = .bool b
abbrev VSt : ByteArray → Value → World → Prop := fun b v _ => v = .string b
abbrev VNo {α : Type} : α → Value → World → Prop := fun _ v _ => v = .tuple #[]
theorem ReaX.took {z : Nat} {w : World} {rb tb lb : Nat} {c : Int} {L : List Tk} {o off cap : Nat} (h : ReaX z w rb tb lb c L o off cap) (hk : (hdT L).kind ≠ 7) : ReaX z (w.setCell ⟨rb, 0, none⟩ (.slice (some ⟨tb, off + 4, none⟩) (L.length - 1) (cap - 1))) rb tb lb c L.tail o (off + 4) (cap - 1) := by
  have hp := h.tl.pos
  have hle := h.le
  have hmx := h.mx
  have ht := h.tl.tail hk
  refine ⟨?_, by rw [List.length_tail]; omega, by omega, fun q u hu => ?_, fun q u hu => ?_, h.nt, h.nl, by simpa using h.lt, by simpa using h.ll, ht, h.dp, h.ci⟩
  · have := h.box.set 0 (by simp) (.slice (some ⟨tb, off + 4, none⟩) (L.length - 1) (cap - 1))
    rw [List.length_tail]
    exact this
  · rw [tkL_tl h.tl.ne] at hu
    have h1 := h.nt
    rw [World.cell?_setCell_far _ _ _ _ (by simpa using fun h => h1 h.symm), Nat.add_assoc]
    exact h.toks _ _ hu
  · have h1 := h.nl
    rw [World.cell?_setCell_far _ _ _ _ (by simpa using fun h => h1 h.symm)]
    exact h.levs _ _ hu
set_option maxHeartbeats 1000000 in
theorem take_c2 {z rb tb lb : Nat} {c : Int} {L : List Tk} {o : Nat} (k : Int) (hk7 : k ≠ 7) (w : World) (hr : Rea z w rb tb lb c L o) :
    Calls Tryz.prog 28 #[.pointer (some ⟨rb, 0, none⟩), .int .i64 k] w (Out VTk z w rb tb lb c o (takeK c k L)) := by
  rcases hx : nxt c L with f | t
  · have HN := hid2 (fun W (k : Below w.heap.size w W) => next_err hx W (hr.next k))
    have hP : Hid (∀ w', Turn [rb] w w' → Out VTk z w rb tb lb c o (takeK c k L) (.panicked [fltE f]) w') := fun w' ht => Out.mk_err (by unfold takeK; rw [hx]; rfl) ht
    generalize Out VTk z w rb tb lb c o (takeK c k L) = Post at *
    have B0 : Hid (∀ o, Below w.heap.size w (w.alloc o)) := fun o => (Below.refl _ _).alloc (Nat.le_refl _) _
    clear hr hx
    go_enter Tryz.func28, Tryz.ntmps28
    go_wp2_with fail
    refine Calls.mono (HN.out _ (by first | exact Below.refl _ _ | exact B0.out _)) ?_
    rintro e w1 ⟨rfl, b1⟩
    go_wp2_with fail
    exact ⟨rfl, hP.out _ (Turn.of_below (below_on (B0.out _) b1 (by simp)))⟩
  · by_cases h1 : t.kind = k
    · have HN := hid2 (fun W (k : Below w.heap.size w W) => next_ok hx W (hr.next k))
      have hth : hdT L = t := by
        unfold nxt at hx
        split at hx
        · cases hx
        · cases hx; rfl
      obtain ⟨off, cap, hrx⟩ := hr
      have hP : Hid (∀ w' , Turn [rb] w w' → Rea z w' rb tb lb c L.tail o → Out VTk z w rb tb lb c o (takeK c k L) (.returned (tkW t)) w') := fun w' ht hr' => Out.mk_ok (by unfold takeK; rw [hx]; exact if_pos h1) ht rfl hr'
      generalize Out VTk z w rb tb lb c o (takeK c k L) = Post at *
      have HX := hid2 hrx
      have hpos : (0 : Int) < (L.length : Int) := by have := hrx.tl.pos; omega
      have hle := hrx.le
      have hmx := hrx.mx
      have h7 : (hdT L).kind ≠ 7 := by rw [hth, h1]; exact hk7
      have hl2 : 2 ≤ L.length := by
        have := (hrx.tl.tail h7).pos
        rw [List.length_tail] at this
        omega
      clear hrx hx
      go_enter Tryz.func28, Tryz.ntmps28
      go_wp2_with fail
      refine Calls.mono (HN.out _ (by first | exact Below.refl _ _ | exact (Below.refl _ _).alloc (Nat.le_refl _) _)) ?_
      rintro e w1 ⟨rfl, b1⟩
      have b2 : Below w.heap.size w w1 := below_on ((Below.refl _ _).alloc (Nat.le_refl _) _) b1 (by simp)
      have X0 := (Box.new w [.int .i64 0, .string ⟨#[]⟩, .int .i64 0, .int .i64 0] 47).next b1
      clear b1
      have HX1 := hid2 (HX.out.next b2)
      have c0 := HX1.out.box.cell 0 _ rfl
      have f0 := HX1.out.box.free 0 (by simp)
      have hlt := HX1.out.box.lt
      have HT := hid2 (HX1.out.took h7)
      generalize hn : L.length = n at *
      have T1 : Hid (Turn [rb] w w1) := Turn.of_below b2
      have hne : w.heap.size ≠ rb := by have := HX.out.box.lt; omega
      obtain ⟨x0, x1, x2, x3, y0, y1, y2, y3⟩ := (Box.other (q := rb) (j := 0) (v := .slice (some ⟨tb, off + 4, none⟩) (n - 1) (cap - 1)) X0 hne).four
      have xl := X0.lt
      have HL := hid2 (show rb < w.heap.size ∧ tb < w.heap.size ∧ lb < w.heap.size from ⟨HX.out.box.lt, HX.out.lt, HX.out.ll⟩)
      clear HX HN
      go_wp2_with fail
      all_goals first | (exfalso; omega) | skip
      refine bodyPost_ret (v := tkW t) (by simp [results, Tryz.results28, go_sem, *]) rfl (hP.out _ ?_ ?_)
      · exact ((T1.out.andSet _ _ (.inl (by simp))).trans (turn_four _ _ _ _ _ _) (fun i hi => .inr (by simp at hi; omega))).andBelow ((Below.refl _ _).alloc (Nat.le_refl _) _)
      · exact (Rea.turn1 ⟨_, _, HT.out⟩ (turn_four _ _ _ _ _ _) HL.out).next ((Below.refl _ _).alloc (Nat.le_refl _) _)
    · have HN := hid2 (fun W (k : Below w.heap.size w W) => next_ok hx W (hr.next k))
      have HU := hid2 (fun W (k : Below w.heap.size w W) => unfit_ok hx W (hr.next k))
      have hP : Hid (∀ w', Turn [rb] w w' → Out VTk z w rb tb lb c o (takeK c k L) (.panicked [fltE (t.at_, 16)]) w') := fun w' ht => Out.mk_err (by unfold takeK; rw [hx]; exact if_neg h1) ht
      generalize Out VTk z w rb tb lb c o (takeK c k L) = Post at *
      have B0 : Hid (∀ o, Below w.heap.size w (w.alloc o)) := fun o => (Below.refl _ _).alloc (Nat.le_refl _) _
      have hk : (t.kind != k) = true := by simpa using h1
      clear hr hx
      go_enter Tryz.func28, Tryz.ntmps28
      go_wp2_with fail
      refine Calls.mono (HN.out _ (by first | exact Below.refl _ _ | exact B0.out _)) ?_
      rintro e w1 ⟨rfl, b1⟩
      have b2 : Below w.heap.size w w1 := below_on (B0.out _) b1 (by simp)
      go_wp2_with fail
      refine Calls.mono (HU.out _ (b2.alloc b2.size _)) ?_
      rintro e w2 ⟨rfl, b3⟩
      go_wp2_with fail
      exact ⟨rfl, hP.out _ (Turn.of_below (below_on (b2.alloc b2.size _) b3 (by simp; have := b2.size; omega)))⟩
/-- One call that only looks, and gives up: what follows is not come to. -/
theorem is_look {z rb tb lb : Nat} {c : Int} {L : List Tk} {o : Nat} (x : ByteArray) (w : World) (hr : Rea z w rb tb lb c L o) :
    Calls Tryz.prog 47 #[.pointer (some ⟨rb, 0, none⟩), .string x] w (Out VBo z w rb tb lb c o (bnd (nxt c L) fun t => .ok (isT x t, L))) := by
  rcases hx : nxt c L with f | t
  · exact (is_err hx x w hr).mono fun e w' ⟨h1, h2⟩ => ⟨Turn.of_below h2, h1⟩
  · exact (is_ok hx x w hr).mono fun e w' ⟨h1, h2⟩ => ⟨Turn.of_below h2, _, h1, rfl, hr.next h2⟩
set_option maxHeartbeats 1000000 in
theorem must_c {z rb tb lb : Nat} {c : Int} {L : List Tk} {o : Nat} (x : ByteArray) (w : World) (hr : Rea z w rb tb lb c L o) :
    Calls Tryz.prog 27 #[.pointer (some ⟨rb, 0, none⟩), .string x] w (Out VAt z w rb tb lb c o (mustS c x L)) := by
  rcases hx : nxt c L with f | t
  · have HI := hid2 (is_err hx x w hr)
    have hP : Hid (∀ w', Turn [rb] w w' → Out VAt z w rb tb lb c o (mustS c x L) (.panicked [fltE f]) w') := fun w' ht => Out.mk_err (by unfold mustS; rw [hx]; rfl) ht
    generalize Out VAt z w rb tb lb c o (mustS c x L) = Post at *
    clear hr hx
    go_enter Tryz.func27, Tryz.ntmps27
    go_wp2_with fail
    refine Calls.mono HI.out ?_
    rintro e w1 ⟨rfl, b1⟩
    go_wp2_with fail
    exact ⟨rfl, hP.out _ (Turn.of_below b1)⟩
  · cases h1 : isT x t with
    | true =>
      have HI := hid2 (is_ok hx x w hr)
      have HN := hid2 (fun W (k : Below w.heap.size w W) => next_ok hx W (hr.next k))
      have HT := hid2 (fun W (k : Below w.heap.size w W) => take_c2 t.kind (isT_kind h1) W (hr.next k))
      have ht : takeK c t.kind L = .ok (t, L.tail) := by unfold takeK; rw [hx]; exact if_pos rfl
      rw [ht] at HT
      have hP : Hid (∀ w', Turn [rb] w w' → Rea z w' rb tb lb c L.tail o → Out VAt z w rb tb lb c o (mustS c x L) (.returned (.int .i64 (t.at_ : Nat))) w') := fun w' ht hr' => Out.mk_ok (by unfold mustS; rw [hx]; exact if_pos h1) ht rfl hr'
      generalize Out VAt z w rb tb lb c o (mustS c x L) = Post at *
      rw [h1] at HI
      have g3 := fld3
      have g0 := fld0
      clear hr hx ht h1
      go_enter Tryz.func27, Tryz.ntmps27
      go_wp2_with fail
      refine Calls.mono HI.out ?_
      rintro e w1 ⟨rfl, b1⟩
      go_wp2_with fail
      refine Calls.mono (HN.out _ b1) ?_
      rintro e w2 ⟨rfl, b2⟩
      go_wp2_with fail
      refine Calls.mono (HT.out _ (below_on b1 b2 b1.size)) ?_
      rintro e w3 ⟨t3, v, rfl, rfl, r3⟩
      simp only [tkW]
      go_wp2_with fail
      exact hP.out _ ((Turn.of_below (below_on b1 b2 b1.size)).trans t3 (fun i hi => .inl hi)) r3
    | false =>
      have HI := hid2 (is_ok hx x w hr)
      have HU := hid2 (fun W (k : Below w.heap.size w W) => unfit_ok hx W (hr.next k))
      have hP : Hid (∀ w', Turn [rb] w w' → Out VAt z w rb tb lb c o (mustS c x L) (.panicked [fltE (t.at_, 16)]) w') := fun w' ht => Out.mk_err (by unfold mustS; rw [hx]; exact if_neg (by rw [h1]; simp)) ht
      generalize Out VAt z w rb tb lb c o (mustS c x L) = Post at *
      rw [h1] at HI
      clear hr hx h1
      go_enter Tryz.func27, Tryz.ntmps27
      go_wp2_with fail
      refine Calls.mono HI.out ?_
      rintro e w1 ⟨rfl, b1⟩
      go_wp2_with fail
      refine Calls.mono (HU.out _ b1) ?_
      rintro e w2 ⟨rfl, b2⟩
      go_wp2_with fail
      exact ⟨rfl, hP.out _ (Turn.of_below (below_on b1 b2 b1.size))⟩
end Go.Proofs.YtecdfnpbcabdnaaGreatDoor
