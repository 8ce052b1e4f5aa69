/- Programs and bytes in memory: what the texts of package codec share. -/
import Derived.Test.YthfnjlfhaibbeaaDoorCoZ
import Derived.Deep.DeepAppendWide
import Derived.Deep.RegionHeld3
import Derived.Deep.RegionLaw
import Derived.Deep.AppendLies
import Derived.Lib.AppendStr
import Derived.Laws.IdiomStrings
import Derived.Laws.BytesArg
namespace Go.Proofs.YthfnjlfhaibbeaaDoor
open Go.RowKit Go.Lib

/-- A number of 64 bits. -/
def C64 (x : Int) : Prop := -9223372036854775808 ≤ x ∧ x ≤ 9223372036854775807
/-- Rules. -/
structure RuP where
  mn : Int
  mx : Int
  st : Int
  up : Int
  dn : Int
/-- Terms of a window. -/
structure WiP where
  m : Int
  a : Int
  s : Int
  p : Int
/-- A schedule: its five sets. -/
structure Cr where
  a : Nat
  b : Nat
  c : Nat
  d : Nat
  e : Nat
structure Cr.Fits (x : Cr) : Prop where
  a : x.a < 18446744073709551616
  b : x.b < 18446744073709551616
  c : x.c < 18446744073709551616
  d : x.d < 18446744073709551616
  e : x.e < 18446744073709551616
structure RuOk (r : RuP) : Prop where
  mn : C64 r.mn
  mx : C64 r.mx
  st : C64 r.st
  up : C64 r.up
  dn : C64 r.dn
structure WiOk (x : WiP) : Prop where
  m : C64 x.m
  a : C64 x.a
  s : C64 x.s
  p : C64 x.p
abbrev Ins := Int × Int
/-- A program. -/
structure PgP where
  met : Int
  ru : RuP
  K : List Int
  wins : List WiP
  crons : List Cr
  loc : Int
  h : Int
  C : List Ins
/-- Where a program's lists lie. -/
structure PgV where
  k : Value
  wi : Value
  cr : Value
  c : Value
def pg0 : PgP := ⟨0, ⟨0, 0, 0, 0, 0⟩, [], [], [], 0, 0, []⟩
abbrev u5 (a b c d e : Nat) : List Value := [.int .u64 (a : Nat), .int .u64 (b : Nat), .int .u64 (c : Nat), .int .u64 (d : Nat), .int .u64 (e : Nat)]
def wi0 : WiP := ⟨0, 0, 0, 0⟩
def cr0 : Cr := ⟨0, 0, 0, 0, 0⟩
def in0 : Ins := (0, 0)
abbrev wiL (x : WiP) : List Value := [.int .i64 x.m, .int .i64 x.a, .int .i64 x.s, .int .i64 x.p]
abbrev crL (c : Cr) : List Value := u5 c.a c.b c.c c.d c.e
abbrev inL (x : Ins) : List Value := [.int .i64 x.1, .int .i64 x.2]
abbrev pgL (g : PgP) (v : PgV) : List Value := [.int .i64 g.met, .int .i64 g.ru.mn, .int .i64 g.ru.mx, .int .i64 g.ru.st, .int .i64 g.ru.up, .int .i64 g.ru.dn, v.k, v.wi, v.cr, .int .i64 g.loc, .int .i64 g.h, v.c]
abbrev pgV (g : PgP) (v : PgV) : Value := .agg (pgL g v).toArray
/-- All numbers of a program are numbers of their types. -/
structure PgOk (g : PgP) : Prop where
  met : C64 g.met
  ru : RuOk g.ru
  K : ∀ x, x ∈ g.K → C64 x
  wins : ∀ x, x ∈ g.wins → WiOk x
  crons : ∀ x, x ∈ g.crons → x.Fits
  loc : C64 g.loc
  h : C64 g.h
  C : ∀ x, x ∈ g.C → C64 x.1 ∧ C64 x.2

/-- Rows one behind the other. -/
def rowsF (cs : Nat → List Value) (n : Nat) : List Value := ((List.range n).map cs).flatten
theorem rowsF_succ (cs : Nat → List Value) (n : Nat) : rowsF cs (n + 1) = rowsF cs n ++ cs n := by simp [rowsF, List.range_succ]
theorem rowsF_len {cs : Nat → List Value} {k : Nat} (h : ∀ i, (cs i).length = k) (n : Nat) : (rowsF cs n).length = n * k := by
  induction n with
  | zero => simp [rowsF]
  | succ n ih => rw [rowsF_succ, List.length_append, ih, h, Nat.succ_mul]
theorem rowsF_at {cs : Nat → List Value} {k : Nat} (h : ∀ i, (cs i).length = k) (n : Nat) : ∀ i j u, i < n → (cs i)[j]? = some u → (rowsF cs n)[i * k + j]? = some u := by
  induction n with
  | zero => intro i j u hi; omega
  | succ n ih =>
    intro i j u hi hu
    have hj : j < k := by have := (List.getElem?_eq_some_iff.1 hu).1; rw [h] at this; exact this
    rw [rowsF_succ]
    by_cases e : i < n
    · have hb : i * k + j < n * k := by
        have : (i + 1) * k ≤ n * k := Nat.mul_le_mul_right k e
        rw [Nat.succ_mul] at this
        omega
      rw [List.getElem?_append_left (by rw [rowsF_len h]; exact hb)]
      exact ih i j u e hu
    · have e2 : i = n := by omega
      subst e2
      rw [List.getElem?_append_right (by rw [rowsF_len h]; omega), rowsF_len h]
      rw [show i * k + j - i * k = j by omega]
      exact hu
/-- Rows of k cells each in a slice: the row number i has the cells cs i. -/
def RowsK (w : World) (v : Value) (n k : Nat) (cs : Nat → List Value) : Prop := ∃ ad cap, v = .slice ad n cap ∧ n ≤ cap ∧ cap ≤ 9223372036854775807 ∧
  (n = 0 ∨ ∃ b off, ad = some ⟨b, off, none⟩ ∧ b < w.heap.size ∧ ∀ i, i < n → ∀ j x, (cs i)[j]? = some x → w.cell? ⟨b, off + i * k + j, none⟩ = some x)
theorem RowsK.turn {w w' : World} {v : Value} {n k : Nat} {cs : Nat → List Value} {S : List Nat} (h : RowsK w v n k cs) (t : Turn S w w') (hS : ∀ b, v.ownBlock = some b → b ∉ S) : RowsK w' v n k cs := by
  obtain ⟨ad, cap, hv, h1, h2, hp⟩ := h
  refine ⟨ad, cap, hv, h1, h2, ?_⟩
  rcases hp with hp | ⟨b, off, ha, hl, hc⟩
  · exact .inl hp
  · exact .inr ⟨b, off, ha, Nat.lt_of_lt_of_le hl t.size, fun i hi j x hx => (t.cell (p := ⟨b, _, none⟩) hl (hS b (by rw [hv, ha]; rfl))).trans (hc i hi j x hx)⟩
theorem RowsK.next {w w' : World} {v : Value} {n k : Nat} {cs : Nat → List Value} (h : RowsK w v n k cs) (hb : Below w.heap.size w w') : RowsK w' v n k cs := h.turn (S := []) (Turn.of_below hb) (fun _ _ hm => by cases hm)
theorem RowsK.open {w : World} {v : Value} {n k : Nat} {cs : Nat → List Value} (h : RowsK w v n k cs) (hn : 0 < n) : ∃ b off cap, v = .slice (some ⟨b, off, none⟩) n cap ∧ n ≤ cap ∧ cap ≤ 9223372036854775807 ∧ b < w.heap.size ∧ ∀ i, i < n → ∀ j x, (cs i)[j]? = some x → w.cell? ⟨b, off + i * k + j, none⟩ = some x := by
  obtain ⟨ad, cap, hv, h1, h2, hp⟩ := h
  rcases hp with hp | ⟨b, off, rfl, hl, hc⟩
  · omega
  · exact ⟨b, off, cap, hv, h1, h2, hl, hc⟩
theorem RowsK.shape {w : World} {v : Value} {n k : Nat} {cs : Nat → List Value} (h : RowsK w v n k cs) : ∃ ad cap, v = .slice ad n cap ∧ n ≤ cap ∧ cap ≤ 9223372036854775807 := by
  obtain ⟨ad, cap, hv, h1, h2, _⟩ := h
  exact ⟨ad, cap, hv, h1, h2⟩
def WisAt (w : World) (v : Value) (l : List WiP) : Prop := RowsK w v l.length 4 (fun i => wiL (l.getD i wi0))
def CrsAt (w : World) (v : Value) (l : List Cr) : Prop := RowsK w v l.length 5 (fun i => crL (l.getD i cr0))
def KsAt (w : World) (v : Value) (l : List Int) : Prop := RowsK w v l.length 1 (fun i => [.int .i64 (l.getD i 0)])
def InsAt (w : World) (v : Value) (l : List Ins) : Prop := RowsK w v l.length 2 (fun i => inL (l.getD i in0))
/-- A program that can be read. -/
structure PgRd (w : World) (g : PgP) (v : PgV) : Prop where
  k : KsAt w v.k g.K
  wi : WisAt w v.wi g.wins
  cr : CrsAt w v.cr g.crons
  c : InsAt w v.c g.C
theorem PgRd.turn {w w' : World} {g : PgP} {v : PgV} {S : List Nat} (h : PgRd w g v) (t : Turn S w w') (hS : ∀ b, v.k.ownBlock = some b ∨ v.wi.ownBlock = some b ∨ v.cr.ownBlock = some b ∨ v.c.ownBlock = some b → b ∉ S) : PgRd w' g v :=
  ⟨RowsK.turn h.k t (fun b hb => hS b (.inl hb)), RowsK.turn h.wi t (fun b hb => hS b (.inr (.inl hb))), RowsK.turn h.cr t (fun b hb => hS b (.inr (.inr (.inl hb)))), RowsK.turn h.c t (fun b hb => hS b (.inr (.inr (.inr hb))))⟩
theorem PgRd.next {w w' : World} {g : PgP} {v : PgV} (h : PgRd w g v) (k : Below w.heap.size w w') : PgRd w' g v := ⟨RowsK.next h.k k, RowsK.next h.wi k, RowsK.next h.cr k, RowsK.next h.c k⟩

theorem own_keep {w w' : World} {B : Nat} {e : TypeId} {size n : Nat} {v : Value} {xs : List Value} (h : w.ownsRow B e size v n xs) (hk : ∀ b, B ≤ b → b < w.heap.size → w'.heap[b]? = w.heap[b]?) : w'.ownsRow B e size v n xs := by
  obtain ⟨h1, h2 | ⟨g, cap, cur, h2, h3, h4, h5⟩⟩ := h
  · exact ⟨h1, .inl h2⟩
  · exact ⟨h1, .inr ⟨g, cap, cur, h2, h3, (hk g h3 (by rcases Nat.lt_or_ge g w.heap.size with h | h; exact h; rw [Array.getElem?_eq_none h] at h4; cases h4)).trans h4, h5⟩⟩
theorem own_shape {w : World} {B : Nat} {e : TypeId} {size n : Nat} {v : Value} {xs : List Value} (h : w.ownsRow B e size v n xs) : ∃ a c, v = .slice a n c := by
  obtain ⟨-, ⟨h2, h3⟩ | ⟨g, cap, cur, h2, -⟩⟩ := h
  · exact ⟨none, 0, by rw [h2, h3]⟩
  · exact ⟨_, _, h2⟩
theorem own_low {w : World} {B : Nat} {e : TypeId} {size n : Nat} {v : Value} {xs : List Value} (B' : Nat) (h : w.ownsRow B e size v n xs) (hb : B' ≤ B) : w.ownsRow B' e size v n xs := by
  obtain ⟨h1, h2 | ⟨g, cap, cur, h2, h3, h4⟩⟩ := h
  · exact ⟨h1, .inl h2⟩
  · exact ⟨h1, .inr ⟨g, cap, cur, h2, Nat.le_trans hb h3, h4⟩⟩
theorem own_of_keep {w w' : World} {B : Nat} {e : TypeId} {size n : Nat} {v : Value} {xs : List Value} (h : w.ownsRow B e size v n xs) (hk : ∀ b, v.ownBlock = some b → w'.heap[b]? = w.heap[b]?) : w'.ownsRow B e size v n xs := by
  obtain ⟨h1, ⟨h2, h3⟩ | ⟨g, cap, cur, h2, h3, h4, h5⟩⟩ := h
  · exact ⟨h1, .inl ⟨h2, h3⟩⟩
  · exact ⟨h1, .inr ⟨g, cap, cur, h2, h3, (hk g (by rw [h2]; rfl)).trans h4, h5⟩⟩
theorem own_turn {w w' : World} {S : List Nat} {B : Nat} {e : TypeId} {size n : Nat} {v : Value} {xs : List Value} (h : w.ownsRow B e size v n xs) (t : Turn S w w') (hS : ∀ b, v.ownBlock = some b → b ∉ S) : w'.ownsRow B e size v n xs :=
  own_of_keep h (fun b hb => t.block b (h.lt b hb).2 (hS b hb))
/-- A cell of a row is written. -/
theorem own_put {w : World} {B size : Nat} {e : TypeId} {g n cap : Nat} {xs : List Value} (h : w.ownsRow B e size (.slice (some ⟨g, 0, none⟩) n cap) n xs) (k : Nat) (u : Value) :
    (w.setCell ⟨g, k, none⟩ u).ownsRow B e size (.slice (some ⟨g, 0, none⟩) n cap) n (xs.set k u) := by
  obtain ⟨h1, ⟨h2, _⟩ | ⟨g', cap', cur, h2, h3, h4, h5, h6, h7, h8⟩⟩ := h
  · cases h2
  · cases h2
    refine ⟨by simpa using h1, .inr ⟨g, cap, cur.setIfInBounds k u, rfl, h3, ?_, h5, h6, by simpa using h7, ?_⟩⟩
    · obtain ⟨hlt, hk⟩ := Array.getElem?_eq_some_iff.1 h4
      show (w.heap.modify g _)[g]? = _
      rw [Array.getElem?_eq_getElem (by rw [Array.size_modify]; exact hlt), Array.getElem_modify_self, hk]
      rfl
    · rw [Array.toList_setIfInBounds, List.take_set, h8]
theorem own_type {w : World} {B : Nat} {e : TypeId} {k n : Nat} {v : Value} {xs : List Value} (h : w.ownsRow B e k v n xs) {r : Nat} (hr : v.ownBlock = some r) : B ≤ r ∧ ∃ cur, w.heap[r]? = some (Obj.cells cur e (0, 0)) := by
  obtain ⟨h1, ⟨h2, h3⟩ | ⟨g, cap, cur, h2, h3, h4, h5⟩⟩ := h
  · rw [h2] at hr; cases hr
  · rw [h2] at hr
    cases hr
    exact ⟨h3, cur, h4⟩
theorem rows_of_box {w : World} {lo n k : Nat} {e : TypeId} {v : Value} {xs : List Value} {cs : Nat → List Value} (h : w.ownsRow lo e k v n xs) (hx : ∀ i, i < n → ∀ j x, (cs i)[j]? = some x → xs[i * k + j]? = some x) : RowsK w v n k cs := by
  obtain ⟨-, ⟨h2, h3⟩ | ⟨g, cap, cur, h2, h3, h4, h5, h6, h7, h8⟩⟩ := h
  · exact ⟨none, 0, by rw [h2, h3], by omega, by omega, .inl h3⟩
  · have BX : Box w g xs := (Box.ofBlock h4).part (by rw [← h8]; exact List.take_prefix _ _)
    exact ⟨some ⟨g, 0, none⟩, cap, h2, h5, h6, .inr ⟨g, 0, rfl, BX.lt, fun i hi j x hj => by rw [Nat.zero_add]; exact BX.cell _ _ (hx i hi j x hj)⟩⟩
theorem rows_of_own {w : World} {B n k : Nat} {e : TypeId} {v : Value} {cs : Nat → List Value} (hl : ∀ i, (cs i).length = k) (h : w.ownsRow B e k v n (rowsF cs n)) : RowsK w v n k cs := rows_of_box h (fun i hi j x hx => rowsF_at hl n i j x hi hx)
theorem keepc {w w' : World} (h : Below w.heap.size w w') {p : Addr} {v : Value} (hc : w.cell? p = some v) : w'.cell? p = some v := (h.cell (World.block_lt_of_cell? w p hc)).trans hc
theorem bel_alloc (w : World) (o : Obj) : Below w.heap.size w (w.alloc o) := (Below.refl _ _).alloc (Nat.le_refl _) _
def blk (v : Value) : List Nat := v.ownBlock.toList
theorem blk_mem {v : Value} {i : Nat} : i ∈ blk v ↔ v.ownBlock = some i := by simp [blk, Option.mem_toList]

/-- A byte as a cell. -/
abbrev byc (b : UInt8) : Value := .int .u8 (b.toNat : Nat)
/-- Bytes that can be read. -/
def ByAt (w : World) (v : Value) (l : List UInt8) : Prop := RowsK w v l.length 1 (fun i => [byc (l.getD i 0)])
/-- A row of bytes of one's own. -/
abbrev Bys (w : World) (B : Nat) (v : Value) (l : List UInt8) : Prop := w.ownsRow B 5 1 v l.length (l.map byc)
theorem info_u8 : (Tryd.prog.info? 5).map (fun i => (i.zero, i.size, i.bytes)) = some (some (.int .u8 0), 1, 1) := by kernel_rfl
theorem info_u8' : ∃ i, Tryd.prog.info? 5 = some i ∧ i.zero = some (.int .u8 0) ∧ i.size = 1 ∧ i.bytes = 1 := by
  have h := info_u8
  cases e : Tryd.prog.info? 5 with
  | none => rw [e] at h; cases h
  | some i =>
    rw [e] at h
    simp only [Option.map_some, Option.some.injEq, Prod.mk.injEq] at h
    exact ⟨i, rfl, h.1, h.2.1, h.2.2⟩
theorem Bys.at {w : World} {B : Nat} {v : Value} {l : List UInt8} (h : Bys w B v l) : ByAt w v l := by
  refine rows_of_box h (fun i hi j x hj => ?_)
  have hj0 : j = 0 := by have := (List.getElem?_eq_some_iff.1 hj).1; simp at this; omega
  subst hj0
  simp only [List.getElem?_cons_zero, Option.some.injEq] at hj
  subst hj
  simp [List.getD, hi]
/-- The string of bytes that can be read. -/
theorem by_str {w : World} {v : Value} {l : List UInt8} (h : ByAt w v l) : (convert 22 9 v).run Tryd.prog w = .ok (.string ⟨l.toArray⟩) w := by
  obtain ⟨ad, cap, hv, h1, h2, hp⟩ := h
  subst hv
  rcases hp with h0 | ⟨b, off, rfl, hl, hc⟩
  · have : l = [] := List.eq_nil_of_length_eq_zero h0
    subst this
    cases ad with
    | none => exact run_convert_bytes_nil (P := Tryd.prog) (w := w) 22 5 Tryd.underlying22 Tryd.underlying5 0 cap 9 Tryd.underlying9
    | some ad => exact run_convert_bytes_back (P := Tryd.prog) w 22 9 5 ad cap [] Tryd.underlying22 Tryd.underlying5 Tryd.underlying9 (fun j hj => by cases hj)
  · refine run_convert_bytes_back (P := Tryd.prog) w 22 9 5 ⟨b, off, none⟩ cap l Tryd.underlying22 Tryd.underlying5 Tryd.underlying9 (fun j hj => ?_)
    have := hc j hj 0 _ rfl
    rw [Nat.mul_one, Nat.add_zero] at this
    have hadd : (⟨b, off, none⟩ : Addr).add j = ⟨b, off + j, none⟩ := by unfold Addr.add; split <;> simp_all
    rw [hadd, this]
    simp [List.getD, hj]
end Go.Proofs.YthfnjlfhaibbeaaDoor
