import Derived.Test.YtigldebdljfnbaaDoorMhY
import Derived.Test.YtigldebdljfnbaaDoorMgW
import Derived.Test.YtigldebdljfnbaaDoorCgF
import Derived.Test.YtigldebdljfnbaaDoorMgB
import Derived.BigQuiet
namespace Go.Proofs.YtigldebdljfnbaaDoor
open Go.RowKit


structure RuP where
  mn : Int
  mx : Int
  st : Int
  up : Int
  dn : Int
structure WiP where
  m : Int
  a : Int
  s : Int
  p : Int
structure PlP where
  mets : List ByteArray
  ru : RuP
  wins : List WiP
  crons : List Cr
  loc : Int
  gs : List (Co × Co)
  fin : Co
def ruB (r : RuP) : Bool := decide (0 ≤ r.mn ∧ r.mn ≤ r.mx ∧ 1 ≤ r.mx ∧ r.mx ≤ 1000000 ∧ 1 ≤ r.st ∧ r.st ≤ 1000000 ∧ 0 ≤ r.up ∧ r.up ≤ 604800 ∧ 0 ≤ r.dn ∧ r.dn ≤ 604800)
def gord (g : Co × Co) : List Co := cpord g.1 ++ cpord g.2
def plord (p : PlP) : List Co := (p.gs.map gord).flatten ++ cpord p.fin
def wiB (n : Nat) (x : WiP) : Bool := rightB x.m x.a x.s x.p && decide (x.m < (n : Int))
def memV (q : Co → Co → Bool) (s : List (Int × Co)) (t : Co) : List (Int × Co) × Bool :=
  if t.op = 7 then (if 0 ≤ t.n ∧ t.n < 256 then (match s.lookup t.n with
    | none => ((t.n, t.parts.getD 0 co0) :: s, true)
    | some c => (s, q c (t.parts.getD 0 co0))) else (s, false)) else (s, true)
abbrev soP (p : PlP) (c : Co) : Int := csort ladF p.wins.length p.crons.length p.loc c
def sortsB (p : PlP) : Bool := p.gs.all (fun g => decide (soP p g.1 = 2) && decide (soP p g.2 = 3)) && decide (soP p p.fin = 3)
def listsB (p : PlP) : Bool := p.wins.all (wiB p.mets.length) && p.crons.all cfB
def sizesB (p : PlP) : Bool := decide (p.mets.length ≤ 64 ∧ p.wins.length ≤ 256 ∧ p.crons.length ≤ 256 ∧ 0 ≤ p.loc ∧ p.loc ≤ 256)
def fewB (p : PlP) : Bool := decide ((plord p).length ≤ 4096)
def alikeB (q : Co → Co → Bool) (p : PlP) : Bool := (crunV (memV q) (plord p) []).2
def formedP (q : Co → Co → Bool) (p : PlP) : Bool := sizesB p && fewB p && ruB p.ru && listsB p && sortsB p && alikeB q p
theorem gord_sub {gs : List (Co × Co)} {f : Co} {g : Co × Co} (h : g ∈ gs) : (cnodes g.1 + cnodes g.2) ≤ ((gs.map gord).flatten ++ cpord f).length := by
  induction gs with
  | nil => cases h
  | cons y r ih =>
    simp only [List.map_cons, List.flatten_cons, List.append_assoc, List.length_append] at ih ⊢
    rcases List.mem_cons.1 h with rfl | h
    · unfold gord cnodes; simp only [List.length_append]; omega
    · have := ih h; omega
theorem few_guard {p : PlP} (h : fewB p = true) {g : Co × Co} (hg : g ∈ p.gs) : cnodes g.1 ≤ 4096 ∧ cnodes g.2 ≤ 4096 := by
  have h1 := of_decide_eq_true h
  have h2 := gord_sub (f := p.fin) hg
  unfold plord at h1
  omega
theorem few_fin {p : PlP} (h : fewB p = true) : cnodes p.fin ≤ 4096 := by
  have h1 := of_decide_eq_true h
  unfold plord at h1
  rw [List.length_append] at h1
  unfold cnodes
  omega

def RowsK (w : World) (v : Value) (n k : Nat) (cs : Nat → List Value) : Prop := ∃ ad cap, v = .slice ad n cap ∧ n ≤ cap ∧ cap ≤ 9223372036854775807 ∧
  (n = 0 ∨ ∃ b off, ad = some ⟨b, off, none⟩ ∧ b < w.heap.size ∧ ∀ i, i < n → ∀ j x, (cs i)[j]? = some x → w.cell? ⟨b, off + i * k + j, none⟩ = some x)
theorem RowsK.next {w w' : World} {v : Value} {n k : Nat} {cs : Nat → List Value} (h : RowsK w v n k cs) (hb : Below w.heap.size w w') : RowsK w' v n k cs := by
  obtain ⟨ad, cap, hv, h1, h2, hp⟩ := h
  refine ⟨ad, cap, hv, h1, h2, ?_⟩
  rcases hp with hp | ⟨b, off, ha, hl, hc⟩
  · exact .inl hp
  · exact .inr ⟨b, off, ha, Nat.lt_of_lt_of_le hl hb.size, fun i hi j x hx => (hb.cell (p := ⟨b, _, none⟩) hl).trans (hc i hi j x hx)⟩
theorem RowsK.open {w : World} {v : Value} {n k : Nat} {cs : Nat → List Value} (h : RowsK w v n k cs) (hn : 0 < n) : ∃ b off cap, v = .slice (some ⟨b, off, none⟩) n cap ∧ n ≤ cap ∧ cap ≤ 9223372036854775807 ∧ b < w.heap.size ∧ ∀ i, i < n → ∀ j x, (cs i)[j]? = some x → w.cell? ⟨b, off + i * k + j, none⟩ = some x := by
  obtain ⟨ad, cap, hv, h1, h2, hp⟩ := h
  rcases hp with hp | ⟨b, off, rfl, hl, hc⟩
  · omega
  · exact ⟨b, off, cap, hv, h1, h2, hl, hc⟩
theorem RowsK.shape {w : World} {v : Value} {n k : Nat} {cs : Nat → List Value} (h : RowsK w v n k cs) : ∃ ad cap, v = .slice ad n cap ∧ n ≤ cap ∧ cap ≤ 9223372036854775807 := by
  obtain ⟨ad, cap, hv, h1, h2, _⟩ := h
  exact ⟨ad, cap, hv, h1, h2⟩
def wi0 : WiP := ⟨0, 0, 0, 0⟩
def cr0 : Cr := ⟨0, 0, 0, 0, 0⟩
abbrev wiL (x : WiP) : List Value := [.int .i64 x.m, .int .i64 x.a, .int .i64 x.s, .int .i64 x.p]
abbrev crL (c : Cr) : List Value := u5 c.a c.b c.c c.d c.e
def MetsAt (w : World) (v : Value) (l : List ByteArray) : Prop := RowsK w v l.length 1 (fun i => [.string (l.getD i default)])
def WisAt (w : World) (v : Value) (l : List WiP) : Prop := RowsK w v l.length 4 (fun i => wiL (l.getD i wi0))
def CrsAt (w : World) (v : Value) (l : List Cr) : Prop := RowsK w v l.length 5 (fun i => crL (l.getD i cr0))
def GsAt (w : World) (v : Value) (l : List (Co × Co)) : Prop := ∃ ad cap, v = .slice ad l.length cap ∧ l.length ≤ cap ∧ cap ≤ 9223372036854775807 ∧
  (l.length = 0 ∨ ∃ b off, ad = some ⟨b, off, none⟩ ∧ b < w.heap.size ∧ ∀ i (h : i < l.length), ∃ u1 u2, Four w b (off + i * 8) l[i].1 u1 ∧ Four w b (off + i * 8 + 4) l[i].2 u2 ∧ CSits w l[i].1 u1 ∧ CSits w l[i].2 u2)
theorem GsAt.next {w w' : World} {v : Value} {l : List (Co × Co)} (h : GsAt w v l) (hb : Below w.heap.size w w') : GsAt w' v l := by
  obtain ⟨ad, cap, hv, h1, h2, hp⟩ := h
  refine ⟨ad, cap, hv, h1, h2, ?_⟩
  rcases hp with hp | ⟨b, off, ha, hl, hc⟩
  · exact .inl hp
  · refine .inr ⟨b, off, ha, Nat.lt_of_lt_of_le hl hb.size, fun i hi => ?_⟩
    obtain ⟨u1, u2, f1, f2, s1, s2⟩ := hc i hi
    exact ⟨u1, u2, f1.keep (fun j => hb.cell (p := ⟨b, j, none⟩) hl), f2.keep (fun j => hb.cell (p := ⟨b, j, none⟩) hl), s1.next hb, s2.next hb⟩
theorem GsAt.shape {w : World} {v : Value} {l : List (Co × Co)} (h : GsAt w v l) : ∃ ad cap, v = .slice ad l.length cap ∧ l.length ≤ cap ∧ cap ≤ 9223372036854775807 := by
  obtain ⟨ad, cap, hv, h1, h2, _⟩ := h
  exact ⟨ad, cap, hv, h1, h2⟩
theorem GsAt.open {w : World} {v : Value} {l : List (Co × Co)} (h : GsAt w v l) (hn : 0 < l.length) : ∃ b off cap, v = .slice (some ⟨b, off, none⟩) l.length cap ∧ l.length ≤ cap ∧ cap ≤ 9223372036854775807 ∧ b < w.heap.size ∧
    ∀ i (h : i < l.length), ∃ u1 u2, Four w b (off + i * 8) l[i].1 u1 ∧ Four w b (off + i * 8 + 4) l[i].2 u2 ∧ CSits w l[i].1 u1 ∧ CSits w l[i].2 u2 := by
  obtain ⟨ad, cap, hv, h1, h2, hp⟩ := h
  rcases hp with hp | ⟨b, off, rfl, hl, hc⟩
  · omega
  · exact ⟨b, off, cap, hv, h1, h2, hl, hc⟩
structure PlV where
  me : Value
  wi : Value
  cr : Value
  gs : Value
  fi : Value
abbrev plL (p : PlP) (v : PlV) : List Value := [v.me, .int .i64 p.ru.mn, .int .i64 p.ru.mx, .int .i64 p.ru.st, .int .i64 p.ru.up, .int .i64 p.ru.dn, v.wi, v.cr, .int .i64 p.loc, v.gs, .int .i64 p.fin.op, .int .i64 p.fin.n, .int .i64 p.fin.m, v.fi]
abbrev plV (p : PlP) (v : PlV) : Value := .agg (plL p v).toArray
structure RuOk (r : RuP) : Prop where
  mn : C64 r.mn
  mx : C64 r.mx
  st : C64 r.st
  up : C64 r.up
  dn : C64 r.dn
structure WiOk (x : WiP) : Prop where
  m : C64 x.m
  a : C64 x.a
  s : C64 x.s
  p : C64 x.p
structure PlAt (w : World) (p : PlP) (v : PlV) : Prop where
  ru : RuOk p.ru
  loc : C64 p.loc
  wok : ∀ x, x ∈ p.wins → WiOk x
  cok : ∀ x, x ∈ p.crons → x.Fits
  me : MetsAt w v.me p.mets
  wi : WisAt w v.wi p.wins
  cr : CrsAt w v.cr p.crons
  gs : GsAt w v.gs p.gs
  fi : CSits w p.fin v.fi
theorem PlAt.next {w w' : World} {p : PlP} {v : PlV} (h : PlAt w p v) (hb : Below w.heap.size w w') : PlAt w' p v :=
  ⟨h.ru, h.loc, h.wok, h.cok, RowsK.next h.me hb, RowsK.next h.wi hb, RowsK.next h.cr hb, h.gs.next hb, h.fi.next hb⟩

theorem calm (w0 : World) : ∃ f : World → World, (∀ n, Below w0.heap.size w0 (f n)) ∧ (∀ W, Below w0.heap.size w0 W → ∃ n, W = f n) := by
  classical
  refine ⟨fun n => if Below w0.heap.size w0 n then n else w0, fun n => ?_, fun W h => ⟨W, (if_pos h).symm⟩⟩
  show Below w0.heap.size w0 (if Below w0.heap.size w0 n then n else w0)
  by_cases h : Below w0.heap.size w0 n
  · rw [if_pos h]; exact h
  · rw [if_neg h]; exact Below.refl _ _
theorem wp_region_calm {P : Program} {id : Nat} {Q : Exit → Act → World → Prop} {a : Act} {w : World} {l : List Oper} (f : World → World) (hm : P.follows .mixedOrders = true) (hB : Region.lexB .any l.toArray = true) (hC : ∃ n, w.drew = f n)
    (h : wpQuiet P l.toArray (fun w' => ∃ n, w' = f n) (fun a' => ∀ w', (∃ n, w' = f n) → Q .normal a' w') l a) : (Code.region id l.toArray true).wp P Q a w :=
  wp_region_quiet (C := fun w' => ∃ n, w' = f n) hm hB hC (by simpa using h)

theorem keepc {w w' : World} (h : Below w.heap.size w w') {p : Addr} {v : Value} (hc : w.cell? p = some v) : w'.cell? p = some v := (h.cell (World.block_lt_of_cell? w p hc)).trans hc
end Go.Proofs.YtigldebdljfnbaaDoor
