/- Terms in a row that grows, beside a block that is written: append. -/
import Derived.Test.YtecdfnpbcabdnaaGreatDoorPxI
namespace Go.Proofs.YtecdfnpbcabdnaaGreatDoor
open Go.RowKit Go.Lib

/-- The terms ts lie in the row v, that is its own: their parts lie elsewhere, all of it from B on and not in g. -/
structure PaG (B g z : Nat) (W : World) (v : Value) (ts : List (Tm × Value)) : Prop where
  own : W.ownsRow B 33 6 v ts.length (flQ ts)
  ng : v.ownBlock ≠ some g
  sit : ∀ p, p ∈ ts → SitQ (fun b => (B ≤ b ∧ b ≠ g) ∧ v.ownBlock ≠ some b) z W p.1 p.2
theorem PaG.turn {S : List Nat} {B g z : Nat} {w w' : World} {v : Value} {ts : List (Tm × Value)} (h : PaG B g z w v ts) (k : Turn S w w') (hS : ∀ i ∈ S, i < B ∨ i = g) : PaG B g z w' v ts := by
  refine ⟨?_, h.ng, fun p hp => SitQ.keep k.size (fun b hb hq => ⟨hq, fun _ => turn_cell k hb (fun hm => by
    rcases hS b hm with h1 | h1
    · have := hq.1.1; omega
    · exact hq.1.2 h1)⟩) _ _ (h.sit p hp)⟩
  have hn := h.ng
  have hl := h.own.lt
  obtain ⟨h1, h2⟩ := h.own
  refine ⟨h1, ?_⟩
  rcases h2 with h2 | ⟨g', cap, cur, rfl, h3, h4, h5, h6, h7, h8⟩
  · exact .inl h2
  · refine .inr ⟨g', cap, cur, rfl, h3, (k.block g' (Array.getElem?_eq_some_iff.1 h4).1 (fun hm => ?_)).trans h4, h5, h6, h7, h8⟩
    rcases hS g' hm with h9 | h9
    · have := (hl g' rfl).1; omega
    · exact hn (by rw [← h9]; rfl)
theorem PaG.val {B g z : Nat} {w : World} {v : Value} {ts : List (Tm × Value)} (h : PaG B g z w v ts) : ∃ a n, v = .slice a ts.length n := own_val h.own
theorem PaG.blk {B g z : Nat} {w : World} {v : Value} {ts : List (Tm × Value)} (h : PaG B g z w v ts) (q : Nat) (hq : v.ownBlock = some q) : B ≤ q ∧ q < w.heap.size := h.own.lt q hq
theorem PaG.sits {B g z : Nat} {w : World} {v : Value} {ts : List (Tm × Value)} {t : Tm} (h : PaG B g z w v ts) (hf : Fit z t) (hp : t.parts = ts.map Prod.fst) : SitB B z w t v :=
  PaO.sits (ts := ts) ⟨h.own, fun p hp => (h.sit p hp).weak (fun _ _ hq => ⟨hq.1.1, hq.2⟩)⟩ hf hp
theorem PaG.grows {B g z : Nat} {w w' : World} {v v' : Value} {ts qs : List (Tm × Value)} (h : PaG B g z w v ts) (hg0 : g < w.heap.size) (hq : ∀ p, p ∈ qs → SitQ (fun b => (B ≤ b ∧ b ≠ g) ∧ v.ownBlock ≠ some b) z w p.1 p.2) (ob : Obj)
    (ho : w'.ownsRow B 33 6 v' (ts.length + qs.length) (flQ ts ++ flQ qs)) (hg : (w.alloc ob).grownBy w' v.ownBlock) (hb : v'.ownBlock = v.ownBlock ∨ v'.ownBlock = some (w.alloc ob).heap.size) : PaG B g z w' v' (ts ++ qs) := by
  have hsz := hg.size
  simp only [World.size_alloc] at hsz hb
  refine ⟨by rw [flQ_append, List.length_append]; exact ho, ?_, fun p hp => ?_⟩
  · rcases hb with h3 | h3
    · rw [h3]; exact h.ng
    · rw [h3]; intro he; cases he; omega
  have hs : SitQ (fun b => (B ≤ b ∧ b ≠ g) ∧ v.ownBlock ≠ some b) z w p.1 p.2 := by
    rcases List.mem_append.1 hp with h1 | h1
    · exact h.sit p h1
    · exact hq p h1
  have k1 : ∀ b, b < w.heap.size → v.ownBlock ≠ some b → v'.ownBlock ≠ some b := fun b h1 h2 => by
    rcases hb with h3 | h3
    · rw [h3]; exact h2
    · rw [h3]; intro he; cases he; omega
  have k2 : ∀ b, b < w.heap.size → v.ownBlock ≠ some b → ∀ j, w'.cell? ⟨b, j, none⟩ = w.cell? ⟨b, j, none⟩ := fun b h1 h2 j => by
    have h3 := hg.block b (by simp; omega) (fun he => h2 he.symm)
    have h4 := World.cell?_of_block (a := ⟨b, j, none⟩) h3
    rw [h4]
    exact World.cell?_alloc_lt _ _ _ h1
  exact SitQ.keep (by omega) (fun b h1 h2 => ⟨⟨h2.1, k1 b h1 h2.2⟩, k2 b h1 h2.2⟩) _ _ hs
/-- What a growing row leaves as it was: all but the row. -/
theorem own_turnG {w w0 w' : World} {v : Value} {ob : Obj} (hw0 : w0 = w.alloc ob) (hg : w0.grownBy w' v.ownBlock) (S : List Nat) (hS : ∀ q, v.ownBlock = some q → q ∈ S) : Turn S w w' := by
  subst hw0
  refine ⟨hg.os.trans rfl, hg.tape.trans rfl, hg.output.trans rfl, by have := hg.size; simp at this; omega, fun i hi hn => ?_⟩
  have h3 := hg.block i (by simp; omega) (fun he => hn (hS i he.symm))
  rw [h3]
  show (w.heap.push ob)[i]? = w.heap[i]?
  rw [Array.getElem?_push, if_neg (by omega)]
theorem step_append_tg {ops : Array Oper} {o : Oper} {a : Act} {w : World} {K : Act → World → Prop} {Q : Exit → Act → World → Prop} {E : Prop} {z : Nat} (w0 : World) (B g : Nat) (hgd : o.guard = none) (s x : Operand)
    (hop : o.op = Op.call { callee := Callee.builtin Builtin.append, args := #[s, x], argTypes := #[31, 31] }) (v : Value) (ts qs : List (Tm × Value)) (hw : w = w0.alloc (.cells (flQ qs).toArray 33)) (hs : a.eval s = v) (h : PaG B g z w0 v ts)
    (hg0 : g < w0.heap.size) (hq : ∀ p, p ∈ qs → SitQ (fun b => (B ≤ b ∧ b ≠ g) ∧ v.ownBlock ≠ some b) z w0 p.1 p.2) (hl : ts.length + qs.length ≤ 1000000000) (hB : B ≤ w0.heap.size)
    (hx : a.eval x = .slice (some ⟨w0.heap.size, 0, none⟩) qs.length qs.length)
    (hK : ∀ a' c' w' k, PaG B g z w' (.slice a' (ts.length + qs.length) c') (ts ++ qs) → B ≤ k → k ≠ g → Turn [k] w0 w' → K (a.put o.dst (.slice a' (ts.length + qs.length) c')) w') :
    if Region.wanted o (yielded ops a.tmps) = true then Oper.wp Tryz.prog o a w K Q else E := by
  have hwd : Region.wanted o (yielded ops a.tmps) = true := by simp [Region.wanted, hgd]
  rw [if_pos hwd]
  subst hw
  obtain ⟨i0, hi, hz0, hz1, hz2⟩ := info_parts info_tm
  obtain ⟨v', w', hrun, ho, hg, _, hb⟩ := run_append_own_at (P := Tryz.prog) (w0.alloc (.cells (flQ qs).toArray 33)) B 31 o.type 33 i0 _ 6 72 Tryz.underlying31 hi hz0 hz1 hz2 rfl (by decide) v ts.length (flQ ts) (h.own.alloc _) ⟨w0.heap.size, 0, none⟩ qs.length qs.length (flQ qs) (flQ_len qs)
    (fun j u hj => by
      have hadd : (⟨w0.heap.size, 0, none⟩ : Addr).add j = ⟨w0.heap.size, j, none⟩ := by unfold Addr.add; split <;> simp_all
      rw [hadd]
      exact (Box.new w0 (flQ qs) 33).cell j u hj)
    (flQ_one qs (fun p hp => (hq p hp).oneCell)) (by unfold maxLen; omega) (by omega) (by simp; omega)
  obtain ⟨a', c', rfl⟩ := own_val ho
  unfold Oper.wp
  simp [execOp, hop, resolve, invoke, builtin, hs, hx, hrun, Result.andThen]
  obtain ⟨k, hk1, hk2, hk3⟩ : ∃ k, B ≤ k ∧ k ≠ g ∧ ∀ q, v.ownBlock = some q → q ∈ [k] := by
    rcases hv : v.ownBlock with _ | q
    · exact ⟨w0.heap.size, hB, by omega, fun q hq => by cases hq⟩
    · exact ⟨q, (h.own.lt q hv).1, fun he => h.ng (by rw [hv, he]), fun q' hq' => by cases hq'; simp⟩
  exact hK a' c' w' k (h.grows hg0 hq _ ho hg hb) hk1 hk2 (own_turnG rfl hg [k] hk3)
/-- What a method reads of at most N tokens. -/
def AcC (z rb tb lb : Nat) (c : Int) (o N fn : Nat) (p : Ps) : Prop := ∀ L, L.length ≤ N → ∀ w, Rea z w rb tb lb c L o → Calls Tryz.prog fn #[.pointer (some ⟨rb, 0, none⟩)] w (Out (VTm w.heap.size z) z w rb tb lb c o (p L))
/-- What is read behind a ladder's bracket. -/
structure InA (z rb tb lb : Nat) (c : Int) (o N : Nat) (X : Option Ps) : Prop where
  no : X = none → o = 64
  yes : ∀ E, X = some E → o ≠ 64 ∧ AcC z rb tb lb c (o + 1) N 53 E ∧ Dec E
/-- A ladder while its rungs are read. -/
structure LaS (z : Nat) (w W : World) (rb tb lb : Nat) (c : Int) (o g : Nat) (a : Nat) (Lr : List Tk) (v : Value) (ts : List (Tm × Value)) : Prop where
  rs : Box W w.heap.size zs6
  lt : Box W g [.int .i64 36, .string ⟨#[]⟩, .int .i64 0, .int .i64 0, .int .i64 (a : Nat), v]
  pa : PaG (w.heap.size + 1) g z W v ts
  re : Rea z W rb tb lb c Lr o
  tn : Turn [rb] w W
  gg : w.heap.size < g
  hr : rb < w.heap.size ∧ tb < w.heap.size ∧ lb < w.heap.size
theorem LaS.turn {z : Nat} {w W W' : World} {rb tb lb : Nat} {c : Int} {o o' g a : Nat} {Lr Lq : List Tk} {v : Value} {ts : List (Tm × Value)} (h : LaS z w W rb tb lb c o g a Lr v ts) (k : Turn [rb] W W') (r : Rea z W' rb tb lb c Lq o') : LaS z w W' rb tb lb c o' g a Lq v ts := by
  have h1 := h.gg
  have h2 := h.hr
  exact ⟨h.rs.turn k (by simp; omega), h.lt.turn k (by simp; omega), h.pa.turn k (by simp; omega), r, Go.Proofs.YtecdfnpbcabdnaaGreatDoor.tn h.tn k, h.gg, h.hr⟩
theorem LaS.next {z : Nat} {w W W' : World} {rb tb lb : Nat} {c : Int} {o g a : Nat} {Lr : List Tk} {v : Value} {ts : List (Tm × Value)} (h : LaS z w W rb tb lb c o g a Lr v ts) (k : Below W.heap.size W W') : LaS z w W' rb tb lb c o g a Lr v ts :=
  h.turn (Turn.of_below k) (h.re.next k)
/-- Parts more. -/
theorem LaS.added {z : Nat} {w W W' : World} {rb tb lb : Nat} {c : Int} {o g a k : Nat} {Lr : List Tk} {v v' : Value} {ts us : List (Tm × Value)} (h : LaS z w W rb tb lb c o g a Lr v ts) (p : PaG (w.heap.size + 1) g z W' v' us) (hk : w.heap.size + 1 ≤ k) (hkg : k ≠ g) (t : Turn [k] W W') : LaS z w (W'.setCell ⟨g, 5, none⟩ v') rb tb lb c o g a Lr v' us := by
  have h1 := h.gg
  have h2 := h.hr
  have hs := t.size
  refine ⟨(h.rs.turn t (by simp; omega)).other (by omega), (h.lt.turn t (by simp; omega)).set 5 (by simp) v', p.turn (turn_set W' g 5 v') (by simp), (h.re.turn1 t (by omega)).turn1 (turn_set W' g 5 v') (by omega), ?_, h1, h2⟩
  exact (h.tn.trans t (fun i hi => .inr (by simp at hi; omega))).andSet _ _ (.inr (by show w.heap.size ≤ g; omega))
theorem rungs_succ (c : Int) (A : Ps) (f : Nat) (ps : List Tm) (L : List Tk) : rungs c A (f + 1) ps L = bnd (mayS c k_else L) fun b =>
    if b.1 = true then bnd (mustS c k_col b.2) fun a => bnd (A a.2) fun y => closeP c k_rb (ps ++ [y.1], y.2)
    else bnd (boundP c b.2) fun x => bnd (mustS c k_col x.2) fun a => bnd (A a.2) fun y => bnd (mustS c k_com y.2) fun d => rungs c A f (ps ++ [x.1, y.1]) d.2 := rfl
/-- What was read last lies apart from the row and from g. -/
theorem sit_apartG {B C g z : Nat} {w : World} {v : Value} {t : Tm} {u : Value} (h : SitB C z w t u) (hB : B ≤ C) (hg : g < C) (hv : ∀ q, v.ownBlock = some q → q < C) : SitQ (fun b => (B ≤ b ∧ b ≠ g) ∧ v.ownBlock ≠ some b) z w t u :=
  h.weak (fun b _ hq => ⟨⟨Nat.le_trans hB hq, by have : C ≤ b := hq; omega⟩, fun he => by have := hv b he; have : C ≤ b := hq; omega⟩)
end Go.Proofs.YtecdfnpbcabdnaaGreatDoor
