/- The law CoreLadders: the ladder while it is made. -/
import Derived.Test.YtaombbbblgfgdaaGreatDoorClA
import Derived.Test.YtaombbbblgfgdaaGreatDoorCeA
import Derived.Test.YtaombbbblgfgdaaGreatDoorMgZ
import Derived.Deep.AppendLies
import Derived.Deep.RegionLaw
namespace Go.Proofs.YtaombbbblgfgdaaGreatDoor
open Go.RowKit

theorem want_step (v c : Int) (bl : List Int) : wantF v 0 (bl ++ [c]) = if v < c ∧ wantF v 0 bl < 0 then ((bl.length : Nat) : Int) + 1 else wantF v 0 bl := by
  rw [want_snoc]
  have h := want_bd v bl 0
  by_cases h1 : wantF v 0 bl < 0
  · by_cases h2 : v < c
    · rw [if_pos h1, if_pos h2, if_pos ⟨h2, h1⟩]; simp
    · rw [if_pos h1, if_neg h2, if_neg (fun h => h2 h.1)]; omega
  · rw [if_neg h1, if_neg (fun h => h1 h.2)]
theorem step_num {ops : Array Oper} {o : Oper} {a : Act} {w : World} {K : Act → World → Prop} {Q : Exit → Act → World → Prop} {E : Prop} (hgd : o.guard = none) (n : Int)
    (he : (execOp a.eval o).run Tryz.prog w = .ok (.enter 15 #[.int .i64 n]) w)
    (hK : ∀ w', Below w.heap.size w w' → K (a.put o.dst (coV (numC n) (.slice none 0 0))) w') :
    if Region.wanted o (yielded ops a.tmps) = true then Oper.wp Tryz.prog o a w K Q else E := by
  have hwd : Region.wanted o (yielded ops a.tmps) = true := by simp [Region.wanted, hgd]
  rw [if_pos hwd]
  unfold Oper.wp
  rw [he, Oper.upon_enter]
  exact (num_c n w).mono fun e w' h => by obtain ⟨rfl, hk⟩ := h; exact hK w' hk
theorem csits_num {n : Int} (hn : C64 n) (w : World) : CSits w (numC n) (.slice none 0 0) :=
  csits_iff.2 ⟨⟨by show C64 1; unfold C64; decide, hn, by show C64 0; unfold C64; decide⟩, none, 0, rfl, Nat.le_refl _, by omega, .inl rfl⟩
/-- A part of the ladder and where its own part lies. -/
def PtAt (w : World) (lb : Nat) (v : Value) (x : Co × Value) : Prop :=
  (∃ n, C64 n ∧ x = (numC n, .slice none 0 0)) ∨ ∃ k n g, C64 k ∧ C64 n ∧ x = (⟨k, 0, 0, [numC n]⟩, .slice (some ⟨g, 0, none⟩) 1 1) ∧ Box w g [.int .i64 1, .int .i64 n, .int .i64 0, .slice none 0 0] ∧ g ≠ lb ∧ v.ownBlock ≠ some g
theorem PtAt.sits {w : World} {lb : Nat} {v : Value} {x : Co × Value} (h : PtAt w lb v x) : CSits w x.1 x.2 := by
  rcases h with ⟨n, hn, rfl⟩ | ⟨k, n, g, hk, hn, rfl, hb, -, -⟩
  · exact csits_num hn w
  · refine csits_iff.2 ⟨⟨hk, by show C64 0; unfold C64; decide, by show C64 0; unfold C64; decide⟩, _, 1, rfl, Nat.le_refl _, by omega, .inr ⟨g, 0, rfl, hb.lt, fun i hi => ?_⟩⟩
    have hi' : i = 0 := by have : i < 1 := hi; omega
    subst hi'
    exact ⟨_, ⟨hb.cell 0 _ rfl, hb.cell 1 _ rfl, hb.cell 2 _ rfl, hb.cell 3 _ rfl⟩, csits_num hn w⟩
theorem PtAt.next {w w' : World} {lb : Nat} {v : Value} {x : Co × Value} (h : PtAt w lb v x) (hw : Below w.heap.size w w') : PtAt w' lb v x := by
  rcases h with ⟨n, hn, rfl⟩ | ⟨k, n, g, hk, hn, rfl, hb, h1, h2⟩
  · exact .inl ⟨n, hn, rfl⟩
  · exact .inr ⟨k, n, g, hk, hn, rfl, hb.next hw, h1, h2⟩
structure LdAt (W0 : World) (lb : Nat) (v : Value) (xs : List (Co × Value)) (w : World) : Prop where
  box : Box w lb [.int .i64 32, .int .i64 0, .int .i64 0, v]
  own : w.ownsRow W0.heap.size 30 4 v xs.length (flC xs)
  ne : v.ownBlock ≠ some lb
  le : W0.heap.size ≤ lb
  sit : ∀ x, x ∈ xs → PtAt w lb v x
  bel : Below W0.heap.size W0 w
theorem own_next {w w' : World} {B : Nat} {e : TypeId} {size n : Nat} {v : Value} {xs : List Value} (h : w.ownsRow B e size v n xs) (hb : Below w.heap.size w w') : w'.ownsRow B e size v n xs := by
  obtain ⟨h1, h2 | ⟨g, cap, cur, h2, h3, h4, h5⟩⟩ := h
  · exact ⟨h1, .inl h2⟩
  · exact ⟨h1, .inr ⟨g, cap, cur, h2, h3, (hb.block g (by rcases Nat.lt_or_ge g w.heap.size with h | h; exact h; rw [Array.getElem?_eq_none h] at h4; cases h4)).trans h4, h5⟩⟩
theorem LdAt.next {W0 w w' : World} {lb : Nat} {v : Value} {xs : List (Co × Value)} (h : LdAt W0 lb v xs w) (hw : Below w.heap.size w w') : LdAt W0 lb v xs w' :=
  ⟨h.box.next hw, own_next h.own hw, h.ne, h.le, fun x hx => (h.sit x hx).next hw, cbelow_on h.bel hw h.bel.size⟩
theorem Box.far {w w' : World} {b : Nat} {vs : List Value} {row : Option Nat} (h : Box w b vs) (hg : w.grownBy w' row) (hn : some b ≠ row) : Box w' b vs :=
  ⟨fun i v hv => (hg.cell_far ⟨b, i, none⟩ h.lt hn).trans (h.cell i v hv), fun i hi => (hg.frozen_far ⟨b, i, none⟩ h.lt hn).trans (h.free i hi), Nat.lt_of_lt_of_le h.lt hg.size⟩
theorem own_other {w : World} {B : Nat} {e : TypeId} {size n g cap : Nat} {xs : List Value} (h : w.ownsRow B e size (.slice (some ⟨g, 0, none⟩) n cap) n xs) {a : Addr} (ha : g ≠ a.block) (u : Value) : (w.setCell a u).ownsRow B e size (.slice (some ⟨g, 0, none⟩) n cap) n xs := by
  obtain ⟨h1, ⟨h2, -⟩ | ⟨g', cap', cur, h2, h3, h4, h5⟩⟩ := h
  · cases h2
  · simp only [Value.slice.injEq, Option.some.injEq, Addr.mk.injEq, and_true, true_and] at h2
    obtain ⟨rfl, rfl⟩ := h2
    exact ⟨h1, .inr ⟨g, cap, cur, rfl, h3, by rw [Below.heap_setCell _ _ _ _ (by first | exact ha | exact ha.symm | omega)]; exact h4, h5⟩⟩
/-- Behind an append and the store of its answer. -/
theorem LdAt.grow {W0 w w1 : World} {lb g cap : Nat} {v : Value} {xs : List (Co × Value)} {x : Co × Value} (h : LdAt W0 lb v xs w) (hp : PtAt w lb v x)
    (ho : w1.ownsRow W0.heap.size 30 4 (.slice (some ⟨g, 0, none⟩) (xs.length + 1) cap) (xs.length + 1) (flC xs ++ coL x.1 x.2)) (hg : w.grownBy w1 v.ownBlock) (ha : v.ownBlock = some g ∨ g = w.heap.size) :
    Box w1 lb [.int .i64 32, .int .i64 0, .int .i64 0, v] ∧ LdAt W0 lb (.slice (some ⟨g, 0, none⟩) (xs.length + 1) cap) (xs ++ [x]) (w1.setCell ⟨lb, 3, none⟩ (.slice (some ⟨g, 0, none⟩) (xs.length + 1) cap)) := by
  have hgl : g ≠ lb := by
    rcases ha with e | e
    · intro e2; exact h.ne (by rw [e, e2])
    · have := h.box.lt; omega
  have bl : Box w1 lb [.int .i64 32, .int .i64 0, .int .i64 0, v] := by
    exact h.box.far hg (fun e => h.ne e.symm)
  refine ⟨bl, bl.set 3 (by simp) _, ?_, ?_, h.le, ?_, ?_⟩
  · rw [flC_snoc, List.length_append]
    exact own_other ho hgl _
  · show some g ≠ some lb
    intro e; exact hgl (Option.some.inj e)
  · have key : ∀ y, PtAt w lb v y → PtAt (w1.setCell ⟨lb, 3, none⟩ (.slice (some ⟨g, 0, none⟩) (xs.length + 1) cap)) lb (.slice (some ⟨g, 0, none⟩) (xs.length + 1) cap) y := by
      intro y hy
      rcases hy with ⟨n, hn, rfl⟩ | ⟨k, n, b, hk, hn, rfl, hb, h1, h2⟩
      · exact .inl ⟨n, hn, rfl⟩
      · refine .inr ⟨k, n, b, hk, hn, rfl, (hb.far hg (fun e => h2 e.symm)).other h1, h1, ?_⟩
        show some g ≠ some b
        intro e
        have e := Option.some.inj e
        rcases ha with e2 | e2
        · exact h2 (by rw [e2, e])
        · have := hb.lt; omega
    intro y hy
    rcases List.mem_append.1 hy with hy | hy
    · exact key y (h.sit y hy)
    · rw [List.mem_singleton.1 hy]
      exact key x hp
  · exact (below_grown h.bel h.own hg h.bel.size).setCell h.le _
/-- Decide of the law's plan. -/
theorem dec_lad (v : Int) (bl : List Int) (hb : bl.length ≤ 60) (hr : RisB bl) (rep : Nat) (hrep : rep < 65536) (u : Value) (w : World) (hs : CSits w (ladC v bl) u) (hF : FldAt w) (hg : GlE w) :
    Calls Tryz.prog 13 #[.agg #[.slice none 0 0, .int .i64 0, .int .i64 1, .int .i64 1, .int .i64 0, .int .i64 0, .slice none 0 0, .slice none 0 0, .int .i64 0, .slice none 0 0, .int .i64 32, .int .i64 0, .int .i64 0, u], .agg #[.int .i64 rep, .slice none 0 0, .slice none 0 0]] w fun e w' => e = .returned (.tuple #[.agg #[.bool false, .int .i64 0, .int .i64 (if wantF v 0 bl < 0 then (rep : Int) + 1 else wantF v 0 bl)], .int .i64 0]) ∧ Below w.heap.size w w' := by
  obtain ⟨q, hq⟩ := coeq_ex
  have h01 : C64 0 ∧ C64 1 := by unfold C64; decide
  have hP : PlAt w (planL v bl) ⟨.slice none 0 0, .slice none 0 0, .slice none 0 0, .slice none 0 0, u⟩ :=
    ⟨⟨h01.1, h01.2, h01.2, h01.1, h01.1⟩, h01.1, (fun x hx => by cases hx), (fun x hx => by cases hx), ⟨none, 0, rfl, Nat.le_refl _, by omega, .inl rfl⟩, ⟨none, 0, rfl, Nat.le_refl _, by omega, .inl rfl⟩, ⟨none, 0, rfl, Nat.le_refl _, by omega, .inl rfl⟩, ⟨none, 0, rfl, Nat.le_refl _, by omega, .inl rfl⟩, hs⟩
  have hE : EnvAt w ⟨rep, [], []⟩ (.slice none 0 0) (.slice none 0 0) :=
    ⟨⟨by show C64 (rep : Int); unfold C64; omega, (fun i => by simp [h01.1]), by simp, by simp⟩, ⟨none, 0, rfl, .inl rfl⟩, ⟨none, 0, rfl, .inl rfl⟩⟩
  refine (cDecide_c q hq ⟨rep, [], []⟩ (planL v bl) _ _ _ w hP hE hF hg).mono ?_
  rintro e w' ⟨rfl, b⟩
  refine ⟨?_, b⟩
  rw [formed_lad q v bl hb hr]
  have hf : fitE ⟨rep, [], []⟩ (planL v bl) = true := rfl
  rw [hf]
  show Ending.returned (decV true (telV ⟨rep, [], []⟩ (ladC v bl))) = _
  rw [te_lad ⟨rep, [], []⟩ (by show (0 : Int) ≤ (rep : Int); omega) (by show (rep : Int) ≤ 65535; omega) v bl hb]
  rfl
theorem two_alloc (w : World) (o o' : Obj) : Below w.heap.size w ((w.alloc o).alloc o') := ((Below.refl _ _).alloc (Nat.le_refl _) _).alloc (by simp) _
/-- A part of one part, made now. -/
theorem new_pt {W0 w : World} {lb : Nat} {v : Value} {xs : List (Co × Value)} {k n : Int} (h : LdAt W0 lb v xs w) (hk : C64 k) (hn : C64 n) (o : Obj) : PtAt ((w.alloc (.cells #[.int .i64 1, .int .i64 n, .int .i64 0, .slice none 0 0] 30)).alloc o) lb v (⟨k, 0, 0, [numC n]⟩, .slice (some ⟨w.heap.size, 0, none⟩) 1 1) := by
  refine .inr ⟨k, n, w.heap.size, hk, hn, rfl, ?_, ?_, ?_⟩
  · exact (Box.new w [.int .i64 1, .int .i64 n, .int .i64 0, .slice none 0 0] 30).next ((Below.refl _ _).alloc (Nat.le_refl _) _)
  · have := h.box.lt; omega
  · intro e
    have := h.own.lt _ e
    omega
end Go.Proofs.YtaombbbblgfgdaaGreatDoor
