/- The statement RingKeeps: what lies ahead of its walk. -/
import Derived.Test.YtcochjicaogofaaRfC
import Derived.RegionIn
namespace Go.Proofs.Ytcochjicaogofaa
open Go.RowKit Go.Shelf
attribute [local go_sem] Oper.semAt_some

theorem wpListIn_append_sl {F : Fence} {n : Nat} (w : World) {ops : Array Oper} {rest : List Oper} {o : Oper} {a : Act} {Q : Exit → Act → World → Prop} (hgd : o.guard = none) (s x : Operand)
    (hop : o.op = Op.call { callee := Callee.builtin Builtin.append, args := #[s, x], argTypes := #[35, 35] }) (g : Nat) (lv : Value) (L : List Int) (hs : a.eval s = lv) (h : Sl w g lv L) (hl : L.length ≤ 4096)
    (ad : Addr) (y : Int) (hx : a.eval x = .slice (some ad) 1 1) (hy : ∀ j u, [Value.int .i64 y][j]? = some u → w.cell? (ad.add j) = some u)
    (hK : ∀ g' off' cap' w', Sl w' g' (.slice (some ⟨g', off', none⟩) (L.length + 1) cap') (L ++ [y]) → Turn [g] w w' → (g' = g ∨ w.heap.size ≤ g') → wpListIn F n Try.prog ops Q rest (a.put o.dst (.slice (some ⟨g', off', none⟩) (L.length + 1) cap')) w') :
    wpListIn F n Try.prog ops Q (o :: rest) a w := by
  refine wpListIn_plain hgd fun K hK' => ?_
  obtain ⟨g', off', cap', w', hrun, r1, r2, _, r3⟩ := run_append_sl o.type w g lv L h hl ad y hy
  unfold Oper.wpIn
  refine ⟨?_, ?_⟩
  · simp [Oper.about, hop, resolve, Target.leads, Sem.run_pure]
  · rw [Oper.semAt_plain F _ _ (by rw [hop]; intro c hc'; cases hc')]
    simp [execOp, hop, resolve, invoke, builtin, hs, hx, hrun, Result.andThen]
    exact hK' _ _ (hK g' off' cap' w' r1 r2 r3)
/-- The newest hundred. -/
def newest (A : List Int) : List Int := A.drop (A.length - 100)
theorem newest_length (A : List Int) : (newest A).length = min A.length 100 := by simp [newest]; omega
theorem newest_le (A : List Int) : (newest A).length ≤ 100 := by rw [newest_length]; omega
theorem newest_room (A : List Int) (v : Int) (h : (newest A).length < 100) : newest (A ++ [v]) = newest A ++ [v] := by
  rw [newest_length] at h
  have : A.length < 100 := by omega
  simp [newest, show A.length - 100 = 0 by omega, show A.length + 1 - 100 = 0 by omega]
theorem newest_full (A : List Int) (v : Int) (h : ¬ (newest A).length < 100) : ∃ x, newest A = x :: (newest (A ++ [v])).dropLast ∧ newest (A ++ [v]) = (newest (A ++ [v])).dropLast ++ [v] := by
  rw [newest_length] at h
  have hl : 100 ≤ A.length := by omega
  have e : newest (A ++ [v]) = A.drop (A.length - 100 + 1) ++ [v] := by
    unfold newest
    rw [List.drop_append_of_le_length (by simp <;> omega)]
    congr 2
    simp; omega
  rw [e, List.dropLast_concat]
  refine ⟨A[A.length - 100]'(by omega), ?_, rfl⟩
  rw [newest, List.drop_eq_getElem_cons (by omega)]
theorem rPush_newest (b q : Nat) (A : List Int) (v : Int) (w : World) (h : Rg w b q 100 (newest A)) :
    Calls Try.prog 18 #[.pointer (some ⟨b, 0, none⟩), .int .i64 v] w fun e w' => (∃ x ok, e = .returned (.tuple #[.int .i64 x, .bool ok])) ∧ ∃ q', Rg w' b q' 100 (newest (A ++ [v])) ∧ Turn [b, q] w w' ∧ (q' = q ∨ w.heap.size ≤ q') := by
  by_cases e : (newest A).length < 100
  · rw [newest_room A v e]
    exact (rPush_room b q 100 (newest A) v w h (by decide) e).mono fun _ _ ⟨q', he, hr⟩ => ⟨⟨_, _, he⟩, q', hr⟩
  · obtain ⟨x, e1, e2⟩ := newest_full A v e
    have hl := newest_le A
    rw [e2]
    rw [e1] at h e hl
    exact (rPush_full b q 100 x _ v w h (by decide) (by omega)).mono fun _ _ ⟨q', he, hr⟩ => ⟨⟨_, _, he⟩, q', hr⟩
theorem rPush_all (b q room : Nat) (L : List Int) (v : Int) (w : World) (h : Rg w b q room L) (h1 : 1 ≤ room) (hr : room ≤ 4096) :
    Calls Try.prog 18 #[.pointer (some ⟨b, 0, none⟩), .int .i64 v] w fun e w' => (∃ x ok, e = .returned (.tuple #[.int .i64 x, .bool ok])) ∧ ∃ q' L', Rg w' b q' room L' ∧ Turn [b, q] w w' ∧ (q' = q ∨ w.heap.size ≤ q') := by
  have hl := h.len
  by_cases e : L.length = room
  · cases L with
    | nil => simp at e; omega
    | cons x L => exact (rPush_full b q room x L v w h hr e).mono fun _ _ ⟨q', he, hr⟩ => ⟨⟨_, _, he⟩, q', _, hr⟩
  · exact (rPush_room b q room L v w h hr (by omega)).mono fun _ _ ⟨q', he, hr⟩ => ⟨⟨_, _, he⟩, q', _, hr⟩
theorem rDrop_all (b q room : Nat) (L : List Int) (w : World) (h : Rg w b q room L) (hr : room ≤ 4096) :
    Calls Try.prog 20 #[.pointer (some ⟨b, 0, none⟩)] w fun e w' => (∃ x ok, e = .returned (.tuple #[.int .i64 x, .bool ok])) ∧ ∃ q' L', Rg w' b q' room L' ∧ Turn [b, q] w w' ∧ (q' = q ∨ w.heap.size ≤ q') := by
  cases L with
  | nil => exact (rDrop_no _ room w (.inr ⟨b, q, rfl, h⟩)).mono fun e w' ⟨he, hw⟩ => by subst hw; exact ⟨⟨_, _, he⟩, q, [], h, Turn.refl _ _, .inl rfl⟩
  | cons x L => exact (rDrop_yes b q room L x w h hr).mono fun _ _ ⟨q', he, hr⟩ => ⟨⟨_, _, he⟩, q', _, hr⟩
theorem Blk.sl {w : World} {g : Nat} {l : List Int} (h : Blk w g l) (hl : l.length ≤ maxLen) : Sl w g (.slice (some ⟨g, 0, none⟩) l.length l.length) l := .inr ⟨0, l.length, rfl, slAt_of_box h.box (by simp [ints]) (List.prefix_refl _) hl⟩
theorem boxed_turn {S : List Nat} {w w' : World} {B : Nat} {t : TypeId} {v : Value} (h : Boxed w B t v) (tt : Turn S w w') (hn : B ∉ S) : Boxed w' B t v := (tt.block B h.lt hn).trans h
theorem blk_own {β : Type} (g : Nat) (L : List Int) : Own (fun (_ : β) W => Blk W g L) := fun s X Y row hs hg hrow => (hg.block g (Blk.lt hs) (fun e' => by obtain ⟨o, ho, hc⟩ := hrow g e'.symm; rw [show X.heap[g]? = _ from hs] at ho; cases ho; cases hc)).trans hs
end Go.Proofs.Ytcochjicaogofaa
