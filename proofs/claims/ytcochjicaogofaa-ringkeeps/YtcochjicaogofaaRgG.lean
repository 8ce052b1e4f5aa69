/- Rings of numbers: Each, and what goes over it. -/
import Derived.RangeFuncNested
import Derived.RangeFuncBound
import Derived.RangeFuncCalls
import Derived.RangeFuncLeaves
import Derived.RangeFuncBox
import Derived.Shelf.Abstract
import Derived.Shelf.RegionOpen
import Derived.WalkKit
import Derived.OwnWalkIn
import Derived.TacticsInMore
import Derived.LoopNIn
import Derived.LoopIn
import Derived.Maps.AppendAt
import Derived.Test.YtcochjicaogofaaRgF
namespace Go.Proofs.Ytcochjicaogofaa
open Go.RowKit Go.Shelf
attribute [local go_sem] Oper.semAt_some

/-- What Each answers: a function over a list of its own. -/
def EachIs (w : World) (L : List Int) (e : Ending) (w' : World) : Prop := ∃ g c, e = .returned (.func (.func 34) #[] #[.pointer (some ⟨c, 0, none⟩)]) ∧ w.heap.size ≤ g ∧ w.heap.size ≤ c ∧ Blk w' g L ∧ Boxed w' c 35 (.slice (some ⟨g, 0, none⟩) L.length L.length) ∧ Below w.heap.size w w'
set_option maxRecDepth 20000 in
theorem rEach_p (p : Option Addr) (room : Nat) (L : List Int) (w : World) (h : RgP w p room L) (hr : room ≤ 4096) :
    Calls Try.prog 19 #[.pointer p] w (EachIs w L) := by
  have HP := hid h
  clear h
  go_enter Try.func19, Try.ntmps19
  go_wp2_with fail
  refine Calls.mono (rList_p p room L w HP.out hr) ?_
  rintro e w1 ⟨g, rfl, hg, hk, hb⟩
  have HK := hid hk
  clear hk
  go_wp2_with fail
  go_ret
  have hk := HK.out
  have hs := hb.size
  exact ⟨g, w1.heap.size, rfl, hg, hs, hk.next ((Below.refl _ _).alloc (Nat.le_refl _) _), Boxed.new _ _ _, hb.alloc hs _⟩

/-- The block g lies as it lay. -/
def KeepB (g : Nat) (W W' : World) : Prop := W'.heap[g]? = W.heap[g]?
theorem keepB_t {g : Nat} {A B C : World} (h : KeepB g A B) (k : KeepB g B C) : KeepB g A C := Eq.trans k h
theorem keepB_b {g : Nat} {w : World} (hg : g < w.heap.size) (W : World) (l : Nat) (o o' : Obj) (hl : w.heap.size ≤ l) (h : W.heap[l]? = some o) (_ : o.isCells = false) (_ : o.isWalk = false) : KeepB g W (W.putObj l o') :=
  (grownBy_putObj' W l o').block g (by have := (Array.getElem?_eq_some_iff.1 h).1; omega) (fun e => by cases e; omega)
/-- What has come when k rounds are over. -/
def upto {α : Type} (f : Nat → α) (k : Nat) : List α := (List.range k).map f
theorem upto_succ {α : Type} (f : Nat → α) (k : Nat) : upto f (k + 1) = upto f k ++ [f k] := by simp [upto, List.range_succ]
theorem upto_length {α : Type} (f : Nat → α) (k : Nat) : (upto f k).length = k := by simp [upto]

set_option maxRecDepth 100000 in
set_option maxHeartbeats 2000000 in
/-- The function that Each answers, for every loop's body that keeps the list. -/
theorem each1_in (F : Fence) (n : Nat) (h8 : F.fn 34) (hro : F.round = none) (hn : 1 ≤ n) (l Bs b len cap : Nat) (zs : List Int) (hreach : len ≤ 4096) (J Jx : List (Nat × Int) → World → Prop)
    (hY : ∀ pre x W, J pre W → pre.length < len → YieldAt F (n - 1) Try.prog l #[.int .i64 (x.1 : Int), .int .i64 x.2] W fun e W' =>
      (e = .returned (.bool true) ∧ J (pre ++ [x]) W' ∧ KeepB b W W') ∨ (e = .returned (.bool false) ∧ Jx (pre ++ [x]) W'))
    (W : World) (hBs : W.cell? ⟨Bs, 0, none⟩ = some (.slice (some ⟨b, 0, none⟩) len cap)) (hc : ∀ j, j < len → W.cell? ⟨b, j, none⟩ = some (.int .i64 (zs[j]?.getD 0))) (h0 : J [] W) :
    CallsIn F n Try.prog 34 #[.func (.yield l) #[] #[], .pointer (some ⟨Bs, 0, none⟩)] W fun e W' => (∃ v, e = .returned v) ∧
      ((∃ ys, ys = upto (fun j => (j, zs[j]?.getD 0)) len ∧ J ys W') ∨ (∃ pre, (∃ k, k ≤ len ∧ pre = upto (fun j => (j, zs[j]?.getD 0)) k) ∧ Jx pre W')) := by
  refine callsIn_of_wp Try.func34 rfl h8 ?_ hro
  simp only [Try.ntmps34, List.size_toArray, List.length_cons, List.length_nil, Nat.reduceAdd, Nat.reduceSub, Array.replicate_succ, Array.replicate_zero, List.push_toArray, List.append_toArray, List.nil_append, List.cons_append]
  gi_wp2
  gi_loopw [7] (fun i wr => ∃ k : Nat, k ≤ len ∧ i = .int .i64 k ∧ J (upto (fun j => (j, zs[j]?.getD 0)) k) wr ∧ KeepB b W wr)
    (fun i _ => len - (intOf i).toNat)
  case atStart => exact ⟨0, Nat.zero_le _, rfl, h0, Eq.refl _⟩
  case round =>
    obtain ⟨k, hk, rfl, hJs, hnx⟩ := hrel
    have hcx : k < len → wr.cell? ⟨b, k, none⟩ = some (.int .i64 (zs[k]?.getD 0)) := fun h => (World.cell?_of_block (a := ⟨b, k, none⟩) hnx).trans (hc k h)
    by_cases hlt : k < len
    · obtain ⟨fn, tmps, assign, body, hy, hR⟩ := hY _ (k, zs[k]?.getD 0) wr hJs (by rw [upto_length]; exact hlt)
      dsimp only at hy
      have hcx' := hcx hlt
      gi_wp2
      refine hR.mono ?_
      rintro e W3 (⟨rfl, hJ3, hk3⟩ | ⟨rfl, hJx3⟩)
      · gi_wp2
        go_roundw
        case rel => exact ⟨k + 1, by omega, by simp, by rw [upto_succ]; exact hJ3, keepB_t hnx hk3⟩
        case measure => simp [intOf]; omega
      · gi_wp2
        refine bodyPost_ret (results_none rfl _ _ _) rfl ?_
        exact ⟨⟨_, rfl⟩, .inr ⟨_, ⟨k + 1, by omega, (upto_succ _ _).symm⟩, hJx3⟩⟩
    · obtain rfl : k = len := by omega
      gi_wp2
      go_end0
      exact ⟨⟨_, rfl⟩, .inl ⟨_, rfl, hJs⟩⟩

theorem each_stops (F : Fence) (n : Nat) (h8 : F.fn 34) (hro : F.round = none) (hn : 1 ≤ n) (c g : Nat) (zs : List Int) (hreach : zs.length ≤ 4096) (w : World)
    (hc : Boxed w c 35 (.slice (some ⟨g, 0, none⟩) zs.length zs.length)) (hI : Blk w g zs) :
    SeqStopsK F n Try.prog 34 #[.pointer (some ⟨c, 0, none⟩)] (fun x : Nat × Int => #[Value.int .i64 (x.1 : Int), Value.int .i64 x.2]) (KeepB g) (fun ys => ys = upto (fun j => (j, zs[j]?.getD 0)) zs.length)
      (fun pre => ∃ k, k ≤ zs.length ∧ pre = upto (fun j => (j, zs[j]?.getD 0)) k) zs.length w := fun l J Jx W hW _ _ hY h0 => by
  have hc' := (hW.cell (p := ⟨c, 0, none⟩) hc.lt).trans hc.cell
  refine each1_in F n h8 hro hn l c g zs.length zs.length zs hreach J Jx hY W hc' (fun j hj => ?_) h0
  exact (hW.cell (p := ⟨g, j, none⟩) hI.lt).trans (box_cell hI.box (by simp [hj]))
end Go.Proofs.Ytcochjicaogofaa
