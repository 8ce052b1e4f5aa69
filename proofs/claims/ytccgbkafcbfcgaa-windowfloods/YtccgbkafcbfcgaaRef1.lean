/- The document's arithmetic (package capstanref01): reading a list of digits, trimming it, and the digits of an int64. -/
import Derived.Test.YtccgbkafcbfcgaaChecked
import Derived.Test.YtccgbkafcbfcgaaDigs
import Derived.WalkKit
import Derived.WalkSpells
import Derived.Below
import Derived.BigQuiet
import Derived.Deep.RegionHeld3
namespace Go.Proofs.Ytccgbkafcbfcgaa
open Go.RowKit

/-- The value v is a slice that reads, in the world w, as the list l. -/
def IsD (w : World) (v : Value) (l : List Int) : Prop :=
  ∃ a c, v = .slice a l.length c ∧ l.length ≤ 1000 ∧ l.length ≤ c ∧ c ≤ maxLen ∧ (l = [] ∨ ∃ b off, a = some ⟨b, off, none⟩ ∧ b < w.heap.size ∧ ∀ i, i < l.length → w.cell? ⟨b, off + i, none⟩ = some (.int .i64 (l.getD i 0)))

theorem IsD.later {w w' : World} {v : Value} {l : List Int} (h : IsD w v l) (hb : Below w.heap.size w w') : IsD w' v l := by
  obtain ⟨a, c, e, h1, h2, hc, h3⟩ := h
  refine ⟨a, c, e, h1, h2, hc, ?_⟩
  rcases h3 with h3 | ⟨b, off, h4, h5, h6⟩
  · exact .inl h3
  · exact .inr ⟨b, off, h4, Nat.lt_of_lt_of_le h5 hb.size, fun i hi => (hb.cell (p := ⟨b, off + i, none⟩) h5).trans (h6 i hi)⟩
theorem isD_nil (w : World) : IsD w (.slice none 0 0) [] := ⟨none, 0, rfl, by simp, by simp, by unfold maxLen; omega, .inl rfl⟩
theorem IsD.len {w : World} {v : Value} {l : List Int} (h : IsD w v l) : l.length ≤ 1000 := by obtain ⟨_, _, _, h1, _⟩ := h; exact h1
theorem isD_of_owns {w : World} {base : Nat} {v : Value} {l : List Int} (hl : l.length ≤ 1000) (h : w.ownsRow base 3 1 v l.length (l.map (Value.int .i64))) : IsD w v l := by
  have H := h
  obtain ⟨_, h | ⟨g, cap, cur, e, hg, hh, h1, h2, h3, h4⟩⟩ := h
  · obtain ⟨e, h0⟩ := h
    have : l = [] := List.length_eq_zero_iff.1 h0
    subst this; subst e
    exact isD_nil w
  · subst e
    refine ⟨_, cap, rfl, hl, h1, h2, .inr ⟨g, 0, rfl, (H.lt g rfl).2, fun i hi => ?_⟩⟩
    rw [Nat.zero_add, H.cellAt i (by omega), List.getElem?_map, List.getElem?_eq_getElem hi, getD_at l i hi]
    rfl
theorem IsD.take {w : World} {a : Option Addr} {c : Nat} {l : List Int} (h : IsD w (.slice a l.length c) l) (m : Nat) (hm : m ≤ l.length) : IsD w (.slice a m c) (l.take m) := by
  obtain ⟨a', c', e, h1, h2, hc, h3⟩ := h
  cases e
  have hl : (l.take m).length = m := by rw [List.length_take]; omega
  refine ⟨a, c, by rw [hl], by omega, by omega, hc, ?_⟩
  rcases h3 with h3 | ⟨b, off, h4, h5, h6⟩
  · exact .inl (by rw [h3]; simp)
  · refine .inr ⟨b, off, h4, h5, fun i hi => ?_⟩
    rw [hl] at hi
    rw [h6 i (by omega)]
    congr 2
    rw [getD_at l i (by omega), getD_at _ i (by rw [hl]; exact hi), List.getElem_take]

set_option maxHeartbeats 400000 in
theorem at_any (v : Value) (l : List Int) (i : Int) (i0 : 0 ≤ i) (i1 : i ≤ 100000) (w : World) (h : IsD w v l) :
    Calls Try.prog 94 #[v, .int .i64 i] w fun e w' => e = .returned (.int .i64 (l.getD i.toNat 0)) ∧ w' = w := by
  obtain ⟨a, c, rfl, h1, h2, hc, h3⟩ := h
  obtain ⟨k, rfl⟩ := Int.eq_ofNat_of_zero_le i0
  rw [Int.toNat_natCast]
  by_cases hk : k < l.length
  · rcases h3 with h3 | ⟨b, off, rfl, h5, h6⟩
    · subst h3; simp at hk
    · have hcell := h6 k hk
      have hk' : (k : Int) < (l.length : Int) := by omega
      generalize l.getD k 0 = x at *
      generalize l.length = n at *
      clear h6
      go_enter Try.func94, Try.ntmps94
      go_wp2_with fail
      go_ret
      exact ⟨rfl, rfl⟩
  · rw [getD_past l k (by omega)]
    have hk' : ¬ (k : Int) < (l.length : Int) := by omega
    generalize l.length = n at *
    clear h3
    go_enter Try.func94, Try.ntmps94
    go_wp2_with fail
    go_ret
    exact ⟨rfl, rfl⟩

set_option maxHeartbeats 400000 in
theorem trim_any (v : Value) (l : List Int) (w : World) (h : IsD w v l) (hd : Dgs l) :
    Calls Try.prog 92 #[v] w fun e w' => ∃ v' l', e = .returned v' ∧ IsD w v' l' ∧ Dgs l' ∧ Trim l' ∧ val l' = val l ∧ w' = w := by
  have H := h
  obtain ⟨a, c, rfl, h1, h2, hc, h3⟩ := h
  unfold maxLen at hc
  go_enter Try.func92, Try.ntmps92
  go_wp2_with fail
  go_loop [3] (fun n => ∃ m : Nat, n = .int .i64 m ∧ m ≤ l.length ∧ ∀ j, m ≤ j → l.getD j 0 = 0) (fun n => (intOf n).toNat)
  case atStart => exact ⟨l.length, rfl, Nat.le_refl _, fun j hj => getD_past l j hj⟩
  case round =>
    obtain ⟨m, rfl, hm, hz⟩ := hrel
    by_cases hm0 : m = 0
    · subst hm0
      go_wp2_with fail
      go_ret
      exact ⟨_, rfl, _, IsD.take H 0 (Nat.zero_le _), dgs_take hd 0, trim_take (.inl rfl) (Nat.zero_le _), val_take_zeros l 0 hz, rfl⟩
    · rcases h3 with h3 | ⟨b, off, rfl, h5, h6⟩
      · subst h3; simp at hm; omega
      · obtain ⟨k, rfl⟩ : ∃ k, m = k + 1 := ⟨m - 1, by omega⟩
        have hcell := h6 k (by omega)
        have HH : Hid _ := h6
        have HZ : Hid _ := hz
        clear h6 hz
        by_cases hx : l.getD k 0 = 0
        · rw [hx] at hcell
          have hk : (k : Int) < (l.length : Int) := by omega
          go_wp2_with fail
          go_round
          case rel =>
            refine ⟨k, by go_num, by omega, fun j hj => ?_⟩
            by_cases e : j = k
            · subst e; exact hx
            · exact HZ.out j (by omega)
          case measure => simp [intOf]
        · have hx' : (l.getD k 0 == 0) = false := beq_eq_false_iff_ne.2 hx
          have hk : (k : Int) < (l.length : Int) := by omega
          have hkc : (k : Int) + 1 ≤ (c : Int) := by omega
          have T := IsD.take H (k + 1) hm
          have T2 : Trim (l.take (k + 1)) := trim_take (.inr hx) hm
          have T3 := val_take_zeros l (k + 1) HZ.out
          generalize l.getD k 0 = x at *
          go_wp2_with fail
          go_ret
          exact ⟨_, rfl, _, T, dgs_take hd _, T2, T3, rfl⟩

theorem info_int : (Try.prog.info? 3).map (fun i => (i.zero, i.size, i.bytes)) = some (some (.int .i64 0), 1, 8) := by kernel_rfl
theorem own_snoc {w : World} {B : Nat} {v : Value} {ds : List Int} {d : Int} (h : w.ownsRow B 3 1 v (ds.length + 1) (ds.map (Value.int .i64) ++ [.int .i64 d])) : w.ownsRow B 3 1 v (ds ++ [d]).length ((ds ++ [d]).map (Value.int .i64)) := by
  simpa using h
/-- Behind an append to a row of the call's own. -/
theorem below_append {B : Nat} {W wr w' : World} {v : Value} {n : Nat} {xs : List Value} (hbl : Below B W wr) (hs : B ≤ wr.heap.size) (o : Obj) (hown : wr.ownsRow B 3 1 v n xs) (hg : (wr.alloc o).grownBy w' v.ownBlock) : Below B W w' :=
  (hbl.alloc hs o).grown hg (by simp; omega) (fun k hk => (hown.lt k hk).1)

/-- What holds of the digits that are split off and of what is left. -/
structure OfInv (U x : Int) (ds : List Int) : Prop where
  eq : val ds + pw ds.length * x = U
  dg : Dgs ds
  x0 : 0 ≤ x
  bd : (ds.length = 0 ∧ x < 18446744073709551616) ∨ (ds.length = 1 ∧ x < 281474976710656) ∨ (ds.length = 2 ∧ x < 4294967296) ∨ (ds.length = 3 ∧ x < 65536) ∨ (ds.length = 4 ∧ x = 0)
  tr : x = 0 → Trim ds
theorem OfInv.step {U x : Int} {ds : List Int} (h : OfInv U x ds) (hx : 0 < x) : OfInv U (x / 65536) (ds ++ [x % 65536]) := by
  obtain ⟨h1, h2, h3, h4, h5⟩ := h
  refine ⟨?_, dgs_snoc h2 (by omega) (by omega), by omega, ?_, ?_⟩
  · rw [val_snoc, List.length_append, List.length_singleton, pw_succ, Int.mul_comm 65536, Int.mul_assoc, Int.add_assoc, ← Int.mul_add]
    rw [show x % 65536 + 65536 * (x / 65536) = x by omega]
    exact h1
  · rw [List.length_append, List.length_singleton]; omega
  · intro hz k hk
    rw [List.length_append, List.length_singleton] at hk
    have e : k = ds.length := by omega
    subst e
    rw [getD_at _ _ (by simp), List.getElem_append_right (Nat.le_refl _)]
    simp
    omega
theorem OfInv.len {U x : Int} {ds : List Int} (h : OfInv U x ds) : ds.length ≤ 4 := by have := h.bd; omega
theorem OfInv.lt {U x : Int} {ds : List Int} (h : OfInv U x ds) : x < 18446744073709551616 := by have := h.bd; omega

/-- A sign and a size. -/
def sg : Bool → Int → Int
  | true, x => -x
  | false, x => x
/-- The sign neg and the slice s stand, in the world w, for the number n, whose size has the digits l. -/
structure BigV (w : World) (neg : Bool) (s : Value) (l : List Int) (n : Int) : Prop where
  isD : IsD w s l
  dg : Dgs l
  tr : Trim l
  num : n = sg neg (val l)
theorem BigV.later {w w' : World} {neg : Bool} {s : Value} {l : List Int} {n : Int} (h : BigV w neg s l n) (hb : Below w.heap.size w w') : BigV w' neg s l n := ⟨h.isD.later hb, h.dg, h.tr, h.num⟩
/-- What a function that makes a Big answers: a Big that stands for n; of what lay in memory nothing has turned. -/
def GivesBig (w : World) (n : Int) (e : Ending) (w' : World) : Prop := ∃ neg s l, e = .returned (.agg #[.bool neg, s]) ∧ BigV w' neg s l n ∧ Below w.heap.size w w'

set_option maxHeartbeats 1000000 in
/-- The digits of an int64's size. -/
theorem Of_any (v : Int) (v0 : -9223372036854775808 ≤ v) (v1 : v < 9223372036854775808) (w : World) :
    Calls Try.prog 76 #[.int .i64 v] w (GivesBig w v) := by
  have hu : ∃ U : Int, U = v.natAbs := ⟨_, rfl⟩
  obtain ⟨U, hU⟩ := hu
  have U0 : 0 ≤ U := by omega
  have U1 : U < 18446744073709551616 := by omega
  have sI : OfInv U U [] := ⟨by rw [val_nil]; show 0 + pw 0 * U = U; rw [pw_zero]; omega, dgs_nil, U0, .inl ⟨rfl, U1⟩, fun _ => trim_nil⟩
  obtain ⟨i0, hi, hz0, hz1, hz2⟩ := info_parts info_int
  by_cases hn : v < 0
  · have EV : Hid (v = -U) := (by omega : v = -U)
    have e1 : IntKind.u64.wrap (-IntKind.u64.wrap v) = U := by rw [IntKind.wrap_u64, IntKind.wrap_u64]; omega
    have E1 : Hid _ := e1
    clear e1 hU
    go_enter Try.func76, Try.ntmps76
    go_wp2_with fail
    rw [E1.out]
    go_loopw [4, 5] (fun u s wr => ∃ (x : Int) (ds : List Int), u = .int .u64 x ∧ wr.ownsRow (w.heap.size + 1) 3 1 s ds.length (ds.map (Value.int .i64)) ∧ Below (w.heap.size + 1) (w.alloc (.cells #[.bool false, .slice none 0 0] 103)) wr ∧ OfInv U x ds) (fun u _ _ => (intOf u).toNat)
    case atStart => exact ⟨U, [], rfl, World.ownsRow_nil _ _ _ _, Below.refl _ _, sI⟩
    case round =>
      obtain ⟨x, ds, rfl, hown, hbl, inv⟩ := hrel
      have x0 := inv.x0
      have x1 := inv.lt
      have hln := inv.len
      have hsz : w.heap.size + 1 ≤ wr.heap.size := by have := hbl.size; simpa using this
      by_cases hx : 0 < x
      · have nx := inv.step hx
        go_wp2_with (first
          | (at_builtin; refine wpList_append_own _ rfl _ _ 101 rfl (w.heap.size + 1) 3 i0 (.int .i64 0) 1 8 Try.underlying101 hi hz0 hz1 hz2 rfl (by decide) _ _ _ rfl (hown.alloc _) ⟨wr.heap.size, 0, none⟩ 1 1 [.int .i64 (x % 65536)] rfl rfl ?c1 ?c2 ?c3 ?c4 ?c5 ?_))
        case c1 => exact cell_one_new _ _ _
        case c2 => intro u hu; simp at hu; subst hu; rfl
        case c3 => unfold maxLen; omega
        case c4 => omega
        case c5 => simp; omega
        intro v' w1 hown' hgrow _
        have hown2 := own_snoc hown'
        have hbl2 := below_append hbl hsz _ hown hgrow
        clear hown' hgrow
        go_wp2_with fail
        go_roundw
        case rel => exact ⟨x / 65536, ds ++ [x % 65536], rfl, hown2, hbl2, nx⟩
        case measure => simp [intOf]; omega
      · have hx' : x = 0 := by omega
        subst hx'
        have eU := inv.eq
        rw [Int.mul_zero, Int.add_zero] at eU
        have EU : Hid _ := eU
        have dR0 := hbl.cell (p := ⟨w.heap.size, 0, none⟩) (by simp)
        have dR1 := hbl.cell (p := ⟨w.heap.size, 1, none⟩) (by simp)
        have gR0 := hbl.frozen (p := ⟨w.heap.size, 0, none⟩) (by simp)
        have gR1 := hbl.frozen (p := ⟨w.heap.size, 1, none⟩) (by simp)
        simp [go_sem] at dR0 dR1 gR0 gR1
        clear eU
        obtain ⟨sa, sc, rfl, _⟩ := isD_of_owns (by omega) hown
        go_wp2_with fail
        refine bodyPost_ret (v := .agg #[.bool true, .slice sa ds.length sc]) (by simp [results, Try.results76, go_sem, dR0, dR1]) rfl ⟨_, _, ds, rfl, ⟨?_, inv.dg, inv.tr rfl, by rw [EV.out, ← EU.out]; rfl⟩, ?_⟩
        · refine isD_of_owns (by omega) (base := w.heap.size + 1) ?_
          exact ownsRow_setCell_below (ownsRow_setCell_below hown (by simp) _) (by simp) _
        · exact ((((Below.refl _ _).alloc (Nat.le_refl _) _).trans (hbl.mono (by omega))).setCell (by simp) _).setCell (by simp) _
  · skip
    have e1 : v = U := by omega
    subst e1
    clear hU
    go_enter Try.func76, Try.ntmps76
    go_wp2_with fail
    go_loopw [4, 5] (fun u s wr => ∃ (x : Int) (ds : List Int), u = .int .u64 x ∧ wr.ownsRow (w.heap.size + 1) 3 1 s ds.length (ds.map (Value.int .i64)) ∧ Below (w.heap.size + 1) (w.alloc (.cells #[.bool false, .slice none 0 0] 103)) wr ∧ OfInv v x ds) (fun u _ _ => (intOf u).toNat)
    case atStart => exact ⟨v, [], rfl, World.ownsRow_nil _ _ _ _, Below.refl _ _, sI⟩
    case round =>
      obtain ⟨x, ds, rfl, hown, hbl, inv⟩ := hrel
      have x0 := inv.x0
      have x1 := inv.lt
      have hln := inv.len
      have hsz : w.heap.size + 1 ≤ wr.heap.size := by have := hbl.size; simpa using this
      by_cases hx : 0 < x
      · have nx := inv.step hx
        go_wp2_with (first
          | (at_builtin; refine wpList_append_own _ rfl _ _ 101 rfl (w.heap.size + 1) 3 i0 (.int .i64 0) 1 8 Try.underlying101 hi hz0 hz1 hz2 rfl (by decide) _ _ _ rfl (hown.alloc _) ⟨wr.heap.size, 0, none⟩ 1 1 [.int .i64 (x % 65536)] rfl rfl ?c1 ?c2 ?c3 ?c4 ?c5 ?_))
        case c1 => exact cell_one_new _ _ _
        case c2 => intro u hu; simp at hu; subst hu; rfl
        case c3 => unfold maxLen; omega
        case c4 => omega
        case c5 => simp; omega
        intro v' w1 hown' hgrow _
        have hown2 := own_snoc hown'
        have hbl2 := below_append hbl hsz _ hown hgrow
        clear hown' hgrow
        go_wp2_with fail
        go_roundw
        case rel => exact ⟨x / 65536, ds ++ [x % 65536], rfl, hown2, hbl2, nx⟩
        case measure => simp [intOf]; omega
      · have hx' : x = 0 := by omega
        subst hx'
        have eU := inv.eq
        rw [Int.mul_zero, Int.add_zero] at eU
        have EU : Hid _ := eU
        have dR0 := hbl.cell (p := ⟨w.heap.size, 0, none⟩) (by simp)
        have dR1 := hbl.cell (p := ⟨w.heap.size, 1, none⟩) (by simp)
        have gR0 := hbl.frozen (p := ⟨w.heap.size, 0, none⟩) (by simp)
        have gR1 := hbl.frozen (p := ⟨w.heap.size, 1, none⟩) (by simp)
        simp [go_sem] at dR0 dR1 gR0 gR1
        clear eU
        obtain ⟨sa, sc, rfl, _⟩ := isD_of_owns (by omega) hown
        go_wp2_with fail
        refine bodyPost_ret (v := .agg #[.bool false, .slice sa ds.length sc]) (by simp [results, Try.results76, go_sem, dR0, dR1]) rfl ⟨_, _, ds, rfl, ⟨?_, inv.dg, inv.tr rfl, EU.out.symm⟩, ?_⟩
        · refine isD_of_owns (by omega) (base := w.heap.size + 1) ?_
          exact ownsRow_setCell_below (ownsRow_setCell_below hown (by simp) _) (by simp) _
        · exact ((((Below.refl _ _).alloc (Nat.le_refl _) _).trans (hbl.mono (by omega))).setCell (by simp) _).setCell (by simp) _
end Go.Proofs.Ytccgbkafcbfcgaa
