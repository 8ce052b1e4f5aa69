/- The document's arithmetic (package capstanref01): reading a list of digits, trimming it, and the digits of an int64. The document's sums, differences and order of sizes (package capstanref01). -/
import Derived.Test.YtccgbkafcbfcgaaChecked
import Derived.Test.YtccgbkafcbfcgaaDigs
import Derived.WalkKit
import Derived.WalkSpells
import Derived.Below
import Derived.BigQuiet
import Derived.Deep.RegionHeld3
section
namespace Go.Proofs.Ytccgbkafcbfcgaa
open Go.RowKit

/-- The value v is a slice that reads, in the world w, as the list l. -/
def IsD (w : World) (v : Value) (l : List Int) : Prop :=
  ∃ a c, v = .slice a l.length c ∧ l.length ≤ 1000 ∧ l.length ≤ c ∧ c ≤ maxLen ∧ (l = [] ∨ ∃ b off, a = some ⟨b, off, none⟩ ∧ b < w.heap.size ∧ ∀ i, i < l.length → w.cell? ⟨b, off + i, none⟩ = some (.int .i64 (l.getD i 0)))

theorem IsD.later {w w' : World} {v : Value} {l : List Int} (h : IsD w v l) (hb : Below w.heap.size w w') : IsD w' v l := by
  obtain ⟨a, c, e, h1, h2, hc, h3⟩ := h
  refine ⟨a, c, e, h1, h2, hc, ?_⟩
  rcases h3 with h3 | ⟨b, off, h4, h5, h6⟩
  · exact .inl h3
  · exact .inr ⟨b, off, h4, Nat.lt_of_lt_of_le h5 hb.size, fun i hi => (hb.cell (p := ⟨b, off + i, none⟩) h5).trans (h6 i hi)⟩
theorem isD_nil (w : World) : IsD w (.slice none 0 0) [] := ⟨none, 0, rfl, by simp, by simp, by unfold maxLen; omega, .inl rfl⟩
theorem IsD.len {w : World} {v : Value} {l : List Int} (h : IsD w v l) : l.length ≤ 1000 := by obtain ⟨_, _, _, h1, _⟩ := h; exact h1
theorem isD_of_owns {w : World} {base : Nat} {v : Value} {l : List Int} (hl : l.length ≤ 1000) (h : w.ownsRow base 3 1 v l.length (l.map (Value.int .i64))) : IsD w v l := by
  have H := h
  obtain ⟨_, h | ⟨g, cap, cur, e, hg, hh, h1, h2, h3, h4⟩⟩ := h
  · obtain ⟨e, h0⟩ := h
    have : l = [] := List.length_eq_zero_iff.1 h0
    subst this; subst e
    exact isD_nil w
  · subst e
    refine ⟨_, cap, rfl, hl, h1, h2, .inr ⟨g, 0, rfl, (H.lt g rfl).2, fun i hi => ?_⟩⟩
    rw [Nat.zero_add, H.cellAt i (by omega), List.getElem?_map, List.getElem?_eq_getElem hi, getD_at l i hi]
    rfl
theorem IsD.take {w : World} {a : Option Addr} {c : Nat} {l : List Int} (h : IsD w (.slice a l.length c) l) (m : Nat) (hm : m ≤ l.length) : IsD w (.slice a m c) (l.take m) := by
  obtain ⟨a', c', e, h1, h2, hc, h3⟩ := h
  cases e
  have hl : (l.take m).length = m := by rw [List.length_take]; omega
  refine ⟨a, c, by rw [hl], by omega, by omega, hc, ?_⟩
  rcases h3 with h3 | ⟨b, off, h4, h5, h6⟩
  · exact .inl (by rw [h3]; simp)
  · refine .inr ⟨b, off, h4, h5, fun i hi => ?_⟩
    rw [hl] at hi
    rw [h6 i (by omega)]
    congr 2
    rw [getD_at l i (by omega), getD_at _ i (by rw [hl]; exact hi), List.getElem_take]

set_option maxHeartbeats 400000 in
theorem at_any (v : Value) (l : List Int) (i : Int) (i0 : 0 ≤ i) (i1 : i ≤ 100000) (w : World) (h : IsD w v l) :
    Calls Try.prog 94 #[v, .int .i64 i] w fun e w' => e = .returned (.int .i64 (l.getD i.toNat 0)) ∧ w' = w := by
  obtain ⟨a, c, rfl, h1, h2, hc, h3⟩ := h
  obtain ⟨k, rfl⟩ := Int.eq_ofNat_of_zero_le i0
  rw [Int.toNat_natCast]
  by_cases hk : k < l.length
  · rcases h3 with h3 | ⟨b, off, rfl, h5, h6⟩
    · subst h3; simp at hk
    · have hcell := h6 k hk
      have hk' : (k : Int) < (l.length : Int) := by omega
      generalize l.getD k 0 = x at *
      generalize l.length = n at *
      clear h6
      go_enter Try.func94, Try.ntmps94
      go_wp2_with fail
      go_ret
      exact ⟨rfl, rfl⟩
  · rw [getD_past l k (by omega)]
    have hk' : ¬ (k : Int) < (l.length : Int) := by omega
    generalize l.length = n at *
    clear h3
    go_enter Try.func94, Try.ntmps94
    go_wp2_with fail
    go_ret
    exact ⟨rfl, rfl⟩

set_option maxHeartbeats 400000 in
theorem trim_any (v : Value) (l : List Int) (w : World) (h : IsD w v l) (hd : Dgs l) :
    Calls Try.prog 92 #[v] w fun e w' => ∃ v' l', e = .returned v' ∧ IsD w v' l' ∧ Dgs l' ∧ Trim l' ∧ val l' = val l ∧ w' = w := by
  have H := h
  obtain ⟨a, c, rfl, h1, h2, hc, h3⟩ := h
  unfold maxLen at hc
  go_enter Try.func92, Try.ntmps92
  go_wp2_with fail
  go_loop [3] (fun n => ∃ m : Nat, n = .int .i64 m ∧ m ≤ l.length ∧ ∀ j, m ≤ j → l.getD j 0 = 0) (fun n => (intOf n).toNat)
  case atStart => exact ⟨l.length, rfl, Nat.le_refl _, fun j hj => getD_past l j hj⟩
  case round =>
    obtain ⟨m, rfl, hm, hz⟩ := hrel
    by_cases hm0 : m = 0
    · subst hm0
      go_wp2_with fail
      go_ret
      exact ⟨_, rfl, _, IsD.take H 0 (Nat.zero_le _), dgs_take hd 0, trim_take (.inl rfl) (Nat.zero_le _), val_take_zeros l 0 hz, rfl⟩
    · rcases h3 with h3 | ⟨b, off, rfl, h5, h6⟩
      · subst h3; simp at hm; omega
      · obtain ⟨k, rfl⟩ : ∃ k, m = k + 1 := ⟨m - 1, by omega⟩
        have hcell := h6 k (by omega)
        have HH : Hid _ := h6
        have HZ : Hid _ := hz
        clear h6 hz
        by_cases hx : l.getD k 0 = 0
        · rw [hx] at hcell
          have hk : (k : Int) < (l.length : Int) := by omega
          go_wp2_with fail
          go_round
          case rel =>
            refine ⟨k, by go_num, by omega, fun j hj => ?_⟩
            by_cases e : j = k
            · subst e; exact hx
            · exact HZ.out j (by omega)
          case measure => simp [intOf]
        · have hx' : (l.getD k 0 == 0) = false := beq_eq_false_iff_ne.2 hx
          have hk : (k : Int) < (l.length : Int) := by omega
          have hkc : (k : Int) + 1 ≤ (c : Int) := by omega
          have T := IsD.take H (k + 1) hm
          have T2 : Trim (l.take (k + 1)) := trim_take (.inr hx) hm
          have T3 := val_take_zeros l (k + 1) HZ.out
          generalize l.getD k 0 = x at *
          go_wp2_with fail
          go_ret
          exact ⟨_, rfl, _, T, dgs_take hd _, T2, T3, rfl⟩

theorem info_int : (Try.prog.info? 3).map (fun i => (i.zero, i.size, i.bytes)) = some (some (.int .i64 0), 1, 8) := by kernel_rfl
theorem own_snoc {w : World} {B : Nat} {v : Value} {ds : List Int} {d : Int} (h : w.ownsRow B 3 1 v (ds.length + 1) (ds.map (Value.int .i64) ++ [.int .i64 d])) : w.ownsRow B 3 1 v (ds ++ [d]).length ((ds ++ [d]).map (Value.int .i64)) := by
  simpa using h
/-- Behind an append to a row of the call's own. -/
theorem below_append {B : Nat} {W wr w' : World} {v : Value} {n : Nat} {xs : List Value} (hbl : Below B W wr) (hs : B ≤ wr.heap.size) (o : Obj) (hown : wr.ownsRow B 3 1 v n xs) (hg : (wr.alloc o).grownBy w' v.ownBlock) : Below B W w' :=
  (hbl.alloc hs o).grown hg (by simp; omega) (fun k hk => (hown.lt k hk).1)

/-- What holds of the digits that are split off and of what is left. -/
structure OfInv (U x : Int) (ds : List Int) : Prop where
  eq : val ds + pw ds.length * x = U
  dg : Dgs ds
  x0 : 0 ≤ x
  bd : (ds.length = 0 ∧ x < 18446744073709551616) ∨ (ds.length = 1 ∧ x < 281474976710656) ∨ (ds.length = 2 ∧ x < 4294967296) ∨ (ds.length = 3 ∧ x < 65536) ∨ (ds.length = 4 ∧ x = 0)
  tr : x = 0 → Trim ds
theorem OfInv.step {U x : Int} {ds : List Int} (h : OfInv U x ds) (hx : 0 < x) : OfInv U (x / 65536) (ds ++ [x % 65536]) := by
  obtain ⟨h1, h2, h3, h4, h5⟩ := h
  refine ⟨?_, dgs_snoc h2 (by omega) (by omega), by omega, ?_, ?_⟩
  · rw [val_snoc, List.length_append, List.length_singleton, pw_succ, Int.mul_comm 65536, Int.mul_assoc, Int.add_assoc, ← Int.mul_add]
    rw [show x % 65536 + 65536 * (x / 65536) = x by omega]
    exact h1
  · rw [List.length_append, List.length_singleton]; omega
  · intro hz k hk
    rw [List.length_append, List.length_singleton] at hk
    have e : k = ds.length := by omega
    subst e
    rw [getD_at _ _ (by simp), List.getElem_append_right (Nat.le_refl _)]
    simp
    omega
theorem OfInv.len {U x : Int} {ds : List Int} (h : OfInv U x ds) : ds.length ≤ 4 := by have := h.bd; omega
theorem OfInv.lt {U x : Int} {ds : List Int} (h : OfInv U x ds) : x < 18446744073709551616 := by have := h.bd; omega

/-- A sign and a size. -/
def sg : Bool → Int → Int
  | true, x => -x
  | false, x => x
/-- The sign neg and the slice s stand, in the world w, for the number n, whose size has the digits l. -/
structure BigV (w : World) (neg : Bool) (s : Value) (l : List Int) (n : Int) : Prop where
  isD : IsD w s l
  dg : Dgs l
  tr : Trim l
  num : n = sg neg (val l)
theorem BigV.later {w w' : World} {neg : Bool} {s : Value} {l : List Int} {n : Int} (h : BigV w neg s l n) (hb : Below w.heap.size w w') : BigV w' neg s l n := ⟨h.isD.later hb, h.dg, h.tr, h.num⟩
/-- What a function that makes a Big answers: a Big that stands for n; of what lay in memory nothing has turned. -/
def GivesBig (w : World) (n : Int) (e : Ending) (w' : World) : Prop := ∃ neg s l, e = .returned (.agg #[.bool neg, s]) ∧ BigV w' neg s l n ∧ Below w.heap.size w w'

set_option maxHeartbeats 1000000 in
/-- The digits of an int64's size. -/
theorem Of_any (v : Int) (v0 : -9223372036854775808 ≤ v) (v1 : v < 9223372036854775808) (w : World) :
    Calls Try.prog 76 #[.int .i64 v] w (GivesBig w v) := by
  have hu : ∃ U : Int, U = v.natAbs := ⟨_, rfl⟩
  obtain ⟨U, hU⟩ := hu
  have U0 : 0 ≤ U := by omega
  have U1 : U < 18446744073709551616 := by omega
  have sI : OfInv U U [] := ⟨by rw [val_nil]; show 0 + pw 0 * U = U; rw [pw_zero]; omega, dgs_nil, U0, .inl ⟨rfl, U1⟩, fun _ => trim_nil⟩
  obtain ⟨i0, hi, hz0, hz1, hz2⟩ := info_parts info_int
  by_cases hn : v < 0
  · have EV : Hid (v = -U) := (by omega : v = -U)
    have e1 : IntKind.u64.wrap (-IntKind.u64.wrap v) = U := by rw [IntKind.wrap_u64, IntKind.wrap_u64]; omega
    have E1 : Hid _ := e1
    clear e1 hU
    go_enter Try.func76, Try.ntmps76
    go_wp2_with fail
    rw [E1.out]
    go_loopw [4, 5] (fun u s wr => ∃ (x : Int) (ds : List Int), u = .int .u64 x ∧ wr.ownsRow (w.heap.size + 1) 3 1 s ds.length (ds.map (Value.int .i64)) ∧ Below (w.heap.size + 1) (w.alloc (.cells #[.bool false, .slice none 0 0] 103)) wr ∧ OfInv U x ds) (fun u _ _ => (intOf u).toNat)
    case atStart => exact ⟨U, [], rfl, World.ownsRow_nil _ _ _ _, Below.refl _ _, sI⟩
    case round =>
      obtain ⟨x, ds, rfl, hown, hbl, inv⟩ := hrel
      have x0 := inv.x0
      have x1 := inv.lt
      have hln := inv.len
      have hsz : w.heap.size + 1 ≤ wr.heap.size := by have := hbl.size; simpa using this
      by_cases hx : 0 < x
      · have nx := inv.step hx
        go_wp2_with (first
          | (at_builtin; refine wpList_append_own _ rfl _ _ 101 rfl (w.heap.size + 1) 3 i0 (.int .i64 0) 1 8 Try.underlying101 hi hz0 hz1 hz2 rfl (by decide) _ _ _ rfl (hown.alloc _) ⟨wr.heap.size, 0, none⟩ 1 1 [.int .i64 (x % 65536)] rfl rfl ?c1 ?c2 ?c3 ?c4 ?c5 ?_))
        case c1 => exact cell_one_new _ _ _
        case c2 => intro u hu; simp at hu; subst hu; rfl
        case c3 => unfold maxLen; omega
        case c4 => omega
        case c5 => simp; omega
        intro v' w1 hown' hgrow _
        have hown2 := own_snoc hown'
        have hbl2 := below_append hbl hsz _ hown hgrow
        clear hown' hgrow
        go_wp2_with fail
        go_roundw
        case rel => exact ⟨x / 65536, ds ++ [x % 65536], rfl, hown2, hbl2, nx⟩
        case measure => simp [intOf]; omega
      · have hx' : x = 0 := by omega
        subst hx'
        have eU := inv.eq
        rw [Int.mul_zero, Int.add_zero] at eU
        have EU : Hid _ := eU
        have dR0 := hbl.cell (p := ⟨w.heap.size, 0, none⟩) (by simp)
        have dR1 := hbl.cell (p := ⟨w.heap.size, 1, none⟩) (by simp)
        have gR0 := hbl.frozen (p := ⟨w.heap.size, 0, none⟩) (by simp)
        have gR1 := hbl.frozen (p := ⟨w.heap.size, 1, none⟩) (by simp)
        simp [go_sem] at dR0 dR1 gR0 gR1
        clear eU
        obtain ⟨sa, sc, rfl, _⟩ := isD_of_owns (by omega) hown
        go_wp2_with fail
        refine bodyPost_ret (v := .agg #[.bool true, .slice sa ds.length sc]) (by simp [results, Try.results76, go_sem, dR0, dR1]) rfl ⟨_, _, ds, rfl, ⟨?_, inv.dg, inv.tr rfl, by rw [EV.out, ← EU.out]; rfl⟩, ?_⟩
        · refine isD_of_owns (by omega) (base := w.heap.size + 1) ?_
          exact ownsRow_setCell_below (ownsRow_setCell_below hown (by simp) _) (by simp) _
        · exact ((((Below.refl _ _).alloc (Nat.le_refl _) _).trans (hbl.mono (by omega))).setCell (by simp) _).setCell (by simp) _
  · skip
    have e1 : v = U := by omega
    subst e1
    clear hU
    go_enter Try.func76, Try.ntmps76
    go_wp2_with fail
    go_loopw [4, 5] (fun u s wr => ∃ (x : Int) (ds : List Int), u = .int .u64 x ∧ wr.ownsRow (w.heap.size + 1) 3 1 s ds.length (ds.map (Value.int .i64)) ∧ Below (w.heap.size + 1) (w.alloc (.cells #[.bool false, .slice none 0 0] 103)) wr ∧ OfInv v x ds) (fun u _ _ => (intOf u).toNat)
    case atStart => exact ⟨v, [], rfl, World.ownsRow_nil _ _ _ _, Below.refl _ _, sI⟩
    case round =>
      obtain ⟨x, ds, rfl, hown, hbl, inv⟩ := hrel
      have x0 := inv.x0
      have x1 := inv.lt
      have hln := inv.len
      have hsz : w.heap.size + 1 ≤ wr.heap.size := by have := hbl.size; simpa using this
      by_cases hx : 0 < x
      · have nx := inv.step hx
        go_wp2_with (first
          | (at_builtin; refine wpList_append_own _ rfl _ _ 101 rfl (w.heap.size + 1) 3 i0 (.int .i64 0) 1 8 Try.underlying101 hi hz0 hz1 hz2 rfl (by decide) _ _ _ rfl (hown.alloc _) ⟨wr.heap.size, 0, none⟩ 1 1 [.int .i64 (x % 65536)] rfl rfl ?c1 ?c2 ?c3 ?c4 ?c5 ?_))
        case c1 => exact cell_one_new _ _ _
        case c2 => intro u hu; simp at hu; subst hu; rfl
        case c3 => unfold maxLen; omega
        case c4 => omega
        case c5 => simp; omega
        intro v' w1 hown' hgrow _
        have hown2 := own_snoc hown'
        have hbl2 := below_append hbl hsz _ hown hgrow
        clear hown' hgrow
        go_wp2_with fail
        go_roundw
        case rel => exact ⟨x / 65536, ds ++ [x % 65536], rfl, hown2, hbl2, nx⟩
        case measure => simp [intOf]; omega
      · have hx' : x = 0 := by omega
        subst hx'
        have eU := inv.eq
        rw [Int.mul_zero, Int.add_zero] at eU
        have EU : Hid _ := eU
        have dR0 := hbl.cell (p := ⟨w.heap.size, 0, none⟩) (by simp)
        have dR1 := hbl.cell (p := ⟨w.heap.size, 1, none⟩) (by simp)
        have gR0 := hbl.frozen (p := ⟨w.heap.size, 0, none⟩) (by simp)
        have gR1 := hbl.frozen (p := ⟨w.heap.size, 1, none⟩) (by simp)
        simp [go_sem] at dR0 dR1 gR0 gR1
        clear eU
        obtain ⟨sa, sc, rfl, _⟩ := isD_of_owns (by omega) hown
        go_wp2_with fail
        refine bodyPost_ret (v := .agg #[.bool false, .slice sa ds.length sc]) (by simp [results, Try.results76, go_sem, dR0, dR1]) rfl ⟨_, _, ds, rfl, ⟨?_, inv.dg, inv.tr rfl, EU.out.symm⟩, ?_⟩
        · refine isD_of_owns (by omega) (base := w.heap.size + 1) ?_
          exact ownsRow_setCell_below (ownsRow_setCell_below hown (by simp) _) (by simp) _
        · exact ((((Below.refl _ _).alloc (Nat.le_refl _) _).trans (hbl.mono (by omega))).setCell (by simp) _).setCell (by simp) _
end Go.Proofs.Ytccgbkafcbfcgaa
end
section
namespace Go.Proofs.Ytccgbkafcbfcgaa
open Go.RowKit

theorem at_nat (v : Value) (l : List Int) (k : Nat) (hk : k ≤ 100000) (w : World) (h : IsD w v l) :
    Calls Try.prog 94 #[v, .int .i64 k] w fun e w' => e = .returned (.int .i64 (l.getD k 0)) ∧ w = w' := by
  have h1 := at_any v l k (by omega) (by omega) w h
  rw [Int.toNat_natCast] at h1
  exact h1.mono fun e w' h2 => ⟨h2.1, h2.2.symm⟩

structure SumInv (la lb : List Int) (k : Nat) (cy : Int) (ds : List Int) : Prop where
  len : ds.length = k
  dg : Dgs ds
  c0 : 0 ≤ cy
  c1 : cy ≤ 1
  bd : k ≤ max la.length lb.length ∨ (k = max la.length lb.length + 1 ∧ cy = 0)
  eq : val ds + pw k * cy = val (la.take k) + val (lb.take k)
theorem SumInv.step {la lb : List Int} {k : Nat} {cy : Int} {ds : List Int} (h : SumInv la lb k cy ds) (ha : Dgs la) (hb : Dgs lb) (hc : k < max la.length lb.length ∨ 0 < cy) :
    SumInv la lb (k + 1) ((la.getD k 0 + lb.getD k 0 + cy) / 65536) (ds ++ [(la.getD k 0 + lb.getD k 0 + cy) % 65536]) := by
  obtain ⟨h1, h2, h3, h4, h5, h6⟩ := h
  have a0 := getD_dig la ha k
  have b0 := getD_dig lb hb k
  refine ⟨by rw [List.length_append, List.length_singleton, h1], dgs_snoc h2 (by omega) (by omega), by omega, by omega, ?_, ?_⟩
  · by_cases hk : k < max la.length lb.length
    · exact .inl hk
    · have e : k = max la.length lb.length := by omega
      have ea := getD_past la k (by omega)
      have eb := getD_past lb k (by omega)
      rw [ea, eb]
      exact .inr ⟨by omega, by omega⟩
  · rw [val_snoc, h1, val_take_succ, val_take_succ, pw_succ]
    generalize la.getD k 0 = x at *
    generalize lb.getD k 0 = y at *
    have e1 : pw k * ((x + y + cy) % 65536) + 65536 * pw k * ((x + y + cy) / 65536) = pw k * (x + y + cy) := by
      rw [Int.mul_comm 65536, Int.mul_assoc, ← Int.mul_add, show (x + y + cy) % 65536 + 65536 * ((x + y + cy) / 65536) = x + y + cy by omega]
    rw [Int.mul_add, Int.mul_add] at e1
    omega
theorem SumInv.done {la lb : List Int} {k : Nat} {ds : List Int} (h : SumInv la lb k 0 ds) (hk : max la.length lb.length ≤ k) : val ds = val la + val lb := by
  have e := h.eq
  rw [List.take_of_length_le (by omega), List.take_of_length_le (by omega), Int.mul_zero, Int.add_zero] at e
  exact e

/-- What a function that makes a list of digits answers. -/
def GivesD (w : World) (n : Int) (e : Ending) (w' : World) : Prop := ∃ s l, e = .returned s ∧ IsD w' s l ∧ Dgs l ∧ Trim l ∧ val l = n ∧ Below w.heap.size w w'

set_option maxHeartbeats 1000000 in
theorem sum_any (va vb : Value) (la lb : List Int) (w : World) (ha : IsD w va la) (hb : IsD w vb lb) (da : Dgs la) (db : Dgs lb) (na : la.length ≤ 500) (nb : lb.length ≤ 500) :
    Calls Try.prog 89 #[va, vb] w (GivesD w (val la + val lb)) := by
  obtain ⟨i0, hi, hz0, hz1, hz2⟩ := info_parts info_int
  have Ha := ha
  have Hb := hb
  obtain ⟨aa, ca, rfl, _⟩ := ha
  obtain ⟨ab, cb, rfl, _⟩ := hb
  go_enter Try.func89, Try.ntmps89
  go_wp2_with fail
  go_loopw [5, 6, 7] (fun d c i wr => ∃ (k : Nat) (cy : Int) (ds : List Int), c = .int .i64 cy ∧ i = .int .i64 k ∧ wr.ownsRow w.heap.size 3 1 d ds.length (ds.map (Value.int .i64)) ∧ Below w.heap.size w wr ∧ SumInv la lb k cy ds) (fun _ _ i _ => 2000 - (intOf i).toNat)
  case atStart => exact ⟨0, 0, [], rfl, rfl, World.ownsRow_nil _ _ _ _, Below.refl _ _, ⟨rfl, dgs_nil, by decide, by decide, .inl (Nat.zero_le _), rfl⟩⟩
  case round =>
    obtain ⟨k, cy, ds, rfl, rfl, hown, hbl, inv⟩ := hrel
    have c0 := inv.c0
    have c1 := inv.c1
    have hk := inv.bd
    have hk5 : k ≤ 501 := by omega
    have hln : ds.length ≤ 501 := by have := inv.len; omega
    by_cases hab : la.length < lb.length
    · skip
      by_cases hm : k < lb.length
      · have HC : k < max la.length lb.length ∨ 0 < cy := .inl (by omega)
        have nx := inv.step da db HC
        have hIa := Ha.later hbl
        have hsz := hbl.size
        have hIb := Hb.later hbl
        have ga := getD_dig la da k
        have gb := getD_dig lb db k
        have hka : k ≤ 100000 := by omega
        go_wp2_with fail
        refine (at_nat _ la k hka _ hIa).mono ?_
        rintro e w1 ⟨rfl, rfl⟩
        generalize la.getD k 0 = x at *
        go_wp2_with fail
        refine (at_nat _ lb k hka _ hIb).mono ?_
        rintro e w1 ⟨rfl, rfl⟩
        generalize lb.getD k 0 = y at *
        go_wp2_with (first
          | (at_builtin; refine wpList_append_own _ rfl _ _ 101 rfl w.heap.size 3 i0 (.int .i64 0) 1 8 Try.underlying101 hi hz0 hz1 hz2 rfl (by decide) _ _ _ rfl (hown.alloc _) ⟨wr.heap.size, 0, none⟩ 1 1 [.int .i64 ((x + y + cy) % 65536)] rfl rfl ?c1 ?c2 ?c3 ?c4 ?c5 ?_))
        case c1 => exact cell_one_new _ _ _
        case c2 => intro u hu; simp at hu; subst hu; rfl
        case c3 => unfold maxLen; omega
        case c4 => omega
        case c5 => simp; omega
        intro v' w1 hown' hgrow _
        have hown2 := own_snoc hown'
        have hbl2 := below_append hbl hbl.size _ hown hgrow
        clear hown' hgrow
        go_wp2_with fail
        go_roundw
        case rel => exact ⟨k + 1, _, _, rfl, by go_num, hown2, hbl2, nx⟩
        case measure => simp [intOf]; omega
      · by_cases hc : 0 < cy
        · have HC : k < max la.length lb.length ∨ 0 < cy := .inr hc
          have nx := inv.step da db HC
          have hIa := Ha.later hbl
          have hsz := hbl.size
          have hIb := Hb.later hbl
          have ga := getD_dig la da k
          have gb := getD_dig lb db k
          have hka : k ≤ 100000 := by omega
          go_wp2_with fail
          refine (at_nat _ la k hka _ hIa).mono ?_
          rintro e w1 ⟨rfl, rfl⟩
          generalize la.getD k 0 = x at *
          go_wp2_with fail
          refine (at_nat _ lb k hka _ hIb).mono ?_
          rintro e w1 ⟨rfl, rfl⟩
          generalize lb.getD k 0 = y at *
          go_wp2_with (first
            | (at_builtin; refine wpList_append_own _ rfl _ _ 101 rfl w.heap.size 3 i0 (.int .i64 0) 1 8 Try.underlying101 hi hz0 hz1 hz2 rfl (by decide) _ _ _ rfl (hown.alloc _) ⟨wr.heap.size, 0, none⟩ 1 1 [.int .i64 ((x + y + cy) % 65536)] rfl rfl ?c1 ?c2 ?c3 ?c4 ?c5 ?_))
          case c1 => exact cell_one_new _ _ _
          case c2 => intro u hu; simp at hu; subst hu; rfl
          case c3 => unfold maxLen; omega
          case c4 => omega
          case c5 => simp; omega
          intro v' w1 hown' hgrow _
          have hown2 := own_snoc hown'
          have hbl2 := below_append hbl hbl.size _ hown hgrow
          clear hown' hgrow
          go_wp2_with fail
          go_roundw
          case rel => exact ⟨k + 1, _, _, rfl, by go_num, hown2, hbl2, nx⟩
          case measure => simp [intOf]; omega
        · skip
          have hcz : cy = 0 := by omega
          subst hcz
          have hv := inv.done (by omega)
          have hI := isD_of_owns (by omega) hown
          have HV : Hid _ := hv
          clear hv
          go_wp2_with fail
          refine (trim_any _ ds _ hI inv.dg).mono ?_
          rintro e w1 ⟨v', l', rfl, h1, h2, h3, h4, rfl⟩
          go_wp2_with fail
          go_ret
          exact ⟨_, l', rfl, h1, h2, h3, h4.trans HV.out, hbl⟩
    · skip
      by_cases hm : k < la.length
      · have HC : k < max la.length lb.length ∨ 0 < cy := .inl (by omega)
        have nx := inv.step da db HC
        have hIa := Ha.later hbl
        have hsz := hbl.size
        have hIb := Hb.later hbl
        have ga := getD_dig la da k
        have gb := getD_dig lb db k
        have hka : k ≤ 100000 := by omega
        go_wp2_with fail
        refine (at_nat _ la k hka _ hIa).mono ?_
        rintro e w1 ⟨rfl, rfl⟩
        generalize la.getD k 0 = x at *
        go_wp2_with fail
        refine (at_nat _ lb k hka _ hIb).mono ?_
        rintro e w1 ⟨rfl, rfl⟩
        generalize lb.getD k 0 = y at *
        go_wp2_with (first
          | (at_builtin; refine wpList_append_own _ rfl _ _ 101 rfl w.heap.size 3 i0 (.int .i64 0) 1 8 Try.underlying101 hi hz0 hz1 hz2 rfl (by decide) _ _ _ rfl (hown.alloc _) ⟨wr.heap.size, 0, none⟩ 1 1 [.int .i64 ((x + y + cy) % 65536)] rfl rfl ?c1 ?c2 ?c3 ?c4 ?c5 ?_))
        case c1 => exact cell_one_new _ _ _
        case c2 => intro u hu; simp at hu; subst hu; rfl
        case c3 => unfold maxLen; omega
        case c4 => omega
        case c5 => simp; omega
        intro v' w1 hown' hgrow _
        have hown2 := own_snoc hown'
        have hbl2 := below_append hbl hbl.size _ hown hgrow
        clear hown' hgrow
        go_wp2_with fail
        go_roundw
        case rel => exact ⟨k + 1, _, _, rfl, by go_num, hown2, hbl2, nx⟩
        case measure => simp [intOf]; omega
      · by_cases hc : 0 < cy
        · have HC : k < max la.length lb.length ∨ 0 < cy := .inr hc
          have nx := inv.step da db HC
          have hIa := Ha.later hbl
          have hsz := hbl.size
          have hIb := Hb.later hbl
          have ga := getD_dig la da k
          have gb := getD_dig lb db k
          have hka : k ≤ 100000 := by omega
          go_wp2_with fail
          refine (at_nat _ la k hka _ hIa).mono ?_
          rintro e w1 ⟨rfl, rfl⟩
          generalize la.getD k 0 = x at *
          go_wp2_with fail
          refine (at_nat _ lb k hka _ hIb).mono ?_
          rintro e w1 ⟨rfl, rfl⟩
          generalize lb.getD k 0 = y at *
          go_wp2_with (first
            | (at_builtin; refine wpList_append_own _ rfl _ _ 101 rfl w.heap.size 3 i0 (.int .i64 0) 1 8 Try.underlying101 hi hz0 hz1 hz2 rfl (by decide) _ _ _ rfl (hown.alloc _) ⟨wr.heap.size, 0, none⟩ 1 1 [.int .i64 ((x + y + cy) % 65536)] rfl rfl ?c1 ?c2 ?c3 ?c4 ?c5 ?_))
          case c1 => exact cell_one_new _ _ _
          case c2 => intro u hu; simp at hu; subst hu; rfl
          case c3 => unfold maxLen; omega
          case c4 => omega
          case c5 => simp; omega
          intro v' w1 hown' hgrow _
          have hown2 := own_snoc hown'
          have hbl2 := below_append hbl hbl.size _ hown hgrow
          clear hown' hgrow
          go_wp2_with fail
          go_roundw
          case rel => exact ⟨k + 1, _, _, rfl, by go_num, hown2, hbl2, nx⟩
          case measure => simp [intOf]; omega
        · skip
          have hcz : cy = 0 := by omega
          subst hcz
          have hv := inv.done (by omega)
          have hI := isD_of_owns (by omega) hown
          have HV : Hid _ := hv
          clear hv
          go_wp2_with fail
          refine (trim_any _ ds _ hI inv.dg).mono ?_
          rintro e w1 ⟨v', l', rfl, h1, h2, h3, h4, rfl⟩
          go_wp2_with fail
          go_ret
          exact ⟨_, l', rfl, h1, h2, h3, h4.trans HV.out, hbl⟩

structure LessInv (la lb : List Int) (k : Nat) (cy : Int) (ds : List Int) : Prop where
  len : ds.length = k
  dg : Dgs ds
  c0 : 0 ≤ cy
  c1 : cy ≤ 1
  bd : k ≤ la.length
  eq : val ds - pw k * cy = val (la.take k) - val (lb.take k)
theorem LessInv.next {la lb : List Int} {k : Nat} {cy : Int} {ds : List Int} (h : LessInv la lb k cy ds) (hk : k < la.length) (d c : Int) (d0 : 0 ≤ d) (d1 : d < 65536) (c0 : 0 ≤ c) (c1 : c ≤ 1) (hd : la.getD k 0 - lb.getD k 0 - cy = d - 65536 * c) :
    LessInv la lb (k + 1) c (ds ++ [d]) := by
  obtain ⟨h1, h2, h3, h4, h5, h6⟩ := h
  refine ⟨by rw [List.length_append, List.length_singleton, h1], dgs_snoc h2 d0 d1, c0, c1, hk, ?_⟩
  rw [val_snoc, h1, val_take_succ, val_take_succ, pw_succ]
  generalize la.getD k 0 = x at *
  generalize lb.getD k 0 = y at *
  have e1 : pw k * (x - y - cy) = pw k * d - 65536 * pw k * c := by
    rw [hd, Int.mul_sub, Int.mul_comm 65536 (pw k), Int.mul_assoc]
  rw [Int.mul_sub, Int.mul_sub] at e1
  omega
theorem LessInv.done {la lb : List Int} {cy : Int} {ds : List Int} (h : LessInv la lb la.length cy ds) (hl : lb.length ≤ la.length) (hv : val lb ≤ val la) : val ds = val la - val lb := by
  have e := h.eq
  rw [List.take_of_length_le (Nat.le_refl _), List.take_of_length_le hl] at e
  have b := (val_bd ds h.dg).2
  rw [h.len] at b
  have c0 := h.c0
  have c1 := h.c1
  have hc : cy = 0 := by
    by_cases e1 : cy = 1
    · subst e1; omega
    · omega
  subst hc
  omega

set_option maxHeartbeats 1000000 in
theorem less_any (va vb : Value) (la lb : List Int) (w : World) (ha : IsD w va la) (hb : IsD w vb lb) (da : Dgs la) (db : Dgs lb) (na : la.length ≤ 500) (hl : lb.length ≤ la.length) (hv : val lb ≤ val la) :
    Calls Try.prog 91 #[va, vb] w (GivesD w (val la - val lb)) := by
  obtain ⟨i0, hi, hz0, hz1, hz2⟩ := info_parts info_int
  have Ha := ha
  have Hb := hb
  obtain ⟨aa, ca, rfl, _⟩ := ha
  obtain ⟨ab, cb, rfl, _⟩ := hb
  go_enter Try.func91, Try.ntmps91
  go_wp2_with fail
  go_loopw [5, 6, 7] (fun d c i wr => ∃ (k : Nat) (cy : Int) (ds : List Int), c = .int .i64 cy ∧ i = .int .i64 k ∧ wr.ownsRow w.heap.size 3 1 d ds.length (ds.map (Value.int .i64)) ∧ Below w.heap.size w wr ∧ LessInv la lb k cy ds) (fun _ _ i _ => la.length - (intOf i).toNat)
  case atStart => exact ⟨0, 0, [], rfl, rfl, World.ownsRow_nil _ _ _ _, Below.refl _ _, ⟨rfl, dgs_nil, by decide, by decide, Nat.zero_le _, rfl⟩⟩
  case round =>
    obtain ⟨k, cy, ds, rfl, rfl, hown, hbl, inv⟩ := hrel
    have c0 := inv.c0
    have c1 := inv.c1
    have hk := inv.bd
    have hln : ds.length ≤ 500 := by have := inv.len; omega
    have hsz := hbl.size
    by_cases hm : k < la.length
    · have hIb := Hb.later hbl
      have hIa := Ha.later hbl
      have ga := getD_dig la da k
      have gb := getD_dig lb db k
      have hka : k ≤ 100000 := by omega
      have hm' : (k : Int) < (la.length : Int) := by omega
      obtain ⟨_, _, ea, _, _, _, hA | ⟨b, off, rfl, h5, h6⟩⟩ := hIa
      · subst hA; simp at hm
      cases ea
      have hcell := h6 k hm
      have nxx := inv.next hm
      have hat : ∀ n, Calls Try.prog 94 #[.slice ab lb.length cb, .int .i64 k] (wr.drewN n) fun e w' => e = .returned (.int .i64 (lb.getD k 0)) ∧ w' = wr.drewN n := fun n =>
        (at_nat _ lb k hka (wr.drewN n) (hIb.later (w' := wr.drewN n) ⟨rfl, rfl, rfl, Nat.le_refl _, fun _ _ => rfl⟩)).mono fun e w' h => ⟨h.1, h.2.symm⟩
      have HAT : Hid _ := hat
      clear h6 hat
      generalize la.getD k 0 = x at *
      generalize lb.getD k 0 = y at *
      go_wp2_with fail
      go_quiet ((go_at_call 94; exact Calls.quiet_of_same (HAT.out _)))
      have hownq : (wr.drewN nq).ownsRow w.heap.size 3 1 u5 ds.length (ds.map (Value.int .i64)) := hown
      have hblq : Below w.heap.size w (wr.drewN nq) := hbl.trans ⟨rfl, rfl, rfl, Nat.le_refl _, fun _ _ => rfl⟩
      have hszq := hblq.size
      generalize wr.drewN nq = wq at *
      by_cases hs : x - y - cy < 0
      · have nx := nxx (x - y - cy + 65536) 1 (by omega) (by omega) (by decide) (by decide) (by omega)
        go_wp2_with (first
          | (at_builtin; refine wpList_append_own _ rfl _ _ 101 rfl w.heap.size 3 i0 (.int .i64 0) 1 8 Try.underlying101 hi hz0 hz1 hz2 rfl (by decide) _ _ _ rfl (hownq.alloc _) ⟨wq.heap.size, 0, none⟩ 1 1 [.int .i64 (x - y - cy + 65536)] rfl rfl ?c1 ?c2 ?c3 ?c4 ?c5 ?_))
        case c1 => exact cell_one_new _ _ _
        case c2 => first | rfl | (intro u hu; simp at hu; subst hu; rfl)
        case c3 => unfold maxLen; omega
        case c4 => omega
        case c5 => first | omega | (simp; omega)
        intro v' w1 hown' hgrow _
        have hown2 := own_snoc hown'
        have hbl2 := below_append hblq hblq.size _ hownq hgrow
        clear hown' hgrow
        go_wp2_with fail
        go_roundw
        case rel => exact ⟨k + 1, _, _, rfl, by go_num, hown2, hbl2, nx⟩
        case measure => simp [intOf]; omega
      · have nx := nxx (x - y - cy) 0 (by omega) (by omega) (by decide) (by decide) (by omega)
        go_wp2_with (first
          | (at_builtin; refine wpList_append_own _ rfl _ _ 101 rfl w.heap.size 3 i0 (.int .i64 0) 1 8 Try.underlying101 hi hz0 hz1 hz2 rfl (by decide) _ _ _ rfl (hownq.alloc _) ⟨wq.heap.size, 0, none⟩ 1 1 [.int .i64 (x - y - cy)] rfl rfl ?c1 ?c2 ?c3 ?c4 ?c5 ?_))
        case c2 => first | rfl | (intro u hu; simp at hu; subst hu; rfl)
        case c3 => unfold maxLen; omega
        case c4 => omega
        case c5 => first | omega | (simp; omega)
        intro v' w1 hown' hgrow _
        have hown2 := own_snoc hown'
        have hbl2 := below_append hblq hblq.size _ hownq hgrow
        clear hown' hgrow
        go_wp2_with fail
        go_roundw
        case rel => exact ⟨k + 1, _, _, rfl, by go_num, hown2, hbl2, nx⟩
        case measure => simp [intOf]; omega
    · have hkl : k = la.length := by omega
      have INV := inv
      rw [hkl] at INV
      have hv2 := INV.done hl hv
      have hI := isD_of_owns (by omega) hown
      have HV : Hid _ := hv2
      clear hv2 hkl INV
      go_wp2_with fail
      refine (trim_any _ ds _ hI inv.dg).mono ?_
      rintro e w1 ⟨v', l', rfl, h1, h2, h3, h4, rfl⟩
      go_wp2_with fail
      go_ret
      exact ⟨_, l', rfl, h1, h2, h3, h4.trans HV.out, hbl⟩

/-- Above the digit i the two are one. -/
def Same (la lb : List Int) (m : Nat) : Prop := val la - val (la.take m) = val lb - val (lb.take m)
theorem same_down {la lb : List Int} {m : Nat} (h : Same la lb (m + 1)) (e : la.getD m 0 = lb.getD m 0) : Same la lb m := by
  unfold Same at *
  rw [val_take_succ, val_take_succ, e] at h
  omega
theorem same_lt {la lb : List Int} {m : Nat} (ha : Dgs la) (hb : Dgs lb) (hl : m < la.length) (h : Same la lb (m + 1)) (e : la.getD m 0 < lb.getD m 0) : val la < val lb := by
  unfold Same at h
  rw [val_take_succ, val_take_succ] at h
  have b1 := (val_bd _ (dgs_take ha m)).2
  rw [List.length_take, Nat.min_eq_left (by omega)] at b1
  have b2 := (val_bd _ (dgs_take hb m)).1
  have e1 := Int.mul_le_mul_of_nonneg_left (show la.getD m 0 + 1 ≤ lb.getD m 0 by omega) (Int.le_of_lt (pw_pos m))
  rw [Int.mul_add, Int.mul_one] at e1
  omega
theorem longer {la lb : List Int} (ha : Dgs la) (hb : Dgs lb) (tb : Trim lb) (h : la.length < lb.length) : val la < val lb := by
  have b1 := (val_bd la ha).2
  have b2 := val_low lb hb tb (lb.length - 1) (by omega)
  have b3 := pw_mono (show la.length ≤ lb.length - 1 by omega)
  omega

set_option maxHeartbeats 1000000 in
theorem order_any (va vb : Value) (la lb : List Int) (w : World) (ha : IsD w va la) (hb : IsD w vb lb) (da : Dgs la) (db : Dgs lb) (ta : Trim la) (tb : Trim lb) :
    Calls Try.prog 90 #[va, vb] w fun e w' => ∃ c : Int, e = .returned (.int .i64 c) ∧ (0 ≤ c ↔ val lb ≤ val la) ∧ Below w.heap.size w w' := by
  have Ha := ha
  have Hb := hb
  obtain ⟨aa, ca, rfl, na, _, _, hA⟩ := ha
  obtain ⟨ab, cb, rfl, nb, _, _, hB⟩ := hb
  by_cases hne : la.length = lb.length
  · have hne' : ((la.length : Int) != (lb.length : Int)) = false := by simp; omega
    have HN : Hid _ := hne
    have hne1 : la.length ≤ lb.length := by omega
    have hne2 : lb.length ≤ la.length := by omega
    clear hne
    go_enter Try.func90, Try.ntmps90
    go_wp2_with fail
    go_loopw [5] (fun i wr => ∃ m : Nat, i = .int .i64 ((m : Int) - 1) ∧ m ≤ la.length ∧ Same la lb m ∧ Below w.heap.size w wr) (fun i _ => (intOf i + 1).toNat)
    case atStart =>
      refine ⟨la.length, rfl, Nat.le_refl _, ?_, Below.refl _ _⟩
      unfold Same
      rw [List.take_of_length_le (Nat.le_refl _), List.take_of_length_le (by omega)]
      omega
    case round =>
      obtain ⟨m, rfl, hm, hsame, hbl⟩ := hrel
      by_cases hm0 : m = 0
      · subst hm0
        have hv : val la = val lb := by unfold Same at hsame; simp [val] at hsame; omega
        have HV : Hid _ := hv
        clear hv hA hB
        go_wp2_with fail
        go_ret
        exact ⟨0, rfl, by have := HV.out; omega, hbl⟩
      · obtain ⟨k, rfl⟩ : ∃ k, m = k + 1 := ⟨m - 1, by omega⟩
        rcases hA with hA | ⟨b, off, rfl, h5, h6⟩
        · subst hA; simp at hm
        rcases hB with hB | ⟨b', off', rfl, h5', h6'⟩
        · subst hB; simp at hne1; subst hne1; simp at hm
        have hcell : wr.cell? ⟨b, off + k, none⟩ = some (.int .i64 (la.getD k 0)) := (hbl.cell (p := ⟨b, off + k, none⟩) h5).trans (h6 k (by omega))
        have hcell' : wr.cell? ⟨b', off' + k, none⟩ = some (.int .i64 (lb.getD k 0)) := (hbl.cell (p := ⟨b', off' + k, none⟩) h5').trans (h6' k (by omega))
        have HH : Hid _ := h6
        have HH' : Hid _ := h6'
        clear h6 h6'
        have ek : (((k + 1 : Nat) : Int) - 1) = (k : Int) := by omega
        rw [ek]
        have k1 : (k : Int) < (la.length : Int) := by omega
        have k2 : (k : Int) < (lb.length : Int) := by omega
        by_cases hlt : la.getD k 0 < lb.getD k 0
        · have hv := same_lt da db (by omega) hsame hlt
          generalize la.getD k 0 = x at *
          generalize lb.getD k 0 = y at *
          go_wp2_with fail
          go_quiet (fail)
          have hblq : Below w.heap.size w (wr.drewN nq) := hbl.trans ⟨rfl, rfl, rfl, Nat.le_refl _, fun _ _ => rfl⟩
          go_wp2_with fail
          go_ret
          exact ⟨-1, rfl, by omega, hblq⟩
        · by_cases hgt : lb.getD k 0 < la.getD k 0
          · have hsame' : Same lb la (k + 1) := by unfold Same at *; omega
            have hv := same_lt db da (by omega) hsame' hgt
            generalize la.getD k 0 = x at *
            generalize lb.getD k 0 = y at *
            go_wp2_with fail
            go_quiet (fail)
            have hblq : Below w.heap.size w (wr.drewN nq) := hbl.trans ⟨rfl, rfl, rfl, Nat.le_refl _, fun _ _ => rfl⟩
            have hc1 : (wr.drewN nq).cell? ⟨b, off + k, none⟩ = some (.int .i64 x) := hcell
            have hc2 : (wr.drewN nq).cell? ⟨b', off' + k, none⟩ = some (.int .i64 y) := hcell'
            generalize wr.drewN nq = wq at *
            go_wp2_with fail
            go_quiet (fail)
            have hblq2 : Below w.heap.size w (wq.drewN nq) := hblq.trans ⟨rfl, rfl, rfl, Nat.le_refl _, fun _ _ => rfl⟩
            go_wp2_with fail
            go_ret
            exact ⟨1, rfl, by omega, hblq2⟩
          · have hs2 := same_down hsame (by omega)
            have hxy : la.getD k 0 = lb.getD k 0 := by omega
            rw [← hxy] at hcell'
            clear hxy hgt hlt
            generalize la.getD k 0 = x at *
            go_wp2_with fail
            go_quiet (fail)
            have hblq : Below w.heap.size w (wr.drewN nq) := hbl.trans ⟨rfl, rfl, rfl, Nat.le_refl _, fun _ _ => rfl⟩
            have hc1 : (wr.drewN nq).cell? ⟨b, off + k, none⟩ = some (.int .i64 x) := hcell
            have hc2 : (wr.drewN nq).cell? ⟨b', off' + k, none⟩ = some (.int .i64 x) := hcell'
            generalize wr.drewN nq = wq at *
            go_wp2_with fail
            go_quiet (fail)
            have hblq2 : Below w.heap.size w (wq.drewN nq) := hblq.trans ⟨rfl, rfl, rfl, Nat.le_refl _, fun _ _ => rfl⟩
            go_wp2_with fail
            go_roundw
            case rel => exact ⟨k, rfl, by omega, hs2, hblq2⟩
            case measure => simp [intOf]
  · have hne' : ((la.length : Int) != (lb.length : Int)) = true := by simp; omega
    by_cases hlt : la.length < lb.length
    · have hv := longer da db tb hlt
      clear hA hB
      go_enter Try.func90, Try.ntmps90
      go_wp2_with fail
      go_ret
      exact ⟨-1, rfl, by omega, Below.refl _ _⟩
    · have hv := longer db da ta (by omega)
      clear hA hB
      go_enter Try.func90, Try.ntmps90
      go_wp2_with fail
      go_ret
      exact ⟨1, rfl, by omega, Below.refl _ _⟩
end Go.Proofs.Ytccgbkafcbfcgaa
end
