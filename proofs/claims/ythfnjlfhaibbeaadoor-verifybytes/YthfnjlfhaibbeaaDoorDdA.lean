/- Package codec: the document's reader. -/
import Derived.Test.YthfnjlfhaibbeaaDoorDcJ
namespace Go.Proofs.YthfnjlfhaibbeaaDoor
open Go.RowKit

/-- What a reader says where it may have been given up ahead. -/
def oN {α : Type} (f : Rdr α) (d : α) (s : Option (List UInt8)) : α × Option (List UInt8) := match s.bind f with
  | none => (d, none)
  | some p => (p.1, some p.2)
theorem oN_bind {α β : Type} (f : Rdr α) (d : α) (g : α → Rdr β) (s : Option (List UInt8)) : s.bind (rBind f g) = (oN f d s).2.bind (g (oN f d s).1) := by
  unfold oN
  cases s with
  | none => rfl
  | some l =>
    show (f l).bind _ = _
    simp only [Option.bind_some]
    cases f l <;> rfl
theorem oN_none {α : Type} {f : Rdr α} {d : α} {s : Option (List UInt8)} (h : s.bind f = none) : oN f d s = (d, none) := by unfold oN; rw [h]
theorem oN_some {α : Type} {f : Rdr α} {d : α} {s : Option (List UInt8)} {a : α} {r : List UInt8} (h : s.bind f = some (a, r)) : oN f d s = (a, some r) := by unfold oN; rw [h]
/-- The document's reader: its box, the bytes, what is left of them. -/
structure Rr (w : World) (rb : Nat) (L : List UInt8) (v : Value) (s : Option (List UInt8)) : Prop where
  st : ∃ (i : Nat) (bad : Bool), i ≤ L.length ∧ s = (if bad then none else some (L.drop i)) ∧ Box w rb [v, .int .i64 (i : Nat), .bool bad]
  rest : ByAt w v L
  own : 0 < L.length → ∀ b, v.ownBlock = some b → b < rb
theorem Rr.next {w w' : World} {rb : Nat} {L : List UInt8} {v : Value} {s : Option (List UInt8)} (h : Rr w rb L v s) (k : Below w.heap.size w w') : Rr w' rb L v s := by
  obtain ⟨i, bad, h1, h2, h3⟩ := h.st
  exact ⟨⟨i, bad, h1, h2, h3.next k⟩, RowsK.next h.rest k, h.own⟩
theorem Rr.turn {w w' : World} {S : List Nat} {rb : Nat} {L : List UInt8} {v : Value} {s : Option (List UInt8)} (h : Rr w rb L v s) (t : Turn S w w') (hS : ∀ b, b ≤ rb → b ∉ S) : Rr w' rb L v s := by
  obtain ⟨i, bad, h1, h2, h3⟩ := h.st
  exact ⟨⟨i, bad, h1, h2, h3.turn t (hS _ (Nat.le_refl _))⟩, RowsK.turn0 h.rest t (fun h0 b hb => hS _ (Nat.le_of_lt (h.own h0 b hb))), h.own⟩
theorem Rr.lt {w : World} {rb : Nat} {L : List UInt8} {v : Value} {s : Option (List UInt8)} (h : Rr w rb L v s) : rb < w.heap.size := by
  obtain ⟨i, bad, h1, h2, h3⟩ := h.st
  exact h3.lt
/-- What the document's reading functions do. -/
def RtQ {α : Type} (f : Rdr α) (d : α) (V : α → Value) (rb : Nat) (L : List UInt8) (v : Value) (s : Option (List UInt8)) (w : World) (e : Ending) (w' : World) : Prop :=
  e = .returned (V (oN f d s).1) ∧ Turn [rb] w w' ∧ Rr w' rb L v (oN f d s).2
theorem num_none {k : Nat} {l : List UInt8} (h : l.length < k) : rNum k l = none := by
  unfold rNum rCut
  rw [if_neg (by omega)]
  rfl
theorem num_some {k : Nat} {l : List UInt8} (h : k ≤ l.length) : rNum k l = some (beW (l.take k), l.drop k) := by
  unfold rNum rCut
  rw [if_pos h]
  rfl
set_option maxHeartbeats 1000000 in
set_option maxRecDepth 20000 in
theorem rtake_c (rb k : Nat) (hk : 0 < k) (hk8 : k ≤ 8) (L : List UInt8) (v : Value) (s : Option (List UInt8)) (w : World) (h : Rr w rb L v s) :
    Calls Tryd.prog 22 #[.pointer (some ⟨rb, 0, none⟩), .int .i64 (k : Nat)] w (RtQ (rNum k) 0 (fun n => .int .u64 (n : Nat)) rb L v s w) := by
  obtain ⟨i, bad, hi, hs, hB⟩ := h.st
  obtain ⟨ad, cap, hv, hc1, hc2⟩ := RowsK.shape h.rest
  subst hv
  have z0 := hB.cell 0 _ rfl
  have z1 := hB.cell 1 _ rfl
  have z2 := hB.cell 2 _ rfl
  have f1 := hB.free 1 (by simp)
  have f2 := hB.free 2 (by simp)
  have zl := hB.lt
  have HN : Hid (s.bind (rNum k) = none → ∀ n, RtQ (rNum k) 0 (fun n => .int .u64 (n : Nat)) rb L (.slice ad L.length cap) s w (.returned (.int .u64 0)) ((w.drewN n).setCell ⟨rb, 2, none⟩ (.bool true))) := chid (fun hn n => by
    have D := cdrewN (Below.refl w.heap.size w) n
    have T := (Turn.of_below (S := [rb]) D).andSet ⟨rb, 2, none⟩ (.bool true) (.inl (by simp))
    unfold RtQ
    rw [oN_none hn]
    refine ⟨rfl, T, ⟨i, true, hi, rfl, (hB.next D).set 2 (by simp) _⟩, RowsK.turn0 h.rest T (fun h0 b hb => by have := h.own h0 b hb; simp; omega), h.own⟩)
  cases bad with
  | true =>
    have HF := chid (HN.out (by rw [hs]; rfl))
    have hw1 : IntKind.i64.wrap ((L.length : Int) - (i : Int)) = (L.length : Int) - (i : Int) := by rw [IntKind.wrap_i64]; omega
    clear HN h hB hs
    generalize RtQ (rNum k) 0 (fun n => .int .u64 (n : Nat)) rb L (.slice ad L.length cap) s w = Post at *
    go_enter Tryd.func22, Tryd.ntmps22
    go_wp2_with fail
    go_quiet (fail)
    go_wp2_with fail
    exact HF.out _
  | false =>
    have hw1 : IntKind.i64.wrap ((L.length : Int) - (i : Int)) = (L.length : Int) - (i : Int) := by rw [IntKind.wrap_i64]; omega
    by_cases hle : (L.length : Int) - (i : Int) < (k : Int)
    · have HF := chid (HN.out (by rw [hs]; exact num_none (by rw [List.length_drop]; omega)))
      clear HN h hB hs
      generalize RtQ (rNum k) 0 (fun n => .int .u64 (n : Nat)) rb L (.slice ad L.length cap) s w = Post at *
      go_enter Tryd.func22, Tryd.ntmps22
      go_wp2_with fail
      go_quiet (fail)
      go_wp2_with fail
      exact HF.out _
    · have hn : s.bind (rNum k) = some (beW ((L.drop i).take k), (L.drop i).drop k) := by rw [hs]; exact num_some (by rw [List.length_drop]; omega)
      have H0 := chid h
      have HB := chid hB
      have HO : Hid (∀ w', Box w' rb [.slice ad L.length cap, .int .i64 ((i + k : Nat) : Nat), .bool false] → Turn [rb] w w' → RtQ (rNum k) 0 (fun n => .int .u64 (n : Nat)) rb L (.slice ad L.length cap) s w (.returned (.int .u64 (beW ((L.drop i).take k) : Nat))) w') := chid (fun w' hb t => by
        unfold RtQ
        rw [oN_some hn]
        exact ⟨rfl, t, ⟨i + k, false, by omega, by simp [List.drop_drop], hb⟩, RowsK.turn0 h.rest t (fun h0 b hb => by have := h.own h0 b hb; simp; omega), h.own⟩)
      clear HN h hn hs z0 z1 f1 f2
      generalize RtQ (rNum k) 0 (fun n => .int .u64 (n : Nat)) rb L (.slice ad L.length cap) s w = Post at *
      have y0 := hB.cell 0 _ rfl
      have y1 := hB.cell 1 _ rfl
      clear hB
      go_enter Tryd.func22, Tryd.ntmps22
      go_wp2_with fail
      go_quiet (fail)
      go_wp2_with fail
      clear y0 y1 z2 zl
      go_loopw [5, 6] (fun n z wr => ∃ (j : Nat), z = .int .i64 (j : Nat) ∧ j ≤ k ∧ n = .int .u64 (beW ((L.drop i).take j) : Nat) ∧ Hid (Box wr rb [.slice ad L.length cap, .int .i64 ((i + j : Nat) : Nat), .bool false]) ∧ Hid (Turn [rb] w wr)) (fun _ z _ => match z with | .int _ z => ((k : Int) - z).toNat | _ => 0)
      case atStart => exact ⟨0, rfl, by omega, rfl, chid (HB.out.next (cdrewN (Below.refl _ _) _)), chid (Turn.of_below (cdrewN (Below.refl _ _) _))⟩
      case round =>
        obtain ⟨j, rfl, hj, rfl, HX, HT⟩ := hrel
        by_cases hlt : j < k
        · have hlt' : (j : Int) < (k : Int) := by omega
          have hbx := RowsK.turn0 H0.out.rest HT.out (fun h0 b hb => by have := H0.out.own h0 b hb; simp; omega)
          obtain ⟨b, off, cap', hv, -, -, hbl, hx⟩ := RowsK.open hbx (show 0 < L.length by omega)
          cases hv
          have q0 : wr.cell? ⟨b, off + (i + j), none⟩ = some (.int .u8 ((L.getD (i + j) 0).toNat : Nat)) := by
            have := hx (i + j) (by omega) 0 _ rfl
            rwa [show off + (i + j) * 1 + 0 = off + (i + j) by omega] at this
          have hjl : j < (L.drop i).length := by rw [List.length_drop]; omega
          have hg : L.getD (i + j) 0 = (L.drop i)[j] := by simp [List.getD, show i + j < L.length by omega]
          have hn : beW ((L.drop i).take (j + 1)) = beW ((L.drop i).take j) * 256 + (L.getD (i + j) 0).toNat := by rw [List.take_succ_eq_append_getElem hjl, beW_snoc, hg]
          have hb0 : beW ((L.drop i).take j) < 72057594037927936 := by
            have := beW_lt ((L.drop i).take j)
            have h2 : (256 : Nat) ^ ((L.drop i).take j).length ≤ 256 ^ 7 := Nat.pow_le_pow_right (by decide) (by rw [List.length_take]; omega)
            have h3 : (256 : Nat) ^ 7 = 72057594037927936 := by decide
            omega
          have hc0 : (L.getD (i + j) 0).toNat < 256 := UInt8.toNat_lt _
          have hN := chid hn
          clear hx hg hn hbx
          generalize beW ((L.drop i).take j) = n at *
          generalize (L.getD (i + j) 0).toNat = c at *
          have y0 := HX.out.cell 0 _ rfl
          have y1 := HX.out.cell 1 _ rfl
          have y2 := HX.out.cell 2 _ rfl
          have yf := HX.out.free 1 (by simp)
          have yl := HX.out.lt
          have hij : i + j < L.length := by omega
          have hij' : ((i + j : Nat) : Int) < (L.length : Int) := by omega
          have hws : IntKind.u64.wrap ((n : Int) * 256) = (n : Int) * 256 := by rw [IntKind.wrap_u64]; omega
          have hwc : IntKind.u64.wrap (c : Int) = (c : Int) := by rw [IntKind.wrap_u64]; omega
          have hwa : IntKind.u64.wrap ((n : Int) * 256 + (c : Int)) = (n : Int) * 256 + (c : Int) := by rw [IntKind.wrap_u64]; omega
          have HX2 : Hid (∀ n, Box ((wr.drewN n).setCell ⟨rb, 1, none⟩ (.int .i64 ((i : Int) + (j : Int) + 1))) rb [.slice (some ⟨b, off, none⟩) L.length cap, .int .i64 ((i + (j + 1) : Nat) : Nat), .bool false]) := chid (fun n => by
            have := (HX.out.next (cdrewN (Below.refl _ _) n)).set 1 (by simp) (.int .i64 ((i + (j + 1) : Nat) : Nat))
            rw [show ((i : Int) + (j : Int) + 1) = ((i + (j + 1) : Nat) : Int) by omega]
            exact this)
          have HT2 : Hid (∀ n, ∀ u : Value, Turn [rb] w ((wr.drewN n).setCell ⟨rb, 1, none⟩ u)) := chid (fun n u => (HT.out.trans (Turn.of_below (cdrewN (Below.refl wr.heap.size wr) n)) (fun i hi => .inl hi)).andSet _ _ (.inl (by simp)))
          have hz : ((i + j : Nat) : Int) = (i : Int) + (j : Int) := by omega
          have hzn : ((i : Int) + (j : Int)).toNat = i + j := by omega
          have hw2 : IntKind.i64.wrap ((i : Int) + (j : Int) + 1) = (i : Int) + (j : Int) + 1 := by rw [IntKind.wrap_i64]; omega
          rw [hz] at y1
          clear HX HT HB
          go_wp2_with fail
          go_quiet (fail)
          go_wp2_with fail
          refine ⟨⟨j + 1, by go_num, by omega, by rw [hN.out]; simp, HX2.out _, HT2.out _ _⟩, ?_⟩
          show ((k : Int) - ((j : Int) + 1)).toNat < ((k : Int) - (j : Int)).toNat
          omega
        · have hlt' : ¬ (j : Int) < (k : Int) := by omega
          obtain rfl : j = k := by omega
          go_wp2_with fail
          exact HO.out _ HX.out HT.out
/-- A number of four bytes, at most so much. -/
def rFourM (most : Nat) : Rdr Int := fun l => (rNum 4 l).bind (fun p => if p.1 ≤ most then some ((p.1 : Int), p.2) else none)
theorem rFourM_all : rFourM 2147483647 = rFour := rfl
theorem rList_most {α : Type} (most : Nat) (hm : most ≤ 2147483647) (f : Rdr α) : rList most f = rBind (rFourM most) (fun n => rMany f n.toNat) := by
  funext l
  unfold rList rBind rFour rFourM
  cases h : rNum 4 l with
  | none => rfl
  | some p =>
    simp only [Option.bind_some]
    by_cases hp : p.1 ≤ most
    · rw [if_pos (by omega), if_pos hp]
      simp only [Option.bind_some]
      rw [if_pos (by omega)]
    · rw [if_neg hp]
      by_cases hq : p.1 ≤ 2147483647
      · rw [if_pos hq]
        simp only [Option.bind_some]
        rw [if_neg (by omega)]
        rfl
      · rw [if_neg hq]
        rfl
theorem beW4 {l r : List UInt8} {n : Nat} (h : rNum 4 l = some (n, r)) : n < 4294967296 := by
  unfold rNum at h
  cases hc : rCut 4 l with
  | none => rw [hc] at h; cases h
  | some p =>
    rw [hc] at h
    cases h
    have := beW_lt p.1
    rw [(cut_bwd hc).2] at this
    exact this
set_option maxHeartbeats 1000000 in
set_option maxRecDepth 20000 in
theorem rfour_c (rb most : Nat) (hm : most ≤ 2147483647) (L : List UInt8) (v : Value) (s : Option (List UInt8)) (w : World) (h : Rr w rb L v s) :
    Calls Tryd.prog 23 #[.pointer (some ⟨rb, 0, none⟩), .int .i64 (most : Nat)] w (RtQ (rFourM most) 0 (fun n => .int .i64 n) rb L v s w) := by
  have HT := chid (rtake_c rb 4 (by decide) (by decide) L v s w h)
  have hwm : IntKind.u64.wrap (most : Int) = (most : Int) := by rw [IntKind.wrap_u64]; omega
  cases hq : s.bind (rNum 4) with
  | none =>
    have HO : Hid (∀ w', Turn [rb] w w' → Rr w' rb L v none → RtQ (rFourM most) 0 (fun n => .int .i64 n) rb L v s w (.returned (.int .i64 0)) w') := chid (fun w' t k => by
      unfold RtQ
      rw [oN_none (by cases s with | none => rfl | some l => unfold rFourM; simp only [Option.bind_some] at hq ⊢; rw [hq]; rfl)]
      exact ⟨rfl, t, k⟩)
    unfold RtQ at HT
    rw [oN_none hq] at HT
    clear h hq
    generalize RtQ (rFourM most) 0 (fun n => .int .i64 n) rb L v s w = Post at *
    go_enter Tryd.func23, Tryd.ntmps23
    go_wp2_with fail
    refine Calls.mono HT.out ?_
    rintro e w1 ⟨rfl, t1, h1⟩
    have hlt : ¬ ((most : Int) < 0) := by omega
    go_wp2_with fail
    exact HO.out _ t1 h1
  | some p =>
    obtain ⟨n, r⟩ := p
    have hn : n < 4294967296 := by
      cases s with
      | none => cases hq
      | some l => exact beW4 hq
    have hf : s.bind (rFourM most) = if n ≤ most then some ((n : Int), r) else none := by
      cases s with
      | none => cases hq
      | some l => unfold rFourM; simp only [Option.bind_some] at hq ⊢; rw [hq]; rfl
    unfold RtQ at HT
    rw [oN_some hq] at HT
    by_cases hle : n ≤ most
    · rw [if_pos hle] at hf
      have HO : Hid (∀ w', Turn [rb] w w' → Rr w' rb L v (some r) → RtQ (rFourM most) 0 (fun n => .int .i64 n) rb L v s w (.returned (.int .i64 (n : Nat))) w') := chid (fun w' t k => by
        unfold RtQ
        rw [oN_some hf]
        exact ⟨rfl, t, k⟩)
      clear h hq hf
      generalize RtQ (rFourM most) 0 (fun n => .int .i64 n) rb L v s w = Post at *
      go_enter Tryd.func23, Tryd.ntmps23
      go_wp2_with fail
      refine Calls.mono HT.out ?_
      rintro e w1 ⟨rfl, t1, h1⟩
      have hlt : ¬ ((most : Int) < (n : Int)) := by omega
      have hwn : IntKind.i64.wrap (n : Int) = (n : Int) := by rw [IntKind.wrap_i64]; omega
      go_wp2_with fail
      exact HO.out _ t1 h1
    · rw [if_neg hle] at hf
      have HO : Hid (∀ w', Turn [rb] w w' → Rr w' rb L v none → RtQ (rFourM most) 0 (fun n => .int .i64 n) rb L v s w (.returned (.int .i64 0)) w') := chid (fun w' t k => by
        unfold RtQ
        rw [oN_none hf]
        exact ⟨rfl, t, k⟩)
      clear h hq hf
      generalize RtQ (rFourM most) 0 (fun n => .int .i64 n) rb L v s w = Post at *
      go_enter Tryd.func23, Tryd.ntmps23
      go_wp2_with fail
      refine Calls.mono HT.out ?_
      rintro e w1 ⟨rfl, t1, h1⟩
      have hlt : (most : Int) < (n : Int) := by omega
      have HS : Hid (Turn [rb] w (w1.setCell ⟨rb, 2, none⟩ (.bool true)) ∧ Rr (w1.setCell ⟨rb, 2, none⟩ (.bool true)) rb L v none) := chid (by
        obtain ⟨i, bad, a1, a2, a3⟩ := h1.st
        have T := cturn_set w1 rb 2 (.bool true)
        exact ⟨t1.trans T (fun i hi => .inl hi), ⟨i, true, a1, rfl, a3.set 2 (by simp) _⟩, RowsK.turn0 h1.rest T (fun h0 b hb => by have := h1.own h0 b hb; simp; omega), h1.own⟩)
      obtain ⟨i, bad, a1, a2, a3⟩ := h1.st
      have y2 := a3.cell 2 _ rfl
      have yf := a3.free 2 (by simp)
      have yl := a3.lt
      clear a3 h1 t1
      go_wp2_with fail
      exact HO.out _ HS.out.1 HS.out.2
end Go.Proofs.YthfnjlfhaibbeaaDoor
