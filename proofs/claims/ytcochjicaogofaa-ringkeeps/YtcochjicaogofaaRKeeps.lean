/- The walk of the statement RingKeeps. -/
import Derived.Test.YtcochjicaogofaaRKeA
namespace Go.Proofs.Ytcochjicaogofaa
open Go.RowKit Go.Shelf
attribute [local go_sem] Oper.semAt_some

/-- What lies in memory when the three lists have been made. -/
structure Snap (w : World) (a : Option Addr) (cap : Nat) (Z : List Int) (b q bf ga gb ge c f : Nat) (L : List Int) (W : World) : Prop where
  ring : Rg W b q 100 L
  la : Blk W ga L
  lb : Blk W gb L
  le : Blk W ge L
  box0 : Boxed W w.heap.size 35 (.slice a Z.length cap)
  box1 : Boxed W (w.heap.size + 1) 4 (.bool false)
  boxf : Boxed W bf 3 (.int .i64 (f : Nat))
  boxc : Boxed W c 35 (.slice (some ⟨ge, 0, none⟩) L.length L.length)
  o1 : w.heap.size + 1 < b
  o2 : b ≤ q
  o3 : q < bf
  o4 : bf < ga
  o5 : ga < gb
  o6 : gb < ge
  o7 : gb < c
  o8 : ge < W.heap.size
  bel : Below w.heap.size w W
theorem Turn.widen {S S' : List Nat} {w w' : World} (h : Turn S w w') (hs : ∀ i, i ∈ S → i ∈ S') : Turn S' w w' := ⟨h.os, h.tape, h.output, h.size, fun k hk hn => h.block k hk (fun hm => hn (hs k hm))⟩
theorem keep_turn {w : World} {a : Option Addr} {cap : Nat} {Z : List Int} {b q bf ga gb ge c f : Nat} {L : List Int} {W W' : World} (h : Snap w a cap Z b q bf ga gb ge c f L W) (t : Turn [b, q, ga] W W') :
    Boxed W' w.heap.size 35 (.slice a Z.length cap) ∧ Boxed W' (w.heap.size + 1) 4 (.bool false) ∧ Boxed W' bf 3 (.int .i64 (f : Nat)) ∧ Boxed W' c 35 (.slice (some ⟨ge, 0, none⟩) L.length L.length) ∧ Blk W' gb L ∧ Blk W' ge L ∧ Below w.heap.size w W' := by
  obtain ⟨_, _, lb, le, b0, b1, bf, bc, o1, o2, o3, o4, o5, o6, o7, o8, bel⟩ := h
  exact ⟨boxed_turn b0 t (by simp; omega), boxed_turn b1 t (by simp; omega), boxed_turn bf t (by simp; omega), boxed_turn bc t (by simp; omega), lb.turn t (by simp; omega), le.turn t (by simp; omega), bel.trans (t.below (by simp; omega) bel.size)⟩

/-- What the going over finds in memory when pre has come. -/
def KeepsInv (w : World) (a : Option Addr) (cap : Nat) (Z : List Int) (bf bk gb f : Nat) (L : List Int) (pre : List (Nat × Int)) (W : World) : Prop :=
  ((((Boxed W bk 3 (.int .i64 ((f + pre.length : Nat) : Int)) ∧ Boxed W w.heap.size 35 (.slice a Z.length cap)) ∧ Boxed W (w.heap.size + 1) 4 (.bool false)) ∧ Boxed W bf 3 (.int .i64 (f : Nat))) ∧ Blk W gb L) ∧ Below w.heap.size w W
theorem keepsInv_own (w : World) (a : Option Addr) (cap : Nat) (Z : List Int) (bf bk gb f : Nat) (L : List Int) (B : Nat) (h : w.heap.size ≤ B) : OwnFrom B (KeepsInv w a cap Z bf bk gb f L) :=
  OwnFrom.and (OwnFrom.and (OwnFrom.and (OwnFrom.and (OwnFrom.and (Own.from (boxed_own _ _ (fun pre : List (Nat × Int) => .int .i64 ((f + pre.length : Nat) : Int))) _) (Own.from (boxed_own _ _ (fun _ => .slice a Z.length cap)) _)) (Own.from (boxed_own _ _ (fun _ => .bool false)) _)) (Own.from (boxed_own _ _ (fun _ => .int .i64 (f : Nat))) _)) (Own.from (blk_own gb L) _)) (ownFrom_below (Nat.le_refl _) h)
/-- The last of these is not what the list has at its place. -/
def Off (Z : List Int) (f : Nat) (pre : List (Nat × Int)) : Prop := ∃ ini last, pre = ini ++ [last] ∧ ¬ (last.1 = ini.length ∧ Z[f + ini.length]? = some last.2)
theorem off_no {Z L : List Int} {f k : Nat} (hL : L = newest Z) (hf : f = Z.length - 100) (hk : k ≤ L.length) : ¬ Off Z f (upto (fun j => (j, L[j]?.getD 0)) k) := by
  rintro ⟨ini, last, e, hn⟩
  obtain ⟨k', rfl⟩ : ∃ k', k = k' + 1 := by
    cases k with
    | zero => simp [upto] at e
    | succ k' => exact ⟨k', rfl⟩
  rw [upto_succ] at e
  obtain ⟨e5, e6⟩ := List.append_inj' e rfl
  obtain rfl : (k', L[k']?.getD 0) = last := by simpa using e6
  apply hn
  rw [← e5, upto_length]
  refine ⟨rfl, ?_⟩
  have h1 : Z[f + k']? = L[k']? := by rw [hL, newest, List.getElem?_drop, hf]
  rw [h1, List.getElem?_eq_getElem (by omega)]
  simp

theorem below_drewN' {B : Nat} {a w : World} (h : Below B a w) (n : Nat) : Below B a (w.drewN n) := ⟨h.os, h.tape, h.output, h.size, h.block⟩
theorem rd_none {W : World} {a : Option Addr} {L : List Int} {n c : Nat} (h : L.length = n) (h0 : n = 0) : Rd W (.slice a n c) L := ⟨a, c, by rw [h], .inl (List.eq_nil_of_length_eq_zero (by omega))⟩
theorem rd_tail {w W : World} {g off n f c : Nat} {Z L : List Int} (hL : L = newest Z) (hf : f = Z.length - 100) (hn : L.length = n) (hg : g < w.heap.size) (hc : ∀ i x, Z[i]? = some x → w.cell? ⟨g, off + i, none⟩ = some (.int .i64 x)) (hB : Below w.heap.size w W) : Rd W (.slice (some ⟨g, off + f, none⟩) n c) L := by
  refine ⟨_, c, by rw [hn], .inr ⟨g, off + f, rfl, Nat.lt_of_lt_of_le hg hB.size, fun i x hx => ?_⟩⟩
  rw [hL, newest, List.getElem?_drop, ← hf] at hx
  have := (hB.cell (p := ⟨g, off + (f + i), none⟩) hg).trans (hc _ x hx)
  rwa [← Nat.add_assoc] at this

set_option maxRecDepth 100000 in
set_option maxHeartbeats 4000000 in
theorem ringKeeps_walk (a : Option Addr) (len cap : Nat) (Z : List Int) (a2 : Option Addr) (len2 cap2 : Nat) (Z2 : List Int) (w : World) (hZ : Rd w (.slice a len cap) Z) (hcap : len ≤ cap) (hl : len ≤ 9223372036854775807) (hZ2 : Rd w (.slice a2 len2 cap2) Z2) (_hcap2 : len2 ≤ cap2) (hl2 : len2 ≤ 9223372036854775807) :
    Calls Try.prog 5 #[.slice a len cap, .slice a2 len2 cap2] w fun e w' => e = .returned (.bool true) ∧ Below w.heap.size w w' := by
  obtain rfl : len = Z.length := by obtain ⟨_, _, e, _⟩ := hZ; cases e; rfl
  obtain rfl : len2 = Z2.length := by obtain ⟨_, _, e, _⟩ := hZ2; cases e; rfl
  have HZ := hid hZ
  have HZ2 := hid hZ2
  clear hZ hZ2
  refine (callsIn_wide (n := 5)).1 ?_
  refine callsIn_of_wp_marks Try.func5 rfl trivial ?_ rfl
  simp only [Try.ntmps5, List.size_toArray, List.length_cons, List.length_nil, Nat.reduceAdd, Nat.reduceSub, Array.replicate_succ, Array.replicate_zero, List.push_toArray, List.append_toArray, List.nil_append, List.cons_append]
  gi_wp2_with fail
  have b0 := (Boxed.new w 35 (.slice a Z.length cap)).alloc (.cells #[.bool false] 4)
  have b1 := Boxed.new (w.alloc (.cells #[.slice a Z.length cap] 35)) 4 (.bool false)
  have hB0 : Below w.heap.size w ((w.alloc (.cells #[.slice a Z.length cap] 35)).alloc (.cells #[.bool false] 4)) := ((Below.refl _ w).alloc (Nat.le_refl _) _).alloc (by simp) _
  simp only [World.size_alloc] at b1
  generalize (w.alloc (.cells #[.slice a Z.length cap] 35)).alloc (.cells #[.bool false] 4) = W0 at *
  refine ⟨trivial, ?_⟩
  refine CallsIn.mono (callsIn_wide.2 (awake_any W0)) ?_
  rintro e w1 ⟨rfl, hb1⟩
  replace b0 := boxed_turn (S := []) b0 (Turn.of_below hb1) (by simp)
  replace b1 := boxed_turn (S := []) b1 (Turn.of_below hb1) (by simp)
  have hs0 := b1.lt
  replace hb1 := hB0.trans (hb1.mono hB0.size)
  clear hB0
  gi_wp2_with fail
  refine ⟨trivial, ?_⟩
  refine CallsIn.mono (callsIn_wide.2 (rNew_yes 100 w1 (by decide) (by decide))) ?_
  rintro e w2 ⟨rfl, hg2, hb2⟩
  replace b0 := boxed_turn (S := []) b0 (Turn.of_below hb2) (by simp)
  replace b1 := boxed_turn (S := []) b1 (Turn.of_below hb2) (by simp)
  have hs1 := hg2.lt
  replace hb2 := hb1.trans (hb2.mono hb1.size)
  have H1 := hid hg2
  have HB2 := hid hb2
  clear hb1 hg2 hb2
  gi_wp2_with fail
  have HP := hid b0
  have HQ := hid b1
  clear b0 b1
  gi_loopw [7] (fun p wr => ∃ (k q : Nat), p = .int .i64 k ∧ k ≤ Z.length ∧ Rg wr w1.heap.size q 100 (newest (Z.take k)) ∧ w1.heap.size ≤ q ∧ Boxed wr w.heap.size 35 (.slice a Z.length cap) ∧ Boxed wr (w.heap.size + 1) 4 (.bool false) ∧ Below w.heap.size w wr) (fun p _ => Z.length - (intOf p).toNat)
  case atStart => exact ⟨0, w1.heap.size, rfl, by omega, H1.out, Nat.le_refl _, HP.out, HQ.out, HB2.out⟩
  case round =>
    clear HP HQ HB2 H1
    obtain ⟨k, q, rfl, hk, hg, hq, b0, b1, hbw⟩ := hrel
    have c0 := b0.cell
    have hsw : w1.heap.size < wr.heap.size := hg.lt
    have hqw := hg.qlt
    by_cases hlt : k < Z.length
    · obtain ⟨x, hx⟩ : ∃ x, Z[k]? = some x := ⟨_, List.getElem?_eq_getElem hlt⟩
      obtain ⟨_, _, e, h0 | ⟨g, off, rfl, hgl, hcell⟩⟩ := HZ.out
      · rw [h0] at hlt; simp at hlt
      cases e
      have c1 := (hbw.cell (p := ⟨g, off + k, none⟩) hgl).trans (hcell k x hx)
      have hlt' : (k : Int) < (Z.length : Int) := by omega
      have e2 : Z.take (k + 1) = Z.take k ++ [x] := by rw [List.take_add_one, hx]; rfl
      have HG := hid hg
      have H0 := hid b0
      have HB1 := hid b1
      have HW := hid hbw
      have HE := hid e2
      clear hg b0 b1 hbw hcell hx e2
      gi_wp2_with fail
      refine ⟨trivial, ?_⟩
      refine CallsIn.mono (callsIn_wide.2 (rPush_newest w1.heap.size q (Z.take k) x wr HG.out)) ?_
      rintro e w3 ⟨⟨x3, ok3, rfl⟩, q3, hg3, t3, o3⟩
      have HG3 := hid hg3
      have HT3 := hid t3
      clear hg3 t3
      gi_wp2_with fail
      go_roundw
      case rel => exact ⟨k + 1, q3, by simp, by omega, by rw [HE.out]; exact HG3.out, by omega, boxed_turn H0.out HT3.out (by simp; omega), boxed_turn HB1.out HT3.out (by simp; omega), HW.out.trans (HT3.out.below (by simp; omega) (by omega))⟩
      case measure => simp [intOf]; omega
    · obtain rfl : k = Z.length := by omega
      rw [List.take_of_length_le (Nat.le_refl _)] at hg
      have HG := hid hg
      have H0 := hid b0
      have HB1 := hid b1
      have HW := hid hbw
      clear hg b0 b1 hbw hlt
      obtain ⟨f, hf⟩ : ∃ f : Nat, f = Z.length - 100 := ⟨_, rfl⟩
      have hif : (if (100 : Int) < (Z.length : Int) then (Z.length : Int) - 100 else 0) = (f : Nat) := by split <;> omega
      have HF := hid hf
      clear hf
      gi_wp2_with fail
      obtain ⟨L, hL⟩ : ∃ L, L = newest Z := ⟨_, rfl⟩
      have hLl : L.length ≤ 100 := by rw [hL]; exact newest_le Z
      have hg := HG.out
      rw [← hL] at hg
      have HN := hid hL
      have hba : Below wr.heap.size wr (wr.alloc (.cells #[.int .i64 (f : Nat)] 3)) := (Below.refl _ _).alloc (Nat.le_refl _) _
      have bf := Boxed.new wr 3 (.int .i64 (f : Nat))
      have b0 := boxed_turn (S := []) H0.out (Turn.of_below hba) (by simp)
      have b1 := boxed_turn (S := []) HB1.out (Turn.of_below hba) (by simp)
      replace hg := hg.next hba
      have hbw := HW.out.trans (hba.mono HW.out.size)
      have hsz : (wr.alloc (.cells #[.int .i64 (f : Nat)] 3)).heap.size = wr.heap.size + 1 := by simp
      generalize wr.alloc (.cells #[.int .i64 (f : Nat)] 3) = W3 at *
      clear HG H0 HB1 HW hba hL hk c0
      refine ⟨trivial, ?_⟩
      refine CallsIn.mono (callsIn_wide.2 (rList_p _ 100 L W3 (.inr ⟨_, q, rfl, hg⟩) (by decide))) ?_
      rintro e w4 ⟨ga, rfl, hga, ka, hb4⟩
      replace bf := boxed_turn (S := []) bf (Turn.of_below hb4) (by simp)
      replace b0 := boxed_turn (S := []) b0 (Turn.of_below hb4) (by simp)
      replace b1 := boxed_turn (S := []) b1 (Turn.of_below hb4) (by simp)
      replace hg := hg.next hb4
      replace hbw := hbw.trans (hb4.mono hbw.size)
      have hg4 := ka.lt
      gi_wp2_with fail
      refine ⟨trivial, ?_⟩
      refine CallsIn.mono (callsIn_wide.2 (rList_p _ 100 L w4 (.inr ⟨_, q, rfl, hg⟩) (by decide))) ?_
      rintro e w5 ⟨gb, rfl, hgb, kb, hb5⟩
      replace bf := boxed_turn (S := []) bf (Turn.of_below hb5) (by simp)
      replace b0 := boxed_turn (S := []) b0 (Turn.of_below hb5) (by simp)
      replace b1 := boxed_turn (S := []) b1 (Turn.of_below hb5) (by simp)
      replace hg := hg.next hb5
      replace hbw := hbw.trans (hb5.mono hbw.size)
      replace ka := ka.next hb5
      have hg5 := kb.lt
      gi_wp2_with fail
      refine ⟨trivial, ?_⟩
      refine CallsIn.mono (callsIn_wide.2 (rEach_p _ 100 L w5 (.inr ⟨_, q, rfl, hg⟩) (by decide))) ?_
      rintro e w6 ⟨ge, c, rfl, hge, hc, ke, kc, hb6⟩
      have hsn : Snap w a cap Z w1.heap.size q wr.heap.size ga gb ge c f L w6 :=
        ⟨hg.next hb6, ka.next hb6, kb.next hb6, ke, boxed_turn (S := []) b0 (Turn.of_below hb6) (by simp), boxed_turn (S := []) b1 (Turn.of_below hb6) (by simp), boxed_turn (S := []) bf (Turn.of_below hb6) (by simp), kc, hs0, hq, hqw, by omega, by omega, by omega, by omega, ke.lt, hbw.trans (hb6.mono hbw.size)⟩
      have HS := hid hsn
      generalize w1.heap.size = b at *
      generalize wr.heap.size = bf0 at *
      have hgalt := hsn.la.lt
      clear hg hbw ka kb ke kc hb4 hb5 hb6 bf b0 b1 hsn hgb hga hge hc hg4 hg5 hs0 hq hqw hsw hs1 hsz
      gi_wp2_with fail
      gi_loopw [12] (fun p wr => ∃ (k : Nat) (A : List Int), p = .int .i64 k ∧ k ≤ L.length ∧ A.length = L.length ∧ Blk wr ga A ∧ Turn [ga] w6 wr) (fun p _ => L.length - (intOf p).toNat)
      case atStart => exact ⟨0, L, rfl, by omega, rfl, HS.out.la, Turn.refl _ _⟩
      case round =>
        obtain ⟨k, A, rfl, hk, hA, hkA, hT⟩ := hrel
        by_cases hlt : k < L.length
        · obtain ⟨y, hy⟩ : ∃ y, A[k]? = some y := ⟨_, List.getElem?_eq_getElem (by omega)⟩
          have c1 := box_cell hkA.box hy
          have c2 := box_free (i := k) hkA.box (by omega)
          have hlt' : (k : Int) < (L.length : Int) := by omega
          have HK := hid hkA
          have HT := hid hT
          have HA := hid hA
          clear hkA hT hy hA
          gi_wp2_with fail
          go_roundw
          case rel => exact ⟨k + 1, A.set k 77, by simp, by omega, by simp [HA.out], HK.out.put k 77, HT.out.andSet _ _ (.inl (by simp))⟩
          case measure => simp [intOf]; omega
        · obtain rfl : k = L.length := by omega
          have hsl : Sl wr ga (.slice (some ⟨ga, 0, none⟩) L.length L.length) A := by have := hkA.sl (by simp only [maxLen]; omega); rwa [hA] at this
          have hsz := hT.size
          have HK := hid hsl
          have HT := hid hT
          have HA := hid hA
          have hAl : A.length ≤ 100 := by omega
          clear hkA hT hA hsl hk hlt
          have hwn := cell_one_new wr (.int .i64 78) 2
          have HN1 := hid hwn
          clear hwn
          gi_wp2_with (first
            | (gi_at_builtin; refine wpListIn_append_sl _ rfl _ _ rfl g7 (.slice (some ⟨g7, off7, none⟩) (A.length + 1) cap7) (A ++ [78]) rfl (HS7.out.next ((Below.refl _ _).alloc (Nat.le_refl _) _)) (by simp; omega) ⟨w7.heap.size, 0, none⟩ 78 rfl (cell_one_new w7 (.int .i64 78) 2) ?_; intro g8 off8 cap8 w8 hs8 ht8 ho8; have HT8 := hid ht8; clear hs8 ht8)
            | (gi_at_builtin; refine wpListIn_append_sl _ rfl _ _ rfl ga (.slice (some ⟨ga, 0, none⟩) L.length L.length) A rfl (HK.out.next ((Below.refl _ _).alloc (Nat.le_refl _) _)) (by omega) ⟨wr.heap.size, 0, none⟩ 78 rfl HN1.out ?_; intro g7 off7 cap7 w7 hs7 ht7 ho7; have HS7 := hid hs7; have HT7 := hid ht7; clear hs7 ht7))
          have t8 : Turn [b, q, ga] w6 w8 := by
            have e1 : Turn [ga] w6 w7 := (HT.out.andBelow ((Below.refl _ _).alloc (Nat.le_refl _) _)).trans HT7.out (fun i hi => .inl hi)
            have e2 : Turn [ga] w6 w8 := (e1.andBelow ((Below.refl _ _).alloc (Nat.le_refl _) _)).trans HT8.out (fun i hi => by simp at hi ho7 ⊢; omega)
            exact e2.widen (by simp)
          have HT9 := hid t8
          have hR : Rg w8 b q 100 L := by
            have e1 : Turn [ga] w6 w7 := (HT.out.andBelow ((Below.refl _ _).alloc (Nat.le_refl _) _)).trans HT7.out (fun i hi => .inl hi)
            have e2 : Turn [ga] w6 w8 := (e1.andBelow ((Below.refl _ _).alloc (Nat.le_refl _) _)).trans HT8.out (fun i hi => by simp at hi ho7 ⊢; omega)
            exact HS.out.ring.turn e2 (by have := HS.out.o2; have := HS.out.o3; have := HS.out.o4; simp; omega) (by have := HS.out.o3; have := HS.out.o4; simp; omega)
          have HR := hid hR
          clear t8 hR HT7 HT8 HT HS7 HK HA HN1 ho7 ho8 hsz hAl
          gi_loopw [13] (fun p wr => ∃ (k q' : Nat) (L' : List Int), p = .int .i64 k ∧ k ≤ Z2.length ∧ Rg wr b q' 100 L' ∧ Turn [b, q, ga] w6 wr ∧ (q' = q ∨ w6.heap.size ≤ q')) (fun p _ => Z2.length - (intOf p).toNat)
          case atStart => exact ⟨0, q, L, rfl, by omega, HR.out, HT9.out, .inl rfl⟩
          case round =>
            obtain ⟨k, q', L', rfl, hk, hR, hT, ho⟩ := hrel
            obtain ⟨b0, b1, bf, bc, lb, le, bel⟩ := keep_turn HS.out hT
            by_cases hlt : k < Z2.length
            · obtain ⟨x, hx⟩ : ∃ x, Z2[k]? = some x := ⟨_, List.getElem?_eq_getElem hlt⟩
              obtain ⟨_, _, e, h0 | ⟨g, off, rfl, hgl, hcell⟩⟩ := HZ2.out
              · rw [h0] at hlt; simp at hlt
              cases e
              have c1 := (bel.cell (p := ⟨g, off + k, none⟩) hgl).trans (hcell k x hx)
              have hlt' : (k : Int) < (Z2.length : Int) := by omega
              have HR2 := hid hR
              have HT2 := hid hT
              have hsz := hT.size
              clear hR hT b0 b1 bf bc lb le bel hcell hx
              gi_wp2_with fail
              refine ⟨trivial, ?_⟩
              refine CallsIn.mono (callsIn_wide.2 (rPush_all b q' 100 L' x wr HR2.out (by decide) (by decide))) ?_
              rintro e w9 ⟨⟨x9, ok9, rfl⟩, q9, L9, hg9, t9, o9⟩
              have HR9 := hid hg9
              have HT9b := hid t9
              have hsz9 := t9.size
              clear hg9 t9
              gi_wp2_with fail
              refine ⟨trivial, ?_⟩
              refine CallsIn.mono (callsIn_wide.2 (rDrop_all b q9 100 L9 w9 HR9.out (by decide))) ?_
              rintro e w10 ⟨⟨x10, ok10, rfl⟩, q10, L10, hg10, t10, o10⟩
              have HR10 := hid hg10
              have HT10 := hid t10
              clear hg10 t10
              gi_wp2_with fail
              go_roundw
              case rel =>
                have tt : Turn [b, q, ga] w6 w10 := (HT2.out.trans HT9b.out (fun i hi => by simp at hi ⊢; omega)).trans HT10.out (fun i hi => by simp at hi ⊢; omega)
                exact ⟨k + 1, q10, L10, by simp, by omega, HR10.out, tt, by omega⟩
              case measure => simp [intOf]; omega
            · obtain rfl : k = Z2.length := by omega
              have c1 := bf.cell
              have H0 := hid b0
              have HB1 := hid b1
              have HBF := hid bf
              have HC := hid bc
              have HLB := hid lb
              have HLE := hid le
              have HW := hid bel
              have hsz := hT.size
              have i1 := b1.lt
              have i2 := bf.lt
              have i3 := lb.lt
              have i4 := le.lt
              clear hR hT b0 b1 bf bc lb le bel HR HT9 hlt hk ho
              gi_wp2_with fail
              have hba : Below wr.heap.size wr (wr.alloc (.cells #[.int .i64 (f : Nat)] 3)) := (Below.refl _ _).alloc (Nat.le_refl _) _
              have bk := Boxed.new wr 3 (.int .i64 (f : Nat))
              have hs8 : (wr.alloc (.cells #[.int .i64 (f : Nat)] 3)).heap.size = wr.heap.size + 1 := by simp
              have b0 := boxed_turn (S := []) H0.out (Turn.of_below hba) (by simp)
              have b1 := boxed_turn (S := []) HB1.out (Turn.of_below hba) (by simp)
              have bf := boxed_turn (S := []) HBF.out (Turn.of_below hba) (by simp)
              have bc := boxed_turn (S := []) HC.out (Turn.of_below hba) (by simp)
              have lb := HLB.out.next hba
              have le := HLE.out.next hba
              have bel := HW.out.trans (hba.mono HW.out.size)
              have hfz : f ≤ Z.length := by have := HF.out; omega
              have ord := HS.out
              clear H0 HB1 HBF HC HLB HLE HW c1 hba
              generalize wr.alloc (.cells #[.int .i64 (f : Nat)] 3) = W8 at *
              generalize wr.heap.size = BK at *
              refine wpIn_rangeFunc_ownG rfl (by decide) (gf := 34) (lb := #[.pointer (some ⟨c, 0, none⟩)]) rfl trivial (enters_of Try.func34 (by kernel_rfl) rfl)
                (each_stops Fence.wide 4 trivial rfl (by decide) c ge L (by omega) W8 bc le) keepB_t (keepB_b le.lt) (Below.refl _ _) (fun _ => rfl)
                (fun pre W => KeepsInv w a cap Z bf0 BK gb f L pre W ∧ f + pre.length ≤ Z.length)
                (fun cd pre _ => cd = .ret ∧ Off Z f pre)
                (OwnFrom.and (keepsInv_own w a cap Z bf0 BK gb f L W8.heap.size bel.size) (ownFrom_pure _ _)) (fun cd => ownFrom_pure _ _)
                ⟨⟨⟨⟨⟨⟨by simpa using bk, b0⟩, b1⟩, bf⟩, lb⟩, bel⟩, by simpa using hfz⟩ ?a1 ?assign ?body ?done ?stop
              case assign =>
                intro l x W K hK
                gi_wp2
                exact hK
              case body =>
                have q1 := ord.o1
                have q2 := ord.o2
                have q3 := ord.o3
                have q4 := ord.o4
                have q5 := ord.o5
                have q6 := ord.o6
                have q8 := ord.o8
                clear b0 b1 bf bc lb le bel bk ord HS
                rintro l pre x W ⟨⟨⟨⟨⟨⟨hk0, h0⟩, h1⟩, hf⟩, hlb⟩, hB⟩, hle⟩ hlt
                obtain ⟨kk, hkk⟩ : ∃ kk, kk = f + pre.length := ⟨_, rfl⟩
                rw [← hkk] at hk0 hle
                have hsub : (kk : Int) - (f : Int) = (pre.length : Int) := by omega
                have cK := hk0.cell
                have fK := hk0.frozen
                have c0 := h0.cell
                have c1 := h1.cell
                have f1 := h1.frozen
                have cF := hf.cell
                have HK0 := hid hk0
                have H0 := hid h0
                have H1' := hid h1
                have HF' := hid hf
                have HLB := hid hlb
                have HB := hid hB
                have HKK := hid hkk
                clear hk0 h0 h1 hf hlb hB hkk
                by_cases hA : x.1 = pre.length
                · have hA' : (x.1 : Int) = (pre.length : Int) := by omega
                  by_cases hBB : kk < Z.length
                  · obtain ⟨y, hy⟩ : ∃ y, Z[kk]? = some y := ⟨_, List.getElem?_eq_getElem hBB⟩
                    obtain ⟨_, _, e, e0 | ⟨g, off, rfl, hgl, hcell⟩⟩ := HZ.out
                    · rw [e0] at hBB; simp at hBB
                    cases e
                    have cy := (HB.out.cell (p := ⟨g, off + kk, none⟩) hgl).trans (hcell kk y hy)
                    have hB1 : ¬ (Z.length : Int) ≤ (kk : Int) := by omega
                    have hB2 : (kk : Int) < (Z.length : Int) := by omega
                    have HY := hid hy
                    clear hcell hy
                    by_cases hC : x.2 = y
                    · gi_wp2_with fail
                      have e9 : ((kk : Int) + 1) = ((f + (pre ++ [x]).length : Nat) : Int) := by have := HKK.out; simp; omega
                      rw [e9]
                      exact ⟨(KeepsOthers.setCell _ _ _).from _, Below.heap_setCell _ _ _ _ (by simp; omega), ⟨⟨⟨⟨⟨HK0.out.set _, H0.out.other (by omega) _⟩, H1'.out.other (by omega) _⟩, HF'.out.other (by omega) _⟩, HLB.out.turn (S := [BK]) (Turn.set _ _ _ (by simp)) (by simp; omega)⟩, HB.out.setCell (p := ⟨BK, 0, none⟩) (by simp; omega) _⟩, by have := HKK.out; simp; omega⟩
                    · have hC' : (x.2 != y) = true := by simpa using hC
                      gi_wp2_with fail
                      exact ⟨(KeepsOthers.setCell _ _ _).from _, rfl, pre, x, rfl, fun hh => hC (by have := HY.out; rw [HKK.out, hh.2] at this; exact Option.some.inj this)⟩
                  · have hB1 : (Z.length : Int) ≤ (kk : Int) := by omega
                    gi_wp2_with fail
                    exact ⟨(KeepsOthers.setCell _ _ _).from _, rfl, pre, x, rfl, fun hh => by have h9 := hh.2; rw [← HKK.out, List.getElem?_eq_none (by omega)] at h9; cases h9⟩
                · have hA' : ¬ (x.1 : Int) = (pre.length : Int) := by omega
                  gi_wp2_with fail
                  exact ⟨(KeepsOthers.setCell _ _ _).from _, rfl, pre, x, rfl, fun hh => hA hh.1⟩
              case done =>
                have q1 := ord.o1
                clear b0 b1 bf bc lb le bk ord HS
                rintro D ys W hD rfl ⟨⟨⟨⟨⟨⟨hk0, h0⟩, h1⟩, hf⟩, hlb⟩, hB⟩, hle⟩ hK
                have hfl : f + L.length = Z.length := by have h5 := HF.out; have h6 := newest_length Z; rw [← HN.out] at h6; omega
                rw [upto_length, hfl] at hk0
                have cK := hk0.cell
                have c0 := h0.cell
                have c1 := h1.cell
                have f1 := h1.frozen
                have cF := hf.cell
                have hD' : W8.heap.size ≤ D := hD
                have HK := hid hK
                have HLB := hid hlb
                have HB := hid hB
                have HD := hid hD'
                have H1' := hid h1
                have HFL := hid hfl
                have hD2 : D ≠ w.heap.size + 1 := by omega
                clear hk0 h0 h1 hf hlb hB hK hD hD' hfl hle
                by_cases hc : cap = f
                · gi_wp2_with fail
                  refine ⟨trivial, ?_⟩
                  refine CallsIn.mono (callsIn_wide.2 (same_yes _ _ L W (HLB.out.rd _) (rd_none (by have := HFL.out; omega) (by omega)) (by omega))) ?_
                  rintro e w9 ⟨rfl, k9, rfl⟩
                  gi_wp2
                  have hK' := (KeepsOthers.setCell (W.drewN k9) ⟨w.heap.size + 1, 0, none⟩ (.bool true)).same D _ HK.out rfl
                  refine ⟨by simp, .inl ⟨_, _, rfl, run_takeDeferred hK', ?_⟩⟩
                  have hc5 := cell_kept (World.cell?_setCell_same' (W.drewN k9) ⟨w.heap.size + 1, 0, none⟩ (.bool true) (by have := c1; simp [this])) (grownBy_putObj' _ D (.deferred none)) (fun r e => by cases e; exact ⟨_, hK', rfl⟩)
                  refine ⟨.bool true, ?_, rfl, ((below_drewN' HB.out k9).setCell (p := ⟨w.heap.size + 1, 0, none⟩) (by simp) _).trans (belowK_b (w := W8) bel.size _ D _ _ HD.out hK' rfl rfl)⟩
                  simp [results, Try.f5, go_sem, hc5]
                · by_cases hz : Z.length = 0
                  · have hf0 : f = 0 := by have := HFL.out; omega
                    subst hf0
                    gi_wp2_with fail
                    refine ⟨trivial, ?_⟩
                    refine CallsIn.mono (callsIn_wide.2 (same_yes _ _ L W (HLB.out.rd _) (rd_none (by have := HFL.out; omega) (by omega)) (by omega))) ?_
                    rintro e w9 ⟨rfl, k9, rfl⟩
                    gi_wp2
                    have hK' := (KeepsOthers.setCell (W.drewN k9) ⟨w.heap.size + 1, 0, none⟩ (.bool true)).same D _ HK.out rfl
                    refine ⟨by simp, .inl ⟨_, _, rfl, run_takeDeferred hK', ?_⟩⟩
                    have hc5 := cell_kept (World.cell?_setCell_same' (W.drewN k9) ⟨w.heap.size + 1, 0, none⟩ (.bool true) (by have := c1; simp [this])) (grownBy_putObj' _ D (.deferred none)) (fun r e => by cases e; exact ⟨_, hK', rfl⟩)
                    refine ⟨.bool true, ?_, rfl, ((below_drewN' HB.out k9).setCell (p := ⟨w.heap.size + 1, 0, none⟩) (by simp) _).trans (belowK_b (w := W8) bel.size _ D _ _ HD.out hK' rfl rfl)⟩
                    simp [results, Try.f5, go_sem, hc5]
                  · obtain ⟨_, _, e, e0 | ⟨g, off, rfl, hgl, hcell⟩⟩ := HZ.out
                    · rw [e0] at hz; simp at hz
                    cases e
                    have HCl := hid hcell
                    clear hcell
                    gi_wp2_with fail
                    refine ⟨trivial, ?_⟩
                    refine CallsIn.mono (callsIn_wide.2 (same_yes _ _ L W (HLB.out.rd _) (rd_tail HN.out HF.out (by have := HFL.out; omega) hgl HCl.out HB.out) (by omega))) ?_
                    rintro e w9 ⟨rfl, k9, rfl⟩
                    gi_wp2
                    have hK' := (KeepsOthers.setCell (W.drewN k9) ⟨w.heap.size + 1, 0, none⟩ (.bool true)).same D _ HK.out rfl
                    refine ⟨by simp, .inl ⟨_, _, rfl, run_takeDeferred hK', ?_⟩⟩
                    have hc5 := cell_kept (World.cell?_setCell_same' (W.drewN k9) ⟨w.heap.size + 1, 0, none⟩ (.bool true) (by have := c1; simp [this])) (grownBy_putObj' _ D (.deferred none)) (fun r e => by cases e; exact ⟨_, hK', rfl⟩)
                    refine ⟨.bool true, ?_, rfl, ((below_drewN' HB.out k9).setCell (p := ⟨w.heap.size + 1, 0, none⟩) (by simp) _).trans (belowK_b (w := W8) bel.size _ D _ _ HD.out hK' rfl rfl)⟩
                    simp [results, Try.f5, go_sem, hc5]
              case stop =>
                rintro D cd pre W hD ⟨k, hk', rfl⟩ ⟨_, ho⟩ hK
                exact absurd ho (off_no HN.out HF.out hk')
end Go.Proofs.Ytcochjicaogofaa
