/- The walk of WindowStale: two windows side by side. -/
import Derived.Test.YtccgbkafcbfcgaaWnH
import Derived.Test.YtccgbkafcbfcgaaWnO
namespace Go.Proofs.Ytccgbkafcbfcgaa
open Go.RowKit

theorem Gone.keep {w w' : World} {b : Nat} {F : List Nat} {agg span per t : Int} {L : List Pr} (g : Gone w b F agg span per t L w') {B : Nat} (hB : ∀ i, i ∈ F → B ≤ i) (hs : B ≤ w.heap.size) (X : List Nat) (hX : ∀ i, i ∈ X → i < w.heap.size ∧ i ∉ F) :
    ∃ F', Win w' b F' agg span per t true L ∧ Turn F w w' ∧ (∀ i, i ∈ F' → B ≤ i) ∧ Below B w w' ∧ (∀ i, i ∈ X → i < w'.heap.size ∧ i ∉ F') := by
  obtain ⟨F', h1, h2, h3⟩ := g
  refine ⟨F', h1, h2, fun i hi => (h3 i hi).elim (hB i) (fun e => by omega), h2.below hB hs, fun i hi => ?_⟩
  obtain ⟨x1, x2⟩ := hX i hi
  exact ⟨Nat.lt_of_lt_of_le x1 h2.size, fun hm => (h3 i hm).elim x2 (fun e => by omega)⟩
/-- Two windows of one state, side by side. -/
structure Twin (B : Nat) (w : World) (a b : Nat) (Fa Fb : List Nat) (agg span per ck : Int) (on : Bool) (L : List Pr) : Prop where
  l : Win w a Fa agg span per ck on L
  r : Win w b Fb agg span per ck on L
  apart : ∀ i, i ∈ Fb → i < w.heap.size ∧ i ∉ Fa
  lB : ∀ i, i ∈ Fa → B ≤ i
  rB : ∀ i, i ∈ Fb → B ≤ i
  start : B ≤ w.heap.size
theorem Twin.next {B : Nat} {w w' : World} {a b : Nat} {Fa Fb : List Nat} {agg span per ck : Int} {on : Bool} {L : List Pr} (h : Twin B w a b Fa Fb agg span per ck on L) (t : Below w.heap.size w w') : Twin B w' a b Fa Fb agg span per ck on L :=
  ⟨h.l.next t, h.r.next t, fun i hi => ⟨Nat.lt_of_lt_of_le (h.apart i hi).1 t.size, (h.apart i hi).2⟩, h.lB, h.rB, Nat.le_trans h.start t.size⟩
/-- Between the two steps: the first is ahead. -/
structure Ahead (B : Nat) (w : World) (a b : Nat) (Fa Fb : List Nat) (agg span per ck : Int) (on : Bool) (L : List Pr) (ck' : Int) (L' : List Pr) : Prop where
  l : Win w a Fa agg span per ck' true L'
  r : Win w b Fb agg span per ck on L
  apart : ∀ i, i ∈ Fa → i < w.heap.size ∧ i ∉ Fb
  lB : ∀ i, i ∈ Fa → B ≤ i
  rB : ∀ i, i ∈ Fb → B ≤ i
  start : B ≤ w.heap.size
theorem Ahead.next {B : Nat} {w w' : World} {a b : Nat} {Fa Fb : List Nat} {agg span per ck : Int} {on : Bool} {L : List Pr} {ck' : Int} {L' : List Pr} (h : Ahead B w a b Fa Fb agg span per ck on L ck' L') (t : Below w.heap.size w w') : Ahead B w' a b Fa Fb agg span per ck on L ck' L' :=
  ⟨h.l.next t, h.r.next t, fun i hi => ⟨Nat.lt_of_lt_of_le (h.apart i hi).1 t.size, (h.apart i hi).2⟩, h.lB, h.rB, Nat.le_trans h.start t.size⟩
/-- The first steps; a block n that is neither's stays. -/
theorem Twin.first {B : Nat} {w w' : World} {a b : Nat} {Fa Fb : List Nat} {agg span per ck ck' : Int} {on : Bool} {L L' : List Pr} (h : Twin B w a b Fa Fb agg span per ck on L) (g : Gone w a Fa agg span per ck' L' w') {n : Nat} {vs : List Value} (hn : Box w n vs) (na : n ∉ Fa) :
    ∃ Fa', Ahead B w' a b Fa' Fb agg span per ck on L ck' L' ∧ Box w' n vs ∧ n ∉ Fa' ∧ Below B w w' := by
  obtain ⟨F', h1, h2, h3, h4, h5⟩ := g.keep h.lB h.start (n :: Fb) (fun i hi => by
    simp at hi
    rcases hi with rfl | hi
    · exact ⟨hn.lt, na⟩
    · exact h.apart i hi)
  exact ⟨F', ⟨h1, h.r.turn h2 (fun i hi => (h.apart i hi).2), fun i hi => ⟨h1.lt i hi, fun hb => (h5 i (by simp [hb])).2 hi⟩, h3, h.rB, Nat.le_trans h.start h2.size⟩, hn.turn h2 na, (h5 n (by simp)).2, h4⟩
theorem Ahead.second {B : Nat} {w w' : World} {a b : Nat} {Fa Fb : List Nat} {agg span per ck ck' : Int} {on : Bool} {L L' : List Pr} (h : Ahead B w a b Fa Fb agg span per ck on L ck' L') (g : Gone w b Fb agg span per ck' L' w') {n : Nat} {vs : List Value} (hn : Box w n vs) (na : n ∉ Fb) :
    ∃ Fb', Twin B w' a b Fa Fb' agg span per ck' true L' ∧ Box w' n vs ∧ n ∉ Fb' ∧ Below B w w' := by
  obtain ⟨F', h1, h2, h3, h4, h5⟩ := g.keep h.rB h.start (n :: Fa) (fun i hi => by
    simp at hi
    rcases hi with rfl | hi
    · exact ⟨hn.lt, na⟩
    · exact h.apart i hi)
  exact ⟨F', ⟨h.l.turn h2 (fun i hi => (h.apart i hi).2), h1, fun i hi => ⟨h1.lt i hi, fun hb => (h5 i (by simp [hb])).2 hi⟩, h.lB, h3, Nat.le_trans h.start h2.size⟩, hn.turn h2 na, (h5 n (by simp)).2, h4⟩
theorem twin_new {w w1 w2 : World} {a b : Nat} {Fa Fb : List Nat} {agg span per : Int} {B : Nat} (hB : B ≤ w.heap.size) (h1 : Win w1 a Fa agg span per 0 false []) (f1 : ∀ i, i ∈ Fa → w.heap.size ≤ i) (b1 : Below w.heap.size w w1) (h2 : Win w2 b Fb agg span per 0 false []) (f2 : ∀ i, i ∈ Fb → w1.heap.size ≤ i) (b2 : Below w1.heap.size w1 w2) : Twin B w2 a b Fa Fb agg span per 0 false [] :=
  ⟨h1.next b2, h2, fun i hi => ⟨h2.lt i hi, fun hm => by have x1 := h1.lt i hm; have x2 := f2 i hi; omega⟩, fun i hi => Nat.le_trans hB (f1 i hi), fun i hi => Nat.le_trans hB (Nat.le_trans b1.size (f2 i hi)), Nat.le_trans hB (Nat.le_trans b1.size b2.size)⟩
/-- The time t isn't stale. -/
def Later (on : Bool) (ck t : Int) : Prop := on = true → ck ≤ t
set_option maxRecDepth 20000 in
set_option maxHeartbeats 4000000 in
theorem windowStale_walk (m a s p : Int) (ad : Option Addr) (len cap : Nat) (K : Nat → Int) (S : Nat → Pr) (w : World) (_h0 : In64 m) (_h1 : In64 a) (_h2 : In64 s) (h3 : In64 p) (hO : IsOps w ad len K S) (hl : len * 24 ≤ reachBytes) :
    Calls Try.prog 6 #[.agg #[.int .i64 m, .int .i64 a, .int .i64 s, .int .i64 p], .slice ad len cap] w fun e w' => e = .returned (.bool true) ∧ Below w.heap.size w w' := by
  simp only [reachBytes] at hl
  have hlen : len < 4611686018427387904 := by omega
  obtain ⟨hW, hB⟩ := one_box w 23 [.int .i64 m, .int .i64 a, .int .i64 s, .int .i64 p]
  obtain ⟨W, hWW⟩ : ∃ W, W = w.alloc (.cells #[.int .i64 m, .int .i64 a, .int .i64 s, .int .i64 p] 23) := ⟨_, rfl⟩
  rw [← hWW] at hW hB
  have HW := hid hW
  have HB := hid hB
  have HO := hid hO
  clear hW hB hl hO
  go_enter Try.func6, Try.ntmps6
  go_upto_region 1 with fail
  rw [← hWW]
  clear hWW
  go_wp2_with fail
  refine Calls.mono (awake_any W) ?_
  rintro e w1 ⟨rfl, hb1⟩
  have hW1 := HW.out.next hb1
  obtain ⟨c0, c1, c2, c3, -, -, -, -⟩ := hW1.four
  have hlt := hW1.lt
  have hB1 := HB.out.trans (hb1.mono HB.out.size)
  have HB1 := hid hB1
  have HW1 := hid hW1
  clear hb1 hB1 hW1
  by_cases hr : RightT m a s p
  · go_wp2_with fail
    refine Calls.mono (wNew m a s p w1 hr h3) ?_
    rintro e w2 ⟨xa, Fa, rfl, ha2, fa2, hb2⟩
    clear c0 c1 c2 c3 hlt
    have hW2 := HW1.out.next hb2
    obtain ⟨c0, c1, c2, c3, -, -, -, -⟩ := hW2.four
    have hlt := hW2.lt
    have HA2 := hid ha2
    have HF2 := hid fa2
    have HB2 := hid hb2
    clear ha2 fa2 hb2 hW2
    go_wp2_with fail
    refine Calls.mono (wNew m a s p w2 hr h3) ?_
    rintro e w3 ⟨xb, Fb, rfl, hb3', fb3, hb3⟩
    have hT := twin_new (B := w.heap.size) HB1.out.size HA2.out HF2.out HB2.out hb3' fb3 hb3
    have hB3 : Below w.heap.size w w3 := (HB1.out.trans (HB2.out.mono HB1.out.size)).trans (hb3.mono (Nat.le_trans HB1.out.size HB2.out.size))
    have HT := hid hT
    have HB3 := hid hB3
    clear c0 c1 c2 c3 hlt hb3' fb3 hb3 hT hB3 hr
    go_wp2_with fail
    go_loopw [9] (fun i wr => ∃ (k : Nat) (Fa Fb : List Nat) (ck : Int) (on : Bool) (L : List Pr), i = .int .i64 k ∧ k ≤ len ∧ Twin w.heap.size wr xa xb Fa Fb a s p ck on L ∧ Below w.heap.size w wr) (fun i _ => len - (intOf i).toNat)
    case atStart => exact ⟨0, Fa, Fb, 0, false, [], rfl, by omega, HT.out, HB3.out⟩
    case round =>
      obtain ⟨k, Ga, Gb, ck, on, L, rfl, hk, hT, hB⟩ := hrel
      by_cases hkl : k = len
      · subst hkl
        have HB4 := hid hB
        clear hB hT
        go_wp2_with fail
        go_ret
        exact ⟨rfl, HB4.out⟩
      · have hk2 : k < len := by omega
        have hk3 : (k : Int) < (len : Int) := by omega
        rcases HO.out with h0 | ⟨ob, off, rfl, hob, hcell⟩
        · omega
        obtain ⟨o0, o1, o2, i1, i2⟩ := hcell k hk2
        have q0 := (hB.cell (p := ⟨ob, off + k * 3, none⟩) hob).trans o0
        have q1 := (hB.cell (p := ⟨ob, off + k * 3 + 1, none⟩) hob).trans o1
        have q2 := (hB.cell (p := ⟨ob, off + k * 3 + 2, none⟩) hob).trans o2
        have hobr := Nat.lt_of_lt_of_le hob hB.size
        clear hcell o0 o1 o2 hkl
        have hN := Box.new wr [.int .i64 (K k), .int .i64 (S k).1, .int .i64 (S k).2] 37
        have hb4 : Below wr.heap.size wr (wr.alloc (.cells #[.int .i64 (K k), .int .i64 (S k).1, .int .i64 (S k).2] 37)) := (Below.refl _ _).alloc (Nat.le_refl _) _
        obtain ⟨w4, hw4⟩ : ∃ w4, w4 = wr.alloc (.cells #[.int .i64 (K k), .int .i64 (S k).1, .int .i64 (S k).2] 37) := ⟨_, rfl⟩
        rw [← hw4] at hN hb4
        have hT4 := hT.next hb4
        have hnA : wr.heap.size ∉ Ga := fun hm => by have := hT.l.lt _ hm; omega
        have hnB : wr.heap.size ∉ Gb := fun hm => by have := hT.r.lt _ hm; omega
        have hB4 := hB.trans (hb4.mono hB.size)
        have HT4 := hid hT4
        have HN := hid hN
        have HB4 := hid hB4
        clear hT hB hb4 hT4 hN hB4
        go_upto_region 13 with fail
        rw [← hw4]
        clear hw4 q0 q1 q2 hobr
        generalize wr.heap.size = n at *
        generalize K k = kd at *
        generalize S k = sm at *
        go_wp2_with fail
        refine Calls.mono (wClock xb Gb a s p ck on L w4 HT4.out.r) ?_
        rintro e w5 ⟨rfl, j5, e5⟩
        have hb5 : Below w4.heap.size w4 w5 := e5 ▸ drewN_below w4 j5
        have hT5 := HT4.out.next hb5
        have hN5 := HN.out.next hb5
        have c0 := hN5.cell 0 _ rfl
        have c1 := hN5.cell 1 _ rfl
        have c2 := hN5.cell 2 _ rfl
        have nl := hN5.lt
        have hB5 := HB4.out.trans (hb5.mono HB4.out.size)
        have HT5 := hid hT5
        have HN5 := hid hN5
        have HB5 := hid hB5
        clear e5 hb5 hT5 hN5 hB5
        by_cases hst : on = true ∧ sm.1 < ck
        · obtain ⟨rfl, hck⟩ := hst
          go_wp2_with fail
          refine Calls.mono (wRead_stale xa Ga a s p ck L sm.1 w5 HT5.out.l hck) ?_
          rintro e w6 ⟨rfl, hb6⟩
          have hb7 : Below w5.heap.size w5 (w6.alloc (.cells #[.int .i64 0, .int .i64 0] 49)) := hb6.alloc hb6.size _
          have hR7 := Box.new w6 [.int .i64 0, .int .i64 0] 49
          obtain ⟨w7, hw7⟩ : ∃ w7, w7 = w6.alloc (.cells #[.int .i64 0, .int .i64 0] 49) := ⟨_, rfl⟩
          rw [← hw7] at hb7 hR7
          have hT7 := HT5.out.next hb7
          have hN7 := HN5.out.next hb7
          have hB7 := HB5.out.trans (hb7.mono HB5.out.size)
          have HT7 := hid hT7
          have HN7 := hid hN7
          have HR7 := hid hR7
          have HB7 := hid hB7
          clear hb6 hb7 hR7 hT7 hB7 c0 c1 c2
          have c1 := hN7.cell 1 _ rfl
          have c2 := hN7.cell 2 _ rfl
          have nl7 := hN7.lt
          clear hN7
          simp only [rv, r0]
          go_upto_region 16 with fail
          rw [← hw7]
          clear hw7
          generalize w6.heap.size = g at *
          go_wp2_with fail
          refine Calls.mono (wHeld_stale xa Ga a s p ck L sm.1 w7 HT7.out.l hck) ?_
          rintro e w8 ⟨rfl, rfl⟩
          go_wp2_with fail
          refine Calls.mono (wPut_stale xa Ga a s p ck L sm w7 HT7.out.l hck) ?_
          rintro e w9 ⟨rfl, hb9⟩
          have hR9 := HR7.out.next hb9
          have z0 := hR9.cell 0 _ rfl
          have z1 := hR9.cell 1 _ rfl
          have zl := hR9.lt
          have HT9 := hid (HT7.out.next hb9)
          have HB9 := hid (HB7.out.trans (hb9.mono HB7.out.size))
          clear hR9 hb9 c1 c2
          go_wp2_with fail
          go_roundw
          case rel => exact ⟨k + 1, Ga, Gb, ck, true, L, by simp, by omega, HT9.out, HB9.out⟩
          case measure => simp [intOf]; omega
        · have hs : on = true → ck ≤ sm.1 := fun h => by
            rcases Int.lt_or_le sm.1 ck with h1 | h1
            · exact absurd ⟨h, h1⟩ hst
            · exact h1
          have hcond : (on = false ∨ ¬ sm.1 < ck) := by
            cases on with
            | false => exact .inl rfl
            | true => exact .inr (by have := hs rfl; omega)
          have HS := hid (show Later on ck sm.1 from hs)
          clear hs hst
          rcases on with _ | _
          case' false => clear hcond
          case' true => replace hcond : ¬ sm.1 < ck := by simpa using hcond
          all_goals (
            by_cases hk1 : kd = 1
            · subst hk1
              have hb6 : Below w5.heap.size w5 (w5.alloc (.cells #[.int .i64 sm.1, .int .i64 sm.2] 45)) := (Below.refl _ _).alloc (Nat.le_refl _) _
              have hN6 := Box.new w5 [.int .i64 sm.1, .int .i64 sm.2] 45
              obtain ⟨w6, hw6⟩ : ∃ w6, w6 = w5.alloc (.cells #[.int .i64 sm.1, .int .i64 sm.2] 45) := ⟨_, rfl⟩
              rw [← hw6] at hb6 hN6
              have hT6 := HT5.out.next hb6
              have hB6 := HB5.out.trans (hb6.mono HB5.out.size)
              have nA : w5.heap.size ∉ Ga := fun hm => by have := HT5.out.l.lt _ hm; omega
              have nB : w5.heap.size ∉ Gb := fun hm => by have := HT5.out.r.lt _ hm; omega
              have d0 := hN6.cell 0 _ rfl
              have d1 := hN6.cell 1 _ rfl
              have dl := hN6.lt
              have HT6 := hid hT6
              have HB6 := hid hB6
              have HN6 := hid hN6
              clear hb6 hN6 hT6 hB6
              go_upto_region 21 with fail
              rw [← hw6]
              clear hw6 c0 c1 c2
              generalize w5.heap.size = g at *
              go_wp2_with fail
              refine Calls.mono (wPut xa Ga a s p ck _ L sm w6 HT6.out.l i1 i2 HS.out) ?_
              rintro e w7 ⟨rfl, g7⟩
              obtain ⟨Ga', hA, hN7, nA', hB7⟩ := HT6.out.first g7 HN6.out nA
              clear d0 d1 dl g7
              have d0 := hN7.cell 0 _ rfl
              have d1 := hN7.cell 1 _ rfl
              have dl := hN7.lt
              have HA := hid hA
              have HB7 := hid (HB6.out.trans hB7)
              have HN7 := hid hN7
              clear hA hN7 hB7
              go_wp2_with fail
              refine Calls.mono (wPut xb Gb a s p ck _ L sm w7 HA.out.r i1 i2 HS.out) ?_
              rintro e w8 ⟨rfl, g8⟩
              obtain ⟨Gb', hT8, -, -, hB8⟩ := HA.out.second g8 HN7.out nB
              have HT8 := hid hT8
              have HB8 := hid (HB7.out.trans hB8)
              clear hT8 hB8 d0 d1 dl g8
              go_wp2_with fail
              go_roundw
              case rel => exact ⟨k + 1, Ga', Gb', sm.1, true, _, by simp, by omega, HT8.out, HB8.out⟩
              case measure => simp [intOf]; omega
            · have hk1' : (kd == 1) = false := by simpa using hk1
              clear hk1
              generalize hx : toldOf a p (vals (fresh s sm.1 L)) = x
              have HX := hid hx
              clear hx
              go_wp2_with fail
              refine Calls.mono (wRead xa Ga a s p ck _ L sm.1 w5 HT5.out.l i1 HS.out) ?_
              rw [HX.out]
              rintro e w6 ⟨rfl, g6⟩
              obtain ⟨Ga', hA, hN6, nA', hB6⟩ := HT5.out.first g6 HN5.out hnA
              have hb7 : Below w6.heap.size w6 (w6.alloc (.cells #[.int .i64 x.1, .int .i64 x.2] 49)) := (Below.refl _ _).alloc (Nat.le_refl _) _
              have hR7 := Box.new w6 [.int .i64 x.1, .int .i64 x.2] 49
              obtain ⟨w7, hw7⟩ : ∃ w7, w7 = w6.alloc (.cells #[.int .i64 x.1, .int .i64 x.2] 49) := ⟨_, rfl⟩
              rw [← hw7] at hb7 hR7
              have hA7 := hA.next hb7
              have hN7 := hN6.next hb7
              have nR : w6.heap.size ∉ Gb := fun hm => by have := hA.r.lt _ hm; omega
              clear c0 c1 c2
              have c1 := hN7.cell 1 _ rfl
              have nl7 := hN7.lt
              have HA7 := hid hA7
              have HR7 := hid hR7
              have HB7 := hid ((HB5.out.trans hB6).trans (hb7.mono (HB5.out.trans hB6).size))
              clear hA hA7 hN6 hN7 hb7 hR7 hB6 g6
              simp only [rv]
              go_upto_region 24 with fail
              rw [← hw7]
              clear hw7
              generalize w6.heap.size = g at *
              go_wp2_with fail
              refine Calls.mono (wRead xb Gb a s p ck _ L sm.1 w7 HA7.out.r i1 HS.out) ?_
              rw [HX.out]
              rintro e w8 ⟨rfl, g8⟩
              obtain ⟨Gb', hT8, hR8, -, hB8⟩ := HA7.out.second g8 HR7.out nR
              have hb9 : Below w8.heap.size w8 (w8.alloc (.cells #[.int .i64 x.1, .int .i64 x.2] 49)) := (Below.refl _ _).alloc (Nat.le_refl _) _
              have hQ9 := Box.new w8 [.int .i64 x.1, .int .i64 x.2] 49
              obtain ⟨w9, hw9⟩ : ∃ w9, w9 = w8.alloc (.cells #[.int .i64 x.1, .int .i64 x.2] 49) := ⟨_, rfl⟩
              rw [← hw9] at hb9 hQ9
              have hR9 := hR8.next hb9
              have z0 := hR9.cell 0 _ rfl
              have z1 := hR9.cell 1 _ rfl
              have zl := hR9.lt
              have y0 := hQ9.cell 0 _ rfl
              have y1 := hQ9.cell 1 _ rfl
              have yl := hQ9.lt
              have HT9 := hid (hT8.next hb9)
              have HB9 := hid ((HB7.out.trans hB8).trans (hb9.mono (HB7.out.trans hB8).size))
              clear hT8 hR8 hB8 hb9 hQ9 hR9 g8 c1
              simp only [rv]
              go_upto_region 25 with fail
              rw [← hw9]
              clear hw9
              generalize w8.heap.size = g2 at *
              have xx1 : (x.1 != x.1) = false := by simp
              have xx2 : (x.2 != x.2) = false := by simp
              go_wp2_with fail
              go_roundw
              case rel => exact ⟨k + 1, Ga', Gb', sm.1, true, _, by simp, by omega, HT9.out, HB9.out⟩
              case measure => simp [intOf]; omega)
  · go_wp2_with fail
    refine Calls.mono (wNew_no m a s p w1 hr) ?_
    rintro e w2 ⟨rfl, hb2⟩
    clear c0 c1 c2 c3 hlt
    have hW2 := HW1.out.next hb2
    obtain ⟨c0, c1, c2, c3, -, -, -, -⟩ := hW2.four
    have hlt := hW2.lt
    have HB2 := hid (HB1.out.trans (hb2.mono HB1.out.size))
    clear hb2 hW2
    go_wp2_with fail
    refine Calls.mono (wNew_no m a s p w2 hr) ?_
    rintro e w3 ⟨rfl, hb3⟩
    have HB3 := hid (HB2.out.trans (hb3.mono HB2.out.size))
    clear hb3 c0 c1 c2 c3 hlt hr
    go_wp2_with fail
    go_ret
    exact ⟨rfl, HB3.out⟩
end Go.Proofs.Ytccgbkafcbfcgaa
