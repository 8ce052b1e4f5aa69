/- The walk of WindowPlays. -/
import Derived.Test.YtccgbkafcbfcgaaMgF
import Derived.Test.YtccgbkafcbfcgaaWnO
namespace Go.Proofs.Ytccgbkafcbfcgaa
open Go.RowKit

theorem rf_new (w : World) (m a s p : Int) (t : TypeId) : Rf (w.alloc (.cells #[.int .i64 m, .int .i64 a, .int .i64 s, .int .i64 p, .slice none 0 0, .int .i64 0, .bool false] t)) w.heap.size w.heap.size m a s p 0 false [] :=
  ⟨.slice none 0 0, Box.new w [.int .i64 m, .int .i64 a, .int .i64 s, .int .i64 p, .slice none 0 0, .int .i64 0, .bool false] t, .inl ⟨rfl, rfl, rfl⟩⟩
/-- A new window and a new one of the document's. -/
theorem duo_new {w w1 w2 : World} {b : Nat} {F : List Nat} {m a s p : Int} {B : Nat} {t : TypeId} (hB : B ≤ w.heap.size) (h1 : Win w1 b F a s p 0 false []) (f1 : ∀ i, i ∈ F → w.heap.size ≤ i) (b1 : Below w.heap.size w w1) (b2 : Below w1.heap.size w1 w2) (hs : 1 ≤ s) : Duo8 B (w2.alloc (.cells #[.int .i64 m, .int .i64 a, .int .i64 s, .int .i64 p, .slice none 0 0, .int .i64 0, .bool false] t)) b w2.heap.size F w2.heap.size m a s p 0 false [] [] := by
  have hF : w2.heap.size ∉ F := fun hm => by have := h1.lt _ hm; have := b2.size; omega
  have z1 := b1.size
  have z2 := b2.size
  exact ⟨(h1.next b2).next ((Below.refl _ _).alloc (Nat.le_refl _) _), rf_new w2 m a s p t, agree_new hs, hF, hF, fun i hi => Nat.le_trans hB (f1 i hi), by omega, by omega, by simp; omega⟩
set_option maxRecDepth 20000 in
set_option maxHeartbeats 4000000 in
theorem windowPlays_walk (m a s p : Int) (ad : Option Addr) (len cap : Nat) (K : Nat → Int) (S : Nat → Pr) (w : World) (_h0 : In64 m) (_h1 : In64 a) (_h2 : In64 s) (h3 : In64 p) (hO : IsOps w ad len K S) (hl : len * 24 ≤ reachBytes) :
    Calls Try.prog 3 #[.agg #[.int .i64 m, .int .i64 a, .int .i64 s, .int .i64 p], .slice ad len cap] w fun e w' => e = .returned (.bool true) ∧ Below w.heap.size w w' := by
  simp only [reachBytes] at hl
  have hlen : len < 8796093022208 := by omega
  obtain ⟨hW, hB⟩ := one_box w 23 [.int .i64 m, .int .i64 a, .int .i64 s, .int .i64 p]
  obtain ⟨W, hWW⟩ : ∃ W, W = w.alloc (.cells #[.int .i64 m, .int .i64 a, .int .i64 s, .int .i64 p] 23) := ⟨_, rfl⟩
  rw [← hWW] at hW hB
  have HW := hid hW
  have HB := hid hB
  have HO := hid hO
  clear hW hB hl hO
  go_enter Try.func3, Try.ntmps3
  go_upto_region 1 with fail
  rw [← hWW]
  clear hWW
  go_wp2_with fail
  refine Calls.mono (awake_any W) ?_
  rintro e w1 ⟨rfl, hb1⟩
  have hW1 := HW.out.next hb1
  obtain ⟨c0, c1, c2, c3, -, -, -, -⟩ := hW1.four
  have hlt := hW1.lt
  have hB1 := HB.out.trans (hb1.mono HB.out.size)
  have HB1 := hid hB1
  have HW1 := hid hW1
  clear hb1 hB1 hW1
  by_cases hr : RightT m a s p
  · go_wp2_with fail
    refine Calls.mono (wNew m a s p w1 hr h3) ?_
    rintro e w2 ⟨xb, F, rfl, ha2, fa2, hb2⟩
    clear c0 c1 c2 c3 hlt
    have hW2 := HW1.out.next hb2
    obtain ⟨c0, c1, c2, c3, -, -, -, -⟩ := hW2.four
    have hlt := hW2.lt
    have HA2 := hid ha2
    have HF2 := hid fa2
    have HB2 := hid hb2
    have HW2 := hid hW2
    clear ha2 fa2 hb2 hW2
    have HR1 := hid (fRight m a s p w2)
    rw [rightB_yes hr] at HR1
    simp only [tv] at HR1
    go_wp2_with fail
    refine Calls.mono HR1.out ?_
    rintro e w3 ⟨rfl, hb3⟩
    have hW3 := HW2.out.next hb3
    clear c0 c1 c2 c3 hlt
    obtain ⟨c0, c1, c2, c3, -, -, -, -⟩ := hW3.four
    have hlt := hW3.lt
    have HB3 := hid hb3
    have HW3 := hid hW3
    clear hb3 hW3
    have HR2 := hid (wRight m a s p w3)
    rw [rightB_yes hr] at HR2
    simp only [tv] at HR2
    go_wp2_with fail
    refine Calls.mono HR2.out ?_
    rintro e w4 ⟨rfl, hb4⟩
    have hW4 := HW3.out.next hb4
    clear c0 c1 c2 c3 hlt
    obtain ⟨c0, c1, c2, c3, -, -, -, -⟩ := hW4.four
    have hlt := hW4.lt
    have hD := duo_new (B := w.heap.size) (m := m) (t := 34) HB1.out.size HA2.out HF2.out HB2.out (HB3.out.trans (hb4.mono HB3.out.size)) hr.2.2.2.1
    have hB4 : Below w.heap.size w w4 := ((HB1.out.trans (HB2.out.mono HB1.out.size)).trans (HB3.out.mono (Nat.le_trans HB1.out.size HB2.out.size))).trans (hb4.mono (Nat.le_trans (Nat.le_trans HB1.out.size HB2.out.size) HB3.out.size))
    have hB5 : Below w.heap.size w (w4.alloc (.cells #[.int .i64 m, .int .i64 a, .int .i64 s, .int .i64 p, .slice none 0 0, .int .i64 0, .bool false] 34)) := hB4.alloc hB4.size _
    have HD := hid hD
    have HB5 := hid hB5
    have HRT := hid hr
    clear hD hB4 hB5 hb4 hW4 hr
    go_upto_region 9 with fail
    obtain ⟨w5, hw5⟩ : ∃ w5, w5 = w4.alloc (.cells #[.int .i64 m, .int .i64 a, .int .i64 s, .int .i64 p, .slice none 0 0, .int .i64 0, .bool false] 34) := ⟨_, rfl⟩
    rw [← hw5] at HD HB5 ⊢
    clear hw5 c0 c1 c2 c3 hlt
    generalize w4.heap.size = rb at *
    go_wp2_with fail
    go_loopw [8] (fun i wr => ∃ (k : Nat) (F : List Nat) (g : Nat) (ck : Int) (on : Bool) (A L : List Pr), i = .int .i64 k ∧ k ≤ len ∧ Duo8 w.heap.size wr xb rb F g m a s p ck on A L ∧ A.length ≤ k ∧ Below w.heap.size w wr) (fun i _ => len - (intOf i).toNat)
    case atStart => exact ⟨0, F, rb, 0, false, [], [], rfl, by omega, HD.out, by simp, HB5.out⟩
    case round =>
      obtain ⟨k, G, g, ck, on, A, L, rfl, hk, hT, hAl, hB⟩ := hrel
      by_cases hkl : k = len
      · subst hkl
        have HB6 := hid hB
        clear hB hT
        go_wp2_with fail
        go_ret
        exact ⟨rfl, HB6.out⟩
      · have hk2 : k < len := by omega
        have hk3 : (k : Int) < (len : Int) := by omega
        rcases HO.out with h0 | ⟨ob, off, rfl, hob, hcell⟩
        · omega
        obtain ⟨o0, o1, o2, i1, i2⟩ := hcell k hk2
        have q0 := (hB.cell (p := ⟨ob, off + k * 3, none⟩) hob).trans o0
        have q1 := (hB.cell (p := ⟨ob, off + k * 3 + 1, none⟩) hob).trans o1
        have q2 := (hB.cell (p := ⟨ob, off + k * 3 + 2, none⟩) hob).trans o2
        have hobr := Nat.lt_of_lt_of_le hob hB.size
        have HT := hid hT
        have HB6 := hid hB
        clear hcell o0 o1 o2 hkl hT hB
        go_wp2_with fail
        refine Calls.mono (step_any w.heap.size xb rb G g m a s p ck on A L (K k) (S k) wr HT.out HRT.out i1 i2 (by omega)) ?_
        rintro e w6 ⟨rfl, G', g', ck', on', A', L', hD', hAl', hB'⟩
        have HD' := hid hD'
        have HB' := hid (HB6.out.trans hB')
        clear hD' hB' q0 q1 q2 hobr
        go_wp2_with fail
        refine Calls.mono (wClock xb G' a s p ck' on' L' w6 HD'.out.win) ?_
        rintro e w7 ⟨rfl, j7, e7⟩
        have hb7 : Below w6.heap.size w6 w7 := e7 ▸ drewN_below w6 j7
        have hD7 := HD'.out.next hb7
        obtain ⟨lv, rbx, -⟩ := hD7.ref
        have r5 := rbx.cell 5 _ rfl
        have r6 := rbx.cell 6 _ rfl
        have rl := rbx.lt
        have HD7 := hid hD7
        have HB7 := hid (HB'.out.trans (hb7.mono HD'.out.start))
        have xx1 : (ck' != ck') = false := by simp
        have xx2 : (on' != on') = false := by simp
        clear e7 hb7 hD7 rbx
        go_wp2_with fail
        go_roundw
        case rel => exact ⟨k + 1, G', g', ck', on', A', L', by simp, by omega, HD7.out, by omega, HB7.out⟩
        case measure => simp [intOf]; omega
  · have HN0 := hid (wNew_no m a s p w1 hr)
    simp only [tv] at HN0
    go_wp2_with fail
    refine Calls.mono HN0.out ?_
    rintro e w2 ⟨rfl, hb2⟩
    clear c0 c1 c2 c3 hlt
    have hW2 := HW1.out.next hb2
    obtain ⟨c0, c1, c2, c3, -, -, -, -⟩ := hW2.four
    have hlt := hW2.lt
    have HB2 := hid (HB1.out.trans (hb2.mono HB1.out.size))
    have HW2 := hid hW2
    clear hb2 hW2
    have HR1 := hid (fRight m a s p w2)
    rw [rightB_no hr] at HR1
    simp only [tv] at HR1
    go_wp2_with fail
    refine Calls.mono HR1.out ?_
    rintro e w3 ⟨rfl, hb3⟩
    have hW3 := HW2.out.next hb3
    clear c0 c1 c2 c3 hlt
    obtain ⟨c0, c1, c2, c3, -, -, -, -⟩ := hW3.four
    have hlt := hW3.lt
    have HB3 := hid (HB2.out.trans (hb3.mono HB2.out.size))
    clear hb3 hW3
    have HR2 := hid (wRight m a s p w3)
    rw [rightB_no hr] at HR2
    simp only [tv] at HR2
    clear hr
    go_wp2_with fail
    refine Calls.mono HR2.out ?_
    rintro e w4 ⟨rfl, hb4⟩
    have HB4 := hid (HB3.out.trans (hb4.mono HB3.out.size))
    clear hb4 c0 c1 c2 c3 hlt
    go_wp2_with fail
    go_ret
    exact ⟨rfl, HB4.out⟩
end Go.Proofs.Ytccgbkafcbfcgaa
