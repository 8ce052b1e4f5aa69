/- The walk of the statement RingPlays. -/
import Derived.Test.YtcochjicaogofaaRStep2
namespace Go.Proofs.Ytcochjicaogofaa
open Go.RowKit

/-- The argument is a slice of calls: kinds O and numbers V. -/
def IsOps (w : World) (a : Option Addr) (len : Nat) (O V : Nat → Int) : Prop := len = 0 ∨ ∃ b off, a = some ⟨b, off, none⟩ ∧ b < w.heap.size ∧ ∀ i, i < len → w.cell? ⟨b, off + i * 2, none⟩ = some (.int .i64 (O i)) ∧ w.cell? ⟨b, off + i * 2 + 1, none⟩ = some (.int .i64 (V i))
set_option maxRecDepth 20000 in
set_option maxHeartbeats 2000000 in
theorem ringPlays_walk (room : Int) (a : Option Addr) (len cap : Nat) (O V : Nat → Int) (w : World) (_hr : (Lit.int .i64 room).wf = true) (hO : IsOps w a len O V) (hl : len ≤ 9223372036854775807) :
    Calls Try.prog 3 #[.int .i64 room, .slice a len cap] w fun e w' => e = .returned (.bool true) ∧ Below w.heap.size w w' := by
  have HO := hid hO
  clear hO
  by_cases hb : room < 1 ∨ 4096 < room
  · go_enter Try.func3, Try.ntmps3
    go_wp2_with fail
    refine (awake_any w).mono ?_
    rintro e w1 ⟨rfl, hb1⟩
    go_wp2_with fail
    refine (rNew_no room w1 hb).mono ?_
    rintro e w2 ⟨rfl, rfl⟩
    go_wp2_with fail
    refine (fNew_no room w1 hb).mono ?_
    rintro e w2 ⟨rfl, rfl⟩
    go_wp2_with fail
    go_ret
    exact ⟨rfl, hb1⟩
  · obtain ⟨r, rfl⟩ := i64_nat (i := room) (by omega)
    have h1 : 1 ≤ r := by omega
    have h2 : r ≤ 4096 := by omega
    clear hb
    go_enter Try.func3, Try.ntmps3
    go_wp2_with fail
    refine (awake_any w).mono ?_
    rintro e w1 ⟨rfl, hb1⟩
    go_wp2_with fail
    refine Calls.mono (rNew_yes r w1 h1 h2) ?_
    rintro e w2 ⟨rfl, hg2, hb2⟩
    have HG2 := hid hg2
    clear hg2
    go_wp2_with fail
    refine Calls.mono (fNew_yes r w2 h1 h2) ?_
    rintro e w3 ⟨rfl, hg3, hb3⟩
    have s2 := hb2.size
    have s1 := hb1.size
    have l2 := HG2.out.lt
    have hB : Both w.heap.size w3 w1.heap.size w1.heap.size w2.heap.size w2.heap.size r [] := ⟨HG2.out.next hb3, hg3, by omega, by omega, by have := hb3.size; omega⟩
    have hbw : Below w.heap.size w w3 := (hb1.trans (hb2.mono s1)).trans (hb3.mono (by omega))
    have HB := hid hB
    have HW := hid hbw
    clear hB hbw hb1 hb2 hb3 hg3 HG2
    go_wp2_with fail
    go_loopw [9] (fun p wr => ∃ k : Nat, p = .int .i64 k ∧ k ≤ len ∧ (∃ q g L, Both w.heap.size wr w1.heap.size q w2.heap.size g r L) ∧ Below w.heap.size w wr) (fun p _ => len - (intOf p).toNat)
    case atStart => exact ⟨0, rfl, by omega, ⟨_, _, _, HB.out⟩, HW.out⟩
    case round =>
      obtain ⟨k, rfl, hk, ⟨q, g, L, hB⟩, hw⟩ := hrel
      have HB2 := hid hB
      have HW2 := hid hw
      clear hB hw
      by_cases hlt : k < len
      · rcases HO.out with h0 | ⟨b, off, rfl, hbl, hcell⟩
        · omega
        obtain ⟨e0, e1⟩ := hcell k hlt
        have c0 := (HW2.out.cell (p := ⟨b, off + k * 2, none⟩) hbl).trans e0
        have c1 := (HW2.out.cell (p := ⟨b, off + k * 2 + 1, none⟩) hbl).trans e1
        have hlt' : (k : Int) < (len : Int) := by omega
        clear e0 e1 hcell
        go_wp2_with fail
        refine Calls.mono (step_any w.heap.size w1.heap.size q w2.heap.size g r L (O k) (V k) wr HB2.out h1 h2) ?_
        rintro e w4 ⟨rfl, hb4, q', g', L', hB4⟩
        have HB4 := hid hB4
        have HW4 := hid hb4
        clear hB4 hb4
        go_wp2_with fail
        go_roundw
        case rel => exact ⟨k + 1, by simp, by omega, ⟨_, _, _, HB4.out⟩, HW2.out.trans HW4.out⟩
        case measure => simp [intOf]; omega
      · obtain rfl : k = len := by omega
        have hrf := HB2.out.ref
        obtain ⟨lv, hrf⟩ := hrf
        obtain ⟨a2, c2, hlv⟩ := hrf.sl.shape
        subst hlv
        obtain ⟨d0, d1, e0, e1⟩ := hrf.box.two
        have hblt := hrf.box.lt
        have hll := HB2.out.ring.len
        have HR := hid hrf
        clear hrf
        go_wp2_with fail
        go_region_with (first
          | (go_at_call 12; refine Calls.mono (rList_p _ r L _ (HB2.out.rgp.alike (by rfl)) h2) ?_; rintro e w5 ⟨g3, rfl, hg3, hk3, hb3⟩; have hb4 : Below wr.heap.size wr w5 := ⟨hb3.os, hb3.tape, hb3.output, hb3.size, hb3.block⟩; have d2 := (hb4.cell (p := ⟨w2.heap.size, 1, none⟩) hblt).trans d1; have HK := hid hk3; have HB4 := hid hb4; clear hk3 hb4 hb3)
          | (go_at_call 11; refine Calls.mono (same_yes _ _ L _ ((HK.out.rd L.length).alike (by rfl)) ((HR.out.sl.rd.next HB4.out).alike (by rfl)) (by omega)) ?_; rintro e w6 ⟨rfl, kk, rfl⟩))
        all_goals go_wp2_with fail
        all_goals go_ret
        all_goals exact ⟨rfl, (HW2.out.trans (HB4.out.mono HB2.out.start)).trans ((drewN_below _ _).mono (Nat.le_trans HB2.out.start HB4.out.size))⟩
end Go.Proofs.Ytcochjicaogofaa
