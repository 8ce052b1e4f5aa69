/- A number that is there leaves. -/
import Derived.Test.YtccgbkafcbfcgaaRkV
namespace Go.Proofs.Ytccgbkafcbfcgaa
open Go.RowKit

/-- Behind the move. -/
theorem take_moved {w w3 w4 : World} {b g m n q k : Nat} {S J : List Int} {v : Int} (hA : BAt w3 g (.slice (some ⟨g, 0, none⟩) n q) S J) (hb : Box w3 b [.slice (some ⟨g, 0, none⟩) n q]) (hB : Below w.heap.size w w3) (hne : g ≠ b) (hc : m + 1 = cnt v S) (hn : n = S.length) (hk : k = n - (m + 1))
    (hm : Blk w4 g (mv (S ++ J) m (m + 1) k)) (h4 : Turn [g] w3 w4) (ha : Asc S) (hv : v ∈ S) :
    Box w4 b [.slice (some ⟨g, 0, none⟩) n q] ∧ ∀ d, Rk ((w4.drewN d).setCell ⟨b, 0, none⟩ (.slice (some ⟨g, 0, none⟩) (n - 1) q)) b g (rem v S) ∧ Turn [b, g] w ((w4.drewN d).setCell ⟨b, 0, none⟩ (.slice (some ⟨g, 0, none⟩) (n - 1) q)) := by
  subst hk
  have hb4 := hb.turn h4 (by simpa using Ne.symm hne)
  refine ⟨hb4, fun d => ?_⟩
  have hl := rem_length ha hv
  have hq : q = S.length + J.length := by have := hA.val; cases this; rfl
  have e := mv_rem (S := S) (J := J) (v := v) (by omega)
  rw [← hc, Nat.add_sub_cancel, ← hn] at e
  rw [e] at hm
  have hb5 := (hb4.drewN d).set 0 (by simp) (.slice (some ⟨g, 0, none⟩) (n - 1) q)
  have hlen : ((S ++ J).drop (n - 1)).length = J.length + 1 := by simp; omega
  refine ⟨⟨_, hb5, .inr ⟨hne, (S ++ J).drop (n - 1), ?_, ?_, ?_⟩⟩, ?_⟩
  · rw [hlen]
    congr 1 <;> omega
  · exact ((hm.alike (w' := w4.drewN d) rfl).turn (Turn.set (S := [b]) _ _ _ (by simp)) (by simpa using hne))
  · rw [hlen]
    have := hA.most
    omega
  · refine ((((Turn.of_below (S := [b, g]) hB).trans h4 ?_).trans (drewN_turn [] w4 d) (by simp)).andSet _ _ (.inl (by simp)))
    intro i hi
    simp at hi
    subst hi
    exact .inl (by simp)
/-- Behind the memory that is given back. -/
theorem take_end {w w5 w6 : World} {b g : Nat} {S : List Int} (x : Turn [b, g] w w5) (h : Turns w5 b g S w6) : Turns w b g S w6 := by
  obtain ⟨g', h1, h2, h3⟩ := h
  have sz := x.size
  refine ⟨g', h1, x.trans h2 (fun i hi => .inl hi), ?_⟩
  rcases h3 with e | e | e
  · exact .inl e
  · exact .inr (.inl e)
  · exact .inr (.inr (by omega))
set_option maxRecDepth 20000 in
set_option maxHeartbeats 1000000 in
theorem rTake_yes (b g : Nat) (S : List Int) (v : Int) (w : World) (x : Rk w b g S) (ha : Asc S) (hl : S.length < 17592186044415) (hv : v ∈ S) :
    Calls Try.prog 41 #[.pointer (some ⟨b, 0, none⟩), .int .i64 v] w fun e w' => e = .returned (.bool true) ∧ Turns w b g (rem v S) w' := by
  have hlt := x.lt
  have HU := hid (rUpTo b g S v w x ha (by omega))
  have HX := hid x
  have hcl := cnt_le v S
  obtain ⟨hpos, hy⟩ := rem_yes ha hv
  obtain ⟨m, hc⟩ : ∃ m, m + 1 = cnt v S := ⟨cnt v S - 1, by omega⟩
  rw [← hc] at HU hcl hy
  rw [Nat.add_sub_cancel] at hy
  have HC := hid hc
  have HY := hid hy
  have HAS := hid ha
  have HV := hid hv
  clear x ha hc hv hy hpos
  go_enter Try.func41, Try.ntmps41
  go_wp2_with fail
  refine Calls.mono HU.out ?_
  rintro e w1 ⟨rfl, hB⟩
  obtain ⟨lv, hx⟩ := HX.out.next hB
  obtain ⟨c0, f0⟩ := hx.box.single
  have hlt1 := hx.box.lt
  rcases hx.sl with ⟨_, e, _⟩ | ⟨hne, J, hs⟩
  · rw [e] at hcl; simp at hcl
  have d0 := hs.cell (HY.out)
  have hval := hs.val
  have hmost := hs.most
  obtain ⟨n, hn⟩ : ∃ n, n = S.length := ⟨_, rfl⟩
  obtain ⟨q, hq⟩ : ∃ q, q = n + J.length := ⟨_, rfl⟩
  rw [← hn] at hval hcl hl hmost
  rw [← hq] at hval hmost
  subst hval
  simp only [maxLen] at hmost
  have hbx := hx.box
  have HS := hid hs
  have HBX := hid hbx
  have HB := hid hB
  have HN := hid hn
  have hnq : n ≤ q := by omega
  have hmi : (m : Int) < (n : Int) := by omega
  have hwr : IntKind.i64.wrap ((m : Int) + 1) = (m : Int) + 1 := wrap_small _ (by omega) (by omega)
  have hnat : ((m : Int) + 1).toNat = m + 1 := by omega
  have hle : (m : Int) ≤ (n : Int) := by omega
  have hle1 : (m : Int) + 1 ≤ (n : Int) := by omega
  have hge : 0 ≤ (m : Int) + 1 := by omega
  have hqc : ¬ q = m := by omega
  have hn1 : ((n : Int) - 1).toNat = n - 1 := by omega
  have hn2 : 0 ≤ (n : Int) - 1 := by omega
  have hn3 : (n : Int) - 1 ≤ (q : Int) := by omega
  have hvb : (v != v) = false := by simp
  clear hB hx hs hbx hn hq
  go_wp2_with fail
  by_cases hqd : q = m + 1
  · subst hqd
    go_region_law (refine step_copy_b rfl (.tmp 28) (.tmp 35) rfl (some ⟨g, m, none⟩) (some ⟨g, 0, none⟩) (n - m) (1) (n - (m + 1)) (0) (by first | (simp [Act.eval, Act.put]; done) | (simp [Act.eval, Act.put]; omega)) (by first | (simp [Act.eval, Act.put]; done) | (simp [Act.eval, Act.put]; omega)) g (S ++ J) (HS.out.blk.alike rfl) m (m + 1) (n - (m + 1)) (by simp only [Nat.min_def]; split <;> omega) (fun h => absurd h (by omega)) (by have := HN.out; simp; omega) (by have := HN.out; simp; omega) ?_; intro w4 hm4 ht4; obtain ⟨hb4, hend⟩ := take_moved HS.out HBX.out HB.out hne HC.out HN.out rfl hm4.out ht4.undrew HAS.out HV.out; obtain ⟨d4, e4⟩ := hb4.single; have hlt4 := hb4.lt; have HE := hid (hend 1); clear hend hm4 ht4 hb4)
    all_goals go_wp2_with fail
    all_goals go_region
    all_goals go_wp2_with fail
    all_goals refine Calls.mono (rGive b g (rem v S) _ HE.out.1 (by have := rem_length HAS.out HV.out; have := HN.out; omega)) ?_
    all_goals rintro e w6 ⟨rfl, hend⟩
    all_goals have HF := hid (take_end HE.out.2 hend)
    all_goals clear hend HE
    all_goals go_wp2_with fail
    all_goals go_ret
    all_goals exact ⟨rfl, HF.out⟩
  · go_region_law (refine step_copy_b rfl (.tmp 28) (.tmp 35) rfl (some ⟨g, m, none⟩) (some ⟨g, m + 1, none⟩) (n - m) (q - m) (n - (m + 1)) (q - (m + 1)) (by first | (simp [Act.eval, Act.put]; done) | (simp [Act.eval, Act.put]; omega)) (by first | (simp [Act.eval, Act.put]; done) | (simp [Act.eval, Act.put]; omega)) g (S ++ J) (HS.out.blk.alike rfl) m (m + 1) (n - (m + 1)) (by simp only [Nat.min_def]; split <;> omega) (fun _ => ⟨rfl, rfl⟩) (by have := HN.out; simp; omega) (by have := HN.out; simp; omega) ?_; intro w4 hm4 ht4; obtain ⟨hb4, hend⟩ := take_moved HS.out HBX.out HB.out hne HC.out HN.out rfl hm4.out ht4.undrew HAS.out HV.out; obtain ⟨d4, e4⟩ := hb4.single; have hlt4 := hb4.lt; have HE := hid (hend 1); clear hend hm4 ht4 hb4)
    all_goals go_wp2_with fail
    all_goals go_region
    all_goals go_wp2_with fail
    all_goals refine Calls.mono (rGive b g (rem v S) _ HE.out.1 (by have := rem_length HAS.out HV.out; have := HN.out; omega)) ?_
    all_goals rintro e w6 ⟨rfl, hend⟩
    all_goals have HF := hid (take_end HE.out.2 hend)
    all_goals clear hend HE
    all_goals go_wp2_with fail
    all_goals go_ret
    all_goals exact ⟨rfl, HF.out⟩
end Go.Proofs.Ytccgbkafcbfcgaa
