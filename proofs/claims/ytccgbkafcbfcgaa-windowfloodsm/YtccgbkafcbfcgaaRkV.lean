/- A number that leaves; the memory that is given back. -/
import Derived.Test.YtccgbkafcbfcgaaRkU
namespace Go.Proofs.Ytccgbkafcbfcgaa
open Go.RowKit

theorem rPut_nil (v : Int) (w : World) : Calls Try.prog 44 #[.pointer none, .int .i64 v] w fun e w' => e = .returned (.tuple #[]) ∧ w = w' := by
  go_enter Try.func44, Try.ntmps44
  go_wp2_with fail
  exact bodyPost_ret (results_none rfl _ _ _) rfl ⟨rfl, rfl⟩
theorem rTake_nil (v : Int) (w : World) : Calls Try.prog 41 #[.pointer none, .int .i64 v] w fun e w' => e = .returned (.bool false) ∧ Below w.heap.size w w' := by
  go_enter Try.func41, Try.ntmps41
  go_wp2_with fail
  refine Calls.mono (rUpTo_nil v w) ?_
  rintro e w1 ⟨rfl, hB⟩
  have HB := hid hB
  clear hB
  go_wp2_with fail
  go_ret
  exact ⟨rfl, HB.out⟩
theorem give_kept {w w1 : World} {b g : Nat} {S : List Int} (x : Rk w b g S) (h : Below w.heap.size w w1) : Turns w b g S w1 := ⟨g, x.next h, Turn.of_below h, .inl rfl⟩
theorem give_moved {w w1 : World} {b g : Nat} {lv lv1 : Value} {S : List Int} (x : RkIs w b g lv S) (h : Made w lv1 S w1) : Box w1 b [lv] ∧ Turns w b g S (w1.setCell ⟨b, 0, none⟩ lv1) := by
  obtain ⟨h, hB⟩ := h
  have hb := x.box.next hB
  have hlt := x.box.lt
  refine ⟨hb, ?_⟩
  have hset := hb.set 0 (by simp) lv1
  have ht : Turn [b, g] w (w1.setCell ⟨b, 0, none⟩ lv1) := (Turn.of_below hB).andSet _ _ (.inl (by simp))
  rcases h with ⟨rfl, rfl⟩ | ⟨g', J, h1, h2⟩
  · exact ⟨b, ⟨_, hset, .inl ⟨rfl, rfl, rfl⟩⟩, ht, .inr (.inl rfl)⟩
  · exact ⟨g', ⟨_, hset, .inr ⟨by omega, J, h1.turn (Turn.set (S := [b]) _ _ _ (by simp)) (by simp; omega)⟩⟩, ht, .inr (.inr h2)⟩
theorem Made.shape {w w' : World} {lv : Value} {S : List Int} (h : Made w lv S w') : ∃ a c, lv = .slice a S.length c := by
  obtain ⟨a, c, e, _⟩ := h.rd
  exact ⟨a, c, e⟩
theorem Made.undrew {w w' : World} {lv : Value} {S : List Int} {m : Nat} (h : Made (w.drewN m) lv S w') : Made w lv S w' := ⟨h.1, ⟨h.2.os, h.2.tape, h.2.output, h.2.size, h.2.block⟩⟩
set_option maxRecDepth 20000 in
set_option maxHeartbeats 1000000 in
theorem rGive (b g : Nat) (S : List Int) (w : World) (x : Rk w b g S) (hl : S.length < 17592186044416) :
    Calls Try.prog 65 #[.pointer (some ⟨b, 0, none⟩)] w fun e w' => e = .returned (.tuple #[]) ∧ Turns w b g S w' := by
  obtain ⟨lv, x⟩ := x
  obtain ⟨c0, f0⟩ := x.box.single
  have hlt := x.box.lt
  have HI := hid x
  have hm : ∃ a k, lv = .slice a S.length k ∧ k ≤ maxLen := by
    rcases x.sl with ⟨rfl, rfl, _⟩ | ⟨_, J, h⟩
    · exact ⟨none, 0, rfl, by simp [maxLen]⟩
    · exact ⟨_, _, h.val, h.most⟩
  obtain ⟨a, k, hv, hk⟩ := hm
  subst hv
  obtain ⟨n, hn⟩ : ∃ n, n = S.length := ⟨_, rfl⟩
  have HM := hid (fun m => rMoved _ S (w.drewN m) (x.rd.alike rfl) hl)
  rw [← hn] at c0 HI HM
  simp only [maxLen] at hk
  clear x hn
  by_cases hlk : (n : Int) < (k : Int) / 4
  · go_enter Try.func65, Try.ntmps65
    go_wp2_with fail
    go_quiet (fail)
    go_wp2_with fail
    refine Calls.mono (HM.out nq) ?_
    rintro e w1 ⟨lv1, rfl, h1⟩
    obtain ⟨hbx, hend⟩ := give_moved HI.out h1.undrew
    obtain ⟨a1, k1, hv1⟩ := h1.shape
    subst hv1
    obtain ⟨d0, e0⟩ := hbx.single
    have hlt1 := hbx.lt
    have HE := hid hend
    clear h1 hend hbx
    go_wp2_with fail
    go_end0
    exact ⟨rfl, HE.out⟩
  · go_enter Try.func65, Try.ntmps65
    go_wp2_with fail
    go_quiet (fail)
    go_wp2_with fail
    go_end0
    exact ⟨rfl, give_kept ⟨_, HI.out⟩ (drewN_below w _)⟩
set_option maxRecDepth 20000 in
set_option maxHeartbeats 1000000 in
theorem rTake_no (b g : Nat) (S : List Int) (v : Int) (w : World) (x : Rk w b g S) (ha : Asc S) (hl : S.length < 17592186044415) (hv : v ∉ S) :
    Calls Try.prog 41 #[.pointer (some ⟨b, 0, none⟩), .int .i64 v] w fun e w' => e = .returned (.bool false) ∧ Below w.heap.size w w' := by
  have hlt := x.lt
  have HU := hid (rUpTo b g S v w x ha (by omega))
  have HX := hid x
  have hcl := cnt_le v S
  have hno := rem_no ha hv
  obtain ⟨c, hc⟩ : ∃ c, c = cnt v S := ⟨_, rfl⟩
  rw [← hc] at HU hcl hno
  clear x ha hc hv
  rcases Nat.eq_zero_or_pos c with h0 | h0
  · subst h0
    clear hno
    go_enter Try.func41, Try.ntmps41
    go_wp2_with fail
    refine Calls.mono HU.out ?_
    rintro e w1 ⟨rfl, hB⟩
    have HB := hid hB
    clear hB
    go_wp2_with fail
    go_ret
    exact ⟨rfl, HB.out⟩
  · obtain ⟨y, hy, hyv⟩ : ∃ y, S[c - 1]? = some y ∧ y ≠ v := by
      rcases hno with e | e
      · omega
      · exact e
    have HY := hid hy
    have hyb : (y != v) = true := by simpa using hyv
    obtain ⟨m, rfl⟩ : ∃ m, c = m + 1 := ⟨c - 1, by omega⟩
    clear hno hy h0
    go_enter Try.func41, Try.ntmps41
    go_wp2_with fail
    refine Calls.mono HU.out ?_
    rintro e w1 ⟨rfl, hB⟩
    obtain ⟨lv, hx⟩ := HX.out.next hB
    obtain ⟨c0, f0⟩ := hx.box.single
    have hlt1 := hx.box.lt
    rcases hx.sl with ⟨_, e, _⟩ | ⟨_, J, hs⟩
    · rw [e] at hcl; simp at hcl
    have d0 := hs.cell (HY.out)
    rw [Nat.add_sub_cancel] at d0
    rw [hs.val] at c0
    have hmi : (m : Int) < (S.length : Int) := by omega
    have HB := hid hB
    clear hB hx hs
    go_wp2_with fail
    go_ret
    exact ⟨rfl, HB.out⟩
end Go.Proofs.Ytccgbkafcbfcgaa
