/- A window of each aggregate. -/
import Derived.Test.YtccgbkafcbfcgaaSixB
import Derived.Deep.CutRange
namespace Go.Proofs.Ytccgbkafcbfcgaa
open Go.RowKit

/-- The pointers to the first n. -/
def ptrs (bs : Nat → Nat) (n : Nat) : List Value := (List.range n).map (fun j => .pointer (some ⟨bs j, 0, none⟩))
theorem ptrs_len (bs : Nat → Nat) (n : Nat) : (ptrs bs n).length = n := by simp [ptrs]
theorem ptrs_more (bs : Nat → Nat) (n b : Nat) : ptrs bs n ++ [.pointer (some ⟨b, 0, none⟩)] = ptrs (fun j => if j = n then b else bs j) (n + 1) := by
  simp only [ptrs, List.range_succ, List.map_append, List.map_cons, List.map_nil, if_true]
  congr 1
  apply List.map_congr_left
  intro j hj
  have : j < n := List.mem_range.1 hj
  rw [if_neg (by omega)]
/-- The list's block is no window's. -/
def ListOff (lv : Value) (n : Nat) (Fs : Nat → List Nat) : Prop := ∀ g o l c, lv = .slice (some ⟨g, o, none⟩) l c → ∀ j, j < n → g ∉ Fs j
/-- Ahead of the round n. -/
structure MadeAt (w : World) (span : Int) (n : Nat) (bs : Nat → Nat) (Fs : Nat → List Nat) (lv : Value) (wr : World) : Prop where
  le : n ≤ 6
  six : Six w.heap.size wr n bs Fs span 0 0 false [] 0 []
  ls : VLs wr w.heap.size lv (ptrs bs n)
  off : ListOff lv n Fs
  bel : Below w.heap.size w wr
theorem made_step {w wr w2 w3 w4 : World} {span : Int} {n : Nat} {bs : Nat → Nat} {Fs : Nat → List Nat} {lv lv' : Value} (h : MadeAt w span n bs Fs lv wr) (hn : n < 6) {b : Nat} {F : List Nat} (hb2 : Below wr.heap.size wr w2) (hw : Win w3 b F ((n : Int) + 1) span (perOf n) 0 false []) (hF : ∀ x, x ∈ F → w2.heap.size ≤ x) (hb3 : Below w2.heap.size w2 w3)
    (hg : VGrew w3 w.heap.size lv lv' (ptrs bs n ++ [.pointer (some ⟨b, 0, none⟩)]) w4) :
    MadeAt w span (n + 1) (fun j => if j = n then b else bs j) (fun j => if j = n then F else Fs j) lv' w4 := by
  have hs2 := hb2.size
  have hbr : Below wr.heap.size wr w3 := hb2.trans (hb3.mono hs2)
  have hsix := h.six.more hbr hw (fun x hx => Nat.le_trans hs2 (hF x hx))
  obtain ⟨⟨g', off, cap, hB, e, hv, hgo⟩, S, tt, hS⟩ := hg
  have hst := h.six.start
  have hlist : ∀ g o l c, lv = .slice (some ⟨g, o, none⟩) l c → g < wr.heap.size ∧ w.heap.size ≤ g := by
    intro g o l c e
    rcases h.ls with ⟨e2, _⟩ | ⟨g2, o2, c2, hB2, e2, h2⟩
    · rw [e2] at e; cases e
    · rw [e2] at e; cases e; exact ⟨h2.lt, hB2⟩
  have offF : ∀ g o l c, lv = .slice (some ⟨g, o, none⟩) l c → ∀ j, j < n + 1 → g ∉ (if j = n then F else Fs j) := by
    intro g o l c e j hj
    by_cases ej : j = n
    · rw [if_pos ej]
      intro hm
      have h1 := hF g hm
      have h2 := (hlist g o l c e).1
      omega
    · rw [if_neg ej]; exact h.off g o l c e j (by omega)
  refine ⟨by omega, hsix.turn tt (fun j hj x hx hm => ?_), ?_, ?_, ?_⟩
  · obtain ⟨o, l, c, e2⟩ := hS x hm
    exact offF x o l c e2 j hj hx
  · refine .inr ⟨g', off, cap, hB, ?_, ?_⟩
    · rw [e, ptrs_more]
    · rw [← ptrs_more]; exact hv
  · intro g o l c e2 j hj
    rw [e] at e2
    cases e2
    rcases hgo with ⟨o2, c2, e3⟩ | h4
    · exact offF g' o2 _ c2 e3 j hj
    · intro hm
      have := hsix.lt hj g' hm
      omega
  · refine (h.bel.trans (hbr.mono hst)).trans (tt.below (fun i hi => ?_) (Nat.le_trans hst hbr.size))
    obtain ⟨o, l, c, e2⟩ := hS i hi
    exact (hlist i o l c e2).2
/-- What made answers: six windows, and the list of them. -/
def Made6 (w : World) (span : Int) (e : Ending) (w' : World) : Prop := ∃ g off cap bs Fs, e = .returned (.slice (some ⟨g, off, none⟩) 6 cap) ∧ (∀ j, j < 6 → w'.cell? ⟨g, off + j, none⟩ = some (.pointer (some ⟨bs j, 0, none⟩))) ∧ g < w'.heap.size ∧ w.heap.size ≤ g ∧ (∀ j, j < 6 → g ∉ Fs j) ∧ Six w.heap.size w' 6 bs Fs span 0 0 false [] 0 [] ∧ Below w.heap.size w w'
set_option maxRecDepth 20000 in
set_option maxHeartbeats 2000000 in
theorem made_any (span : Int) (w : World) (s1 : 1 ≤ span) (s2 : span ≤ 1000) :
    Calls Try.prog 18 #[.int .i64 span] w (Made6 w span) := by
  go_enter Try.func18, Try.ntmps18
  go_wp2_with fail
  go_loopw [3, 4] (fun lv i wr => ∃ (n : Nat) (bs : Nat → Nat) (Fs : Nat → List Nat), i = .int .i64 ((n : Int) + 1) ∧ MadeAt w span n bs Fs lv wr) (fun _ i _ => 7 - (intOf i).toNat)
  case atStart => exact ⟨0, fun _ => 0, fun _ => [], rfl, by omega, six_none _ _ (Nat.le_refl _) _ _ _, .inl ⟨rfl, rfl⟩, fun g o l c e j hj => by omega, Below.refl _ _⟩
  case round =>
    obtain ⟨n, bs, Fs, rfl, hm⟩ := hrel
    have hle := hm.le
    obtain ⟨al, cl, hlv⟩ := hm.ls.shape
    rw [ptrs_len] at hlv
    subst hlv
    have HM := hid hm
    clear hm
    by_cases h6 : n = 6
    · subst h6
      go_wp2_with fail
      go_ret
      rcases HM.out.ls with ⟨e, _⟩ | ⟨g, off, cap, hB, e, hv⟩
      · cases e
      · rw [ptrs_len] at e
        cases e
        exact ⟨_, _, _, bs, Fs, rfl, fun j hj => hv.cell j _ (by simp [ptrs, hj]), hv.lt, hB, fun j hj => HM.out.off _ _ _ _ rfl j hj, HM.out.six, HM.out.bel⟩
    · have hn : n < 6 := by omega
      have hn1 : (n : Int) + 1 ≤ 6 := by omega
      have hper : RightT 0 ((n : Int) + 1) span (perOf n) := ⟨by decide, by omega, by omega, s1, by omega, fun e => by unfold perOf; rw [if_pos (by omega)]; decide, fun e => by unfold perOf; rw [if_neg (by omega)]⟩
      have hpin : In64 (perOf n) := by unfold perOf; split <;> exact ⟨by decide, by decide⟩
      have hwr1 : IntKind.i64.wrap ((n : Int) + 1 + 1) = (n : Int) + 1 + 1 := by rw [IntKind.wrap_i64]; omega
      by_cases h5 : n = 5
      case' pos =>
        have h5' : ((n : Int) + 1 == 6) = true := by simp; omega
        obtain ⟨p, hp⟩ : ∃ p, p = perOf n := ⟨_, rfl⟩
        have hpe : p = 100000000 := by rw [hp, perOf, if_pos h5]
        obtain ⟨w2, hw2⟩ : ∃ w2, w2 = wr.alloc (.cells #[.int .i64 0, .int .i64 ((n : Int) + 1), .int .i64 span, .int .i64 100000000] 23) := ⟨_, rfl⟩
        have hT2 : Box w2 wr.heap.size [.int .i64 0, .int .i64 ((n : Int) + 1), .int .i64 span, .int .i64 p] := by rw [hw2, hpe]; exact Box.new wr [.int .i64 0, .int .i64 ((n : Int) + 1), .int .i64 span, .int .i64 100000000] 23
      case' neg =>
        have h5' : ((n : Int) + 1 == 6) = false := by simp; omega
        obtain ⟨p, hp⟩ : ∃ p, p = perOf n := ⟨_, rfl⟩
        have hpe : p = 0 := by rw [hp, perOf, if_neg h5]
        obtain ⟨w2, hw2⟩ : ∃ w2, w2 = wr.alloc (.cells #[.int .i64 0, .int .i64 ((n : Int) + 1), .int .i64 span, .int .i64 0] 23) := ⟨_, rfl⟩
        have hT2 : Box w2 wr.heap.size [.int .i64 0, .int .i64 ((n : Int) + 1), .int .i64 span, .int .i64 p] := by rw [hw2, hpe]; exact Box.new wr [.int .i64 0, .int .i64 ((n : Int) + 1), .int .i64 span, .int .i64 0] 23
      all_goals (
        have hb2 : Below wr.heap.size wr w2 := by rw [hw2]; exact (Below.refl _ _).alloc (Nat.le_refl _) _
        obtain ⟨x0, x1, x2, x3, -, -, -, -⟩ := hT2.four
        have xl := hT2.lt
        have HNW := hid (wNew 0 ((n : Int) + 1) span (perOf n) w2 hper hpin)
        rw [← hp] at HNW
        simp only [tv] at HNW
        have HB2 := hid hb2
        have HP := hid hp
        clear hper hpin hT2 hb2 hp hpe h5 h6
        go_upto_region 8 with fail
        rw [← hw2]
        clear hw2
        go_wp2_with fail
        refine Calls.mono HNW.out ?_
        rintro e w3 ⟨b, F, rfl, hw3, hF3, hb3⟩
        have HW3 := hid hw3
        have HF3 := hid hF3
        have HB3 := hid hb3
        have hst3 : w.heap.size ≤ w3.heap.size := Nat.le_trans HM.out.six.start (Nat.le_trans HB2.out.size hb3.size)
        have HLS := hid (HM.out.ls.next (HB2.out.trans (hb3.mono HB2.out.size)))
        clear hw3 hF3 hb3 x0 x1 x2 x3 xl
        have hpl := ptrs_len bs n
        have HPL := hid hpl
        clear hpl
        go_wp2_with (at_builtin; refine wpList_append_wptr w3 _ rfl _ _ rfl w.heap.size hst3 (.slice al n cl) (ptrs bs n) (some ⟨b, 0, none⟩) rfl rfl HLS.out (by rw [HPL.out]; omega) rfl ?_; intro b4 c4 w4 hgr; rw [HPL.out] at hgr ⊢; have HS := hid (made_step HM.out hn HB2.out (by rw [← HP.out]; exact HW3.out) HF3.out HB3.out hgr); clear hgr)
        go_roundw
        case rel => exact ⟨n + 1, _, _, by simp, HS.out⟩
        case measure => simp [intOf]; omega)
end Go.Proofs.Ytccgbkafcbfcgaa
