/- Package parse: newReader. -/
import Derived.Test.YtecdfnpbcabdnaaGreatDoorPxL
import Derived.Test.YtecdfnpbcabdnaaGreatDoorPyT
import Derived.Test.YtecdfnpbcabdnaaGreatDoorLbC
namespace Go.Proofs.YtecdfnpbcabdnaaGreatDoor
open Go.RowKit Go.Lib

theorem levels_c (w : World) : Calls Tryz.prog 42 #[] w fun e w' => e = .returned (.slice (some ⟨w.heap.size, 0, none⟩) 5 5) ∧ w' = w.alloc (.cells lvC.toArray 92) := by
  go_enter Tryz.func42, Tryz.ntmps42
  go_wp2_with fail
  go_ret
  exact ⟨rfl, rfl⟩
def NewP (s : ByteArray) (w : World) (e : Ending) (w' : World) : Prop := Below w.heap.size w w' ∧
  match rdS s with
  | none => e = .returned (.tuple #[.pointer none, .int .i64 ((cutS s).2.1 : Nat), .int .i64 (cutS s).2.2])
  | some r => ∃ rb tb lb, e = .returned (.tuple #[.pointer (some ⟨rb, 0, none⟩), .int .i64 0, .int .i64 0]) ∧ w.heap.size ≤ rb ∧ Rea s.size w' rb tb lb r.2 r.1 0
theorem tks_eq (L : List Tk) : tks L = tkL L := rfl
/-- A reader that was made. -/
theorem rea_new {z : Nat} {w1 : World} {B : Nat} {v : Value} {L : List Tk} {c : Int} (hT : Toks w1 B v L) (hL : TL z L) (hc : In64 c) :
    ∃ g cap, v = .slice (some ⟨g, 0, none⟩) L.length cap ∧ Rea z ((w1.alloc (.cells lvC.toArray 92)).alloc (.cells #[.slice (some ⟨g, 0, none⟩) L.length cap, .int .i64 c, .int .i64 0, .slice (some ⟨w1.heap.size, 0, none⟩) 5 5] 72)) (w1.heap.size + 1) g w1.heap.size c L 0 := by
  have hpos := hL.pos
  have hcl := fun (g : Nat) h => hT.cells (g := g) h
  have hlt := hT.lt
  obtain ⟨h1, h2⟩ := hT
  rcases h2 with ⟨_, h3⟩ | ⟨g, cap, cur, rfl, h3, h4, h5, h6, h7, h8⟩
  · omega
  · have hg := (hlt g rfl).2
    refine ⟨g, cap, rfl, 0, cap, ?_, h5, by unfold maxLen at h6; omega, fun q u hu => ?_, fun q u hu => ?_, by omega, by omega, by simp; omega, by simp; omega, hL, by omega, hc⟩
    · have := Box.new (w1.alloc (.cells lvC.toArray 92)) (rdL g 0 L.length cap c 0 w1.heap.size) 72
      rw [World.size_alloc] at this
      exact this
    · have hc0 := hcl g rfl q u hu
      have hadd : (⟨g, 0, none⟩ : Addr).add q = ⟨g, q, none⟩ := by unfold Addr.add; split <;> simp_all
      rw [hadd] at hc0
      rw [Nat.zero_add, World.cell?_alloc_lt _ _ _ (by simp; omega), World.cell?_alloc_lt _ _ _ hg]
      exact hc0
    · have := (Box.new w1 lvC 92).onO (ob := .cells #[.slice (some ⟨g, 0, none⟩) L.length cap, .int .i64 c, .int .i64 0, .slice (some ⟨w1.heap.size, 0, none⟩) 5 5] 72)
      exact this.cell q u hu
theorem tok_err64 {s : ByteArray} {i : Nat} : ∀ e, tok s i = .error e → 0 ≤ e ∧ e ≤ 100 := by
  intro e h
  have val : ∀ k a c (o : Option Nat), valT k s a c o = .error e → 0 ≤ e ∧ e ≤ 100 := fun k a c o h => by
    cases o with
    | none => cases h; decide
    | some v => cases h
  have enc : ∀ k nv d, encT k nv d s i = .error e → 0 ≤ e ∧ e ≤ 100 := fun k nv d h => by
    unfold encT at h
    split at h
    · cases h
    · cases h; decide
  unfold tok at h
  split at h
  · unfold wordT at h
    split at h
    · cases h
    · split at h
      · cases h
      · cases h; decide
  · split at h
    · unfold numT at h
      split at h
      · exact val _ _ _ _ h
      · exact val _ _ _ _ h
    · split at h
      · exact enc _ _ _ h
      · split at h
        · exact enc _ _ _ h
        · unfold sigT at h
          split at h
          · cases h
          · split at h
            · cases h
            · cases h; decide
set_option maxHeartbeats 2000000 in
set_option maxRecDepth 20000 in
theorem newReader_c (s : ByteArray) (w : World) (hT : TabsAt w) : Calls Tryz.prog 23 #[.string s] w (NewP s w) := by
  have HC := cut_all s w hT
  have hTL := fun (L : List Tk) (c : Int) (h : rdS s = some (L, c)) => rdS_tl h
  have hF := cutS_fault (s := s)
  have hG := cutS_good (s := s)
  unfold CutP at HC
  have hP1 : Hid (((cutS s).2.2 = 2 ∨ (cutS s).2.2 = 10 ∨ (cutS s).2.2 = 11) → ∀ w', Below w.heap.size w w' → NewP s w (.returned (.tuple #[.pointer none, .int .i64 ((cutS s).2.1 : Nat), .int .i64 (cutS s).2.2])) w') := fun h w' hb => ⟨hb, by unfold rdS; rw [if_pos h]⟩
  have hP2 : Hid (∀ L c, rdS s = some (L, c) → ∀ w' rb tb lb, Below w.heap.size w w' → w.heap.size ≤ rb → Rea s.size w' rb tb lb c L 0 → NewP s w (.returned (.tuple #[.pointer (some ⟨rb, 0, none⟩), .int .i64 0, .int .i64 0])) w') := fun L c h w' rb tb lb hb hge hr => ⟨hb, by rw [h]; exact ⟨rb, tb, lb, rfl, hge, hr⟩⟩
  generalize NewP s w = Post at *
  have hrd : rdS s = (if (cutS s).2.2 = 2 ∨ (cutS s).2.2 = 10 ∨ (cutS s).2.2 = 11 then none else if (cutS s).2.2 = 0 then some ((cutS s).1, 0) else some ((cutS (s.extract 0 (cutS s).2.1)).1, (cutS s).2.2)) := rfl
  generalize rdS s = R at *
  have hcut2 := fun (x : ByteArray) (W : World) (h : TabsAt W) => cut_all x W h
  generalize hcs : cutS s = cs at *
  clear hcs
  have HH := hid2 HC
  have HFF := hid2 hF
  have HGG := hid2 hG
  clear HC hF hG
  have HL := fun W => levels_c W
  by_cases hn : cs.2.2 = 2 ∨ cs.2.2 = 10 ∨ cs.2.2 = 11
  · have hq := hP1.out hn
    have HQ := hid2 hq
    clear hP1 hP2 hq hrd hcut2 HFF HGG hTL hT
    generalize cs.2.2 = ee at *
    rcases hn with rfl | rfl | rfl
    all_goals
      go_enter Tryz.func23, Tryz.ntmps23
      go_wp2_with fail
      refine Calls.mono HH.out ?_
      rintro e w1 ⟨v, rfl, hv, b1⟩
      go_wp2_with fail
      try go_ret3
      exact HQ.out _ b1
  · have n2 : (cs.2.2 == 2) = false := by simpa using fun h => hn (.inl h)
    have n10 : (cs.2.2 == 10) = false := by simpa using fun h => hn (.inr (.inl h))
    have n11 : (cs.2.2 == 11) = false := by simpa using fun h => hn (.inr (.inr h))
    rw [if_neg hn] at hrd
    by_cases h0 : cs.2.2 = 0
    · rw [if_pos h0] at hrd
      have htl := hTL _ _ hrd
      have hq := hid2 (hP2.out _ _ hrd)
      clear hP1 hP2 hrd hcut2 HFF HGG hTL hT hn n2 n10 n11
      rw [h0] at HH
      simp only [if_true] at HH
      have HH2 := HH
      clear HH h0
      go_enter Tryz.func23, Tryz.ntmps23
      go_wp2_with fail
      refine Calls.mono HH2.out ?_
      rintro e w1 ⟨v, rfl, hv, b1⟩
      obtain ⟨g, cap, rfl, hr⟩ := rea_new hv htl zero64
      have HR := hid2 hr
      have b3 : Hid (Below w.heap.size w ((w1.alloc (.cells lvC.toArray 92)).alloc (.cells #[.slice (some ⟨g, 0, none⟩) cs.1.length cap, .int .i64 0, .int .i64 0, .slice (some ⟨w1.heap.size, 0, none⟩) 5 5] 72))) := (b1.alloc b1.size _).alloc (by have := b1.size; simp; omega) _
      have hs1 := b1.size
      clear hr hv b1 htl
      go_wp2_with fail
      refine Calls.mono (HL _) ?_
      rintro e w2 ⟨rfl, rfl⟩
      go_wp2_with fail
      try go_ret3
      exact hq.out _ _ _ _ b3.out (by omega) HR.out
    · rw [if_neg h0] at hrd
      have htl := hTL _ _ hrd
      have hq := hid2 (hP2.out _ _ hrd)
      have n0 : (cs.2.2 == 0) = false := by simpa using h0
      obtain ⟨hz, hv, l, k, k1, k2, k3, k4, k5, k6⟩ := HFF.out h0 (fun h => hn (.inl h)) (fun h => hn (.inr (.inl h))) (fun h => hn (.inr (.inr h)))
      have he64 : In64 cs.2.2 := by
        rcases k5 with ⟨_, h⟩ | ⟨_, h⟩
        · rw [h]; exact k64 (by decide) (by decide)
        · have := tok_err64 _ h; exact k64 this.1 this.2
      have hsl := fun W => sl_h s cs.2.1 (by omega) W
      have HC2 : Hid (∀ W, Below w.heap.size w W → Calls Tryz.prog 41 #[.string (s.extract 0 cs.2.1)] W (fun e w' => ∃ v, e = .returned (.tuple #[v, .int .i64 ((0 : Nat) : Int), .int .i64 0]) ∧ Toks w' W.heap.size v (cutS (s.extract 0 cs.2.1)).1 ∧ Below W.heap.size W w')) := fun W hW => by
        refine (hcut2 _ W (hT.next hW)).mono ?_
        intro e w' hh
        unfold CutP at hh
        rw [k6] at hh ⊢
        simpa using hh
      clear hP1 hP2 hrd hcut2 HFF HGG hTL hT k1 k2 k3 k4 k5 k6 hv hz
      have HH2 : Hid (Calls Tryz.prog 41 #[.string s] w fun e w' => ∃ v, e = .returned (.tuple #[v, .int .i64 (cs.2.1 : Nat), .int .i64 cs.2.2]) ∧ Below w.heap.size w w') := HH.out.mono fun e w' ⟨v, h1, _, h3⟩ => ⟨v, h1, h3⟩
      clear HH hn
      generalize (cutS (s.extract 0 cs.2.1)).1 = LL at *
      go_enter Tryz.func23, Tryz.ntmps23
      go_wp2_with fail
      refine Calls.mono HH2.out ?_
      rintro e w1 ⟨v, rfl, b1⟩
      go_wp2_with fail
      refine Calls.mono (HC2.out _ b1) ?_
      rintro e w2 ⟨v2, rfl, hv2, b2⟩
      obtain ⟨g, cap, rfl, hr⟩ := rea_new hv2 htl he64
      have HR := hid2 hr
      have b12 := below_on b1 b2 b1.size
      have b3 : Hid (Below w.heap.size w ((w2.alloc (.cells lvC.toArray 92)).alloc (.cells #[.slice (some ⟨g, 0, none⟩) LL.length cap, .int .i64 cs.2.2, .int .i64 0, .slice (some ⟨w2.heap.size, 0, none⟩) 5 5] 72))) := (b12.alloc b12.size _).alloc (by have := b12.size; simp; omega) _
      have hs1 := b12.size
      clear hr hv2 b1 b2 b12 htl
      go_wp2_with fail
      refine Calls.mono (HL _) ?_
      rintro e w3 ⟨rfl, rfl⟩
      go_wp2_with fail
      try go_ret3
      exact hq.out _ _ _ _ b3.out (by omega) HR.out
/-- What Expr answers. -/
def ExP (s : ByteArray) (w : World) (e : Ending) (w' : World) : Prop := Below w.heap.size w w' ∧
  match exprS s with
  | .ok t => ∃ u, e = .returned (.tuple #[tmV t u, .int .i64 0, .int .i64 0]) ∧ SitB w.heap.size s.size w' t u
  | .error f => e = .returned (.tuple #[.agg (zs6).toArray, .int .i64 (f.1 : Nat), .int .i64 f.2])
theorem rdS_small {s : ByteArray} {L : List Tk} {c : Int} (h : rdS s = some (L, c)) : s.size ≤ 1048576 := by
  have hf := cutS_fault (s := s)
  have hg := cutS_good (s := s)
  unfold rdS at h
  generalize cutS s = cs at *
  by_cases hn : cs.2.2 = 2 ∨ cs.2.2 = 10 ∨ cs.2.2 = 11
  · rw [if_pos hn] at h
    cases h
  · by_cases h0 : cs.2.2 = 0
    · exact (hg h0).1
    · exact (hf h0 (fun h => hn (.inl h)) (fun h => hn (.inr (.inl h))) (fun h => hn (.inr (.inr h)))).1
set_option maxHeartbeats 2000000 in
set_option maxRecDepth 20000 in
theorem wholeT_c (s : ByteArray) (w : World) (hT : TabsAt w) (hE : ErrT w) : Calls Tryz.prog 20 #[.string s, .func (.func 21) #[] #[]] w (ExP s w) := by
  obtain ⟨X0, X1, XB⟩ := two_boxes w 56 33 [.func (.func 21) #[] #[]] zs6
  have HN := newReader_c s _ (hT.next XB)
  have lg : 0 < w.heap.size := World.block_lt_of_cell? w _ hE
  unfold NewP at HN
  rcases hrd : rdS s with _ | r
  · rw [hrd] at HN
    have hP : Hid (∀ w', Below w.heap.size w w' → ExP s w (.returned (.tuple #[.agg (zs6).toArray, .int .i64 ((cutS s).2.1 : Nat), .int .i64 (cutS s).2.2])) w') := fun w' hb => ⟨hb, by unfold exprS; rw [hrd]⟩
    generalize ExP s w = Post at *
    have hne : (cutS s).2.2 ≠ 0 := fun h => by
      unfold rdS at hrd
      rw [h] at hrd
      simp at hrd
    clear hrd
    generalize cutS s = cs at *
    have hn0 : (cs.2.2 != 0) = true := by simpa using hne
    have HH := hid2 HN
    clear HN
    go_enter Tryz.func20, Tryz.ntmps20
    go_wp2_with fail
    refine Calls.mono HH.out ?_
    rintro e w1 ⟨b1, rfl⟩
    have Y0 := X0.next b1
    have Y1 := X1.next b1
    have bb := below_on XB b1 XB.size
    obtain ⟨a0, a1, a2, a3, a4, a5, f0, f1, f2, f3, f4, f5⟩ := Y1.six
    have l1 := Y1.lt
    have sz := bb.size
    have q1 : w.heap.size + 1 ≠ w1.heap.size := by omega
    have q2 : w.heap.size + 1 ≠ w1.heap.size + 1 := by omega
    have q3 : w.heap.size + 1 < w1.heap.size + 1 := by omega
    have q4 : w.heap.size ≠ w1.heap.size := by omega
    clear X0 X1 XB HH Y0 hT hE
    go_wp2_with fail
    refine bodyPost_ret (v := .tuple #[.agg (zs6).toArray, .int .i64 (cs.2.1 : Nat), .int .i64 cs.2.2]) (by simp [results, Tryz.results20, go_sem, *]) rfl (hP.out _ ?_)
    have b6 := bb.trans ((turn_six w1 (w.heap.size + 1) (.int .i64 0) (.string ⟨#[]⟩) (.int .i64 0) (.int .i64 0) (.int .i64 0) (.slice none 0 0)).below (B := w.heap.size) (by simp) sz)
    exact (b6.alloc b6.size _).alloc (by have := b6.size; simp; simp at this; omega) _
  · rw [hrd] at HN
    have hP : Hid (∀ e w' rb, Below w.heap.size w w' → w.heap.size ≤ rb → (match bnd (exprD r.2 64 r.1) (endP r.2) with | .ok t => ∃ u, e = .returned (.tuple #[tmV t u, .int .i64 0, .int .i64 0]) ∧ SitB w.heap.size s.size w' t u | .error f => e = .returned (.tuple #[.agg (zs6).toArray, .int .i64 (f.1 : Nat), .int .i64 f.2])) → ExP s w e w') := fun e w' rb hb _ hm => ⟨hb, by unfold exprS; rw [hrd]; exact hm⟩
    have hsm := rdS_small (L := r.1) (c := r.2) hrd
    generalize ExP s w = Post at *
    have HH := hid2 HN
    clear HN
    go_enter Tryz.func20, Tryz.ntmps20
    go_wp2_with fail
    refine Calls.mono HH.out ?_
    rintro e w1 ⟨b1, rb, tb, lb, rfl, hge, hr⟩
    have Y0 := X0.next b1
    have Y1 := X1.next b1
    have bb := below_on XB b1 XB.size
    have hge2 : w.heap.size + 2 ≤ rb := by simpa using hge
    have hrl := hr.rlt
    have E1 : ErrT w1 := (bb.cell (p := ⟨0, 0, none⟩) lg).trans hE
    clear X0 X1 XB HH hT hE
    go_wp2_with fail
    have bw2 := bb.alloc bb.size (.cells #[.pointer (some ⟨rb, 0, none⟩)] 41)
    have R2 := hr.onO (ob := .cells #[.pointer (some ⟨rb, 0, none⟩)] 41)
    have V2 := Box.new w1 [.pointer (some ⟨rb, 0, none⟩)] 41
    have Z0 := Y0.onO (ob := .cells #[.pointer (some ⟨rb, 0, none⟩)] 41)
    have Z1 := Y1.onO (ob := .cells #[.pointer (some ⟨rb, 0, none⟩)] 41)
    have E2 : ErrT (w1.alloc (.cells #[.pointer (some ⟨rb, 0, none⟩)] 41)) := (World.cell?_alloc_lt _ _ _ (World.block_lt_of_cell? w1 _ E1)).trans E1
    have sz2 := World.size_alloc w1 (.cells #[.pointer (some ⟨rb, 0, none⟩)] 41)
    clear hr Y0 Y1 E1
    generalize hW2 : w1.alloc _ = w2 at *
    clear hW2
    have HC := hid2 (caughtT_c (z := s.size) (rb := rb) (bnd (exprD r.2 64 r.1) (endP r.2)) w.heap.size w1.heap.size w2 E2 (by omega) (fun W hW => wholeT1_c rfl (expr_c (by omega) 64 0 rfl) w.heap.size w1.heap.size W ((Z0.next hW).cell 0 _ rfl) ((V2.next hW).cell 0 _ rfl) ⟨by omega, by omega⟩ (R2.next hW)) (by omega))
    refine Calls.mono HC.out ?_
    intro e w3 h3
    obtain ⟨t3, hm⟩ := h3
    have hne1 : w.heap.size + 1 ∉ [rb] := by simp; omega
    obtain ⟨a0, a1, a2, a3, a4, a5, f0, f1, f2, f3, f4, f5⟩ := (Z1.turn t3 hne1).six
    have l1 := (Z1.turn t3 hne1).lt
    have b3 := t3.below (B := w.heap.size) (by simp; omega) bw2.size
    have bw3 := bw2.trans b3
    clear HC
    rcases hpe : bnd (exprD r.2 64 r.1) (endP r.2) with f | t
    · rw [hpe] at hm hP
      obtain rfl := hm
      clear Z0 Z1 V2 R2 E2
      go_wp2_with fail
      exact bodyPost_ret (v := .tuple #[.agg (zs6).toArray, .int .i64 (f.1 : Nat), .int .i64 f.2]) (by simp [results, Tryz.results20, go_sem, *]) rfl (hP.out _ _ rb (bw3.trans ((turn_six _ _ _ _ _ _ _ _).below (B := w.heap.size) (by simp) bw3.size)) (by omega) rfl)
    · rw [hpe] at hm hP
      obtain ⟨u, rfl, hs⟩ := hm
      clear Z0 Z1 V2 R2 E2
      obtain ⟨av, cv, hu, -, -⟩ := hs.parts.shape
      subst hu
      have HS := hid2 hs
      generalize hnn : t.parts.length = nn at *
      clear hs
      simp only [tmV]
      go_wp2_with fail
      exact bodyPost_ret (v := .tuple #[tmV t (.slice av nn cv), .int .i64 0, .int .i64 0]) (by simp [results, Tryz.results20, go_sem, *]) rfl (hP.out _ _ rb (bw3.trans ((turn_six _ _ _ _ _ _ _ _).below (B := w.heap.size) (by simp) bw3.size)) (by omega) ⟨_, rfl, SitB.lower (SitB.turn HS.out (turn_six _ _ _ _ _ _ _ _) (by simp; omega)) (by omega)⟩)
set_option maxHeartbeats 2000000 in
set_option maxRecDepth 20000 in
theorem exprF_c (s : ByteArray) (w : World) (hT : TabsAt w) (hE : ErrT w) : Calls Tryz.prog 10 #[.string s] w (ExP s w) := by
  have XB := (Below.refl w.heap.size w).alloc (Nat.le_refl _) (.cells (zs6).toArray 33)
  have X0 := Box.new w zs6 33
  have HW := wholeT_c s _ (hT.next XB) ((World.cell?_alloc_lt _ _ _ (World.block_lt_of_cell? w _ hE)).trans hE)
  have hP : Hid (∀ e w', Below w.heap.size w w' → (match exprS s with | .ok t => ∃ u, e = .returned (.tuple #[tmV t u, .int .i64 0, .int .i64 0]) ∧ SitB w.heap.size s.size w' t u | .error f => e = .returned (.tuple #[.agg (zs6).toArray, .int .i64 (f.1 : Nat), .int .i64 f.2])) → ExP s w e w') := fun e w' hb hm => ⟨hb, hm⟩
  have sz0 : (w.alloc (.cells (zs6).toArray 33)).heap.size = w.heap.size + 1 := by simp
  generalize ExP s w = Post at *
  unfold ExP at HW
  have HH := hid2 HW
  clear HW hT hE
  go_enter Tryz.func10, Tryz.ntmps10
  go_wp2_with fail
  refine Calls.mono HH.out ?_
  rintro e w1 ⟨b1, hm⟩
  obtain ⟨a0, a1, a2, a3, a4, a5, f0, f1, f2, f3, f4, f5⟩ := (X0.next b1).six
  have l1 := (X0.next b1).lt
  have bb := below_on XB b1 XB.size
  clear HH X0 b1
  rcases hpe : exprS s with f | t
  · rw [hpe] at hm hP
    obtain rfl := hm
    go_wp2_with fail
    exact bodyPost_ret (v := .tuple #[.agg (zs6).toArray, .int .i64 (f.1 : Nat), .int .i64 f.2]) (by simp [results, Tryz.results10, go_sem, *]) rfl (hP.out _ _ (bb.trans ((turn_six _ _ _ _ _ _ _ _).below (B := w.heap.size) (by simp) bb.size)) rfl)
  · rw [hpe] at hm hP
    obtain ⟨u, rfl, hs⟩ := hm
    obtain ⟨av, cv, hu, -, -⟩ := hs.parts.shape
    subst hu
    rw [sz0] at hs
    have HS := hid2 hs
    generalize hnn : t.parts.length = nn at *
    clear hs
    simp only [tmV]
    go_wp2_with fail
    exact bodyPost_ret (v := .tuple #[tmV t (.slice av nn cv), .int .i64 0, .int .i64 0]) (by simp [results, Tryz.results10, go_sem, *]) rfl (hP.out _ _ (bb.trans ((turn_six _ _ _ _ _ _ _ _).below (B := w.heap.size) (by simp) bb.size)) ⟨_, rfl, SitB.lower (SitB.turn HS.out (turn_six _ _ _ _ _ _ _ _) (by simp)) (by omega)⟩)
end Go.Proofs.YtecdfnpbcabdnaaGreatDoor
