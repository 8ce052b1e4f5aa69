/- The laws of layer 15: num, of, awake. -/
import Derived.Test.YtkhdcojgcnomgaaGreatDoorCpF
namespace Go.Proofs.YtkhdcojgcnomgaaGreatDoor
open Go.RowKit

/-- A core without parts. -/
theorem csits0 (w : World) (k n m : Int) (hk : C64 k) (hn : C64 n) (hm : C64 m) : CSits w ⟨k, n, m, []⟩ (.slice none 0 0) :=
  csits_iff.2 ⟨⟨hk, hn, hm⟩, none, 0, rfl, Nat.le_refl _, by omega, .inl rfl⟩
theorem csits2 {w w' : World} {g : Nat} {a b : Co} {va vb : Value} (k n m : Int) (hk : C64 k) (hn : C64 n) (hm : C64 m) (ha : CSits w a va) (hb : CSits w b vb) (hw : Below w.heap.size w w') (hx : Box w' g (coL a va ++ coL b vb)) : CSits w' ⟨k, n, m, [a, b]⟩ (.slice (some ⟨g, 0, none⟩) 2 2) := by
  refine csits_iff.2 ⟨⟨hk, hn, hm⟩, _, 2, rfl, Nat.le_refl _, by omega, .inr ⟨g, 0, rfl, hx.lt, fun i hi => ?_⟩⟩
  have hi' : i = 0 ∨ i = 1 := by simp at hi; omega
  rcases hi' with rfl | rfl
  · exact ⟨va, ⟨hx.cell 0 _ rfl, hx.cell 1 _ rfl, hx.cell 2 _ rfl, hx.cell 3 _ rfl⟩, ha.next hw⟩
  · exact ⟨vb, ⟨hx.cell 4 _ rfl, hx.cell 5 _ rfl, hx.cell 6 _ rfl, hx.cell 7 _ rfl⟩, hb.next hw⟩
set_option maxHeartbeats 1000000 in
theorem num_c (n : Int) (w : World) : Calls Tryz.prog 28 #[.int .i64 n] w fun e w' => e = .returned (coV ⟨1, n, 0, []⟩ (.slice none 0 0)) ∧ Below w.heap.size w w' := by
  go_enter Tryz.func28, Tryz.ntmps28
  go_wp2_with fail
  refine bodyPost_ret (v := coV ⟨1, n, 0, []⟩ (.slice none 0 0)) (by simp [results, Tryz.results28, go_sem, *]) rfl ?_
  exact ⟨rfl, (Below.refl _ _).alloc (Nat.le_refl _) _⟩
set_option maxHeartbeats 1000000 in
theorem of_c (op : Int) (a b : Co) (va vb : Value) (w : World) (ho : C64 op) (ha : CSits w a va) (hb : CSits w b vb) : Calls Tryz.prog 27 #[.int .i64 op, coV a va, coV b vb] w fun e w' => ∃ v, e = .returned (coV ⟨op, 0, 0, [a, b]⟩ v) ∧ CSits w' ⟨op, 0, 0, [a, b]⟩ v ∧ Below w.heap.size w w' := by
  have HA := chid ha
  have HB := chid hb
  obtain ⟨a1, c1, rfl, -, -⟩ := ha.parts.shape
  obtain ⟨a2, c2, rfl, -, -⟩ := hb.parts.shape
  clear ha hb
  go_enter Tryz.func27, Tryz.ntmps27
  go_wp2_with fail
  refine bodyPost_ret (v := coV ⟨op, 0, 0, [a, b]⟩ (.slice (some ⟨w.heap.size + 1 + 1 + 1, 0, none⟩) 2 2)) (by simp [results, Tryz.results27, go_sem, *]) rfl ?_
  have hB : ∀ o1 o2 o3 o4, Below w.heap.size w ((((w.alloc o1).alloc o2).alloc o3).alloc o4) := fun o1 o2 o3 o4 => ((((Below.refl _ _).alloc (Nat.le_refl _) _).alloc (by simp) _).alloc (by simp; omega) _).alloc (by simp; omega) _
  have hX : ∀ o1 o2 o3, Box ((((w.alloc o1).alloc o2).alloc o3).alloc (.cells (coL a (.slice a1 a.parts.length c1) ++ coL b (.slice a2 b.parts.length c2)).toArray 24)) (w.heap.size + 1 + 1 + 1) (coL a (.slice a1 a.parts.length c1) ++ coL b (.slice a2 b.parts.length c2)) := fun o1 o2 o3 => by
    simpa using Box.new (((w.alloc o1).alloc o2).alloc o3) (coL a (.slice a1 a.parts.length c1) ++ coL b (.slice a2 b.parts.length c2)) 24
  exact ⟨_, rfl, csits2 op 0 0 ho zero_64 zero_64 HA.out HB.out (hB _ _ _ _) (hX _ _ _), hB _ _ _ _⟩
abbrev env0 (r : Int) : EnvP := ⟨r, [], []⟩
theorem env0_at (w : World) (r : Int) (h : C64 r) : EnvAt w (env0 r) (.slice none 0 0) (.slice none 0 0) :=
  ⟨⟨h, fun i => by simpa using And.intro zero_64 zero_64, by simp, by simp⟩, ⟨none, 0, rfl, .inl rfl⟩, ⟨none, 0, rfl, .inl rfl⟩⟩
abbrev coA : Co := ⟨14, 0, 0, [⟨3, 0, 0, []⟩, ⟨1, 500000, 0, []⟩]⟩
abbrev coB : Co := ⟨17, 0, 0, [⟨1, 1, 0, []⟩, ⟨1, 0, 0, []⟩]⟩
theorem soNum (wn cn ln n : Int) : csort ladF wn cn ln ⟨1, n, 0, []⟩ = 1 := by rw [csort_eq]; rfl
theorem soRep (wn cn ln : Int) : csort ladF wn cn ln ⟨3, 0, 0, []⟩ = 1 := by rw [csort_eq]; rfl
theorem teNum (E : EnvP) (n : Int) : telV E ⟨1, n, 0, []⟩ = okR n := by rw [telV_eq]; rfl
theorem teRep (E : EnvP) : telV E ⟨3, 0, 0, []⟩ = okR (held (E.rep * 1000000)) := by rw [telV_eq]; rfl
theorem evA : evV (srt (env0 3) coA) (telV (env0 3) coA) = .tuple #[.agg #[.int .i64 0, .int .i64 3500000], .int .i64 0] := by
  have h1 : srt (env0 3) coA = 1 := by
    unfold srt
    rw [csort_eq]
    simp only [List.map_cons, List.map_nil, soRep, soNum]
    rfl
  have h2 : telV (env0 3) coA = okR 3500000 := by
    have e : telV (env0 3) coA = ofTwoR (fun a b => okR (bF 14 a b)) (telV (env0 3) ⟨3, 0, 0, []⟩) (telV (env0 3) ⟨1, 500000, 0, []⟩) := by rw [telV_eq]; rfl
    rw [e, teRep, teNum]
    rfl
  rw [h1, h2]
  rfl
theorem cn0 (k n m : Int) : cnodes ⟨k, n, m, []⟩ = 1 := by rw [cnodes_eq]; rfl
theorem cn2 (k n m : Int) (a b : Co) : cnodes ⟨k, n, m, [a, b]⟩ = 1 + (cnodes a + cnodes b) := by rw [cnodes_eq]; show 1 + cnodesL [a, b] = _; rw [cnodesL_cons, cnodesL_cons, cnodesL_nil]; omega
theorem cnA : cnodes coA ≤ 8192 := by rw [cn2, cn0, cn0]; decide
theorem cnB : cnodes coB ≤ 8192 := by rw [cn2, cn0, cn0]; decide
theorem evB : evV (srt (env0 0) coB) (telV (env0 0) coB) = .tuple #[.agg #[.int .i64 2, .int .i64 0], .int .i64 0] := by
  have h1 : srt (env0 0) coB = 1 := by
    unfold srt
    rw [csort_eq]
    simp only [List.map_cons, List.map_nil, soNum]
    rfl
  have h2 : telV (env0 0) coB = noR 2 := by
    have e : telV (env0 0) coB = ofTwoR divR (telV (env0 0) ⟨1, 1, 0, []⟩) (telV (env0 0) ⟨1, 0, 0, []⟩) := by rw [telV_eq]; rfl
    rw [e, teNum, teNum]
    rfl
  rw [h1, h2]
  rfl
set_option maxHeartbeats 4000000 in
set_option maxRecDepth 20000 in
theorem awake15_c (w : World) (hg : GlE w) : Calls Tryz.prog 10 #[] w fun e w' => e = .returned (.bool true) ∧ Below w.heap.size w w' := by
  have HG := chid hg
  have HN := chid num_c
  have HO := chid of_c
  clear hg
  go_enter Tryz.func10, Tryz.ntmps10
  go_wp2_with fail
  refine Calls.mono (HN.out _ _) ?_
  rintro e w1 ⟨rfl, b1⟩
  have B1 := chid b1
  clear b1
  go_wp2_with fail
  refine Calls.mono (HO.out _ ⟨3, 0, 0, []⟩ ⟨1, 500000, 0, []⟩ _ _ _ (by unfold C64; decide) (csits0 _ _ _ _ (by unfold C64; decide) zero_64 zero_64) (csits0 _ _ _ _ (by unfold C64; decide) (by unfold C64; decide) zero_64)) ?_
  rintro e w2 ⟨v, rfl, s2, b2⟩
  have B2 := chid (cbelow_on B1.out b2 B1.out.size)
  have HE := chid (cEval_c (env0 3) coA v _ _ w2 s2 cnA (env0_at w2 3 (by unfold C64; decide)) (GlE.next HG.out B2.out))
  rw [evA] at HE
  obtain ⟨ad, cap, rfl, -, -⟩ := s2.parts.shape
  clear b2 B1 s2
  go_wp2_with fail
  refine Calls.mono HE.out ?_
  rintro e w3 ⟨rfl, b3⟩
  have B3 := chid (cbelow_on B2.out b3 B2.out.size)
  clear b3 B2 HE
  have RB := chid (Box.new w3 [.int .i64 0, .int .i64 3500000] 51)
  have B4 := chid (B3.out.alloc B3.out.size (.cells [.int .i64 0, .int .i64 3500000].toArray 51))
  obtain ⟨rb, hrb⟩ : ∃ rb, rb = w3.heap.size := ⟨_, rfl⟩
  have hrw : Hid (w.heap.size ≤ rb) := by rw [hrb]; exact B3.out.size
  rw [← hrb] at RB
  go_wp2_with fail
  rw [← hrb]
  generalize hW4 : w3.alloc _ = w4 at *
  clear hW4 hrb B3
  refine Calls.mono (HN.out _ _) ?_
  rintro e w5 ⟨rfl, b5⟩
  have B5 := chid (cbelow_on B4.out b5 B4.out.size)
  replace RB := chid (RB.out.next b5)
  clear b5 B4
  go_wp2_with fail
  refine Calls.mono (HN.out _ _) ?_
  rintro e w6 ⟨rfl, b6⟩
  have B6 := chid (cbelow_on B5.out b6 B5.out.size)
  replace RB := chid (RB.out.next b6)
  clear b6 B5
  go_wp2_with fail
  refine Calls.mono (HO.out _ ⟨1, 1, 0, []⟩ ⟨1, 0, 0, []⟩ _ _ _ (by unfold C64; decide) (csits0 _ _ _ _ (by unfold C64; decide) (by unfold C64; decide) zero_64) (csits0 _ _ _ _ (by unfold C64; decide) zero_64 zero_64)) ?_
  rintro e w7 ⟨v, rfl, s7, b7⟩
  have B7 := chid (cbelow_on B6.out b7 B6.out.size)
  replace RB := chid (RB.out.next b7)
  have HE := chid (cEval_c (env0 0) coB v _ _ w7 s7 cnB (env0_at w7 0 zero_64) (GlE.next HG.out B7.out))
  rw [evB] at HE
  obtain ⟨ad2, cap2, rfl, -, -⟩ := s7.parts.shape
  clear b7 B6 s7
  go_wp2_with fail
  refine Calls.mono HE.out ?_
  rintro e w8 ⟨rfl, b8⟩
  have B8 := chid (cbelow_on B7.out b8 B7.out.size)
  replace RB := chid (RB.out.next b8)
  clear b8 B7 HE
  have q0 := RB.out.cell 0 _ rfl
  have q1 := RB.out.cell 1 _ rfl
  have ql := RB.out.lt
  have HSo := chid (fun W => cSort_c ⟨1, 1, 0, []⟩ (.slice none 0 0) 0 0 0 W (csits0 _ _ _ _ (by unfold C64; decide) (by unfold C64; decide) zero_64) (by rw [cn0]; decide) ⟨zero_64, zero_64, zero_64⟩)
  rw [soNum] at HSo
  have HA : Hid (∀ o, Below w.heap.size w (w8.alloc o)) := fun o => B8.out.alloc B8.out.size o
  go_wp2_with fail
  refine Calls.mono (HN.out _ _) ?_
  rintro e w9 ⟨rfl, b9⟩
  have B9 := chid (cbelow_on (HA.out _) b9 (by have := B8.out.size; simp; omega))
  clear b9 q0 q1 ql RB HA
  go_wp2_with fail
  refine Calls.mono (HSo.out _) ?_
  rintro e w10 ⟨rfl, b10⟩
  have B10 := chid (cbelow_on B9.out b10 B9.out.size)
  clear b10 B9
  go_wp2_with fail
  go_ret
  exact ⟨rfl, B10.out⟩
end Go.Proofs.YtkhdcojgcnomgaaGreatDoor
