/- Package tree: fewNodes, Policy. -/
import Derived.Test.YtdikeicnefgjcaaDoorTqE
import Derived.Test.YtdikeicnefgjcaaDoorTqF
namespace Go.Proofs.YtdikeicnefgjcaaDoor
open Go.RowKit

theorem few_drop {l : List It} {j : Nat} (lf : Int) (h : j < l.length) : fewB (l.drop j) lf = (decide (0 ≤ lf - (cost l[j] : Nat)) && fewB (l.drop (j + 1)) (lf - (cost l[j] : Nat))) := by
  rw [List.drop_eq_getElem_cons h, fewB]
def SmallI (l : List It) : Prop := ∀ i, i ∈ l → nodes i.x ≤ 16384 ∧ nodes i.y ≤ 16384
set_option maxRecDepth 20000 in
set_option maxHeartbeats 2000000 in
theorem allFew_c {z : Nat} (l : List It) (v : Value) (W w : World) (g : Nat) (hW : Below W.heap.size W w) (hg : W.heap.size ≤ g) (hl : IAt z W v l) (hb : Box w g [.int .i64 16384]) (hsm : SmallI l) (hn : l.length ≤ 1048576) :
    Calls Tryd.prog 42 #[v, .func (.func 68) #[] #[.pointer (some ⟨g, 0, none⟩)]] w fun e w' => e = .returned (.bool (fewB l 16384)) ∧ Turn [g] w w' := by
  have HL := hid2 hl
  have HS := hid2 hsm
  have HW := hid2 hW
  have HG := hid2 hg
  have GB0 := hid2 hb
  obtain ⟨ad, cap, rfl, hc1, hc2⟩ := hl.shape
  obtain ⟨N, hN⟩ : ∃ N, Hid (N = l.length) := ⟨_, rfl⟩
  obtain ⟨r, hr⟩ : ∃ r : Bool, Hid (r = fewB l 16384) := ⟨_, rfl⟩
  rw [← hr.out]
  rw [← hN.out] at hc1 hn HL ⊢
  clear hl hsm hW hg hb
  obtain ⟨m, hm⟩ : ∃ m : Nat, Hid (m = 19) := ⟨_, rfl⟩
  have zs : ∀ w, (sizeOf 32).run Tryd.prog w = .ok m w := by rw [hm.out]; exact Tryd.sizeOf32
  have zm : (19 = m) = True := eq_true hm.out.symm
  go_enter Tryd.func42, Tryd.ntmps42
  go_wp2_with fail
  go_loopw [9] (fun i wr => ∃ (j : Nat) (lf : Int), i = .int .i64 (j : Nat) ∧ j ≤ N ∧ 0 ≤ lf ∧ lf ≤ 16384 ∧ Hid (r = fewB (l.drop j) lf) ∧ Hid (Box wr g [.int .i64 lf]) ∧ Hid (Turn [g] w wr)) (fun i _ => match i with | .int _ p => ((N : Int) - p).toNat | _ => 0)
  case atStart => exact ⟨0, 16384, rfl, by omega, by omega, by omega, hr, GB0, Turn.refl _ _⟩
  case round =>
    obtain ⟨j, lf, rfl, hj, hf0, hf1, HJ, GB, TW⟩ := hrel
    have HB := hid2 (HW.out.trans (TW.out.below (fun k hk => by simp at hk; have := HG.out; omega) HW.out.size))
    by_cases hlt : j < N
    · have hlt' : (j : Int) < (N : Int) := by omega
      have h1 : j < l.length := by rw [← hN.out]; exact hlt
      obtain ⟨b, off, cq, hv, -, -, hbl, hxs⟩ := HL.out.open (by omega)
      rw [← hN.out] at hv
      simp only [Value.slice.injEq] at hv
      obtain ⟨rfl, -, rfl⟩ := hv
      obtain ⟨vx, vy, hcs, hit⟩ := hxs j h1
      have lb : b < wr.heap.size := Nat.lt_of_lt_of_le hbl HB.out.size
      obtain ⟨X, hX⟩ : ∃ X : Array Value, Hid (X = (itC l[j] vx vy).toArray) := ⟨_, hid2 rfl⟩
      have s1 : X.size = 19 := by rw [hX.out]; rfl
      have ldA := ld_at (w := wr) (b := b) (o := off + j * m) (fun q u hu => by rw [hm.out]; exact (HB.out.cell (p := ⟨b, off + j * 19 + q, none⟩) hbl).trans (hcs q u hu)) hX.out (hm.out.trans (show 19 = _ from rfl))
      have stA := st_it wr s1 (by rw [hX.out]; exact itC_one hit)
      have X0 := Box.new wr (itC l[j] vx vy) 32
      have HA : Hid (Below W.heap.size W (wr.alloc (.cells X 32))) := HB.out.alloc HB.out.size _
      have hit2 := hit.next HA.out
      rw [show (itC l[j] vx vy).toArray = X from hX.out.symm] at X0
      have ldC := ld_bx X0 hX.out (hm.out.trans (show 19 = _ from rfl))
      unfold zeroI at stA

      have GBA := hid2 (GB.out.next ((Below.refl _ _).alloc (Nat.le_refl _) (.cells X 32)))
      have TWA := hid2 (TW.out.andBelow ((Below.refl _ _).alloc (Nat.le_refl _) (.cells X 32)))
      obtain ⟨sx, sy⟩ := HS.out l[j] (List.getElem_mem h1)
      have HC : Hid (Calls Tryd.prog 68 #[.agg X, .pointer (some ⟨g, 0, none⟩)] (wr.alloc (.cells X 32)) fun e w' => e = .returned (.bool (decide (0 ≤ lf - (cost l[j] : Nat)))) ∧ Hid (Box w' g [.int .i64 (lf - (cost l[j] : Nat))]) ∧ Hid (Turn [g] w w')) := by
        have := few1_c l[j] vx vy g lf W _ HA.out HG.out hit GBA.out hf0 hf1 sx sy
        rw [show itA l[j] vx vy = .agg X by rw [hX.out]] at this
        exact this.mono fun e w' h => ⟨h.1, h.2.1, TWA.out.trans h.2.2 (fun _ hi => .inl hi)⟩
      have HE := hid2 (HJ.out.trans (few_drop lf h1))
      clear hcs hit hxs hX X0 hit2 HA GBA TWA sx sy HJ
      generalize cost l[j] = c at *
      clear h1
      go_wp2_with fail
      refine Calls.mono HC.out ?_
      rintro e w1 ⟨rfl, G1, T1⟩
      clear HC ldA stA ldC
      by_cases hd : 0 ≤ lf - (c : Nat)
      · have HR : Hid (r = fewB (l.drop (j + 1)) (lf - (c : Nat))) := by show _ = _; rw [HE.out, decide_eq_true hd]; rfl
        have hdd : decide (0 ≤ lf - (c : Nat)) = true := decide_eq_true hd
        clear HE
        rw [hdd]
        go_wp2_with fail
        go_roundw
        case rel => exact ⟨j + 1, lf - (c : Nat), by go_num, by omega, by omega, by omega, HR, G1, T1⟩
        case measure => simp; omega
      · have HR : r = false := by rw [HE.out, decide_eq_false hd]; rfl
        have hdd : decide (0 ≤ lf - (c : Nat)) = false := decide_eq_false hd
        subst HR
        clear HE
        rw [hdd]
        go_wp2_with fail
        go_ret
        exact ⟨rfl, T1.out⟩
    · have hlt' : ¬ (j : Int) < (N : Int) := by omega
      have e1 : l.drop j = [] := List.drop_eq_nil_of_le (by have := hN.out; omega)
      rw [e1] at HJ
      have rt : r = true := HJ.out
      subst rt
      go_wp2_with fail
      go_ret
      exact ⟨rfl, TW.out⟩
theorem few_c {z : Nat} (l : List It) (v : Value) (w : World) (hl : IAt z w v l) (hsm : SmallI l) (hn : l.length ≤ 1048576) : Calls Tryd.prog 41 #[v] w fun e w' => e = .returned (.bool (fewB l 16384)) ∧ Below w.heap.size w w' := by
  have HC := hid2 (allFew_c l v w (w.alloc (.cells #[.int .i64 16384] 3)) w.heap.size ((Below.refl _ _).alloc (Nat.le_refl _) _) (Nat.le_refl _) hl (Box.new w [.int .i64 16384] 3) hsm hn)
  obtain ⟨ad, cap, rfl, -, -⟩ := hl.shape
  generalize fewB l 16384 = r at *
  clear hl hsm hn
  go_enter Tryd.func41, Tryd.ntmps41
  go_wp2_with fail
  refine Calls.mono HC.out ?_
  rintro e w1 ⟨rfl, t1⟩
  have B1 : Hid (Below w.heap.size w w1) := ((Below.refl _ _).alloc (Nat.le_refl _) _).trans (t1.below (fun k hk => by simp at hk; omega) (by simp))
  clear t1 HC
  go_wp2_with fail
  go_ret
  exact ⟨rfl, B1.out⟩
set_option maxRecDepth 20000 in
theorem policy_c {z : Nat} (hz : z ≤ 562949953421312) (nm : ByteArray) (hnm : nm.size ≤ z) (l : List It) (v : Value) (w : World) (hl : IAt z w v l) (hT : TabsAt w) (hsm : SmallI l) (hn : l.length ≤ 1048576) : Calls Tryd.prog 17 #[.agg #[.string nm, v]] w fun e w' => e = .returned (.bool (polB nm l)) ∧ Below w.heap.size w w' := by
  have H1 := hid2 (fun wx => isName_c nm (Nat.le_trans hnm hz) wx)
  have H2 := hid2 (fun wx (hb : Below w.heap.size w wx) => ends_c l v wx (hl.next hb) hn)
  have H3 := hid2 (fun wx (hb : Below w.heap.size w wx) => few_c l v wx (hl.next hb) hsm hn)
  have H4 := hid2 (fun wx (hb : Below w.heap.size w wx) => allFormed_c hz l v wx (hl.next hb) (hT.next hb) hn)
  obtain ⟨ad, cap, rfl, -, -⟩ := hl.shape
  unfold polB
  generalize isN nm = q1 at *
  generalize endsB l = q2 at *
  generalize fewB l 16384 = q3 at *
  generalize l.all itemB = q4 at *
  obtain ⟨X0, XB⟩ := one_box w 30 [.string nm, .slice ad l.length cap]
  have BX := hid2 X0
  have BB := hid2 XB
  clear hl hT hsm X0 XB hnm
  go_enter Tryd.func17, Tryd.ntmps17
  go_wp2_with fail
  refine Calls.mono (H1.out _) ?_
  rintro e w1 ⟨rfl, b1⟩
  have B1 := hid2 (below_on BB.out b1 BB.out.size)
  have X1 := hid2 (BX.out.next b1)
  have k1 := X1.out.cell 1 _ rfl
  clear b1 BX BB H1
  cases q1
  · go_wp2_with fail
    go_ret
    exact ⟨rfl, B1.out⟩
  · go_wp2_with fail
    refine Calls.mono (H2.out _ B1.out) ?_
    rintro e w2 ⟨rfl, b2⟩
    have B2 := hid2 (below_on B1.out b2 B1.out.size)
    have X2 := hid2 (X1.out.next b2)
    clear b2 k1 X1 B1 H2
    have k1 := X2.out.cell 1 _ rfl
    cases q2
    · go_wp2_with fail
      go_ret
      exact ⟨rfl, B2.out⟩
    · go_wp2_with fail
      refine Calls.mono (H3.out _ B2.out) ?_
      rintro e w3 ⟨rfl, b3⟩
      have B3 := hid2 (below_on B2.out b3 B2.out.size)
      have X3 := hid2 (X2.out.next b3)
      clear b3 k1 X2 B2 H3
      have k1 := X3.out.cell 1 _ rfl
      cases q3
      · go_wp2_with fail
        go_ret
        exact ⟨rfl, B3.out⟩
      · go_wp2_with fail
        refine Calls.mono (H4.out _ B3.out) ?_
        rintro e w4 ⟨rfl, b4⟩
        have B4 := hid2 (below_on B3.out b4 B3.out.size)
        clear b4 k1 X3 B3 H4
        go_wp2_with fail
        go_ret
        exact ⟨by simp, B4.out⟩
end Go.Proofs.YtdikeicnefgjcaaDoor
