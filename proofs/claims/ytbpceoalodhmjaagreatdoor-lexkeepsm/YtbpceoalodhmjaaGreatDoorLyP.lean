/- LexKeeps: the walk. -/
import Derived.Test.YtbpceoalodhmjaaGreatDoorLyO
namespace Go.Proofs.YtbpceoalodhmjaaGreatDoor
open Go.RowKit Go.Lib

set_option maxHeartbeats 8000000 in
theorem lexKeeps_walk (s : ByteArray) (w : World) (hT : TabsAt w) : Calls Tryz.prog 5 #[.string s] w fun e w' => e = .returned (.bool true) ∧ Below w.heap.size w w' := by
  obtain ⟨i0, hi, hz0, hz1, hz2⟩ := info_parts info_tk
  have HA := hid2 (awake_c w hT)
  have HC : Hid (∀ w', Below w.heap.size w w' → Calls Tryz.prog 7 #[.string s] w' fun e w2 => ∃ v, e = .returned (.tuple #[v, .int .i64 ((cutS s).2.1 : Nat), .int .i64 (cutS s).2.2]) ∧ Held (cutS s) w2 w'.heap.size v ∧ Below w'.heap.size w' w2) := fun w' hb => cut_all s w' (hT.next hb)
  have HR : Hid (∀ w', Calls Tryz.prog 8 #[.string s] w' fun e w2 => ∃ v, e = .returned (.tuple #[v, .int .i64 ((cutS s).2.1 : Nat), .int .i64 (cutS s).2.2]) ∧ Held (cutS s) w2 w'.heap.size v ∧ Below w'.heap.size w' w2) := fun w' => rCut_c s w'
  have HS : Hid (∀ (w1 w2 w : World) v1 v2, Held (cutS s) w w1.heap.size v1 → Held (cutS s) w w2.heap.size v2 → Calls Tryz.prog 9 #[v1, v2] w fun e w' => e = .returned (.bool true) ∧ Below w.heap.size w w') := fun w1 w2 w v1 v2 h1 h2 => cut_same (s := s) (w1 := w1) (w2 := w2) (w := w) (v1 := v1) (v2 := v2) h1 h2
  have HLn := hid2 (cutS_len s)
  generalize cutS s = res at *
  clear hT
  go_enter Tryz.func5, Tryz.ntmps5
  go_wp2_with fail
  refine Calls.mono HA.out ?_
  rintro r w1 ⟨rfl, b1⟩
  go_wp2_with fail
  refine Calls.mono (HC.out _ b1) ?_
  rintro r w2 ⟨v2, rfl, h2, b2⟩
  have hw12 := b2.size
  replace b2 := below_on b1 b2 b1.size
  have hl2 := h2.lt
  have H2 := hid2 h2
  have hw1 := b1.size
  clear b1 h2
  go_wp2_with fail
  refine Calls.mono (HC.out _ b2) ?_
  rintro r w3 ⟨v3, rfl, h3, b3⟩
  obtain ⟨n, xs, hn, hrow⟩ := (H2.out.next b3).row HLn.out
  have HL3 := hid2 h3.lt
  have HL2 : Hid (∀ k, v2.ownBlock = some k → w.heap.size ≤ k ∧ k < w2.heap.size) := fun k hk => ⟨Nat.le_trans hw1 (hl2 k hk).1, (hl2 k hk).2⟩
  have H3 := hid2 h3
  have hw23 := b3.size
  have B3 := hid2 (below_on b2 b3 b2.size)
  have HRow := hid2 hrow
  have hww2 := b2.size
  obtain ⟨va, vc, hv2⟩ := own_val hrow
  subst hv2
  clear b2 h3 b3 H2 hl2 hrow HLn
  go_wp2_with fail
  go_loopw [9] (fun s9 wr => ∃ (j : Nat) (ys : List Value), s9 = .int .i64 (j : Nat) ∧ j ≤ n ∧ wr.heap.size = w3.heap.size ∧ Hid (wr.ownsRow w1.heap.size 33 4 (.slice va n vc) n ys) ∧ Hid (Held res wr w2.heap.size v3) ∧ Hid (Below w.heap.size w wr)) (fun s9 _ => n - (RowKit.intOf s9).toNat)
  case atStart => exact ⟨0, xs, rfl, by omega, rfl, HRow, H3, B3⟩
  case round =>
    obtain ⟨j, ys, rfl, hj, hsz, HRw, HH, HB⟩ := hrel
    clear HRow H3 B3
    by_cases hjn : j < n
    · have hjn2 : (j : Int) < (n : Int) := by omega
      have hw : IntKind.i64.wrap ((j : Int) + 1) = ((j + 1 : Nat) : Int) := by rw [IntKind.wrap_i64]; omega
      obtain ⟨g, rfl⟩ : ∃ g, va = some ⟨g, 0, none⟩ := by
        rcases HRw.out.2 with ⟨_, h0⟩ | ⟨g, cap, cur, hv, _⟩
        · omega
        · cases hv
          exact ⟨g, rfl⟩
      have hg := HL2.out g rfl
      obtain ⟨hyl, ⟨hv, _⟩ | ⟨g', cap', cur, hv, _, h4, _, _, _, h8⟩⟩ := HRw.out
      · cases hv
      cases hv
      have hbx : Box wr g ys := (Box.ofBlock h4).part (by rw [← h8]; exact List.take_prefix _ _)
      have p0 := hbx.cell (j * 4) _ (List.getElem?_eq_getElem (by omega))
      have p1 := hbx.cell (j * 4 + 1) _ (List.getElem?_eq_getElem (by omega))
      have p2 := hbx.cell (j * 4 + 2) _ (List.getElem?_eq_getElem (by omega))
      have p3 := hbx.cell (j * 4 + 3) _ (List.getElem?_eq_getElem (by omega))
      have f0 := hbx.free (j * 4) (by omega)
      have f1 := hbx.free (j * 4 + 1) (by omega)
      have f2 := hbx.free (j * 4 + 2) (by omega)
      have f3 := hbx.free (j * 4 + 3) (by omega)
      have bl := hbx.lt
      generalize ys[j * 4] = y0 at *
      generalize ys[j * 4 + 1] = y1 at *
      generalize ys[j * 4 + 2] = y2 at *
      generalize ys[j * 4 + 3] = y3 at *
      clear hbx h4 h8 hyl
      go_wp2_with fail
      exact ⟨⟨j + 1, _, rfl, by omega, by simpa using hsz, own_set (own_set (own_set (own_set HRw.out _ _) _ _) _ _) _ _, (((HH.out.set hg.2 _).set hg.2 _).set hg.2 _).set hg.2 _, (((HB.out.setCell hg.1 _).setCell hg.1 _).setCell hg.1 _).setCell hg.1 _⟩, by simp [RowKit.intOf]; omega⟩
    · have hjn2 : ¬ ((j : Int) < (n : Int)) := by omega
      have HBl : Hid (∀ k, (Value.slice va n vc).ownBlock = some k → k < w2.heap.size ∨ w3.heap.size ≤ k) := fun k hk => .inl (HL2.out k hk).2
      have HR2 : Hid (∃ zs, wr.ownsRow w1.heap.size 33 4 (.slice va n vc) n zs) := ⟨_, HRw.out⟩
      clear HL2 HRw hjn
      go_wp2_with fail
      go_loopw [3, 10] (fun s3 s10 wr => ∃ (i m : Nat) (zs : List Value), s10 = .int .i64 (i : Nat) ∧ i ≤ 20 ∧ m ≤ 16385 + i ∧ w3.heap.size ≤ wr.heap.size ∧ Hid (wr.ownsRow w1.heap.size 33 4 s3 m zs) ∧ Hid (∀ k, s3.ownBlock = some k → k < w2.heap.size ∨ w3.heap.size ≤ k) ∧ Hid (Held res wr w2.heap.size v3) ∧ Hid (Below w.heap.size w wr)) (fun _ s10 _ => 20 - (RowKit.intOf s10).toNat)
      case atStart =>
        obtain ⟨zs, hzs⟩ := HR2.out
        exact ⟨0, n, zs, rfl, by omega, by omega, by omega, hzs, HBl, HH, HB⟩
      case round =>
        obtain ⟨i, m, zs, rfl, hi20, hm, hsz2, HRw, HBk, HHw, HBw⟩ := hrel
        clear HR2 HBl HH HB
        by_cases hi2 : i < 20
        · have hi3 : (i : Int) < 20 := by omega
          have hw : IntKind.i64.wrap ((i : Int) + 1) = ((i + 1 : Nat) : Int) := by rw [IntKind.wrap_i64]; omega
          obtain ⟨ta, tc, hv3⟩ := own_val HRw.out
          subst hv3
          have hw1s := HBw.out.size
          go_wp2_with (at_builtin; refine wpList_append_blk _ rfl _ _ 23 rfl w1.heap.size 33 i0 (.agg #[.int .i64 0, .string ⟨#[]⟩, .int .i64 0, .int .i64 0]) 4 40 Tryz.underlying23 hi hz0 hz1 hz2 rfl (by decide) _ _ _ rfl (HRw.out.alloc _) ⟨_, 0, none⟩ 1 1 [.int .i64 98, .string ⟨#[]⟩, .int .i64 0, .int .i64 0] rfl rfl (by decide) ?c1 ?c2 ?c3 ?c4 ?c5 ?_)
          case c1 => exact cell_four_new _ _ _ _ _ _
          case c2 => intro u hu; simp at hu; rcases hu with rfl | rfl | rfl | rfl <;> rfl
          case c3 => unfold maxLen; omega
          case c4 => omega
          case c5 => simp; omega
          intro v' w4 own4 grow4 blk4
          have hgsz := grow4.size
          simp only [World.alloc, Array.size_push] at hgsz
          have HRw4 := hid2 own4
          have HB4 := hid2 (below_own HBw.out hw1s _ (Nat.le_trans hw1 (Nat.le_refl _)) HRw.out grow4)
          have HH4 := hid2 ((HHw.out.next ((Below.refl _ _).alloc (Nat.le_refl _) _)).grown grow4 (fun k hk e => by
            have h1 := HL3.out k hk
            rcases HBk.out k e.symm with h2 | h2 <;> omega))
          have HBk4 : Hid (∀ k, v'.ownBlock = some k → k < w2.heap.size ∨ w3.heap.size ≤ k) := fun k hk => by
            rcases blk4 with h1 | h1
            · exact HBk.out k (h1.symm.trans hk)
            · rw [h1] at hk
              cases hk
              exact .inr (by omega)
          clear own4 grow4 blk4
          go_wp2_with fail
          exact ⟨⟨i + 1, m + 1, _, rfl, by omega, by omega, by omega, HRw4, HBk4, HH4, HB4⟩, by simp [RowKit.intOf]; omega⟩
        · have hi3 : ¬ ((i : Int) < 20) := by omega
          go_wp2_with fail
          refine Calls.mono (HR.out _) ?_
          rintro r w5 ⟨v5, rfl, h5, b5⟩
          have H5 := hid2 h5
          have H35 := hid2 (HHw.out.next b5)
          have b5' := below_on HBw.out b5 HBw.out.size
          clear h5 b5 HHw
          go_wp2_with fail
          refine Calls.mono (HC.out _ b5') ?_
          rintro r w6 ⟨v6, rfl, h6, b6⟩
          have H56 := hid2 (H5.out.next b6)
          have H36 := hid2 (H35.out.next b6)
          have H6 := hid2 h6
          have B6 := hid2 (below_on b5' b6 b5'.size)
          clear h6 b6 b5' H5 H35
          go_wp2_with fail
          refine Calls.mono (HS.out _ _ _ _ _ H36.out H56.out) ?_
          rintro r w7 ⟨rfl, b7⟩
          have H57 := hid2 (H56.out.next b7)
          have H67 := hid2 (H6.out.next b7)
          have B7 := hid2 (below_on B6.out b7 B6.out.size)
          clear b7 H56 H36 H6
          go_wp2_with fail
          refine Calls.mono (HS.out _ _ _ _ _ H67.out H57.out) ?_
          rintro r w8 ⟨rfl, b8⟩
          go_wp2_with fail
          go_ret
          exact ⟨rfl, below_on B7.out b8 B7.out.size⟩
end Go.Proofs.YtbpceoalodhmjaaGreatDoor
