/- The law MeanTakes, walked. -/
import Derived.Test.YtpkknifbocfeaaaGreatDoorMhV
import Derived.Test.YtpkknifbocfeaaaGreatDoorMhR
import Derived.Test.YtpkknifbocfeaaaGreatDoorMhW
namespace Go.Proofs.YtpkknifbocfeaaaGreatDoor
open Go.RowKit

/-- A plan of so many metrics and nothing else. -/
def plM (n : Nat) : PlP := ⟨List.replicate n ⟨#[]⟩, ⟨0, 0, 0, 0, 0⟩, [], [], 0, [], ⟨0, 0, 0, []⟩⟩
theorem plM_len (n : Nat) : (plM n).mets.length = n := List.length_replicate
set_option maxHeartbeats 8000000 in
set_option maxRecDepth 20000 in
theorem meanTakes_c (m : Int) (l : List EvP) (u : Value) (w : World) (hm : 0 ≤ m ∧ m < 256) (hE : EvsAt w u l) (hok : ∀ e, e ∈ l → EvOk e) (hL : l.length * 32 ≤ 140737488355328) (hF : FldAt w) (hg : GlE w) :
    Calls Tryz.prog 4 #[.int .u8 m, u] w fun r w' => r = .returned (.bool true) ∧ Below w.heap.size w w' := by
  obtain ⟨n, hn⟩ : ∃ n : Nat, m = (n : Int) := ⟨m.toNat, by omega⟩
  subst hn
  have hn256 : n < 256 := by omega
  have HAw := chid (awake17_c w hF hg)
  have HE := chid hE
  have HRt := chid (fun W (hW : Below w.heap.size w W) => rTaken_c n l u W (RowsK.next hE hW) hok hL)
  have HMt := chid (fun v W (hW : Below w.heap.size w W) hv => mTaken_c (plM n) v l u W hv (RowsK.next hE hW) hok hL)
  simp only [plM_len] at HMt
  have hTl : (takenF n l).length * 32 ≤ 140737488355328 := by have := takF_len n l minI; unfold takenF; omega
  obtain ⟨ad, cap, rfl, -, -, -⟩ := hE
  obtain ⟨i0, hi, hz0, hz1, hz2⟩ := info_str'
  clear hF hg hok
  go_enter Tryz.func4, Tryz.ntmps4
  go_wp2_with fail
  refine Calls.mono HAw.out ?_
  rintro e w1 ⟨rfl, b1⟩
  have B1 := chid b1
  have hb1 := b1.size
  clear b1 HAw
  go_wp2_with (at_make; refine wpList_make_full _ rfl _ _ 22 rfl w1.heap.size 9 i0 (.string ⟨#[]⟩) 1 Tryz.underlying22 hi hz0 hz1 _ _ _ _ n rfl rfl (by first | rfl | simp | omega) (by first | rfl | simp | omega) (by rw [hz2]; omega) (by unfold maxLen; omega) (Nat.le_refl _) ?_; intro w2 hown hgrow; have hb2 : Below w1.heap.size w1 w2 := (Below.refl _ _).grown hgrow (Nat.le_refl _) (by simp); have HB2 := chid hb2; clear hb2 hown hgrow)
  have X0 := chid (Box.new w2 [.slice (some ⟨w1.heap.size, 0, none⟩) n n, .int .i64 0, .int .i64 0, .int .i64 0, .int .i64 0, .int .i64 0, .slice none 0 0, .slice none 0 0, .int .i64 0, .slice none 0 0, .int .i64 0, .int .i64 0, .int .i64 0, .slice none 0 0] 32)
  have B2 := chid (cbelow_on B1.out HB2.out B1.out.size)
  have B3 := chid (B2.out.alloc B2.out.size (.cells #[.slice (some ⟨w1.heap.size, 0, none⟩) n n, .int .i64 0, .int .i64 0, .int .i64 0, .int .i64 0, .int .i64 0, .slice none 0 0, .slice none 0 0, .int .i64 0, .slice none 0 0, .int .i64 0, .int .i64 0, .int .i64 0, .slice none 0 0] 32))
  obtain ⟨pb, hpb⟩ : ∃ pb, Hid (pb = w2.heap.size) := ⟨_, rfl⟩
  have hpb3 : Hid (pb < (w2.alloc (.cells #[.slice (some ⟨w1.heap.size, 0, none⟩) n n, .int .i64 0, .int .i64 0, .int .i64 0, .int .i64 0, .int .i64 0, .slice none 0 0, .slice none 0 0, .int .i64 0, .slice none 0 0, .int .i64 0, .int .i64 0, .int .i64 0, .slice none 0 0] 32)).heap.size) := chid (by rw [hpb.out]; simp)
  rw [← hpb.out] at X0 ⊢
  generalize hw3 : w2.alloc _ = w3 at *
  clear hw3
  obtain ⟨N, hN⟩ : ∃ N, Hid (N = (takenF n l).length) := ⟨_, rfl⟩
  rw [← hN.out] at hTl
  refine Calls.mono (HRt.out w3 B3.out) ?_
  rintro r w4 ⟨xw, rfl, ow, b4⟩
  have RW := chid (RowIn.of ow b4.size)
  obtain ⟨S3, hS3⟩ : ∃ S, Hid (S = w3.heap.size) := ⟨_, rfl⟩
  obtain ⟨S4, hS4⟩ : ∃ S, Hid (S = w4.heap.size) := ⟨_, rfl⟩
  have h34 : Hid (S3 ≤ S4) := chid (by rw [hS3.out, hS4.out]; exact b4.size)
  have hp3 : Hid (pb < S3) := chid (by rw [hS3.out]; exact hpb3.out)
  have hwS : Hid (w.heap.size ≤ S3) := chid (by rw [hS3.out]; exact B3.out.size)
  rw [← hN.out, ← hS3.out, ← hS4.out] at RW
  obtain ⟨wa, wc, rfl⟩ := own_shape ow
  try rw [← hN.out] at RW
  rw [← hN.out]
  have B4 := chid (cbelow_on B3.out b4 B3.out.size)
  replace X0 := chid (X0.out.next b4)
  clear ow b4 B3 hpb3
  have x0 := X0.out.cell 0 _ rfl
  have x1 := X0.out.cell 1 _ rfl
  have x2 := X0.out.cell 2 _ rfl
  have x3 := X0.out.cell 3 _ rfl
  have x4 := X0.out.cell 4 _ rfl
  have x5 := X0.out.cell 5 _ rfl
  have x6 := X0.out.cell 6 _ rfl
  have x7 := X0.out.cell 7 _ rfl
  have x8 := X0.out.cell 8 _ rfl
  have x9 := X0.out.cell 9 _ rfl
  have x10 := X0.out.cell 10 _ rfl
  have x11 := X0.out.cell 11 _ rfl
  have x12 := X0.out.cell 12 _ rfl
  have x13 := X0.out.cell 13 _ rfl
  have xl := X0.out.lt
  go_wp2_with fail
  refine Calls.mono (HMt.out ⟨.slice (some ⟨w1.heap.size, 0, none⟩) n n, .slice none 0 0, .slice none 0 0, .slice none 0 0, .slice none 0 0⟩ w4 B4.out ⟨some ⟨w1.heap.size, 0, none⟩, n, none, 0, none, 0, none, 0, none, 0, rfl⟩) ?_
  rintro r w5 ⟨xa, rfl, oa, b5⟩
  have RA := chid (RowIn.of oa b5.size)
  obtain ⟨S5, hS5⟩ : ∃ S, Hid (S = w5.heap.size) := ⟨_, rfl⟩
  have h45 : Hid (S4 ≤ S5) := chid (by rw [hS4.out, hS5.out]; exact b5.size)
  rw [← hN.out, ← hS4.out, ← hS5.out] at RA
  obtain ⟨aa, ac, rfl⟩ := own_shape oa
  try rw [← hN.out] at RA
  rw [← hN.out]
  have B5 := chid (cbelow_on B4.out b5 B4.out.size)
  replace X0 := chid (X0.out.next b5)
  replace RW := chid (RW.out.rng (Rng.ofBelow (lo := 0) (hi := 0) b5) (.inr (Nat.zero_le _)))
  clear x0 x1 x2 x3 x4 x5 x6 x7 x8 x9 x10 x11 x12 x13 xl
  clear oa b5 B4
  have x0 := X0.out.cell 0 _ rfl
  have x1 := X0.out.cell 1 _ rfl
  have x2 := X0.out.cell 2 _ rfl
  have x3 := X0.out.cell 3 _ rfl
  have x4 := X0.out.cell 4 _ rfl
  have x5 := X0.out.cell 5 _ rfl
  have x6 := X0.out.cell 6 _ rfl
  have x7 := X0.out.cell 7 _ rfl
  have x8 := X0.out.cell 8 _ rfl
  have x9 := X0.out.cell 9 _ rfl
  have x10 := X0.out.cell 10 _ rfl
  have x11 := X0.out.cell 11 _ rfl
  have x12 := X0.out.cell 12 _ rfl
  have x13 := X0.out.cell 13 _ rfl
  have xl := X0.out.lt
  go_wp2_with fail
  refine Calls.mono (HMt.out ⟨.slice (some ⟨w1.heap.size, 0, none⟩) n n, .slice none 0 0, .slice none 0 0, .slice none 0 0, .slice none 0 0⟩ w5 B5.out ⟨some ⟨w1.heap.size, 0, none⟩, n, none, 0, none, 0, none, 0, none, 0, rfl⟩) ?_
  rintro r w6 ⟨xb, rfl, ob, b6⟩
  have RB := chid (RowIn.of ob b6.size)
  obtain ⟨S6, hS6⟩ : ∃ S, Hid (S = w6.heap.size) := ⟨_, rfl⟩
  have h56 : Hid (S5 ≤ S6) := chid (by rw [hS5.out, hS6.out]; exact b6.size)
  rw [← hN.out, ← hS5.out, ← hS6.out] at RB
  obtain ⟨ba, bc, rfl⟩ := own_shape ob
  try rw [← hN.out] at RB
  rw [← hN.out]
  have B6 := chid (cbelow_on B5.out b6 B5.out.size)
  replace X0 := chid (X0.out.next b6)
  replace RW := chid (RW.out.rng (Rng.ofBelow (lo := 0) (hi := 0) b6) (.inr (Nat.zero_le _)))
  replace RA := chid (RA.out.rng (Rng.ofBelow (lo := 0) (hi := 0) b6) (.inr (Nat.zero_le _)))
  clear x0 x1 x2 x3 x4 x5 x6 x7 x8 x9 x10 x11 x12 x13 xl
  clear ob b6 B5
  have HEv : Hid (∀ W v lo hi, RowIn W lo hi 51 4 v N (flE (takenF n l)) → EvsAt W v (takenF n l)) := fun W v lo hi h => evs_of_own (by rw [← hN.out]; exact h.2.1)
  go_wp2_with fail
  refine Calls.mono (same17_c (takenF n l) _ _ w6 (HEv.out _ _ _ _ RA.out) (HEv.out _ _ _ _ RW.out)) ?_
  rintro r w7 ⟨rfl, b7⟩
  have B7 := chid (cbelow_on B6.out b7 B6.out.size)
  replace X0 := chid (X0.out.next b7)
  replace RW := chid (RW.out.rng (Rng.ofBelow (lo := 0) (hi := 0) b7) (.inr (Nat.zero_le _)))
  replace RA := chid (RA.out.rng (Rng.ofBelow (lo := 0) (hi := 0) b7) (.inr (Nat.zero_le _)))
  replace RB := chid (RB.out.rng (Rng.ofBelow (lo := 0) (hi := 0) b7) (.inr (Nat.zero_le _)))
  have hS67 : Hid (S6 ≤ w7.heap.size) := chid (by rw [hS6.out]; exact b7.size)
  clear b7 B6
  go_wp2_with fail
  go_loopw [9] (fun i wr => ∃ (k : Nat) (cs : List Value), i = .int .i64 (k : Nat) ∧ k ≤ N ∧ Hid (RowIn wr S4 S5 51 4 (.slice aa N ac) N cs) ∧ Hid (Rng S4 S5 w7 wr)) (fun i _ => match i with | .int _ z => ((N : Int) - z).toNat | _ => 0)
  case atStart => exact ⟨0, _, rfl, by omega, RA, Rng.refl _ _ _⟩
  case round =>
    obtain ⟨k, cs, rfl, hk, HRw, HRg⟩ := hrel
    by_cases hlt : k < N
    · have hlt' : (k : Int) < (N : Int) := by omega
      obtain ⟨g, rfl⟩ := HRw.out.form (by omega)
      obtain ⟨⟨v0, z0⟩, f0, zl, -, -⟩ := HRw.out.at (k * 4) (by omega)
      obtain ⟨⟨v1, z1⟩, f1, -⟩ := HRw.out.at (k * 4 + 1) (by omega)
      obtain ⟨⟨v2, z2⟩, f2, -⟩ := HRw.out.at (k * 4 + 2) (by omega)
      obtain ⟨⟨v3, z3⟩, f3, -⟩ := HRw.out.at (k * 4 + 3) (by omega)
      have HPut := chid (fun (u0 u1 u2 u3 : Value) => And.intro ((((HRw.out.put (k * 4) u0).1.put (k * 4 + 1) u1).1.put (k * 4 + 2) u2).1.put (k * 4 + 3) u3).1 (HRg.out.trans ((HRw.out.put (k * 4) u0).2.trans (((HRw.out.put (k * 4) u0).1.put (k * 4 + 1) u1).2.trans ((((HRw.out.put (k * 4) u0).1.put (k * 4 + 1) u1).1.put (k * 4 + 2) u2).2.trans ((((HRw.out.put (k * 4) u0).1.put (k * 4 + 1) u1).1.put (k * 4 + 2) u2).1.put (k * 4 + 3) u3).2)))))
      clear HRw HRg
      go_wp2_with fail
      go_roundw
      case rel => exact ⟨k + 1, _, by go_num, by omega, chid (HPut.out _ _ _ _).1, chid (HPut.out _ _ _ _).2⟩
      case measure => simp; omega
    · have hlt' : ¬ (k : Int) < (N : Int) := by omega
      have hwz := HRg.out.size
      have h4 : S4 ≤ wr.heap.size := by have a1 := h45.out; have a2 := h56.out; have a3 := hS67.out; omega
      obtain ⟨j0, hj, hj0, hj1, hj2⟩ := info_ev'
      go_wp2_with (at_builtin; refine wpList_append_own_wide _ rfl _ _ 46 rfl S4 51 j0 (evtV ev0) 4 32 Tryz.underlying46 hj hj0 hj1 hj2 rfl (by decide) _ _ _ rfl (HRw.out.2.1.alloc _) ⟨_, 0, none⟩ 1 1 [.int .i64 98, .int .i64 0, .int .i64 0, .int .i64 0] rfl rfl (by exact ma_new_cells' _ _ _ _ rfl) (by intro u hu; simp only [List.mem_cons, List.not_mem_nil, or_false] at hu; rcases hu with rfl | rfl | rfl | rfl <;> rfl) (by unfold maxLen; omega) (by omega) (by simp; omega) ?_)
      intro v8 w8 ho8 hg8 _
      have R8 : Rng S4 S5 wr w8 := (Rng.ofBelow ((Below.refl wr.heap.size wr).alloc (Nat.le_refl _) (.cells #[.int .i64 98, .int .i64 0, .int .i64 0, .int .i64 0] 51))).trans ⟨hg8.os, hg8.tape, hg8.output, hg8.size, fun b hb hn => hg8.block b hb (fun e => hn ⟨(HRw.out.2.1.lt b e.symm).1, HRw.out.2.2 b e.symm⟩)⟩
      have RR := HRg.out.trans R8
      obtain ⟨va, vc, rfl⟩ := own_shape ho8
      have B8 := chid (Rng.below B7.out RR (by have := hwS.out; have := h34.out; omega) B7.out.size)
      replace X0 := chid (X0.out.rng RR (.inl (by have := hp3.out; have := h34.out; omega)))
      replace RW := chid (RW.out.rng RR (.inl (Nat.le_refl _)))
      replace RB := chid (RB.out.rng RR (.inr (Nat.le_refl _)))
      clear RR R8 ho8 hg8 HRw HRg RA B7
      go_wp2_with fail
      refine Calls.mono (same17_c (takenF n l) _ _ w8 (HEv.out _ _ _ _ RB.out) (HEv.out _ _ _ _ RW.out)) ?_
      rintro r w9 ⟨rfl, b9⟩
      have B9 := chid (cbelow_on B8.out b9 B8.out.size)
      replace X0 := chid (X0.out.next b9)
      replace RW := chid (RW.out.rng (Rng.ofBelow (lo := 0) (hi := 0) b9) (.inr (Nat.zero_le _)))
      clear b9 B8 RB
      have x0 := X0.out.cell 0 _ rfl
      have x1 := X0.out.cell 1 _ rfl
      have x2 := X0.out.cell 2 _ rfl
      have x3 := X0.out.cell 3 _ rfl
      have x4 := X0.out.cell 4 _ rfl
      have x5 := X0.out.cell 5 _ rfl
      have x6 := X0.out.cell 6 _ rfl
      have x7 := X0.out.cell 7 _ rfl
      have x8 := X0.out.cell 8 _ rfl
      have x9 := X0.out.cell 9 _ rfl
      have x10 := X0.out.cell 10 _ rfl
      have x11 := X0.out.cell 11 _ rfl
      have x12 := X0.out.cell 12 _ rfl
      have x13 := X0.out.cell 13 _ rfl
      have xl := X0.out.lt
      go_wp2_with fail
      refine Calls.mono (HMt.out ⟨.slice (some ⟨w1.heap.size, 0, none⟩) n n, .slice none 0 0, .slice none 0 0, .slice none 0 0, .slice none 0 0⟩ w9 B9.out ⟨some ⟨w1.heap.size, 0, none⟩, n, none, 0, none, 0, none, 0, none, 0, rfl⟩) ?_
      rintro r w10 ⟨xc, rfl, oc, b10⟩
      obtain ⟨ca, cc, rfl⟩ := own_shape oc
      have HE10 := chid (evs_of_own oc)
      have B10 := chid (cbelow_on B9.out b10 B9.out.size)
      replace RW := chid (RW.out.rng (Rng.ofBelow (lo := 0) (hi := 0) b10) (.inr (Nat.zero_le _)))
      clear x0 x1 x2 x3 x4 x5 x6 x7 x8 x9 x10 x11 x12 x13 xl oc b10 B9
      go_wp2_with fail
      refine Calls.mono (same17_c (takenF n l) _ _ w10 HE10.out (HEv.out _ _ _ _ RW.out)) ?_
      rintro r w11 ⟨rfl, b11⟩
      have B11 := chid (cbelow_on B10.out b11 B10.out.size)
      go_wp2_with fail
      go_ret
      exact ⟨rfl, B11.out⟩
end Go.Proofs.YtpkknifbocfeaaaGreatDoor
