/- The law CoreCopies, walked. -/
import Derived.Test.YtpkknifbocfeaaaGreatDoorCkJ
import Derived.Test.YtpkknifbocfeaaaGreatDoorCkK
import Derived.Test.YtpkknifbocfeaaaGreatDoorCkL
import Derived.Test.YtpkknifbocfeaaaGreatDoorCkC
import Derived.Test.YtpkknifbocfeaaaGreatDoorCkS
import Derived.Test.YtpkknifbocfeaaaGreatDoorCeB
import Derived.Test.YtpkknifbocfeaaaGreatDoorCoL
namespace Go.Proofs.YtpkknifbocfeaaaGreatDoor
open Go.RowKit

theorem strClone_c' (s : ByteArray) (W : World) (h : s.size ≤ 140737488355328) : Calls Tryz.prog 31 #[.string s] W fun e w' => e = .returned (.string s) ∧ Below W.heap.size W w' := strClone_c s W h
theorem ck_new_cells (w : World) (l : List Value) (t : TypeId) : ∀ j u, l[j]? = some u → (w.alloc (.cells l.toArray t)).cell? ((⟨w.heap.size, 0, none⟩ : Addr).add j) = some u := by
  intro j u hu
  have hadd : (⟨w.heap.size, 0, none⟩ : Addr).add j = ⟨w.heap.size, j, none⟩ := by unfold Addr.add; split <;> simp_all
  rw [hadd]
  exact (Box.new w l t).cell j u hu
theorem ck_new_cells' (w : World) (l : List Value) (t : TypeId) (B : Nat) (hB : w.heap.size = B) : ∀ j u, l[j]? = some u → (w.alloc (.cells l.toArray t)).cell? ((⟨B, 0, none⟩ : Addr).add j) = some u := by
  subst hB
  exact ck_new_cells w l t
/-- A row of one's own that grew. -/
theorem RowIn.grew {w w' : World} {lo hi : Nat} {e : TypeId} {k n : Nat} {v : Value} {cs : List Value} (h : RowIn w lo hi e k v n cs) (o : Obj) (hg : (w.alloc o).grownBy w' v.ownBlock) : Rng lo hi w w' :=
  (Rng.ofBelow ((Below.refl w.heap.size w).alloc (Nat.le_refl _) o)).trans ⟨hg.os, hg.tape, hg.output, hg.size, fun b hb hn => hg.block b hb (fun e => hn ⟨(h.2.1.lt b e.symm).1, h.2.2 b e.symm⟩)⟩
set_option maxHeartbeats 8000000 in
set_option maxRecDepth 20000 in
theorem coreCopies_c (p : PlP) (v : PlV) (w : World) (hs : PlAt w p v) (hp : PWt p) (hg : GlE w) (haw : ∀ W, GlE W → Calls Tryz.prog 9 #[] W fun e w' => e = .returned (.bool true) ∧ Below W.heap.size W w') : Calls Tryz.prog 3 #[plV p v] w fun e w' => e = .returned (.bool true) ∧ Below w.heap.size w w' := by
  have HS := chid hs
  have HP := chid hp
  have HG := chid hg
  have HAw := chid (fun W (hW : Below w.heap.size w W) => haw W (GlE.next HG.out hW))
  have HFw := chid (fun W (hW : Below w.heap.size w W) => few_c p v W (HS.out.next hW) HP.out.gs)
  have HCp := chid (fun W (hW : Below w.heap.size w W) => copy_c strClone_c' p v W (HS.out.next hW) HP.out)
  have HCq := chid (fun u W (hu : PlAt W p u) => copy_c strClone_c' p u W hu HP.out)
  have HSm := chid (fun u W (hu : PlAt W p u) (hW : Below w.heap.size w W) => samePlan_c p u v W hu (HS.out.next hW) HP.out.gs)
  have HPl : Hid (∀ W (u : PlV) s0 s1 s2 s3 s4 s5, CopP W p u s0 s1 s2 s3 s4 s5 → PlAt W p u) := fun W u s0 s1 s2 s3 s4 s5 h => h.plan HS.out
  obtain ⟨a1, c1, a2, c2, a3, c3, a4, c4, a5, c5, rfl, -, -, -, -⟩ := hs.shapes
  have X0 := chid (Box.new w (plL p ⟨.slice a1 p.mets.length c1, .slice a2 p.wins.length c2, .slice a3 p.crons.length c3, .slice a4 p.gs.length c4, .slice a5 p.fin.parts.length c5⟩) 32)
  have B0 := chid ((Below.refl w.heap.size w).alloc (Nat.le_refl _) (.cells (plL p ⟨.slice a1 p.mets.length c1, .slice a2 p.wins.length c2, .slice a3 p.crons.length c3, .slice a4 p.gs.length c4, .slice a5 p.fin.parts.length c5⟩).toArray 32))
  clear hs hp hg haw
  go_enter Tryz.func3, Tryz.ntmps3
  go_wp2_with fail
  refine Calls.mono (HAw.out _ B0.out) ?_
  rintro e w1 ⟨rfl, b⟩
  have B1 := chid (cbelow_on B0.out b B0.out.size)
  replace X0 := chid (X0.out.next b)
  clear b B0
  have x0 := X0.out.cell 0 _ rfl
  have x1 := X0.out.cell 1 _ rfl
  have x2 := X0.out.cell 2 _ rfl
  have x3 := X0.out.cell 3 _ rfl
  have x4 := X0.out.cell 4 _ rfl
  have x5 := X0.out.cell 5 _ rfl
  have x6 := X0.out.cell 6 _ rfl
  have x7 := X0.out.cell 7 _ rfl
  have x8 := X0.out.cell 8 _ rfl
  have x9 := X0.out.cell 9 _ rfl
  have x10 := X0.out.cell 10 _ rfl
  have x11 := X0.out.cell 11 _ rfl
  have x12 := X0.out.cell 12 _ rfl
  have x13 := X0.out.cell 13 _ rfl
  have xl := X0.out.lt
  go_wp2_with fail
  refine Calls.mono (HFw.out _ B1.out) ?_
  rintro e w2 ⟨rfl, b⟩
  have B2 := chid (cbelow_on B1.out b B1.out.size)
  replace X0 := chid (X0.out.next b)
  clear b B1
  clear x0 x1 x2 x3 x4 x5 x6 x7 x8 x9 x10 x11 x12 x13 xl
  cases fewL p with
  | false =>
    go_wp2_with fail
    refine Calls.mono (HAw.out _ B2.out) ?_
    rintro e w3 ⟨rfl, b⟩
    go_wp2_with fail
    go_ret
    exact ⟨rfl, cbelow_on B2.out b B2.out.size⟩
  | true =>
    have x0 := X0.out.cell 0 _ rfl
    have x1 := X0.out.cell 1 _ rfl
    have x2 := X0.out.cell 2 _ rfl
    have x3 := X0.out.cell 3 _ rfl
    have x4 := X0.out.cell 4 _ rfl
    have x5 := X0.out.cell 5 _ rfl
    have x6 := X0.out.cell 6 _ rfl
    have x7 := X0.out.cell 7 _ rfl
    have x8 := X0.out.cell 8 _ rfl
    have x9 := X0.out.cell 9 _ rfl
    have x10 := X0.out.cell 10 _ rfl
    have x11 := X0.out.cell 11 _ rfl
    have x12 := X0.out.cell 12 _ rfl
    have x13 := X0.out.cell 13 _ rfl
    have xl := X0.out.lt
    go_wp2_with fail
    refine Calls.mono (HCp.out _ B2.out) ?_
    rintro e w3 ⟨ua, s0, s1, s2, s3, s4, s5, rfl, ca, hs0, b⟩
    have B3 := chid (cbelow_on B2.out b B2.out.size)
    have hs0w : Hid (w.heap.size < s0) := chid (by have := X0.out.lt; omega)
    replace X0 := chid (X0.out.next b)
    obtain ⟨q1, r1, q2, r2, q3, r3, q4, r4, q5, r5, rfl, -, -, -, -⟩ := (HPl.out _ _ _ _ _ _ _ _ ca).shapes
    have CA := chid ca
    clear b B2 ca hs0
    clear x0 x1 x2 x3 x4 x5 x6 x7 x8 x9 x10 x11 x12 x13 xl
    have x0 := X0.out.cell 0 _ rfl
    have x1 := X0.out.cell 1 _ rfl
    have x2 := X0.out.cell 2 _ rfl
    have x3 := X0.out.cell 3 _ rfl
    have x4 := X0.out.cell 4 _ rfl
    have x5 := X0.out.cell 5 _ rfl
    have x6 := X0.out.cell 6 _ rfl
    have x7 := X0.out.cell 7 _ rfl
    have x8 := X0.out.cell 8 _ rfl
    have x9 := X0.out.cell 9 _ rfl
    have x10 := X0.out.cell 10 _ rfl
    have x11 := X0.out.cell 11 _ rfl
    have x12 := X0.out.cell 12 _ rfl
    have x13 := X0.out.cell 13 _ rfl
    have xl := X0.out.lt
    have A0 := chid (Box.new w3 (plL p ⟨.slice q1 p.mets.length r1, .slice q2 p.wins.length r2, .slice q3 p.crons.length r3, .slice q4 p.gs.length r4, .slice q5 p.fin.parts.length r5⟩) 32)
    have B4 := chid (B3.out.alloc B3.out.size (.cells (plL p ⟨.slice q1 p.mets.length r1, .slice q2 p.wins.length r2, .slice q3 p.crons.length r3, .slice q4 p.gs.length r4, .slice q5 p.fin.parts.length r5⟩).toArray 32))
    have K3 := chid ((Below.refl w3.heap.size w3).alloc (Nat.le_refl _) (.cells (plL p ⟨.slice q1 p.mets.length r1, .slice q2 p.wins.length r2, .slice q3 p.crons.length r3, .slice q4 p.gs.length r4, .slice q5 p.fin.parts.length r5⟩).toArray 32))
    obtain ⟨ga, hga⟩ : ∃ g, Hid (g = w3.heap.size) := ⟨_, rfl⟩
    have hga5 : Hid (s5 ≤ ga) := chid (by rw [hga.out]; exact CA.out.top)
    rw [← hga.out] at A0
    replace X0 := chid (X0.out.next K3.out)
    replace CA := chid (CA.out.keep K3.out.size (fun b _ h2 => K3.out.block b (Nat.lt_of_lt_of_le h2 CA.out.top)))
    go_wp2_with fail
    rw [← hga.out]
    generalize hw4 : w3.alloc _ = w4 at *
    clear hw4 B3 K3
    refine Calls.mono (HCp.out _ B4.out) ?_
    rintro e w5 ⟨ub, t0, t1, t2, t3, t4, t5, rfl, cb, ht0, b⟩
    have B5 := chid (cbelow_on B4.out b B4.out.size)
    have hgt : Hid (ga < t0) := chid (by have := A0.out.lt; omega)
    replace X0 := chid (X0.out.next b)
    replace A0 := chid (A0.out.next b)
    replace CA := chid (CA.out.keep b.size (fun k _ h2 => b.block k (Nat.lt_of_lt_of_le h2 CA.out.top)))
    obtain ⟨y1, z1, y2, z2, y3, z3, y4, z4, y5, z5, rfl, -, -, -, -⟩ := (HPl.out _ _ _ _ _ _ _ _ cb).shapes
    have CB := chid cb
    clear b B4 cb ht0
    clear x0 x1 x2 x3 x4 x5 x6 x7 x8 x9 x10 x11 x12 x13 xl
    have x0 := X0.out.cell 0 _ rfl
    have x1 := X0.out.cell 1 _ rfl
    have x2 := X0.out.cell 2 _ rfl
    have x3 := X0.out.cell 3 _ rfl
    have x4 := X0.out.cell 4 _ rfl
    have x5 := X0.out.cell 5 _ rfl
    have x6 := X0.out.cell 6 _ rfl
    have x7 := X0.out.cell 7 _ rfl
    have x8 := X0.out.cell 8 _ rfl
    have x9 := X0.out.cell 9 _ rfl
    have x10 := X0.out.cell 10 _ rfl
    have x11 := X0.out.cell 11 _ rfl
    have x12 := X0.out.cell 12 _ rfl
    have x13 := X0.out.cell 13 _ rfl
    have xl := X0.out.lt
    have h0 := A0.out.cell 0 _ rfl
    have h1 := A0.out.cell 1 _ rfl
    have h2 := A0.out.cell 2 _ rfl
    have h3 := A0.out.cell 3 _ rfl
    have h4 := A0.out.cell 4 _ rfl
    have h5 := A0.out.cell 5 _ rfl
    have h6 := A0.out.cell 6 _ rfl
    have h7 := A0.out.cell 7 _ rfl
    have h8 := A0.out.cell 8 _ rfl
    have h9 := A0.out.cell 9 _ rfl
    have h10 := A0.out.cell 10 _ rfl
    have h11 := A0.out.cell 11 _ rfl
    have h12 := A0.out.cell 12 _ rfl
    have h13 := A0.out.cell 13 _ rfl
    have hl := A0.out.lt
    have D0 := chid (Box.new w5 (plL p ⟨.slice y1 p.mets.length z1, .slice y2 p.wins.length z2, .slice y3 p.crons.length z3, .slice y4 p.gs.length z4, .slice y5 p.fin.parts.length z5⟩) 32)
    have B6 := chid (B5.out.alloc B5.out.size (.cells (plL p ⟨.slice y1 p.mets.length z1, .slice y2 p.wins.length z2, .slice y3 p.crons.length z3, .slice y4 p.gs.length z4, .slice y5 p.fin.parts.length z5⟩).toArray 32))
    have K5 := chid ((Below.refl w5.heap.size w5).alloc (Nat.le_refl _) (.cells (plL p ⟨.slice y1 p.mets.length z1, .slice y2 p.wins.length z2, .slice y3 p.crons.length z3, .slice y4 p.gs.length z4, .slice y5 p.fin.parts.length z5⟩).toArray 32))
    obtain ⟨gb, hgb⟩ : ∃ g, Hid (g = w5.heap.size) := ⟨_, rfl⟩
    have hgb5 : Hid (t5 ≤ gb) := chid (by rw [hgb.out]; exact CB.out.top)
    rw [← hgb.out] at D0
    replace X0 := chid (X0.out.next K5.out)
    replace A0 := chid (A0.out.next K5.out)
    replace CA := chid (CA.out.keep K5.out.size (fun b _ h2 => K5.out.block b (Nat.lt_of_lt_of_le h2 CA.out.top)))
    replace CB := chid (CB.out.keep K5.out.size (fun b _ h2 => K5.out.block b (Nat.lt_of_lt_of_le h2 CB.out.top)))
    go_wp2_with fail
    rw [← hgb.out]
    generalize hw6 : w5.alloc _ = w6 at *
    clear hw6 B5 K5
    refine Calls.mono (HSm.out ⟨.slice q1 p.mets.length r1, .slice q2 p.wins.length r2, .slice q3 p.crons.length r3, .slice q4 p.gs.length r4, .slice q5 p.fin.parts.length r5⟩ w6 (HPl.out _ _ _ _ _ _ _ _ CA.out) B6.out) ?_
    rintro e w7 ⟨rfl, b⟩
    have B7 := chid (cbelow_on B6.out b B6.out.size)
    replace X0 := chid (X0.out.next b)
    replace A0 := chid (A0.out.next b)
    replace D0 := chid (D0.out.next b)
    replace CA := chid (CA.out.keep b.size (fun k _ h2 => b.block k (Nat.lt_of_lt_of_le h2 CA.out.top)))
    replace CB := chid (CB.out.keep b.size (fun k _ h2 => b.block k (Nat.lt_of_lt_of_le h2 CB.out.top)))
    clear b B6
    clear x0 x1 x2 x3 x4 x5 x6 x7 x8 x9 x10 x11 x12 x13 xl
    clear h0 h1 h2 h3 h4 h5 h6 h7 h8 h9 h10 h11 h12 h13 hl
    have x0 := X0.out.cell 0 _ rfl
    have x1 := X0.out.cell 1 _ rfl
    have x2 := X0.out.cell 2 _ rfl
    have x3 := X0.out.cell 3 _ rfl
    have x4 := X0.out.cell 4 _ rfl
    have x5 := X0.out.cell 5 _ rfl
    have x6 := X0.out.cell 6 _ rfl
    have x7 := X0.out.cell 7 _ rfl
    have x8 := X0.out.cell 8 _ rfl
    have x9 := X0.out.cell 9 _ rfl
    have x10 := X0.out.cell 10 _ rfl
    have x11 := X0.out.cell 11 _ rfl
    have x12 := X0.out.cell 12 _ rfl
    have x13 := X0.out.cell 13 _ rfl
    have xl := X0.out.lt
    have h0 := D0.out.cell 0 _ rfl
    have h1 := D0.out.cell 1 _ rfl
    have h2 := D0.out.cell 2 _ rfl
    have h3 := D0.out.cell 3 _ rfl
    have h4 := D0.out.cell 4 _ rfl
    have h5 := D0.out.cell 5 _ rfl
    have h6 := D0.out.cell 6 _ rfl
    have h7 := D0.out.cell 7 _ rfl
    have h8 := D0.out.cell 8 _ rfl
    have h9 := D0.out.cell 9 _ rfl
    have h10 := D0.out.cell 10 _ rfl
    have h11 := D0.out.cell 11 _ rfl
    have h12 := D0.out.cell 12 _ rfl
    have h13 := D0.out.cell 13 _ rfl
    have hl := D0.out.lt
    go_wp2_with fail
    refine Calls.mono (HSm.out ⟨.slice y1 p.mets.length z1, .slice y2 p.wins.length z2, .slice y3 p.crons.length z3, .slice y4 p.gs.length z4, .slice y5 p.fin.parts.length z5⟩ w7 (HPl.out _ _ _ _ _ _ _ _ CB.out) B7.out) ?_
    rintro e w8 ⟨rfl, b⟩
    have B8 := chid (cbelow_on B7.out b B7.out.size)
    replace X0 := chid (X0.out.next b)
    replace A0 := chid (A0.out.next b)
    replace D0 := chid (D0.out.next b)
    replace CA := chid (CA.out.keep b.size (fun k _ h2 => b.block k (Nat.lt_of_lt_of_le h2 CA.out.top)))
    replace CB := chid (CB.out.keep b.size (fun k _ h2 => b.block k (Nat.lt_of_lt_of_le h2 CB.out.top)))
    clear b B7
    clear x0 x1 x2 x3 x4 x5 x6 x7 x8 x9 x10 x11 x12 x13 xl
    clear h0 h1 h2 h3 h4 h5 h6 h7 h8 h9 h10 h11 h12 h13 hl
    have h0 := A0.out.cell 0 _ rfl
    have h1 := A0.out.cell 1 _ rfl
    have h2 := A0.out.cell 2 _ rfl
    have h3 := A0.out.cell 3 _ rfl
    have h4 := A0.out.cell 4 _ rfl
    have h5 := A0.out.cell 5 _ rfl
    have h6 := A0.out.cell 6 _ rfl
    have h7 := A0.out.cell 7 _ rfl
    have h8 := A0.out.cell 8 _ rfl
    have h9 := A0.out.cell 9 _ rfl
    have h10 := A0.out.cell 10 _ rfl
    have h11 := A0.out.cell 11 _ rfl
    have h12 := A0.out.cell 12 _ rfl
    have h13 := A0.out.cell 13 _ rfl
    have hl := A0.out.lt
    go_wp2_with fail
    refine Calls.mono (HCq.out ⟨.slice q1 p.mets.length r1, .slice q2 p.wins.length r2, .slice q3 p.crons.length r3, .slice q4 p.gs.length r4, .slice q5 p.fin.parts.length r5⟩ w8 (HPl.out _ _ _ _ _ _ _ _ CA.out)) ?_
    rintro e w9 ⟨uc, u0, u1, u2, u3, u4, u5, rfl, cc, hu0, b⟩
    have hgu : Hid (gb < u0) := chid (by have := D0.out.lt; omega)
    have B9 := chid (cbelow_on B8.out b B8.out.size)
    replace X0 := chid (X0.out.next b)
    replace A0 := chid (A0.out.next b)
    replace D0 := chid (D0.out.next b)
    replace CA := chid (CA.out.keep b.size (fun k _ h2 => b.block k (Nat.lt_of_lt_of_le h2 CA.out.top)))
    replace CB := chid (CB.out.keep b.size (fun k _ h2 => b.block k (Nat.lt_of_lt_of_le h2 CB.out.top)))
    obtain ⟨f1, j1, f2, j2, f3, j3, f4, j4, f5, j5, rfl, -, -, -, -⟩ := (HPl.out _ _ _ _ _ _ _ _ cc).shapes
    have CC := chid cc
    clear b B8 cc hu0
    clear h0 h1 h2 h3 h4 h5 h6 h7 h8 h9 h10 h11 h12 h13 hl
    have h0 := A0.out.cell 0 _ rfl
    have h1 := A0.out.cell 1 _ rfl
    have h2 := A0.out.cell 2 _ rfl
    have h3 := A0.out.cell 3 _ rfl
    have h4 := A0.out.cell 4 _ rfl
    have h5 := A0.out.cell 5 _ rfl
    have h6 := A0.out.cell 6 _ rfl
    have h7 := A0.out.cell 7 _ rfl
    have h8 := A0.out.cell 8 _ rfl
    have h9 := A0.out.cell 9 _ rfl
    have h10 := A0.out.cell 10 _ rfl
    have h11 := A0.out.cell 11 _ rfl
    have h12 := A0.out.cell 12 _ rfl
    have h13 := A0.out.cell 13 _ rfl
    have hl := A0.out.lt
    have E0 := chid (Box.new w9 (plL p ⟨.slice f1 p.mets.length j1, .slice f2 p.wins.length j2, .slice f3 p.crons.length j3, .slice f4 p.gs.length j4, .slice f5 p.fin.parts.length j5⟩) 32)
    have B10 := chid (B9.out.alloc B9.out.size (.cells (plL p ⟨.slice f1 p.mets.length j1, .slice f2 p.wins.length j2, .slice f3 p.crons.length j3, .slice f4 p.gs.length j4, .slice f5 p.fin.parts.length j5⟩).toArray 32))
    have K9 := chid ((Below.refl w9.heap.size w9).alloc (Nat.le_refl _) (.cells (plL p ⟨.slice f1 p.mets.length j1, .slice f2 p.wins.length j2, .slice f3 p.crons.length j3, .slice f4 p.gs.length j4, .slice f5 p.fin.parts.length j5⟩).toArray 32))
    obtain ⟨gc, hgc⟩ : ∃ g, Hid (g = w9.heap.size) := ⟨_, rfl⟩
    have hgc5 : Hid (u5 ≤ gc) := chid (by rw [hgc.out]; exact CC.out.top)
    rw [← hgc.out] at E0
    replace X0 := chid (X0.out.next K9.out)
    replace A0 := chid (A0.out.next K9.out)
    replace D0 := chid (D0.out.next K9.out)
    replace CA := chid (CA.out.keep K9.out.size (fun b _ h2 => K9.out.block b (Nat.lt_of_lt_of_le h2 CA.out.top)))
    replace CB := chid (CB.out.keep K9.out.size (fun b _ h2 => K9.out.block b (Nat.lt_of_lt_of_le h2 CB.out.top)))
    replace CC := chid (CC.out.keep K9.out.size (fun b _ h2 => K9.out.block b (Nat.lt_of_lt_of_le h2 CC.out.top)))
    go_wp2_with fail
    rw [← hgc.out]
    generalize hw10 : w9.alloc _ = w10 at *
    clear hw10 B9 K9
    obtain ⟨r, hr0, hr5, hrm, hrq, hrf, cs0, hrow⟩ := CA.out.ranges
    refine Calls.mono (rCoresQ_c _ p ⟨.slice q1 p.mets.length r1, .slice q2 p.wins.length r2, .slice q3 p.crons.length r3, .slice q4 p.gs.length r4, .slice q5 p.fin.parts.length r5⟩ w10 (HPl.out _ _ _ _ _ _ _ _ CA.out) hrq hrf HP.out.gs) ?_
    rintro e w11 ⟨ul, xs, rfl, hxc, hown, hxq, b⟩
    have B11 := chid (cbelow_on B10.out b B10.out.size)
    replace X0 := chid (X0.out.next b)
    replace A0 := chid (A0.out.next b)
    replace D0 := chid (D0.out.next b)
    replace E0 := chid (E0.out.next b)
    have hs5 : Hid (s5 ≤ w10.heap.size) := CA.out.top
    replace CA := chid (CA.out.keep b.size (fun k _ h2 => b.block k (Nat.lt_of_lt_of_le h2 CA.out.top)))
    replace CB := chid (CB.out.keep b.size (fun k _ h2 => b.block k (Nat.lt_of_lt_of_le h2 CB.out.top)))
    replace CC := chid (CC.out.keep b.size (fun k _ h2 => b.block k (Nat.lt_of_lt_of_le h2 CC.out.top)))
    have RG := chid (hrow.rng (Rng.ofBelow (lo := 0) (hi := 0) b) (.inr (Nat.zero_le _)))
    obtain ⟨M, hM⟩ : ∃ M, Hid (M = 2 * p.gs.length + 1) := ⟨_, rfl⟩
    have hxl : Hid (xs.length = M) := chid (by have h := congrArg List.length hxc; rw [List.length_map, coresP_len] at h; rw [hM.out]; exact h)
    rw [← hM.out] at hr5 hrm
    have HM := chid (up_to hrm)
    have HWt : Hid (∀ j (h : j < xs.length), CWt xs[j].1) := fun j h => cwt_cores HP.out _ (by rw [← hxc]; exact List.mem_map_of_mem (List.getElem_mem h))
    have HQ0 : Hid (∀ j (h : j < xs.length), 0 ≤ j → CNew w11 xs[j].1 (r j) (r (j + 1)) xs[j].2) := fun j h _ => CNew.keep b.size _ _ _ _ (fun k _ h2 => b.block k (by have := HM.out (j + 1) M (by have := hxl.out; omega) (Nat.le_refl _); have := hs5.out; omega)) (hxq j h)
    obtain ⟨R0, hR0⟩ : ∃ x, Hid (x = r 0) := ⟨_, rfl⟩
    obtain ⟨R9, hR9⟩ : ∃ x, Hid (x = r M) := ⟨_, rfl⟩
    rw [← hR0.out] at RG hr0
    rw [← hR9.out] at hr5
    have h11 : Hid (w10.heap.size ≤ w11.heap.size) := b.size
    have HF : Hid (w.heap.size < s0 ∧ s0 ≤ s1 ∧ s1 ≤ s2 ∧ s2 ≤ s3 ∧ s3 ≤ R0 ∧ R0 ≤ R9 ∧ R9 ≤ s5 ∧ s5 ≤ ga ∧ ga < t0 ∧ t0 ≤ t5 ∧ t5 ≤ gb ∧ gb < u0 ∧ u0 ≤ u5 ∧ u5 ≤ gc ∧ s5 ≤ w10.heap.size ∧ w10.heap.size ≤ w11.heap.size) := by
      obtain ⟨e0, e1, e2, e3, e4⟩ := CA.out.le
      obtain ⟨i0, i1, i2, i3, i4⟩ := CB.out.le
      obtain ⟨o0, o1, o2, o3, o4⟩ := CC.out.le
      have k0 := HM.out 0 M (Nat.zero_le _) (Nat.le_refl _)
      rw [← hR0.out, ← hR9.out] at k0
      exact chid ⟨hs0w.out, e0, e1, e2, hr0, k0, hr5, hga5.out, hgt.out, by omega, hgb5.out, hgu.out, by omega, hgc5.out, hs5.out, h11.out⟩
    have hMp : Hid (0 < M) := chid (by rw [hM.out]; omega)
    have HM2 := HM
    clear hrow hrq hrf hr0 hr5 hrm hxq hs5 h11 hs0w hga5 hgt hgb5 hgu hgc5 B10 hga hgb hgc HAw HFw HCp HCq hxc hM b HM
    clear h0 h1 h2 h3 h4 h5 h6 h7 h8 h9 h10 h11 h12 h13 hl
    obtain ⟨hx1, ⟨hx2, hx3⟩ | ⟨gl, cl, cur, rfl, hgl, hx4, hx5, hx6, hx7, hx8⟩⟩ := hown
    · exact absurd hx3 (by have := hxl.out; have := hMp.out; omega)
    have BX : Hid (Box w11 gl (flC xs)) := (Box.ofBlock hx4).part (by rw [← hx8]; exact List.take_prefix _ _)
    have HGl := chid hgl
    have hM63 : M ≤ 9223372036854775807 := by have := hxl.out; unfold maxLen at hx6; omega
    clear hx1 hx4 hx5 hx6 hx7 hx8 hgl
    rw [hxl.out]
    go_wp2_with fail
    go_loopw [7] (fun i wr => ∃ k : Nat, i = .int .i64 (k : Nat) ∧ k ≤ M ∧ Hid (Rng R0 R9 w11 wr) ∧ Hid (∀ j (h : j < xs.length), k ≤ j → CNew wr xs[j].1 (r j) (r (j + 1)) xs[j].2)) (fun i _ => match i with | .int _ p => ((M : Int) - p).toNat | _ => 0)
    case atStart => exact ⟨0, rfl, by omega, Rng.refl _ _ _, HQ0⟩
    case round =>
      obtain ⟨k, rfl, hk, HR, HQ⟩ := hrel
      by_cases hlt : k < M
      · have hlt' : (k : Int) < (M : Int) := by omega
        have h1 : k < xs.length := by rw [hxl.out]; exact hlt
        have BXr := BX.out.rng HR.out (.inr (by have := HF.out; have := HGl.out; omega))
        have y0 : wr.cell? ⟨gl, k * 4, none⟩ = _ := BXr.cell (k * 4 + 0) _ (flC_at xs k h1 0 _ rfl)
        have y1 := BXr.cell (k * 4 + 1) _ (flC_at xs k h1 1 _ rfl)
        have y2 := BXr.cell (k * 4 + 2) _ (flC_at xs k h1 2 _ rfl)
        have y3 := BXr.cell (k * 4 + 3) _ (flC_at xs k h1 3 _ rfl)
        have yl := BXr.lt
        have hk1 := HM2.out 0 k (Nat.zero_le _) (by omega)
        have hk2 := HM2.out (k + 1) M (by omega) (Nat.le_refl _)
        have hwz := HR.out.size
        have HSp := chid (spoil_c xs[k].1 (HWt.out k h1) (r k) (r (k + 1)) xs[k].2 wr (HQ.out k h1 (Nat.le_refl _)) (by have := HF.out; have := hR9.out; omega))
        have HNx : Hid (∀ w13, Rng (r k) (r (k + 1)) wr w13 → Hid (Rng R0 R9 w11 w13) ∧ Hid (∀ j (h : j < xs.length), k + 1 ≤ j → CNew w13 xs[j].1 (r j) (r (j + 1)) xs[j].2)) := fun w13 R1 => ⟨chid (HR.out.trans (R1.wide (by have := hR0.out; omega) (by have := hR9.out; omega))), fun j hj hkj => CNew.keep R1.size _ _ _ _ (fun b g1 g2 => R1.block b (by have := HM2.out (j + 1) M (by have := hxl.out; omega) (Nat.le_refl _); have := hR9.out; have := HF.out; omega) (by have := HM2.out (k + 1) j hkj (by have := hxl.out; omega); omega)) (HQ.out j hj (by omega))⟩
        clear BXr HQ HR hk1 hk2 hwz
        generalize xs[k] = x at *
        go_wp2_with fail
        refine Calls.mono HSp.out ?_
        rintro e w13 ⟨rr, rfl, R1⟩
        obtain ⟨N1, N2⟩ := HNx.out _ R1
        go_wp2_with fail
        go_roundw
        case rel => exact ⟨k + 1, by go_num, by omega, N1, N2⟩
        case measure => simp; omega
      · have hlt' : ¬ (k : Int) < (M : Int) := by omega
        clear HQ HQ0 HWt BX hk hlt
        go_wp2_with fail
        generalize wr = w12 at *
        replace RG := chid (RG.out.rng HR.out (.inl (Nat.le_refl _)))
        have RW := chid (CA.out.wi.rng HR.out (.inl (by have := HF.out; omega)))
        have RC := chid (CA.out.cr.rng HR.out (.inl (by have := HF.out; omega)))
        have RM := chid (CA.out.me.rng HR.out (.inl (by have := HF.out; omega)))
        replace X0 := chid (X0.out.rng HR.out (.inl (by have := HF.out; omega)))
        replace A0 := chid (A0.out.rng HR.out (.inr (by have := HF.out; omega)))
        replace D0 := chid (D0.out.rng HR.out (.inr (by have := HF.out; omega)))
        replace E0 := chid (E0.out.rng HR.out (.inr (by have := HF.out; omega)))
        replace CB := chid (CB.out.rng HR.out (.inr (by have := HF.out; omega)))
        replace CC := chid (CC.out.rng HR.out (.inr (by have := HF.out; omega)))
        have B12 := chid (Rng.below B11.out HR.out (by have := HF.out; omega) B11.out.size)
        have B16 : Hid (s5 ≤ w12.heap.size) := chid (by have h1 := HF.out; have h2 := HR.out.size; omega)
        clear CA HR B11
        have hl1 : p.gs.length * 96 ≤ 140737488355328 := HP.out.gs
        have hl2 : p.wins.length * 32 ≤ 140737488355328 := HP.out.wi
        have hl3 : p.crons.length * 40 ≤ 140737488355328 := HP.out.cr
        have hl4 : p.mets.length * 16 ≤ 140737488355328 := HP.out.me
        go_loopw [8] (fun i wr => ∃ (k : Nat) (cs : List Value), i = .int .i64 (k : Nat) ∧ k ≤ p.gs.length ∧ Hid (RowIn wr s3 R0 40 8 (.slice q4 p.gs.length r4) p.gs.length cs) ∧ Hid (Rng s3 R0 w12 wr)) (fun i _ => match i with | .int _ z => ((p.gs.length : Int) - z).toNat | _ => 0)
        case atStart => exact ⟨0, _, rfl, by omega, RG, Rng.refl _ _ _⟩
        case round =>
          obtain ⟨k, cs, rfl, hk, HRw, HRg⟩ := hrel
          have Ar := A0.out.rng HRg.out (.inr (by have := HF.out; omega))
          have a9 := Ar.cell 9 _ rfl
          have al := Ar.lt
          by_cases hlt : k < p.gs.length
          · have hlt' : (k : Int) < (p.gs.length : Int) := by omega
            obtain ⟨g, rfl⟩ := HRw.out.form (by omega)
            obtain ⟨⟨v0, z0⟩, f0, zl, -, -⟩ := HRw.out.at (k * 8) (by omega)
            obtain ⟨⟨v1, z1⟩, f1, -⟩ := HRw.out.at (k * 8 + 1) (by omega)
            obtain ⟨⟨v2, z2⟩, f2, -⟩ := HRw.out.at (k * 8 + 2) (by omega)
            obtain ⟨⟨v3, z3⟩, f3, -⟩ := HRw.out.at (k * 8 + 3) (by omega)
            obtain ⟨⟨v4, z4⟩, f4, -⟩ := HRw.out.at (k * 8 + 4) (by omega)
            obtain ⟨⟨v5, z5⟩, f5, -⟩ := HRw.out.at (k * 8 + 5) (by omega)
            obtain ⟨⟨v6, z6⟩, f6, -⟩ := HRw.out.at (k * 8 + 6) (by omega)
            obtain ⟨⟨v7, z7⟩, f7, -⟩ := HRw.out.at (k * 8 + 7) (by omega)
            have HPut := chid (fun (u0 u1 u2 u3 u4 u5 u6 u7 : Value) => And.intro ((((((((HRw.out.put (k * 8) u0).1.put (k * 8 + 1) u1).1.put (k * 8 + 2) u2).1.put (k * 8 + 3) u3).1.put (k * 8 + 4) u4).1.put (k * 8 + 5) u5).1.put (k * 8 + 6) u6).1.put (k * 8 + 7) u7).1 (HRg.out.trans ((HRw.out.put (k * 8) u0).2.trans (((HRw.out.put (k * 8) u0).1.put (k * 8 + 1) u1).2.trans ((((HRw.out.put (k * 8) u0).1.put (k * 8 + 1) u1).1.put (k * 8 + 2) u2).2.trans (((((HRw.out.put (k * 8) u0).1.put (k * 8 + 1) u1).1.put (k * 8 + 2) u2).1.put (k * 8 + 3) u3).2.trans ((((((HRw.out.put (k * 8) u0).1.put (k * 8 + 1) u1).1.put (k * 8 + 2) u2).1.put (k * 8 + 3) u3).1.put (k * 8 + 4) u4).2.trans (((((((HRw.out.put (k * 8) u0).1.put (k * 8 + 1) u1).1.put (k * 8 + 2) u2).1.put (k * 8 + 3) u3).1.put (k * 8 + 4) u4).1.put (k * 8 + 5) u5).2.trans ((((((((HRw.out.put (k * 8) u0).1.put (k * 8 + 1) u1).1.put (k * 8 + 2) u2).1.put (k * 8 + 3) u3).1.put (k * 8 + 4) u4).1.put (k * 8 + 5) u5).1.put (k * 8 + 6) u6).2.trans (((((((((HRw.out.put (k * 8) u0).1.put (k * 8 + 1) u1).1.put (k * 8 + 2) u2).1.put (k * 8 + 3) u3).1.put (k * 8 + 4) u4).1.put (k * 8 + 5) u5).1.put (k * 8 + 6) u6).1.put (k * 8 + 7) u7).2))))))))))
            clear Ar HRw HRg
            go_wp2_with fail
            go_roundw
            case rel => exact ⟨k + 1, _, by go_num, by omega, chid (HPut.out _ _ _ _ _ _ _ _).1, chid (HPut.out _ _ _ _ _ _ _ _).2⟩
            case measure => simp; omega
          · have hlt' : ¬ (k : Int) < (p.gs.length : Int) := by omega
            clear Ar hk hlt
            go_wp2_with fail
            generalize wr = w13 at *
            replace RW := chid (RW.out.rng HRg.out (.inl (by have := HF.out; omega)))
            replace RC := chid (RC.out.rng HRg.out (.inl (by have := HF.out; omega)))
            replace RM := chid (RM.out.rng HRg.out (.inl (by have := HF.out; omega)))
            replace X0 := chid (X0.out.rng HRg.out (.inl (by have := HF.out; omega)))
            replace A0 := chid (A0.out.rng HRg.out (.inr (by have := HF.out; omega)))
            replace D0 := chid (D0.out.rng HRg.out (.inr (by have := HF.out; omega)))
            replace E0 := chid (E0.out.rng HRg.out (.inr (by have := HF.out; omega)))
            replace CB := chid (CB.out.rng HRg.out (.inr (by have := HF.out; omega)))
            replace CC := chid (CC.out.rng HRg.out (.inr (by have := HF.out; omega)))
            replace RG := HRw
            replace B12 := chid (Rng.below B12.out HRg.out (by have := HF.out; omega) B12.out.size)
            replace B16 : Hid (s5 ≤ _) := Nat.le_trans B16.out HRg.out.size
            clear HRg HRw a9 al
            go_loopw [9] (fun i wr => ∃ (k : Nat) (cs : List Value), i = .int .i64 (k : Nat) ∧ k ≤ p.wins.length ∧ Hid (RowIn wr s1 s2 42 4 (.slice q2 p.wins.length r2) p.wins.length cs) ∧ Hid (Rng s1 s2 w13 wr)) (fun i _ => match i with | .int _ z => ((p.wins.length : Int) - z).toNat | _ => 0)
            case atStart => exact ⟨0, _, rfl, by omega, RW, Rng.refl _ _ _⟩
            case round =>
              obtain ⟨k, cs, rfl, hk, HRw, HRg⟩ := hrel
              have Ar := A0.out.rng HRg.out (.inr (by have := HF.out; omega))
              have a9 := Ar.cell 6 _ rfl
              have al := Ar.lt
              by_cases hlt : k < p.wins.length
              · have hlt' : (k : Int) < (p.wins.length : Int) := by omega
                obtain ⟨g, rfl⟩ := HRw.out.form (by omega)
                obtain ⟨⟨v0, z0⟩, f0, zl, -, -⟩ := HRw.out.at (k * 4) (by omega)
                obtain ⟨⟨v1, z1⟩, f1, -⟩ := HRw.out.at (k * 4 + 1) (by omega)
                obtain ⟨⟨v2, z2⟩, f2, -⟩ := HRw.out.at (k * 4 + 2) (by omega)
                obtain ⟨⟨v3, z3⟩, f3, -⟩ := HRw.out.at (k * 4 + 3) (by omega)
                have HPut := chid (fun (u0 u1 u2 u3 : Value) => And.intro ((((HRw.out.put (k * 4) u0).1.put (k * 4 + 1) u1).1.put (k * 4 + 2) u2).1.put (k * 4 + 3) u3).1 (HRg.out.trans ((HRw.out.put (k * 4) u0).2.trans (((HRw.out.put (k * 4) u0).1.put (k * 4 + 1) u1).2.trans ((((HRw.out.put (k * 4) u0).1.put (k * 4 + 1) u1).1.put (k * 4 + 2) u2).2.trans (((((HRw.out.put (k * 4) u0).1.put (k * 4 + 1) u1).1.put (k * 4 + 2) u2).1.put (k * 4 + 3) u3).2))))))
                clear Ar HRw HRg
                go_wp2_with fail
                go_roundw
                case rel => exact ⟨k + 1, _, by go_num, by omega, chid (HPut.out _ _ _ _).1, chid (HPut.out _ _ _ _).2⟩
                case measure => simp; omega
              · have hlt' : ¬ (k : Int) < (p.wins.length : Int) := by omega
                clear Ar hk hlt
                go_wp2_with fail
                generalize wr = w14 at *
                replace RG := chid (RG.out.rng HRg.out (.inr (by have := HF.out; omega)))
                replace RC := chid (RC.out.rng HRg.out (.inr (by have := HF.out; omega)))
                replace RM := chid (RM.out.rng HRg.out (.inl (by have := HF.out; omega)))
                replace X0 := chid (X0.out.rng HRg.out (.inl (by have := HF.out; omega)))
                replace A0 := chid (A0.out.rng HRg.out (.inr (by have := HF.out; omega)))
                replace D0 := chid (D0.out.rng HRg.out (.inr (by have := HF.out; omega)))
                replace E0 := chid (E0.out.rng HRg.out (.inr (by have := HF.out; omega)))
                replace CB := chid (CB.out.rng HRg.out (.inr (by have := HF.out; omega)))
                replace CC := chid (CC.out.rng HRg.out (.inr (by have := HF.out; omega)))
                replace RW := HRw
                replace B12 := chid (Rng.below B12.out HRg.out (by have := HF.out; omega) B12.out.size)
                replace B16 : Hid (s5 ≤ _) := Nat.le_trans B16.out HRg.out.size
                clear HRg HRw a9 al
                go_loopw [10] (fun i wr => ∃ (k : Nat) (cs : List Value), i = .int .i64 (k : Nat) ∧ k ≤ p.crons.length ∧ Hid (RowIn wr s2 s3 45 5 (.slice q3 p.crons.length r3) p.crons.length cs) ∧ Hid (Rng s2 s3 w14 wr)) (fun i _ => match i with | .int _ z => ((p.crons.length : Int) - z).toNat | _ => 0)
                case atStart => exact ⟨0, _, rfl, by omega, RC, Rng.refl _ _ _⟩
                case round =>
                  obtain ⟨k, cs, rfl, hk, HRw, HRg⟩ := hrel
                  have Ar := A0.out.rng HRg.out (.inr (by have := HF.out; omega))
                  have a9 := Ar.cell 7 _ rfl
                  have al := Ar.lt
                  by_cases hlt : k < p.crons.length
                  · have hlt' : (k : Int) < (p.crons.length : Int) := by omega
                    obtain ⟨g, rfl⟩ := HRw.out.form (by omega)
                    obtain ⟨⟨v0, z0⟩, f0, zl, -, -⟩ := HRw.out.at (k * 5) (by omega)
                    obtain ⟨⟨v1, z1⟩, f1, -⟩ := HRw.out.at (k * 5 + 1) (by omega)
                    obtain ⟨⟨v2, z2⟩, f2, -⟩ := HRw.out.at (k * 5 + 2) (by omega)
                    obtain ⟨⟨v3, z3⟩, f3, -⟩ := HRw.out.at (k * 5 + 3) (by omega)
                    obtain ⟨⟨v4, z4⟩, f4, -⟩ := HRw.out.at (k * 5 + 4) (by omega)
                    have HPut := chid (fun (u0 u1 u2 u3 u4 : Value) => And.intro (((((HRw.out.put (k * 5) u0).1.put (k * 5 + 1) u1).1.put (k * 5 + 2) u2).1.put (k * 5 + 3) u3).1.put (k * 5 + 4) u4).1 (HRg.out.trans ((HRw.out.put (k * 5) u0).2.trans (((HRw.out.put (k * 5) u0).1.put (k * 5 + 1) u1).2.trans ((((HRw.out.put (k * 5) u0).1.put (k * 5 + 1) u1).1.put (k * 5 + 2) u2).2.trans (((((HRw.out.put (k * 5) u0).1.put (k * 5 + 1) u1).1.put (k * 5 + 2) u2).1.put (k * 5 + 3) u3).2.trans ((((((HRw.out.put (k * 5) u0).1.put (k * 5 + 1) u1).1.put (k * 5 + 2) u2).1.put (k * 5 + 3) u3).1.put (k * 5 + 4) u4).2)))))))
                    clear Ar HRw HRg
                    go_wp2_with fail
                    go_roundw
                    case rel => exact ⟨k + 1, _, by go_num, by omega, chid (HPut.out _ _ _ _ _).1, chid (HPut.out _ _ _ _ _).2⟩
                    case measure => simp; omega
                  · have hlt' : ¬ (k : Int) < (p.crons.length : Int) := by omega
                    clear Ar hk hlt
                    go_wp2_with fail
                    generalize wr = w15 at *
                    replace RG := chid (RG.out.rng HRg.out (.inr (by have := HF.out; omega)))
                    replace RW := chid (RW.out.rng HRg.out (.inl (by have := HF.out; omega)))
                    replace RM := chid (RM.out.rng HRg.out (.inl (by have := HF.out; omega)))
                    replace X0 := chid (X0.out.rng HRg.out (.inl (by have := HF.out; omega)))
                    replace A0 := chid (A0.out.rng HRg.out (.inr (by have := HF.out; omega)))
                    replace D0 := chid (D0.out.rng HRg.out (.inr (by have := HF.out; omega)))
                    replace E0 := chid (E0.out.rng HRg.out (.inr (by have := HF.out; omega)))
                    replace CB := chid (CB.out.rng HRg.out (.inr (by have := HF.out; omega)))
                    replace CC := chid (CC.out.rng HRg.out (.inr (by have := HF.out; omega)))
                    replace RC := HRw
                    replace B12 := chid (Rng.below B12.out HRg.out (by have := HF.out; omega) B12.out.size)
                    replace B16 : Hid (s5 ≤ _) := Nat.le_trans B16.out HRg.out.size
                    clear HRg HRw a9 al
                    go_loopw [11] (fun i wr => ∃ (k : Nat) (cs : List Value), i = .int .i64 (k : Nat) ∧ k ≤ p.mets.length ∧ Hid (RowIn wr s0 s1 9 1 (.slice q1 p.mets.length r1) p.mets.length cs) ∧ Hid (Rng s0 s1 w15 wr)) (fun i _ => match i with | .int _ z => ((p.mets.length : Int) - z).toNat | _ => 0)
                    case atStart => exact ⟨0, _, rfl, by omega, RM, Rng.refl _ _ _⟩
                    case round =>
                      obtain ⟨k, cs, rfl, hk, HRw, HRg⟩ := hrel
                      have Ar := A0.out.rng HRg.out (.inr (by have := HF.out; omega))
                      have a9 := Ar.cell 0 _ rfl
                      have al := Ar.lt
                      by_cases hlt : k < p.mets.length
                      · have hlt' : (k : Int) < (p.mets.length : Int) := by omega
                        obtain ⟨g, rfl⟩ := HRw.out.form (by omega)
                        obtain ⟨⟨v0, z0⟩, f0, zl, -, -⟩ := HRw.out.at (k) (by omega)
                        have HPut := chid (fun (u0 : Value) => And.intro (HRw.out.put (k) u0).1 (HRg.out.trans ((HRw.out.put (k) u0).2)))
                        clear Ar HRw HRg
                        go_wp2_with fail
                        go_roundw
                        case rel => exact ⟨k + 1, _, by go_num, by omega, chid (HPut.out _).1, chid (HPut.out _).2⟩
                        case measure => simp; omega
                      · have hlt' : ¬ (k : Int) < (p.mets.length : Int) := by omega
                        clear Ar hk hlt
                        generalize wr = w16 at *
                        replace RG := chid (RG.out.rng HRg.out (.inr (by have := HF.out; omega)))
                        replace RW := chid (RW.out.rng HRg.out (.inr (by have := HF.out; omega)))
                        replace X0 := chid (X0.out.rng HRg.out (.inl (by have := HF.out; omega)))
                        replace A0 := chid (A0.out.rng HRg.out (.inr (by have := HF.out; omega)))
                        replace D0 := chid (D0.out.rng HRg.out (.inr (by have := HF.out; omega)))
                        replace E0 := chid (E0.out.rng HRg.out (.inr (by have := HF.out; omega)))
                        replace CB := chid (CB.out.rng HRg.out (.inr (by have := HF.out; omega)))
                        replace CC := chid (CC.out.rng HRg.out (.inr (by have := HF.out; omega)))
                        replace RM := HRw
                        replace B12 := chid (Rng.below B12.out HRg.out (by have := HF.out; omega) B12.out.size)
                        replace B16 : Hid (s5 ≤ _) := Nat.le_trans B16.out HRg.out.size
                        clear HRg HRw a9 al
                        clear RM RC
                        have k0 := A0.out.cell 0 _ rfl
                        have k6 := A0.out.cell 6 _ rfl
                        have k9 := A0.out.cell 9 _ rfl
                        have kl := A0.out.lt
                        obtain ⟨i0, hi, hz0, hz1, hz2⟩ := info_guard'
                        obtain ⟨i1, zz, hj, hk0, hks, hk1, hk2⟩ := info_Wi'
                        have hsw : w.heap.size ≤ w16.heap.size := B12.out.size
                        have hs3 : s3 ≤ w16.heap.size := by have h1 := HF.out; have h2 := B16.out; omega
                        go_wp2_with (at_builtin; refine wpList_append_own_wide _ rfl _ _ 27 rfl s3 40 i0 gz0 8 96 Tryz.underlying27 hi hz0 hz1 hz2 rfl (by decide) _ _ _ rfl (RG.out.2.1.alloc _) ⟨_, 0, none⟩ 1 1 [.int .i64 0, .int .i64 0, .int .i64 0, .slice none 0 0, .int .i64 0, .int .i64 0, .int .i64 0, .slice none 0 0] rfl rfl (by first | exact ck_new_cells _ _ _ | (intro jj u hu; simpa using ck_new_cells _ _ _ jj u hu)) (by intro u hu; simp only [List.mem_cons, List.not_mem_nil, or_false] at hu; rcases hu with rfl | rfl | rfl | rfl | rfl | rfl | rfl | rfl <;> rfl) (by unfold maxLen; omega) (by omega) (by simp; omega) ?_)
                        intro v1 w17 ho1 hg1 _
                        have R17 := chid (RG.out.grew _ hg1)
                        obtain ⟨g7, c7, rfl, -, -⟩ := ho1.form (by omega)
                        clear ho1 hg1 k0 k6 k9 kl
                        replace X0 := chid (X0.out.rng R17.out (.inl (by have := HF.out; omega)))
                        replace D0 := chid (D0.out.rng R17.out (.inr (by have := HF.out; omega)))
                        replace E0 := chid (E0.out.rng R17.out (.inr (by have := HF.out; omega)))
                        replace CB := chid (CB.out.rng R17.out (.inr (by have := HF.out; omega)))
                        replace CC := chid (CC.out.rng R17.out (.inr (by have := HF.out; omega)))
                        replace A0 := chid (A0.out.rng R17.out (.inr (by have := HF.out; omega)))
                        replace RW := chid (RW.out.rng R17.out (.inl (by have := HF.out; omega)))
                        replace B12 := chid (Rng.below B12.out R17.out (by have := HF.out; omega) B12.out.size)
                        replace B16 : Hid (s5 ≤ _) := Nat.le_trans B16.out R17.out.size
                        have HS9 := chid (fun v => Rng.set (lo := ga) (hi := ga + 1) w17 ⟨ga, 9, none⟩ v (Nat.le_refl _) (Nat.lt_succ_self _))
                        have HW2 := chid (fun v => RW.out.rng (HS9.out v) (.inl (by have := HF.out; omega)))
                        have k6 := A0.out.cell 6 _ rfl
                        have k9 := A0.out.cell 9 _ rfl
                        have f9 := A0.out.free 9 (by simp)
                        have kl := A0.out.lt
                        have hs1 : s1 ≤ w17.heap.size := by have h1 := HF.out; have h2 := B16.out; omega
                        clear RG R17
                        go_wp2_with (at_builtin; refine wpList_append_own_wide _ rfl _ _ 25 rfl s1 42 i1 zz 4 32 Tryz.underlying25 hj hk0 hk1 hk2 hks (by decide) _ _ _ rfl ((HW2.out (.slice (some ⟨g7, 0, none⟩) (p.gs.length + 1) c7)).2.1.alloc _) ⟨_, 0, none⟩ 1 1 [.int .i64 0, .int .i64 0, .int .i64 0, .int .i64 0] rfl rfl (by exact ck_new_cells' _ _ _ _ (by simp)) (by intro u hu; simp only [List.mem_cons, List.not_mem_nil, or_false] at hu; rcases hu with rfl | rfl | rfl | rfl <;> rfl) (by unfold maxLen; omega) (by omega) (by have h := (HS9.out (.slice (some ⟨g7, 0, none⟩) (p.gs.length + 1) c7)).size; simp at h ⊢; omega) ?_)
                        intro v2 w18 ho2 hg2 _
                        have R18a := (HW2.out (.slice (some ⟨g7, 0, none⟩) (p.gs.length + 1) c7)).grew _ hg2
                        have R18 := chid (((HS9.out _).wide (lo' := s1) (hi' := ga + 1) (by have := HF.out; omega) (Nat.le_refl _)).trans (R18a.wide (Nat.le_refl _) (by have := HF.out; omega)))
                        have A18 := (A0.out.set 9 (by simp) (.slice (some ⟨g7, 0, none⟩) (p.gs.length + 1) c7)).rng R18a (.inr (by have := HF.out; omega))
                        obtain ⟨g8, c8, rfl, -, -⟩ := ho2.form (by omega)
                        clear ho2 hg2 HW2 RW R18a k6 k9 f9 kl
                        replace X0 := chid (X0.out.rng R18.out (.inl (by have := HF.out; omega)))
                        replace D0 := chid (D0.out.rng R18.out (.inr (by have := HF.out; omega)))
                        replace E0 := chid (E0.out.rng R18.out (.inr (by have := HF.out; omega)))
                        replace CB := chid (CB.out.rng R18.out (.inr (by have := HF.out; omega)))
                        replace CC := chid (CC.out.rng R18.out (.inr (by have := HF.out; omega)))
                        replace B12 := chid (Rng.below B12.out R18.out (by have := HF.out; omega) B12.out.size)
                        have k6 := A18.cell 6 _ rfl
                        have f6 := A18.free 6 (by simp)
                        have kl := A18.lt
                        have RS := Rng.set (lo := ga) (hi := ga + 1) w18 ⟨ga, 6, none⟩ (.slice (some ⟨g8, 0, none⟩) (p.wins.length + 1) c8) (Nat.le_refl _) (Nat.lt_succ_self _)
                        have x0 := X0.out.cell 0 _ rfl
                        have h0 := D0.out.cell 0 _ rfl
                        have x1 := X0.out.cell 1 _ rfl
                        have h1 := D0.out.cell 1 _ rfl
                        have x2 := X0.out.cell 2 _ rfl
                        have h2 := D0.out.cell 2 _ rfl
                        have x3 := X0.out.cell 3 _ rfl
                        have h3 := D0.out.cell 3 _ rfl
                        have x4 := X0.out.cell 4 _ rfl
                        have h4 := D0.out.cell 4 _ rfl
                        have x5 := X0.out.cell 5 _ rfl
                        have h5 := D0.out.cell 5 _ rfl
                        have x6 := X0.out.cell 6 _ rfl
                        have h6 := D0.out.cell 6 _ rfl
                        have x7 := X0.out.cell 7 _ rfl
                        have h7 := D0.out.cell 7 _ rfl
                        have x8 := X0.out.cell 8 _ rfl
                        have h8 := D0.out.cell 8 _ rfl
                        have x9 := X0.out.cell 9 _ rfl
                        have h9 := D0.out.cell 9 _ rfl
                        have x10 := X0.out.cell 10 _ rfl
                        have h10 := D0.out.cell 10 _ rfl
                        have x11 := X0.out.cell 11 _ rfl
                        have h11 := D0.out.cell 11 _ rfl
                        have x12 := X0.out.cell 12 _ rfl
                        have h12 := D0.out.cell 12 _ rfl
                        have x13 := X0.out.cell 13 _ rfl
                        have h13 := D0.out.cell 13 _ rfl
                        have xl := X0.out.lt
                        have hl := D0.out.lt
                        have n1 : ¬ w.heap.size = ga := by have := HF.out; omega
                        have n2 : ¬ gb = ga := by have := HF.out; omega
                        have n1' : ¬ ga = w.heap.size := fun e => n1 e.symm
                        have n2' : ¬ ga = gb := fun e => n2 e.symm
                        replace X0 := chid (X0.out.rng RS (.inl (by have := HF.out; omega)))
                        replace D0 := chid (D0.out.rng RS (.inr (by have := HF.out; omega)))
                        replace E0 := chid (E0.out.rng RS (.inr (by have := HF.out; omega)))
                        replace CB := chid (CB.out.rng RS (.inr (by have := HF.out; omega)))
                        replace CC := chid (CC.out.rng RS (.inr (by have := HF.out; omega)))
                        replace B12 := chid (Rng.below B12.out RS (by have := HF.out; omega) B12.out.size)
                        clear RS A18 HS9 R18
                        go_wp2_with fail
                        generalize w18.setCell ⟨ga, 6, none⟩ (.slice (some ⟨g8, 0, none⟩) (p.wins.length + 1) c8) = w19 at *
                        clear x0 h0 x1 h1 x2 h2 x3 h3 x4 h4 x5 h5 x6 h6 x7 h7 x8 h8 x9 h9 x10 h10 x11 h11 x12 h12 x13 h13 xl hl n1 n2 n1' n2' k6 f6 kl
                        refine Calls.mono (HSm.out ⟨.slice y1 p.mets.length z1, .slice y2 p.wins.length z2, .slice y3 p.crons.length z3, .slice y4 p.gs.length z4, .slice y5 p.fin.parts.length z5⟩ w19 (HPl.out _ _ _ _ _ _ _ _ CB.out) B12.out) ?_
                        rintro e w20 ⟨rfl, b⟩
                        have B20 := chid (cbelow_on B12.out b B12.out.size)
                        replace X0 := chid (X0.out.next b)
                        replace E0 := chid (E0.out.next b)
                        replace CC := chid (CC.out.keep b.size (fun k _ h2 => b.block k (Nat.lt_of_lt_of_le h2 CC.out.top)))
                        clear b B12 CB D0
                        have x0 := X0.out.cell 0 _ rfl
                        have h0 := E0.out.cell 0 _ rfl
                        have x1 := X0.out.cell 1 _ rfl
                        have h1 := E0.out.cell 1 _ rfl
                        have x2 := X0.out.cell 2 _ rfl
                        have h2 := E0.out.cell 2 _ rfl
                        have x3 := X0.out.cell 3 _ rfl
                        have h3 := E0.out.cell 3 _ rfl
                        have x4 := X0.out.cell 4 _ rfl
                        have h4 := E0.out.cell 4 _ rfl
                        have x5 := X0.out.cell 5 _ rfl
                        have h5 := E0.out.cell 5 _ rfl
                        have x6 := X0.out.cell 6 _ rfl
                        have h6 := E0.out.cell 6 _ rfl
                        have x7 := X0.out.cell 7 _ rfl
                        have h7 := E0.out.cell 7 _ rfl
                        have x8 := X0.out.cell 8 _ rfl
                        have h8 := E0.out.cell 8 _ rfl
                        have x9 := X0.out.cell 9 _ rfl
                        have h9 := E0.out.cell 9 _ rfl
                        have x10 := X0.out.cell 10 _ rfl
                        have h10 := E0.out.cell 10 _ rfl
                        have x11 := X0.out.cell 11 _ rfl
                        have h11 := E0.out.cell 11 _ rfl
                        have x12 := X0.out.cell 12 _ rfl
                        have h12 := E0.out.cell 12 _ rfl
                        have x13 := X0.out.cell 13 _ rfl
                        have h13 := E0.out.cell 13 _ rfl
                        have xl := X0.out.lt
                        have hl := E0.out.lt
                        go_wp2_with fail
                        refine Calls.mono (HSm.out ⟨.slice f1 p.mets.length j1, .slice f2 p.wins.length j2, .slice f3 p.crons.length j3, .slice f4 p.gs.length j4, .slice f5 p.fin.parts.length j5⟩ w20 (HPl.out _ _ _ _ _ _ _ _ CC.out) B20.out) ?_
                        rintro e w21 ⟨rfl, b⟩
                        have B21 := chid (cbelow_on B20.out b B20.out.size)
                        clear x0 h0 x1 h1 x2 h2 x3 h3 x4 h4 x5 h5 x6 h6 x7 h7 x8 h8 x9 h9 x10 h10 x11 h11 x12 h12 x13 h13 xl hl b
                        go_wp2_with fail
                        go_ret
                        exact ⟨rfl, B21.out⟩
end Go.Proofs.YtpkknifbocfeaaaGreatDoor
