/- Package codec: the law CodecKeeps walked. -/
import Derived.Test.YtgfimpphpadmgaaDoorDcV
namespace Go.Proofs.YtgfimpphpadmgaaDoor
open Go.RowKit

/-- Blocks outside of a range are as they were. -/
structure Rng (lo hi : Nat) (w w' : World) : Prop where
  os : w'.os = w.os
  tape : w'.tape = w.tape
  output : w'.output = w.output
  size : w.heap.size ≤ w'.heap.size
  block : ∀ k, k < w.heap.size → (k < lo ∨ hi ≤ k) → w'.heap[k]? = w.heap[k]?
theorem Rng.refl (lo hi : Nat) (w : World) : Rng lo hi w w := ⟨rfl, rfl, rfl, Nat.le_refl _, fun _ _ _ => rfl⟩
theorem Rng.of_turn {S : List Nat} {lo hi : Nat} {w w' : World} (t : Turn S w w') (hS : ∀ k, k ∈ S → lo ≤ k ∧ k < hi) : Rng lo hi w w' :=
  ⟨t.os, t.tape, t.output, t.size, fun k hk ho => t.block k hk (fun hm => by have := hS k hm; omega)⟩
theorem Rng.trans {lo hi : Nat} {a b c : World} (h : Rng lo hi a b) (k : Rng lo hi b c) : Rng lo hi a c :=
  ⟨k.os.trans h.os, k.tape.trans h.tape, k.output.trans h.output, Nat.le_trans h.size k.size, fun i hi' ho => (k.block i (Nat.lt_of_lt_of_le hi' h.size) ho).trans (h.block i hi' ho)⟩
theorem Rng.below {B lo hi : Nat} {w w0 w' : World} (h : Below B w w0) (r : Rng lo hi w0 w') (hB : B ≤ lo) (hs : B ≤ w0.heap.size) : Below B w w' :=
  ⟨r.os.trans h.os, r.tape.trans h.tape, r.output.trans h.output, Nat.le_trans h.size r.size, fun k hk => (r.block k (by omega) (by omega)).trans (h.block k hk)⟩
/-- A row of one's own, in a range of blocks. -/
def RowIn (w : World) (lo hi : Nat) (e : TypeId) (k : Nat) (v : Value) (n : Nat) (xs : List Value) : Prop := w.ownsRow lo e k v n xs ∧ (∀ g, v.ownBlock = some g → g < hi) ∧ hi ≤ w.heap.size
theorem RowIn.of {w : World} {lo : Nat} {e : TypeId} {k n : Nat} {v : Value} {xs : List Value} (h : w.ownsRow lo e k v n xs) : RowIn w lo w.heap.size e k v n xs := ⟨h, fun g hg => (h.lt g hg).2, Nat.le_refl _⟩
theorem RowIn.rng {w w' : World} {lo hi lo' hi' : Nat} {e : TypeId} {k n : Nat} {v : Value} {xs : List Value} (h : RowIn w lo hi e k v n xs) (r : Rng lo' hi' w w') (hd : hi ≤ lo' ∨ hi' ≤ lo) : RowIn w' lo hi e k v n xs :=
  ⟨own_of_keep h.1 (fun b hb => r.block b (h.1.lt b hb).2 (by have := (h.1.lt b hb).1; have := h.2.1 b hb; omega)), h.2.1, Nat.le_trans h.2.2 r.size⟩
theorem RowIn.next {w w' : World} {lo hi : Nat} {e : TypeId} {k n : Nat} {v : Value} {xs : List Value} (h : RowIn w lo hi e k v n xs) (b : Below w.heap.size w w') : RowIn w' lo hi e k v n xs :=
  ⟨own_turn h.1 (S := []) (Turn.of_below b) (fun _ _ hm => by cases hm), h.2.1, Nat.le_trans h.2.2 b.size⟩
theorem RowIn.put {w : World} {lo hi : Nat} {e : TypeId} {k n gb cap : Nat} {xs : List Value} (h : RowIn w lo hi e k (.slice (some ⟨gb, 0, none⟩) n cap) n xs) (j : Nat) (u : Value) : RowIn (w.setCell ⟨gb, j, none⟩ u) lo hi e k (.slice (some ⟨gb, 0, none⟩) n cap) n (xs.set j u) ∧ Rng lo hi w (w.setCell ⟨gb, j, none⟩ u) :=
  ⟨⟨own_put h.1 j u, h.2.1, Nat.le_trans h.2.2 (cturn_set w gb j u).size⟩, Rng.of_turn (cturn_set w gb j u) (fun q hq => by rw [List.mem_singleton.1 hq]; exact ⟨(h.1.lt gb rfl).1, h.2.1 gb rfl⟩)⟩
theorem Box.rng {w w' : World} {b lo hi : Nat} {xs : List Value} (h : Box w b xs) (r : Rng lo hi w w') (hg : b < lo ∨ hi ≤ b) : Box w' b xs := by
  have hb := r.block b h.lt hg
  exact ⟨fun i v hv => (World.cell?_of_block (a := ⟨b, i, none⟩) hb).trans (h.cell i v hv), fun i hi => (World.frozen?_of_block (a := ⟨b, i, none⟩) hb).trans (h.free i hi), Nat.lt_of_lt_of_le h.lt r.size⟩
theorem RowIn.apart {w : World} {lo hi lo' hi' : Nat} {e e' : TypeId} {k k' n n' gb c' : Nat} {v : Value} {xs xs' : List Value} (h : RowIn w lo hi e k v n xs) (h' : RowIn w lo' hi' e' k' (.slice (some ⟨gb, 0, none⟩) n' c') n' xs') (he : e ≠ e') (j : Nat) (u : Value) : RowIn (w.setCell ⟨gb, j, none⟩ u) lo hi e k v n xs :=
  ⟨own_turn h.1 (cturn_set w gb j u) (fun b hb hm => by
    have e1 : b = gb := List.mem_singleton.1 hm
    subst e1
    obtain ⟨-, cur, h1⟩ := own_type h.1 hb
    obtain ⟨-, cur', h2⟩ := own_type h'.1 rfl
    rw [h1] at h2
    exact he (by injection (Option.some.inj h2))), h.2.1, Nat.le_trans h.2.2 (cturn_set w gb j u).size⟩
/-- What must lie on while the answers are written over. -/
structure Kp (g : PgP) (U R : PgV) (l : List UInt8) (gw cw gb cb t1 t2 t4 t5 t8 t9 br : Nat) (w wr : World) : Prop where
  bel : Below w.heap.size w wr
  py : Box wr w.heap.size (pgL g U)
  rw : RowIn wr t1 t2 5 1 (.slice (some ⟨gw, 0, none⟩) l.length cw) l.length (l.map byc)
  rb : RowIn wr t4 t5 5 1 (.slice (some ⟨gb, 0, none⟩) l.length cb) l.length (l.map byc)
  r1 : RowIn wr t8 t9 2 1 R.k g.K.length (flR (fun a : Int => [.int .i64 a]) g.K)
  r2 : RowIn wr t8 t9 54 4 R.wi g.wins.length (flR (fun a : WiP => wiL a) g.wins)
  r3 : RowIn wr t8 t9 56 5 R.cr g.crons.length (flR (fun a : Cr => crL a) g.crons)
  r4 : RowIn wr t8 t9 45 2 R.c g.C.length (flR (fun a : Ins => inL a) g.C)
  rx : Box wr br (pgL g R)
theorem Kp.rng {g : PgP} {U R : PgV} {l : List UInt8} {gw cw gb cb t1 t2 t4 t5 t8 t9 br : Nat} {w wr wr' : World} {lo hi : Nat} (h : Kp g U R l gw cw gb cb t1 t2 t4 t5 t8 t9 br w wr) (r : Rng lo hi wr wr') (h0 : w.heap.size < lo) (d1 : t2 ≤ lo ∨ hi ≤ t1) (d2 : t5 ≤ lo ∨ hi ≤ t4) (d3 : t9 ≤ lo ∨ hi ≤ t8) (d4 : br < lo ∨ hi ≤ br) : Kp g U R l gw cw gb cb t1 t2 t4 t5 t8 t9 br w wr' :=
  ⟨Rng.below h.bel r (by omega) h.bel.size, h.py.rng r (.inl h0), h.rw.rng r d1, h.rb.rng r d2, h.r1.rng r d3, h.r2.rng r d3, h.r3.rng r d3, h.r4.rng r d3, h.rx.rng r d4⟩
theorem Kp.next {g : PgP} {U R : PgV} {l : List UInt8} {gw cw gb cb t1 t2 t4 t5 t8 t9 br : Nat} {w wr wr' : World} (h : Kp g U R l gw cw gb cb t1 t2 t4 t5 t8 t9 br w wr) (b : Below wr.heap.size wr wr') : Kp g U R l gw cw gb cb t1 t2 t4 t5 t8 t9 br w wr' :=
  ⟨h.bel.trans (b.mono h.bel.size), h.py.next b, h.rw.next b, h.rb.next b, h.r1.next b, h.r2.next b, h.r3.next b, h.r4.next b, h.rx.next b⟩
theorem Kp.rd {g : PgP} {U R : PgV} {l : List UInt8} {gw cw gb cb t1 t2 t4 t5 t8 t9 br : Nat} {w wr : World} (h : Kp g U R l gw cw gb cb t1 t2 t4 t5 t8 t9 br w wr) : PgRd wr g R :=
  PgNew.rd (B := t8) ⟨h.r1.1, h.r2.1, h.r3.1, h.r4.1⟩
theorem grow_rng {wA wE : World} {lo hi : Nat} {e : TypeId} {k n : Nat} {v : Value} {xs : List Value} (h : RowIn wA lo hi e k v n xs) (hg : wA.grownBy wE v.ownBlock) : Rng lo hi wA wE :=
  Rng.of_turn (S := blk v) ⟨hg.os, hg.tape, hg.output, hg.size, fun k hk hn => hg.block k hk (fun e => hn (blk_mem.2 e.symm))⟩ (fun k hk => ⟨(h.1.lt k (blk_mem.1 hk)).1, h.2.1 k (blk_mem.1 hk)⟩)
theorem grow_other {wA wE : World} {lo hi lo' hi' : Nat} {e e' : TypeId} {k k' n n' : Nat} {v v' : Value} {xs xs' : List Value} (h : RowIn wA lo hi e k v n xs) (h' : RowIn wA lo' hi' e' k' v' n' xs') (he : e ≠ e') (hg : wA.grownBy wE v'.ownBlock) : RowIn wE lo hi e k v n xs :=
  ⟨own_turn h.1 (S := blk v') ⟨hg.os, hg.tape, hg.output, hg.size, fun k hk hn => hg.block k hk (fun e => hn (blk_mem.2 e.symm))⟩ (fun b hb hm => by
    obtain ⟨-, cur, h1⟩ := own_type h.1 hb
    obtain ⟨-, cur', h2⟩ := own_type h'.1 (blk_mem.1 hm)
    rw [h1] at h2
    exact he (by injection (Option.some.inj h2))), h.2.1, Nat.le_trans h.2.2 hg.size⟩
theorem new2_c (w : World) (a b : Value) (t : TypeId) : ∀ jj u, [a, b][jj]? = some u → (w.alloc (.cells #[a, b] t)).cell? ((⟨w.heap.size, 0, none⟩ : Addr).add jj) = some u := fun jj u hu => by
  have hadd : (⟨w.heap.size, 0, none⟩ : Addr).add jj = ⟨w.heap.size, jj, none⟩ := by unfold Addr.add; split <;> simp_all
  rw [hadd]
  exact (Box.new w [a, b] t).cell jj u hu
theorem new1_c (w : World) (a : Value) (t : TypeId) : ∀ jj u, [a][jj]? = some u → (w.alloc (.cells #[a] t)).cell? ((⟨w.heap.size, 0, none⟩ : Addr).add jj) = some u := fun jj u hu => by
  have hadd : (⟨w.heap.size, 0, none⟩ : Addr).add jj = ⟨w.heap.size, jj, none⟩ := by unfold Addr.add; split <;> simp_all
  rw [hadd]
  exact (Box.new w [a] t).cell jj u hu
theorem set_rng (w : World) (b j : Nat) (v : Value) : Rng b (b + 1) w (w.setCell ⟨b, j, none⟩ v) :=
  Rng.of_turn (cturn_set w b j v) (fun q hq => by rw [List.mem_singleton.1 hq]; omega)
theorem sec_c {g : PgP} {U R : PgV} {l : List UInt8} {gw cw gb cb t1 t2 t4 t5 t8 t9 br : Nat} {w wE : World} {bq lo hi nK : Nat} {vK : Value} {xs L : List Value} (KP : Kp g U R l gw cw gb cb t1 t2 t4 t5 t8 t9 br w wE) (QB : Box wE bq L) (QK : RowIn wE lo hi 2 1 vK nK xs) (v : Value) (hL : 11 < L.length) (hq : hi ≤ bq ∨ bq + 1 ≤ lo) (h0 : w.heap.size < bq) (d1 : t2 ≤ bq ∨ bq + 1 ≤ t1) (d2 : t5 ≤ bq ∨ bq + 1 ≤ t4) (d3 : t9 ≤ bq ∨ bq + 1 ≤ t8) (d4 : br < bq ∨ bq + 1 ≤ br) :
    Hid (Kp g U R l gw cw gb cb t1 t2 t4 t5 t8 t9 br w ((wE.setCell ⟨bq, 11, none⟩ v).alloc (.cells #[.int .i64 98] 2))) ∧ Hid (Box ((wE.setCell ⟨bq, 11, none⟩ v).alloc (.cells #[.int .i64 98] 2)) bq (L.set 11 v)) ∧ Hid (RowIn ((wE.setCell ⟨bq, 11, none⟩ v).alloc (.cells #[.int .i64 98] 2)) lo hi 2 1 vK nK xs) ∧ Hid (Box (wE.setCell ⟨bq, 11, none⟩ v) bq (L.set 11 v)) ∧ Hid (∀ n, n = (wE.setCell ⟨bq, 11, none⟩ v).heap.size → ∀ jj u, [Value.int .i64 98][jj]? = some u → ((wE.setCell ⟨bq, 11, none⟩ v).alloc (.cells #[.int .i64 98] 2)).cell? ((⟨n, 0, none⟩ : Addr).add jj) = some u) := by
  have r := set_rng wE bq 11 v
  have al := bel_alloc (wE.setCell ⟨bq, 11, none⟩ v) (.cells #[.int .i64 98] 2)
  have bs := QB.set 11 hL v
  refine ⟨chid ((KP.rng r h0 d1 d2 d3 d4).next al), chid (bs.next al), chid ((QK.rng r hq).next al), chid bs, chid (fun n hn => ?_)⟩
  subst hn
  exact new1_c _ _ _
set_option maxHeartbeats 4000000 in
set_option maxRecDepth 20000 in
theorem codecKeeps_c (g : PgP) (u : PgV) (w : World) (h : PgRd w g u) (ho : PgOk g) (hg : ErrG w) :
    Calls Tryd.prog 8 #[pgV g u] w fun e w' => e = .returned (.bool true) ∧ Below w.heap.size w w' := by
  obtain ⟨a1, c1, a2, c2, a3, c3, a4, c4, rfl⟩ := h.shape
  obtain ⟨Y0, YB⟩ := one_box w 29 (pgL g ⟨.slice a1 g.K.length c1, .slice a2 g.wins.length c2, .slice a3 g.crons.length c3, .slice a4 g.C.length c4⟩)
  have HA := chid (awake22_c _ (err_next hg YB))
  have HY := chid Y0
  have HB := chid YB
  have HO := chid ho
  have HEn := chid (fun W (hb : Below w.heap.size w W) => cEncode_c g _ W (h.next hb))
  have HRn := chid (fun W (hb : Below w.heap.size w W) => rEncode_c g _ W (h.next hb))
  have HG := chid (fun W (hb : Below w.heap.size w W) => err_next hg hb)
  have HR := chid (fun W (hb : Below w.heap.size w W) => h.next hb)
  clear h hg Y0 YB ho
  go_enter Tryd.func8, Tryd.ntmps8
  go_wp2_with fail
  refine Calls.mono HA.out ?_
  rintro e w1 ⟨rfl, b1⟩
  have B1 := chid (bel3 HB.out b1)
  have HY1 := chid (HY.out.next b1)
  clear b1
  have z0 := HY1.out.cell 0 _ rfl
  have z1 := HY1.out.cell 1 _ rfl
  have z2 := HY1.out.cell 2 _ rfl
  have z3 := HY1.out.cell 3 _ rfl
  have z4 := HY1.out.cell 4 _ rfl
  have z5 := HY1.out.cell 5 _ rfl
  have z6 := HY1.out.cell 6 _ rfl
  have z7 := HY1.out.cell 7 _ rfl
  have z8 := HY1.out.cell 8 _ rfl
  have z9 := HY1.out.cell 9 _ rfl
  have z10 := HY1.out.cell 10 _ rfl
  have z11 := HY1.out.cell 11 _ rfl
  have zl := HY1.out.lt
  go_wp2_with fail
  refine Calls.mono (HRn.out w1 B1.out) ?_
  intro e w2 h2
  clear z0 z1 z2 z3 z4 z5 z6 z7 z8 z9 z10 z11 zl
  cases hq : toldB g with
  | false =>
    obtain ⟨b2, rfl⟩ := enc_not hq h2
    have B2 := chid (bel3 B1.out b2)
    have HY2 := chid (HY1.out.next b2)
    clear h2 b2
    have z0 := HY2.out.cell 0 _ rfl
    have z1 := HY2.out.cell 1 _ rfl
    have z2 := HY2.out.cell 2 _ rfl
    have z3 := HY2.out.cell 3 _ rfl
    have z4 := HY2.out.cell 4 _ rfl
    have z5 := HY2.out.cell 5 _ rfl
    have z6 := HY2.out.cell 6 _ rfl
    have z7 := HY2.out.cell 7 _ rfl
    have z8 := HY2.out.cell 8 _ rfl
    have z9 := HY2.out.cell 9 _ rfl
    have z10 := HY2.out.cell 10 _ rfl
    have z11 := HY2.out.cell 11 _ rfl
    have zl := HY2.out.lt
    go_wp2_with fail
    refine Calls.mono (HEn.out w2 B2.out) ?_
    intro e w3 h3
    obtain ⟨b3, rfl⟩ := enc_not hq h3
    have B3 := chid (bel3 B2.out b3)
    have HS := sameB_c (.slice none 0 0) (.slice none 0 0) [] [] w3 (nil_rows _ _ _) (nil_rows _ _ _)
    rw [show (([] : List UInt8) == []) = true from rfl] at HS
    have HS := chid HS
    clear h3 b3
    clear z0 z1 z2 z3 z4 z5 z6 z7 z8 z9 z10 z11 zl
    go_wp2_with fail
    refine Calls.mono HS.out ?_
    rintro e w4 ⟨rfl, b4⟩
    have B4 := chid (bel3 B3.out b4)
    clear b4
    go_wp2_with fail
    go_ret
    exact ⟨rfl, B4.out⟩
  | true =>
  obtain ⟨b2, vw, rfl, hvw⟩ := enc_of hq h2
  have B2 := chid (bel3 B1.out b2)
  have HY2 := chid (HY1.out.next b2)
  have HT := chid (told_iff.1 hq)
  have hlen : 72 ≤ (encF g).length := by rw [encF_len]; omega
  have hlm : (encF g).length ≤ 300000 := told_len HT.out
  obtain ⟨l, hl⟩ : ∃ l, Hid (l = encF g) := ⟨_, chid rfl⟩
  obtain ⟨M, hM⟩ : ∃ M, Hid (M = l.length) := ⟨_, chid rfl⟩
  rw [← hl.out] at hvw hlen hlm
  obtain ⟨gw, cw, rfl, -, -⟩ := hvw.form (by omega)
  rw [← hM.out] at hlen hlm
  have RW : Hid (RowIn w2 w1.heap.size w2.heap.size 5 1 (.slice (some ⟨gw, 0, none⟩) l.length cw) l.length (l.map byc)) := chid (RowIn.of hvw)
  rw [← hM.out]
  have s12 : w1.heap.size ≤ w2.heap.size := b2.size
  have s01 : w.heap.size < w1.heap.size := HY1.out.lt
  clear h2 b2 hvw
  have z0 := HY2.out.cell 0 _ rfl
  have z1 := HY2.out.cell 1 _ rfl
  have z2 := HY2.out.cell 2 _ rfl
  have z3 := HY2.out.cell 3 _ rfl
  have z4 := HY2.out.cell 4 _ rfl
  have z5 := HY2.out.cell 5 _ rfl
  have z6 := HY2.out.cell 6 _ rfl
  have z7 := HY2.out.cell 7 _ rfl
  have z8 := HY2.out.cell 8 _ rfl
  have z9 := HY2.out.cell 9 _ rfl
  have z10 := HY2.out.cell 10 _ rfl
  have z11 := HY2.out.cell 11 _ rfl
  have zl := HY2.out.lt
  go_wp2_with fail
  refine Calls.mono (HEn.out w2 B2.out) ?_
  intro e w3 h3
  clear z0 z1 z2 z3 z4 z5 z6 z7 z8 z9 z10 z11 zl
  obtain ⟨b3, va, rfl, hva⟩ := enc_of hq h3
  have B3 := chid (bel3 B2.out b3)
  have HY3 := chid (HY2.out.next b3)
  rw [← hl.out] at hva
  obtain ⟨ga, ca, rfl, -, -⟩ := hva.form (by have := hM.out; omega)
  have RW3 := chid (RW.out.next b3)
  have RA : Hid (RowIn w3 w2.heap.size w3.heap.size 5 1 (.slice (some ⟨ga, 0, none⟩) l.length ca) l.length (l.map byc)) := chid (RowIn.of hva)
  have HS := sameB_c _ _ l l w3 (Bys.at hva) (Bys.at RW3.out.1)
  rw [show (l == l) = true by simp] at HS
  have HS := chid HS
  rw [← hM.out] at HS ⊢
  have s23 : w2.heap.size ≤ w3.heap.size := b3.size
  clear h3 b3 hva RW
  go_wp2_with fail
  refine Calls.mono HS.out ?_
  rintro e w4 ⟨rfl, b4⟩
  have B4 := chid (bel3 B3.out b4)
  have HY4 := chid (HY3.out.next b4)
  have RW4 := chid (RW3.out.next b4)
  have RA4 := chid (RA.out.next b4)
  have s34 : w3.heap.size ≤ w4.heap.size := b4.size
  clear b4 HS RW3 RA HY3 HY2 HY1
  by_cases hbig : 200000 < M
  · have hbig' : (200000 : Int) < (M : Int) := by omega
    go_wp2_with fail
    go_ret
    exact ⟨rfl, B4.out⟩
  have hbig' : ¬ (200000 : Int) < (M : Int) := by omega
  have z0 := HY4.out.cell 0 _ rfl
  have z1 := HY4.out.cell 1 _ rfl
  have z2 := HY4.out.cell 2 _ rfl
  have z3 := HY4.out.cell 3 _ rfl
  have z4 := HY4.out.cell 4 _ rfl
  have z5 := HY4.out.cell 5 _ rfl
  have z6 := HY4.out.cell 6 _ rfl
  have z7 := HY4.out.cell 7 _ rfl
  have z8 := HY4.out.cell 8 _ rfl
  have z9 := HY4.out.cell 9 _ rfl
  have z10 := HY4.out.cell 10 _ rfl
  have z11 := HY4.out.cell 11 _ rfl
  have zl := HY4.out.lt
  go_wp2_with fail
  refine Calls.mono (HEn.out w4 B4.out) ?_
  intro e w5 h5
  clear z0 z1 z2 z3 z4 z5 z6 z7 z8 z9 z10 z11 zl
  obtain ⟨b5, vb, rfl, hvb⟩ := enc_of hq h5
  have B5 := chid (bel3 B4.out b5)
  have HY5 := chid (HY4.out.next b5)
  rw [← hl.out] at hvb
  obtain ⟨gb, cb, rfl, -, -⟩ := hvb.form (by have := hM.out; omega)
  have RW5 := chid (RW4.out.next b5)
  have RA5 := chid (RA4.out.next b5)
  have RB5 : Hid (RowIn w5 w4.heap.size w5.heap.size 5 1 (.slice (some ⟨gb, 0, none⟩) l.length cb) l.length (l.map byc)) := chid (RowIn.of hvb)
  rw [← hM.out]
  have s45 : w4.heap.size ≤ w5.heap.size := b5.size
  clear h5 b5 hvb RW4 RA4 HY4
  obtain ⟨i0, hi, hz0, hz1, hz2⟩ := info_u8'
  have HDe : Hid (∀ W v, ByAt W v l → Below w.heap.size w W → Calls Tryd.prog 13 #[v] W fun e w' => Below W.heap.size W w' ∧ ∃ u, e = .returned (.tuple #[pgV g u, .int .i64 0]) ∧ PgNew W.heap.size g u w') := chid (fun W v hv hb => (cDecode_c l v W hv (HG.out W hb)).mono fun e w' hd => by
    rw [hl.out] at hd
    exact dec_of hq HO.out hd)
  have HN5 := chid (by_cells (Bys.at RA5.out.1))
  have HLn : Hid ((l.map byc).length = M * 1) := chid (by rw [List.length_map, Nat.mul_one]; exact hM.out.symm)
  have HOne : Hid (∀ u, u ∈ l.map byc → u.oneCell' = true) := chid (fun u hu => by obtain ⟨y, -, rfl⟩ := List.mem_map.1 hu; rfl)
  have HP1 : Hid (∀ gk ck w6, w6.ownsRow w5.heap.size 5 1 (.slice (some ⟨gk, 0, none⟩) (0 + M) ck) (0 + M) ([] ++ l.map byc) → w5.grownBy w6 none → Hid (Below w5.heap.size w5 w6) ∧ Hid (RowIn w6 w5.heap.size w6.heap.size 5 1 (.slice (some ⟨gk, 0, none⟩) l.length ck) l.length (l.map byc))) := chid (fun gk ck w6 ho hg => by
    have T : Below w5.heap.size w5 w6 := ⟨hg.os, hg.tape, hg.output, hg.size, fun k hk => hg.block k hk (by simp)⟩
    have e : 0 + M = l.length := by rw [Nat.zero_add]; exact hM.out
    rw [e] at ho
    exact ⟨chid T, chid (RowIn.of ho)⟩)
  go_wp2_with (at_builtin; refine wpList_append_lies _ rfl (.tmp 51) (.tmp 52) 31 rfl w5.heap.size 5 i0 (.int .u8 0) 1 1 Tryd.underlying31 hi hz0 hz1 hz2 rfl (by decide) (.slice none 0 0) 0 [] rfl (World.ownsRow_nil _ _ _ _) ⟨ga, 0, none⟩ M ca (l.map byc) rfl HLn.out HN5.out HOne.out (by omega) (by unfold maxLen; omega) (by omega) (Nat.le_refl _) _ rfl ?_; intro gk ck w6 o6 k6 a6 l6; have q6 := HP1.out gk ck w6 o6 k6; have b6 := q6.1; have RK6 := q6.2; clear o6 k6 a6 l6 q6)
  have B6 := chid (bel3 B5.out b6.out)
  have HY6 := chid (HY5.out.next b6.out)
  have RW6 := chid (RW5.out.next b6.out)
  have RA6 := chid (RA5.out.next b6.out)
  have RB6 := chid (RB5.out.next b6.out)
  have s56 : w5.heap.size ≤ w6.heap.size := b6.out.size
  have HD6 := HDe.out w6 _ (Bys.at RK6.out.1) B6.out
  rw [← hM.out] at HD6
  have HD6 := chid HD6
  clear b6 RW5 RA5 RB5 HY5 HN5 HLn HOne HP1
  refine Calls.mono HD6.out ?_
  rintro e w7 ⟨b7, uq, rfl, hnq⟩
  obtain ⟨m1, k1, m2, k2, m3, k3, m4, k4, rfl⟩ := hnq.shape
  have B7 := chid (bel3 B6.out b7)
  have HY7 := chid (HY6.out.next b7)
  have RW7 := chid (RW6.out.next b7)
  have RA7 := chid (RA6.out.next b7)
  have RB7 := chid (RB6.out.next b7)
  have RK7 := chid (RK6.out.next b7)
  have QC7 := chid (RowIn.of hnq.c)
  have QK7 := chid (RowIn.of hnq.k)
  have s67 : w6.heap.size ≤ w7.heap.size := b7.size
  clear b7 RW6 RA6 RB6 RK6 HY6 hnq HD6
  go_wp2_with fail
  have al7 := bel_alloc w7 (.cells (pgL g ⟨.slice m1 g.K.length k1, .slice m2 g.wins.length k2, .slice m3 g.crons.length k3, .slice m4 g.C.length k4⟩).toArray 29)
  have QB8 := Box.new w7 (pgL g ⟨.slice m1 g.K.length k1, .slice m2 g.wins.length k2, .slice m3 g.crons.length k3, .slice m4 g.C.length k4⟩) 29
  have HY8 := chid (HY7.out.next al7)
  have RW8 := chid (RW7.out.next al7)
  have RA8 := chid (RA7.out.next al7)
  have RB8 := chid (RB7.out.next al7)
  have RK8 := chid (RK7.out.next al7)
  have QC8 := chid (QC7.out.next al7)
  have QK8 := chid (QK7.out.next al7)
  have B8 := chid (bel3 B7.out al7)
  have HD8 := HDe.out (w7.alloc (.cells (pgL g ⟨.slice m1 g.K.length k1, .slice m2 g.wins.length k2, .slice m3 g.crons.length k3, .slice m4 g.C.length k4⟩).toArray 29)) _ (Bys.at RK8.out.1) B8.out
  rw [← hM.out] at HD8
  have HD8 := chid HD8
  have sz8 : (w7.alloc (.cells (pgL g ⟨.slice m1 g.K.length k1, .slice m2 g.wins.length k2, .slice m3 g.crons.length k3, .slice m4 g.C.length k4⟩).toArray 29)).heap.size = w7.heap.size + 1 := World.size_alloc _ _
  obtain ⟨bq, hbq⟩ : ∃ bq, Hid (bq = w7.heap.size) := ⟨_, chid rfl⟩
  rw [← hbq.out] at QB8 sz8
  rw [← hbq.out]
  have sq : w7.heap.size = bq := hbq.out.symm
  have QB8 := chid QB8
  generalize w7.alloc _ = w8 at *
  clear al7 HY7 RW7 RA7 RB7 RK7 QC7 QK7
  refine Calls.mono HD8.out ?_
  rintro e w9 ⟨b9, ur, rfl, hnr⟩
  obtain ⟨n1, o1, n2, o2, n3, o3, n4, o4, rfl⟩ := hnr.shape
  have B9 := chid (bel3 B8.out b9)
  have HY9 := chid (HY8.out.next b9)
  have RW9 := chid (RW8.out.next b9)
  have RA9 := chid (RA8.out.next b9)
  have RB9 := chid (RB8.out.next b9)
  have RK9 := chid (RK8.out.next b9)
  have QC9 := chid (QC8.out.next b9)
  have QK9 := chid (QK8.out.next b9)
  have QB9 := chid (QB8.out.next b9)
  have R1 := chid (RowIn.of hnr.k)
  have R2 := chid (RowIn.of hnr.wi)
  have R3 := chid (RowIn.of hnr.cr)
  have R4 := chid (RowIn.of hnr.c)
  have s89 : w8.heap.size ≤ w9.heap.size := b9.size
  clear b9 hnr HD8 HY8 RW8 RA8 RB8 RK8 QC8 QK8 QB8
  go_wp2_with fail
  have al9 := bel_alloc w9 (.cells (pgL g ⟨.slice n1 g.K.length o1, .slice n2 g.wins.length o2, .slice n3 g.crons.length o3, .slice n4 g.C.length o4⟩).toArray 29)
  have RX := Box.new w9 (pgL g ⟨.slice n1 g.K.length o1, .slice n2 g.wins.length o2, .slice n3 g.crons.length o3, .slice n4 g.C.length o4⟩) 29
  have RK10 := chid (RK9.out.next al9)
  have RA10 := chid (RA9.out.next al9)
  have QC10 := chid (QC9.out.next al9)
  have QK10 := chid (QK9.out.next al9)
  have QB10 := chid (QB9.out.next al9)
  have KP : Hid (Kp g ⟨.slice a1 g.K.length c1, .slice a2 g.wins.length c2, .slice a3 g.crons.length c3, .slice a4 g.C.length c4⟩ ⟨.slice n1 g.K.length o1, .slice n2 g.wins.length o2, .slice n3 g.crons.length o3, .slice n4 g.C.length o4⟩ l gw cw gb cb w1.heap.size w2.heap.size w4.heap.size w5.heap.size w8.heap.size w9.heap.size w9.heap.size w (w9.alloc (.cells (pgL g ⟨.slice n1 g.K.length o1, .slice n2 g.wins.length o2, .slice n3 g.crons.length o3, .slice n4 g.C.length o4⟩).toArray 29))) := chid ⟨B9.out.alloc B9.out.size _, HY9.out.next al9, RW9.out.next al9, RB9.out.next al9, R1.out.next al9, R2.out.next al9, R3.out.next al9, R4.out.next al9, RX⟩
  obtain ⟨br, hbr⟩ : ∃ br, Hid (br = w9.heap.size) := ⟨_, chid rfl⟩
  have sr : w9.heap.size = br := hbr.out.symm
  rw [← hbr.out] at KP
  rw [← hbr.out]
  generalize w9.alloc _ = w10 at *
  clear al9 RX RK9 RA9 QC9 QK9 QB9 B9 HY9 RW9 RB9 R1 R2 R3 R4 HDe
  have hq4 : gk < w10.heap.size ∧ ga < w10.heap.size := ⟨(RK10.out.1.lt gk rfl).2, (RA10.out.1.lt ga rfl).2⟩
  have hML := hM.out
  rw [← hML] at RK10 RA10
  clear hML
  go_loopw [14] (fun i wr => ∃ (j : Nat), i = .int .i64 (j : Nat) ∧ j ≤ M ∧ ∃ xs, Hid (RowIn wr w5.heap.size w6.heap.size 5 1 (.slice (some ⟨gk, 0, none⟩) M ck) M xs) ∧ Hid (Rng w5.heap.size w6.heap.size w10 wr)) (fun i _ => match i with | .int _ z => ((M : Int) - z).toNat | _ => 0)
  case atStart => exact ⟨0, rfl, Nat.zero_le _, _, RK10, chid (Rng.refl _ _ _)⟩
  case round =>
    obtain ⟨j, rfl, hj, xs, HX, HRg⟩ := hrel
    by_cases hlt : j < M
    · have hlt' : (j : Int) < (M : Int) := by omega
      have hwj : IntKind.i64.wrap ((j : Int) + 1) = (j : Int) + 1 := by rw [IntKind.wrap_i64]; omega
      obtain ⟨old, x0⟩ : ∃ old, wr.cell? ⟨gk, j, none⟩ = some old := ⟨_, (HX.out.1.cellAt j (by omega)).trans (List.getElem?_eq_getElem (show j < xs.length by have := HX.out.1.1; omega))⟩
      have xf := HX.out.1.frozenAt j
      have xl := (HX.out.1.lt gk rfl).2
      have HP := chid (HX.out.put j (.int .u8 99))
      go_wp2_with fail
      go_roundw
      case rel => exact ⟨j + 1, by go_num, by omega, _, chid HP.out.1, chid (HRg.out.trans HP.out.2)⟩
      case measure => simp; omega
    · have hlt' : ¬ (j : Int) < (M : Int) := by omega
      obtain rfl : M = j := by omega
      have KP1 := chid (KP.out.rng HRg.out (by omega) (by omega) (by omega) (by omega) (by omega))
      have RA11 := chid (RA10.out.rng HRg.out (by omega))
      have QC11 := chid (QC10.out.rng HRg.out (by omega))
      have QK11 := chid (QK10.out.rng HRg.out (by omega))
      have QB11 := chid (QB10.out.rng HRg.out (by omega))
      clear KP RA10 QC10 QK10 QB10 HX HRg RK10
      generalize wr = wA at *
      go_wp2_with fail
      go_loopw [15] (fun i wr => ∃ (j : Nat), i = .int .i64 (j : Nat) ∧ j ≤ M ∧ ∃ xs, Hid (RowIn wr w2.heap.size w3.heap.size 5 1 (.slice (some ⟨ga, 0, none⟩) M ca) M xs) ∧ Hid (Rng w2.heap.size w3.heap.size wA wr)) (fun i _ => match i with | .int _ z => ((M : Int) - z).toNat | _ => 0)
      case atStart => exact ⟨0, rfl, Nat.zero_le _, _, RA11, chid (Rng.refl _ _ _)⟩
      case round =>
        obtain ⟨j, rfl, hj, xs, HX, HRg⟩ := hrel
        by_cases hlt : j < M
        · have hlt' : (j : Int) < (M : Int) := by omega
          have hwj : IntKind.i64.wrap ((j : Int) + 1) = (j : Int) + 1 := by rw [IntKind.wrap_i64]; omega
          obtain ⟨old, x0⟩ : ∃ old, wr.cell? ⟨ga, j, none⟩ = some old := ⟨_, (HX.out.1.cellAt j (by omega)).trans (List.getElem?_eq_getElem (show j < xs.length by have := HX.out.1.1; omega))⟩
          have xf := HX.out.1.frozenAt j
          have xl := (HX.out.1.lt ga rfl).2
          have HP := chid (HX.out.put j (.int .u8 98))
          go_wp2_with fail
          go_roundw
          case rel => exact ⟨j + 1, by go_num, by omega, _, chid HP.out.1, chid (HRg.out.trans HP.out.2)⟩
          case measure => simp; omega
        · have hlt' : ¬ (j : Int) < (M : Int) := by omega
          obtain rfl : M = j := by omega
          have KP2 := chid (KP1.out.rng HRg.out (by omega) (by omega) (by omega) (by omega) (by omega))
          have QC12 := chid (QC11.out.rng HRg.out (by omega))
          have QK12 := chid (QK11.out.rng HRg.out (by omega))
          have QB12 := chid (QB11.out.rng HRg.out (by omega))
          have RA12 := HX
          clear KP1 RA11 QC11 QK11 QB11 HRg HX
          generalize wr = wB at *
          have HN12 : Hid (∀ jj u, [Value.int .u8 97][jj]? = some u → (wB.alloc (.cells #[.int .u8 97] 5)).cell? ((⟨wB.heap.size, 0, none⟩ : Addr).add jj) = some u) := chid (fun jj u hu => by
            have hj0 : jj = 0 := by have := (List.getElem?_eq_some_iff.1 hu).1; simp at this; omega
            subst hj0
            exact (Box.new wB [.int .u8 97] 5).cell 0 _ hu)
          have al12 := bel_alloc wB (.cells #[.int .u8 97] 5)
          have RA13 := chid (RA12.out.next al12)
          have KP3 := chid (KP2.out.next al12)
          have QC13 := chid (QC12.out.next al12)
          have QK13 := chid (QK12.out.next al12)
          have QB13 := chid (QB12.out.next al12)
          have HP13 : Hid (∀ w13, (wB.alloc (.cells #[.int .u8 97] 5)).grownBy w13 (Value.slice (some ⟨ga, 0, none⟩) M ca).ownBlock → Hid (Rng w2.heap.size w3.heap.size (wB.alloc (.cells #[.int .u8 97] 5)) w13)) := chid (fun w13 hg => chid (Rng.of_turn (S := blk (.slice (some ⟨ga, 0, none⟩) M ca)) ⟨hg.os, hg.tape, hg.output, hg.size, fun k hk hn => hg.block k hk (fun e => hn (blk_mem.2 e.symm))⟩ (fun k hk => ⟨(RA13.out.1.lt k (blk_mem.1 hk)).1, RA13.out.2.1 k (blk_mem.1 hk)⟩)))
          have hB12 : w2.heap.size ≤ wB.heap.size := by have := (RA12.out.1.lt ga rfl); omega
          obtain ⟨xsa, hxa⟩ : ∃ xsa, Hid ((wB.alloc (.cells #[.int .u8 97] 5)).ownsRow w2.heap.size 5 1 (.slice (some ⟨ga, 0, none⟩) M ca) M xsa) := ⟨_, chid RA13.out.1⟩
          clear al12 KP2 QC12 QK12 QB12 RA12 RA13
          go_wp2_with (at_builtin; refine wpList_append_lies _ rfl (.tmp 82) (.tmp 83) 31 rfl w2.heap.size 5 i0 (.int .u8 0) 1 1 Tryd.underlying31 hi hz0 hz1 hz2 rfl (by decide) (.slice (some ⟨ga, 0, none⟩) M ca) M xsa rfl hxa.out ⟨wB.heap.size, 0, none⟩ 1 1 [.int .u8 97] rfl rfl HN12.out (by intro u hu; simp only [List.mem_cons, List.not_mem_nil, or_false] at hu; subst hu; rfl) (by decide) (by unfold maxLen; omega) (by omega) (by simp; omega) _ rfl ?_; intro g13 c13 w13 o13 k13 a13 l13; have r13 := HP13.out w13 k13; clear o13 k13 a13 l13)
          have KP4 := chid (KP3.out.rng r13.out (by omega) (by omega) (by omega) (by omega) (by omega))
          have QC14 := chid (QC13.out.rng r13.out (by omega))
          have QK14 := chid (QK13.out.rng r13.out (by omega))
          have QB14 := chid (QB13.out.rng r13.out (by omega))
          clear KP3 QC13 QK13 QB13 r13 HP13 HN12 hxa
          have hC : g.C.length ≤ 16384 := HT.out.c
          have hK : g.K.length ≤ 16384 := HT.out.k
          go_loopw [16] (fun i wr => ∃ (j : Nat), i = .int .i64 (j : Nat) ∧ j ≤ g.C.length ∧ ∃ xs ys, Hid (RowIn wr w6.heap.size w7.heap.size 45 2 (.slice m4 g.C.length k4) g.C.length xs) ∧ Hid (RowIn wr w6.heap.size w7.heap.size 2 1 (.slice m1 g.K.length k1) g.K.length ys) ∧ Hid (Rng w6.heap.size w7.heap.size w13 wr)) (fun i _ => match i with | .int _ z => ((g.C.length : Int) - z).toNat | _ => 0)
          case atStart => exact ⟨0, rfl, Nat.zero_le _, _, _, QC14, QK14, chid (Rng.refl _ _ _)⟩
          case round =>
            obtain ⟨j, rfl, hj, xs, ys, HX, HOt, HRg⟩ := hrel
            have QBr := QB14.out.rng HRg.out (by omega)
            have qc := QBr.cell 11 _ rfl
            have ql := QBr.lt
            clear QBr
            by_cases hlt : j < g.C.length
            · have hlt' : (j : Int) < (g.C.length : Int) := by omega
              have hwj : IntKind.i64.wrap ((j : Int) + 1) = (j : Int) + 1 := by rw [IntKind.wrap_i64]; omega
              obtain ⟨gc, cc, ec, -, -⟩ := HX.out.1.form (by omega)
              cases ec
              have hj0 : j * 2 < xs.length := by have := HX.out.1.1; omega
              obtain ⟨old0, x0⟩ : ∃ old, wr.cell? ⟨gc, j * 2, none⟩ = some old := ⟨_, (HX.out.1.cellAt (j * 2) (by omega)).trans (List.getElem?_eq_getElem hj0)⟩
              have xf0 := HX.out.1.frozenAt (j * 2)
              have hj1 : j * 2 + 1 < xs.length := by have := HX.out.1.1; omega
              obtain ⟨old1, x1⟩ : ∃ old, wr.cell? ⟨gc, j * 2 + 1, none⟩ = some old := ⟨_, (HX.out.1.cellAt (j * 2 + 1) (by omega)).trans (List.getElem?_eq_getElem hj1)⟩
              have xf1 := HX.out.1.frozenAt (j * 2 + 1)
              have xl := (HX.out.1.lt gc rfl).2
              have P1 := HX.out.put (j * 2) (.int .i64 99)
              have P2 := P1.1.put (j * 2 + 1) (.int .i64 0)
              have O1 := HOt.out.apart HX.out (by decide) (j * 2) (.int .i64 99)
              have O2 := O1.apart P1.1 (by decide) (j * 2 + 1) (.int .i64 0)
              have HP := chid P2.1
              have HPr := chid (P1.2.trans P2.2)
              have HPo := chid O2
              clear P1 P2 O1 O2
              go_wp2_with fail
              go_roundw
              case rel => exact ⟨j + 1, by go_num, by omega, _, _, HP, HPo, chid (HRg.out.trans HPr.out)⟩
              case measure => simp; omega
            · have hlt' : ¬ (j : Int) < (g.C.length : Int) := by omega
              have hjL : j = g.C.length := by omega
              subst hjL
              have KP5 := chid (KP4.out.rng HRg.out (by omega) (by omega) (by omega) (by omega) (by omega))
              have QB14n := chid (QB14.out.rng HRg.out (by omega))
              go_wp2_with fail
              generalize wr = wC at *
              have QC15 := HX
              have QK15 := HOt
              clear KP4 QB14 QC14 QK14 HRg HX HOt
              go_loopw [17] (fun i wr => ∃ (j : Nat), i = .int .i64 (j : Nat) ∧ j ≤ g.K.length ∧ ∃ xs ys, Hid (RowIn wr w6.heap.size w7.heap.size 2 1 (.slice m1 g.K.length k1) g.K.length xs) ∧ Hid (RowIn wr w6.heap.size w7.heap.size 45 2 (.slice m4 g.C.length k4) g.C.length ys) ∧ Hid (Rng w6.heap.size w7.heap.size wC wr)) (fun i _ => match i with | .int _ z => ((g.K.length : Int) - z).toNat | _ => 0)
              case atStart => exact ⟨0, rfl, Nat.zero_le _, _, _, QK15, QC15, chid (Rng.refl _ _ _)⟩
              case round =>
                obtain ⟨j, rfl, hj, xs, ys, HX, HOt, HRg⟩ := hrel
                have QBr := QB14n.out.rng HRg.out (by omega)
                have qc := QBr.cell 6 _ rfl
                have ql := QBr.lt
                clear QBr
                by_cases hlt : j < g.K.length
                · have hlt' : (j : Int) < (g.K.length : Int) := by omega
                  have hwj : IntKind.i64.wrap ((j : Int) + 1) = (j : Int) + 1 := by rw [IntKind.wrap_i64]; omega
                  obtain ⟨gc, cc, ec, -, -⟩ := HX.out.1.form (by omega)
                  cases ec
                  have hj0 : j < xs.length := by have := HX.out.1.1; omega
                  obtain ⟨old0, x0⟩ : ∃ old, wr.cell? ⟨gc, j, none⟩ = some old := ⟨_, (HX.out.1.cellAt (j) (by omega)).trans (List.getElem?_eq_getElem hj0)⟩
                  have xf0 := HX.out.1.frozenAt (j)
                  have xl := (HX.out.1.lt gc rfl).2
                  have P1 := HX.out.put j (.int .i64 99)
                  have O1 := HOt.out.apart HX.out (by decide) j (.int .i64 99)
                  have HP := chid P1.1
                  have HPr := chid P1.2
                  have HPo := chid O1
                  clear P1 O1
                  go_wp2_with fail
                  go_roundw
                  case rel => exact ⟨j + 1, by go_num, by omega, _, _, HP, HPo, chid (HRg.out.trans HPr.out)⟩
                  case measure => simp; omega
                · have hlt' : ¬ (j : Int) < (g.K.length : Int) := by omega
                  have hjL : j = g.K.length := by omega
                  subst hjL
                  have KP6 := chid (KP5.out.rng HRg.out (by omega) (by omega) (by omega) (by omega) (by omega))
                  have QB14nn := chid (QB14n.out.rng HRg.out (by omega))
                  generalize wr = wD at *
                  obtain ⟨iC, hiC, hcz0, hcz1, hcz2⟩ := info_I'
                  obtain ⟨iK, hiK, hkz0, hkz1, hkz2⟩ := info_K'
                  have hel := encF_len g
                  have hem := told_len HT.out
                  have hbC : g.C.length ≤ 300000 := by omega
                  have hbK : g.K.length ≤ 300000 := by omega
                  clear hel hem
                  have alC := bel_alloc wD (.cells #[.int .i64 98, .int .i64 0] 45)
                  have KPa := chid (KP6.out.next alC)
                  have QBa := chid (QB14nn.out.next alC)
                  have QCa := chid (HOt.out.next alC)
                  have QKa := chid (HX.out.next alC)
                  have qb11 := QB14nn.out.cell 11 _ rfl
                  have qbl := QB14nn.out.lt
                  have HNC := chid (new2_c wD (.int .i64 98) (.int .i64 0) 45)
                  have hbase : w6.heap.size ≤ (wD.alloc (.cells #[.int .i64 98, .int .i64 0] 45)).heap.size := Nat.le_trans s67 QCa.out.2.2
                  have HP1 : Hid (∀ wE, (wD.alloc (.cells #[.int .i64 98, .int .i64 0] 45)).grownBy wE (Value.slice m4 g.C.length k4).ownBlock → Hid (Kp g ⟨.slice a1 g.K.length c1, .slice a2 g.wins.length c2, .slice a3 g.crons.length c3, .slice a4 g.C.length c4⟩ ⟨.slice n1 g.K.length o1, .slice n2 g.wins.length o2, .slice n3 g.crons.length o3, .slice n4 g.C.length o4⟩ l gw cw gb cb w1.heap.size w2.heap.size w4.heap.size w5.heap.size w8.heap.size br br w wE) ∧ Hid (Box wE bq (pgL g ⟨.slice m1 g.K.length k1, .slice m2 g.wins.length k2, .slice m3 g.crons.length k3, .slice m4 g.C.length k4⟩)) ∧ Hid (RowIn wE w6.heap.size w7.heap.size 2 1 (.slice m1 g.K.length k1) g.K.length xs)) := chid (fun wE hg => by
                    have r := grow_rng QCa.out hg
                    exact ⟨chid (KPa.out.rng r (by omega) (by omega) (by omega) (by omega) (by omega)), chid (QBa.out.rng r (by omega)), chid (grow_other QKa.out QCa.out (by decide) hg)⟩)
                  obtain ⟨HS2, hHS2⟩ : ∃ P : Prop, Hid (P = True) := ⟨True, chid rfl⟩
                  clear alC KPa QBa QKa
                  go_wp2_with (first | (at_builtin; refine wpList_append_lies _ rfl (.tmp 109) (.tmp 111) 27 rfl w6.heap.size 45 iC (.agg #[.int .i64 0, .int .i64 0]) 2 16 Tryd.underlying27 hiC hcz0 hcz1 hcz2 rfl (by decide) (.slice m4 g.C.length k4) g.C.length ys rfl QCa.out.1 ⟨wD.heap.size, 0, none⟩ 1 1 [.int .i64 98, .int .i64 0] rfl rfl HNC.out (by intro u hu; simp only [List.mem_cons, List.not_mem_nil, or_false] at hu; rcases hu with rfl | rfl <;> rfl) (by decide) (by unfold maxLen; omega) (by omega) hbase _ rfl ?_; intro gk2 ck2 wE oE kE aE lE; have q := HP1.out wE kE; have KPe := q.1; have QBe := q.2.1; have QKe := q.2.2; clear oE kE aE lE q; have e11 := QBe.out.cell 11 _ rfl; have f11 := QBe.out.free 11 (by simp [pgL]); have eL := QBe.out.lt; have rd := sec_c KPe.out QBe.out QKe.out (.slice (some ⟨gk2, 0, none⟩) (g.C.length + 1) ck2) (by simp [pgL]) (by omega) (by omega) (by omega) (by omega) (by omega) (by omega); have KPg := rd.1; have QBg := rd.2.1; have QKg := rd.2.2.1; have QBs := rd.2.2.2.1; have HNK := rd.2.2.2.2; clear rd; have e6 := QBs.out.cell 6 _ rfl; have eLs := QBs.out.lt) | (at_builtin; refine wpList_append_lies _ rfl (.tmp 115) (.tmp 116) 24 rfl w6.heap.size 2 iK (.int .i64 0) 1 8 Tryd.underlying24 hiK hkz0 hkz1 hkz2 rfl (by decide) (.slice m1 g.K.length k1) g.K.length xs rfl QKg.out.1 ⟨_, 0, none⟩ 1 1 [.int .i64 98] rfl rfl (HNK.out _ (by first | rfl | simp)) (by intro u hu; simp only [List.mem_cons, List.not_mem_nil, or_false] at hu; subst hu; rfl) (by decide) (by unfold maxLen; omega) (by omega) (Nat.le_trans s67 QKg.out.2.2) _ rfl ?_; intro gk3 ck3 wH oH kH aH lH; have rH := grow_rng QKg.out kH; have KPh := chid (KPg.out.rng rH (by omega) (by omega) (by omega) (by omega) (by omega)); have QBh := chid (QBg.out.rng rH (by omega)); clear oH kH aH lH rH; have e6h := QBh.out.cell 6 _ rfl; have f6h := QBh.out.free 6 (by simp [pgL]); have hlh := QBh.out.lt))
                  have KPi := chid (KPh.out.rng (set_rng wH bq 6 (.slice (some ⟨gk3, 0, none⟩) (g.K.length + 1) ck3)) (by omega) (by omega) (by omega) (by omega) (by omega))
                  have HSi := sameB_c (.slice (some ⟨gb, 0, none⟩) l.length cb) (.slice (some ⟨gw, 0, none⟩) l.length cw) l l _ (Bys.at KPi.out.rb.1) (Bys.at KPi.out.rw.1)
                  rw [show (l == l) = true by simp, ← hM.out] at HSi
                  have HSi := chid HSi
                  clear e6h f6h hlh e6 eLs e11 f11 eL qb11 qbl qc ql KPh QBh KPg QBg QKg QBs HNK KPe QBe QKe HP1 KP6 QB14nn HX HOt HRg KP5 QB14n QC15 QK15
                  refine Calls.mono HSi.out ?_
                  rintro e wJ ⟨rfl, bJ⟩
                  have KPj := chid (KPi.out.next bJ)
                  have HPy := chid KPj.out.py
                  have HRx := chid KPj.out.rx
                  have BJ := chid KPj.out.bel
                  have HSm := chid (fun W (hb : Below wJ.heap.size wJ W) => same_c g g _ _ W ((KPj.out.next hb).rd) (HR.out W (bel3 KPj.out.bel hb)))
                  clear bJ KPi HSi
                  have z0 := HPy.out.cell 0 _ rfl
                  have z1 := HPy.out.cell 1 _ rfl
                  have z2 := HPy.out.cell 2 _ rfl
                  have z3 := HPy.out.cell 3 _ rfl
                  have z4 := HPy.out.cell 4 _ rfl
                  have z5 := HPy.out.cell 5 _ rfl
                  have z6 := HPy.out.cell 6 _ rfl
                  have z7 := HPy.out.cell 7 _ rfl
                  have z8 := HPy.out.cell 8 _ rfl
                  have z9 := HPy.out.cell 9 _ rfl
                  have z10 := HPy.out.cell 10 _ rfl
                  have z11 := HPy.out.cell 11 _ rfl
                  have zl := HPy.out.lt
                  have x0 := HRx.out.cell 0 _ rfl
                  have x1 := HRx.out.cell 1 _ rfl
                  have x2 := HRx.out.cell 2 _ rfl
                  have x3 := HRx.out.cell 3 _ rfl
                  have x4 := HRx.out.cell 4 _ rfl
                  have x5 := HRx.out.cell 5 _ rfl
                  have x6 := HRx.out.cell 6 _ rfl
                  have x7 := HRx.out.cell 7 _ rfl
                  have x8 := HRx.out.cell 8 _ rfl
                  have x9 := HRx.out.cell 9 _ rfl
                  have x10 := HRx.out.cell 10 _ rfl
                  have x11 := HRx.out.cell 11 _ rfl
                  have xl := HRx.out.lt
                  go_wp2_with fail
                  have HSz := chid (HSm.out wJ (Below.refl _ _))
                  clear z0 x0 z1 x1 z2 x2 z3 x3 z4 x4 z5 x5 z6 x6 z7 x7 z8 x8 z9 x9 z10 x10 z11 x11 zl xl HSm
                  have hwM : IntKind.i64.wrap ((M : Int) + 1) = (M : Int) + 1 := by rw [IntKind.wrap_i64]; omega
                  refine Calls.mono HSz.out ?_
                  intro e wK hK
                  obtain ⟨bK, rfl⟩ := same_t hK rfl
                  have BK := chid (bel3 BJ.out bK)
                  clear hK bK
                  go_wp2_with fail
                  go_ret
                  exact ⟨by simp, BK.out⟩
end Go.Proofs.YtgfimpphpadmgaaDoor
