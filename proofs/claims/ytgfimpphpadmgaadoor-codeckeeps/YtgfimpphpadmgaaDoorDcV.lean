/- Package codec: the law CodecCut walked. -/
import Derived.Test.YtgfimpphpadmgaaDoorDcT
namespace Go.Proofs.YtgfimpphpadmgaaDoor
open Go.RowKit

theorem by_take {w : World} {ad : Option Addr} {cap : Nat} {l : List UInt8} (h : ByAt w (.slice ad l.length cap) l) (k : Nat) (hk : k ≤ l.length) : ByAt w (.slice ad k cap) (l.take k) := by
  obtain ⟨ad', cap', e, h1, h2, hp⟩ := h
  cases e
  refine ⟨ad, cap, by rw [List.length_take, Nat.min_eq_left hk], by rw [List.length_take]; omega, h2, ?_⟩
  rcases hp with h0 | ⟨b, off, ha, hl, hc⟩
  · exact .inl (by rw [List.length_take]; omega)
  · refine .inr ⟨b, off, ha, hl, fun i hi j x hj => ?_⟩
    have hi2 : i < k ∧ i < l.length := by simp at hi; omega
    refine hc i hi2.2 j x ?_
    simp only [List.getD, List.getElem?_take, hi2.1, if_true] at hj ⊢
    exact hj
theorem by_cells {w : World} {b off len cap : Nat} {l : List UInt8} (h : ByAt w (.slice (some ⟨b, off, none⟩) len cap) l) : ∀ j u, (l.map byc)[j]? = some u → w.cell? ((⟨b, off, none⟩ : Addr).add j) = some u := by
  intro j u hu
  have hj : j < l.length := by have := (List.getElem?_eq_some_iff.1 hu).1; simpa using this
  obtain ⟨b', off', cap', e, -, -, -, hc⟩ := RowsK.open h (by omega)
  cases e
  have := hc j hj 0 _ rfl
  rw [show off + j * 1 + 0 = off + j by omega] at this
  have hadd : (⟨b, off, none⟩ : Addr).add j = ⟨b, off + j, none⟩ := by unfold Addr.add; split <;> simp_all
  rw [hadd, this]
  rw [List.getElem?_map] at hu
  simp [List.getD, hj] at hu ⊢
  exact hu
theorem dec_none {l : List UInt8} {w : World} {e : Ending} {w' : World} (hl : l.length ≤ 1048576) (hd : decF l = none) (h : DecP l w e w') : Below w.heap.size w w' ∧ e = .returned (.tuple #[.agg zcL.toArray, .int .i64 40]) := by
  obtain ⟨hb, h⟩ := h
  rw [if_neg (by omega), hd] at h
  exact ⟨hb, h⟩
/-- What lies ready for the second append, and what comes of it. -/
def Ready2 (w w5 : World) (l : List UInt8) (x : UInt8) (more : Int) (M g1 c1 : Nat) : Prop :=
  Hid ((w5.alloc (.cells #[.int .u8 more] 5)).ownsRow w.heap.size 5 1 (.slice (some ⟨g1, 0, none⟩) M c1) M (l.map byc)) ∧
  Hid (∀ j u, [Value.int .u8 more][j]? = some u → (w5.alloc (.cells #[.int .u8 more] 5)).cell? ((⟨w5.heap.size, 0, none⟩ : Addr).add j) = some u) ∧
  w.heap.size ≤ w5.heap.size ∧
  Hid (∀ g2 c2 w7, w7.ownsRow w.heap.size 5 1 (.slice (some ⟨g2, 0, none⟩) (M + 1) c2) (M + 1) (l.map byc ++ [.int .u8 more]) → (w5.alloc (.cells #[.int .u8 more] 5)).grownBy w7 (Value.slice (some ⟨g1, 0, none⟩) M c1).ownBlock → Hid (Below w.heap.size w w7) ∧ Hid (ByAt w7 (.slice (some ⟨g2, 0, none⟩) (M + 1) c2) (l ++ [x])))
theorem ready2 {w w5 : World} {l : List UInt8} {x : UInt8} {more : Int} {M g1 c1 : Nat} (hx : Value.int .u8 more = byc x) (hM : l.length = M) (b : Below w.heap.size w w5) (o : w5.ownsRow w.heap.size 5 1 (.slice (some ⟨g1, 0, none⟩) M c1) M (l.map byc)) : Ready2 w w5 l x more M g1 c1 := by
  have al5 := bel_alloc w5 (.cells #[.int .u8 more] 5)
  have O5 := own_turn o (S := []) (Turn.of_below al5) (fun _ _ hm => by cases hm)
  have B5 := bel3 b al5
  refine ⟨chid O5, chid (fun j u hu => ?_), b.size, chid (fun g2 c2 w7 ho hg => ?_)⟩
  · have hj0 : j = 0 := by have := (List.getElem?_eq_some_iff.1 hu).1; simp at this; omega
    subst hj0
    exact (Box.new w5 [.int .u8 more] 5).cell 0 _ hu
  · have T : Turn (blk (.slice (some ⟨g1, 0, none⟩) M c1)) (w5.alloc (.cells #[.int .u8 more] 5)) w7 := ⟨hg.os, hg.tape, hg.output, hg.size, fun k hk hn => hg.block k hk (fun e => hn (blk_mem.2 e.symm))⟩
    refine ⟨chid (B5.trans (T.below (fun i hi => (O5.lt i (blk_mem.1 hi)).1) B5.size)), chid (Bys.at (B := w.heap.size) ?_)⟩
    rw [hx] at ho
    show w7.ownsRow _ _ _ _ (l ++ [x]).length ((l ++ [x]).map byc)
    rw [List.map_append, List.length_append, hM]
    exact ho
set_option maxHeartbeats 2000000 in
set_option maxRecDepth 20000 in
theorem codecCut_c (g : PgP) (u : PgV) (n : Int) (more : Int) (w : World) (h : PgRd w g u) (ho : PgOk g) (hg : ErrG w) (hn0 : 0 ≤ n) (hn1 : n ≤ 65535) (hm0 : 0 ≤ more) (hm1 : more ≤ 255) :
    Calls Tryd.prog 6 #[pgV g u, .int .u16 n, .int .u8 more] w fun e w' => e = .returned (.bool true) ∧ Below w.heap.size w w' := by
  obtain ⟨a1, c1, a2, c2, a3, c3, a4, c4, rfl⟩ := h.shape
  obtain ⟨Y0, YB⟩ := one_box w 29 (pgL g ⟨.slice a1 g.K.length c1, .slice a2 g.wins.length c2, .slice a3 g.crons.length c3, .slice a4 g.C.length c4⟩)
  have HA := chid (awake22_c _ (err_next hg YB))
  have HY := chid Y0
  have HB := chid YB
  have HO := chid ho
  have HEn := chid (fun W (hb : Below w.heap.size w W) => cEncode_c g _ W (h.next hb))
  have HG := chid (fun W (hb : Below w.heap.size w W) => err_next hg hb)
  clear h hg Y0 YB ho
  go_enter Tryd.func6, Tryd.ntmps6
  go_wp2_with fail
  refine Calls.mono HA.out ?_
  rintro e w1 ⟨rfl, b1⟩
  have B1 := chid (bel3 HB.out b1)
  have HY1 := chid (HY.out.next b1)
  clear b1
  have z0 := HY1.out.cell 0 _ rfl
  have z1 := HY1.out.cell 1 _ rfl
  have z2 := HY1.out.cell 2 _ rfl
  have z3 := HY1.out.cell 3 _ rfl
  have z4 := HY1.out.cell 4 _ rfl
  have z5 := HY1.out.cell 5 _ rfl
  have z6 := HY1.out.cell 6 _ rfl
  have z7 := HY1.out.cell 7 _ rfl
  have z8 := HY1.out.cell 8 _ rfl
  have z9 := HY1.out.cell 9 _ rfl
  have z10 := HY1.out.cell 10 _ rfl
  have z11 := HY1.out.cell 11 _ rfl
  have zl := HY1.out.lt
  go_wp2_with fail
  refine Calls.mono (HEn.out w1 B1.out) ?_
  intro e w2 h2
  clear z0 z1 z2 z3 z4 z5 z6 z7 z8 z9 z10 z11 zl
  cases hq : toldB g with
  | false =>
    obtain ⟨b2, rfl⟩ := enc_not hq h2
    have B2 := chid (bel3 B1.out b2)
    clear h2
    go_wp2_with fail
    go_ret
    exact ⟨rfl, B2.out⟩
  | true =>
  obtain ⟨b2, v, rfl, hv⟩ := enc_of hq h2
  have B2 := chid (bel3 B1.out b2)
  have HT := chid (told_iff.1 hq)
  have hlen : 72 ≤ (encF g).length := by rw [encF_len]; omega
  obtain ⟨gb, cb, rfl, -, -⟩ := hv.form (by omega)
  have hcb : (encF g).length ≤ cb := by
    obtain ⟨_, _, e', hle, -⟩ := RowsK.shape hv.at
    cases e'
    exact hle
  have hlm : (encF g).length ≤ 300000 := told_len HT.out
  obtain ⟨l, hl⟩ : ∃ l, Hid (l = encF g) := ⟨_, chid rfl⟩
  rw [← hl.out] at hv hlen hlm hcb
  rw [← hl.out]
  have HV := chid hv
  obtain ⟨M, hM⟩ : ∃ M, Hid (M = l.length) := ⟨_, chid rfl⟩
  have HV0 := chid hv.at
  rw [← hM.out] at hlen hlm hcb
  rw [← hM.out]
  have hne0 : ¬ M = 0 := by omega
  have hne1 : ((M : Int) == 0) = false := by rw [beq_eq_false_iff_ne]; omega
  have hne2 : ¬ (M : Int) = 0 := by omega
  clear h2 hv b2
  by_cases hbig : 100000 < M
  · have hbig' : (100000 : Int) < (M : Int) := by omega
    go_wp2_with fail
    go_ret
    exact ⟨rfl, B2.out⟩
  · have hbig' : ¬ (100000 : Int) < (M : Int) := by omega
    obtain ⟨N, rfl⟩ : ∃ N : Nat, n = (N : Int) := ⟨n.toNat, by omega⟩
    have hw1 : IntKind.i64.wrap (N : Int) = (N : Int) := by rw [IntKind.wrap_i64]; omega
    have hw2 : wrap64 (N : Int) = (N : Int) := by unfold wrap64; omega
    obtain ⟨K, hK⟩ : ∃ K, Hid (K = N % M) := ⟨_, chid rfl⟩
    have hk : K < M := by rw [hK.out]; exact Nat.mod_lt _ (by omega)
    have hmod : (N : Int) % (M : Int) = (K : Int) := by rw [hK.out]; omega
    have htm : (N : Int).tmod (M : Int) = (K : Int) := by rw [hK.out]; rfl
    have hkc : K ≤ cb := by omega
    have hkc' : (K : Int) ≤ (cb : Int) := by omega
    have hlM : l.length = M := hM.out.symm
    have hdn : decF (l.take K) = none := dec_cut HT.out HO.out (c := l.take K) (x := l.drop K) (by rw [List.take_append_drop]; exact hl.out.symm) (fun e => by have := congrArg List.length e; rw [List.length_drop] at this; simp at this; omega)
    have HD := chid (cDecode_c (l.take K) (.slice (some ⟨gb, 0, none⟩) K cb) w2 (by_take HV0.out K (by omega)) (HG.out w2 B2.out))
    have HDn := chid hdn
    have HtL : Hid ((l.take K).length ≤ 1048576) := chid (by rw [List.length_take]; omega)
    have HlM := chid hlM
    clear hdn hlM
    go_wp2_with fail
    refine Calls.mono HD.out ?_
    intro e w3 h3
    obtain ⟨b3, rfl⟩ := dec_none HtL.out HDn.out h3
    have B3 := chid (bel3 B2.out b3)
    have HV3 := chid (own_turn HV.out (S := []) (Turn.of_below b3) (fun _ _ hm => by cases hm))
    clear h3 b3 HD
    obtain ⟨i0, hi, hz0, hz1, hz2⟩ := info_u8'
    obtain ⟨x, hx⟩ : ∃ x : UInt8, Hid (Value.int .u8 more = byc x) := by
      have h8 : more.toNat < 2 ^ 8 := by omega
      refine ⟨UInt8.ofNat more.toNat, chid ?_⟩
      show Value.int .u8 more = Value.int .u8 ((UInt8.ofNat more.toNat).toNat : Nat)
      rw [UInt8.toNat_ofNat_of_lt' h8]
      congr 1
      omega
    have al := bel_alloc w3 (.cells zcL.toArray 29)
    have O4 := own_turn HV3.out (S := []) (Turn.of_below al) (fun _ _ hm => by cases hm)
    have B4 := chid (bel3 B3.out al)
    have HN4 := chid (by_cells (Bys.at O4))
    have HLn : Hid ((l.map byc).length = M * 1) := chid (by rw [List.length_map, Nat.mul_one]; exact HlM.out)
    have HOne : Hid (∀ u, u ∈ l.map byc → u.oneCell' = true) := chid (fun u hu => by obtain ⟨y, -, rfl⟩ := List.mem_map.1 hu; rfl)
    have HP1 : Hid (∀ g1 c1 w5, w5.ownsRow (w3.alloc (.cells zcL.toArray 29)).heap.size 5 1 (.slice (some ⟨g1, 0, none⟩) (0 + M) c1) (0 + M) ([] ++ l.map byc) → (w3.alloc (.cells zcL.toArray 29)).grownBy w5 none → Ready2 w w5 l x more M g1 c1) := chid (fun g1 c1 w5 ho hg => by
      have T : Below (w3.alloc (.cells zcL.toArray 29)).heap.size (w3.alloc (.cells zcL.toArray 29)) w5 := ⟨hg.os, hg.tape, hg.output, hg.size, fun k hk => hg.block k hk (by simp)⟩
      have e : 0 + M = M := Nat.zero_add _
      rw [e] at ho
      exact ready2 hx.out HlM.out (bel3 B4.out T) (own_low _ ho B4.out.size))
    clear al O4
    go_wp2_with (first | (at_builtin; refine wpList_append_lies _ rfl (.tmp 53) (.tmp 54) 31 rfl (w3.alloc (.cells zcL.toArray 29)).heap.size 5 i0 (.int .u8 0) 1 1 Tryd.underlying31 hi hz0 hz1 hz2 rfl (by decide) (.slice none 0 0) 0 [] rfl (World.ownsRow_nil _ _ _ _) ⟨gb, 0, none⟩ M cb (l.map byc) rfl HLn.out HN4.out HOne.out (by omega) (by unfold maxLen; omega) (by omega) (Nat.le_refl _) _ rfl ?_; intro g1 c1 w5 o5 k5 a5 l5; have q5 := HP1.out g1 c1 w5 o5 k5; have qO := q5.1; have qN := q5.2.1; have qS := q5.2.2.1; have qP := q5.2.2.2; clear o5 k5 a5 l5 q5) | (at_builtin; refine wpList_append_lies _ rfl (.tmp 56) (.tmp 58) 31 rfl w.heap.size 5 i0 (.int .u8 0) 1 1 Tryd.underlying31 hi hz0 hz1 hz2 rfl (by decide) (.slice (some ⟨g1, 0, none⟩) M c1) M (l.map byc) rfl qO.out ⟨w5.heap.size, 0, none⟩ 1 1 [.int .u8 more] rfl rfl qN.out (by intro u hu; simp only [List.mem_cons, List.not_mem_nil, or_false] at hu; subst hu; rfl) (by decide) (by unfold maxLen; omega) (by omega) (by simp; omega) _ rfl ?_; intro g2 c2 w7 o7 k7 a7 l7; have q7 := qP.out g2 c2 w7 o7 k7; have q8 := q7.1; have q9 := q7.2; clear o7 k7 a7 l7 q7))
    have hdm : decF (l ++ [x]) = none := by rw [hl.out]; exact dec_more HT.out HO.out (by simp)
    have HDm := chid hdm
    have HDc := chid (cDecode_c (l ++ [x]) _ w7 q9.out (HG.out w7 q8.out))
    have HLx : Hid ((l ++ [x]).length ≤ 1048576) := chid (by rw [List.length_append, HlM.out]; simp; omega)
    clear hdm
    refine Calls.mono HDc.out ?_
    intro e w8 h8
    obtain ⟨b8, rfl⟩ := dec_none HLx.out HDm.out h8
    have B8 := chid (bel3 q8.out b8)
    clear h8 b8
    go_wp2_with fail
    go_ret
    exact ⟨rfl, B8.out.alloc B8.out.size _⟩
end Go.Proofs.YtgfimpphpadmgaaDoor
