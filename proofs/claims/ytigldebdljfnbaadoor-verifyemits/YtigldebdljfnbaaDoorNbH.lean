import Derived.Test.YtigldebdljfnbaaDoorNbG
import Derived.Test.YtigldebdljfnbaaDoorNaC
import Derived.Deep.DeepMust
namespace Go.Proofs.YtigldebdljfnbaaDoor
open Go.RowKit

theorem Mw.early {w w1 w2 : World} {mb : Nat} {F : List Nat} {K : List Int} {vk : Value} (k : Below w.heap.size w w1) (h : Mw mb F w1 K vk w2) : Mw mb F w K vk w2 :=
  ⟨h.mkr, (Turn.of_below (S := F) k).trans h.turn (fun _ hi => .inl hi), fun i hi => (h.foot i hi).imp id (fun h => Nat.le_trans k.size h)⟩
theorem Mkr.new {w : World} {mb : Nat} {K : List Int} {vk : Value} (h : Mkr w mb K vk) (n : Int) : Mkr (w.alloc (.cells #[.int .i64 n] 2)) mb K vk := h.next ((Below.refl _ _).alloc (Nat.le_refl _) _)
theorem mkK {w : World} {mb : Nat} {K : List Int} {ca : Option Addr} {cc : Nat} (h : Mkr w mb K (.slice ca K.length cc)) : K = [] ∨ ∃ g, ca = some ⟨g, 0, none⟩ ∧ Box w g (flK K) := by
  obtain ⟨h1, ⟨h2, h3⟩ | ⟨g', cap, cur, h2, h3, h4, h5, h6, h7, h8⟩⟩ := h.cons
  · exact .inl (List.eq_nil_of_length_eq_zero h3)
  · cases h2
    exact .inr ⟨g', rfl, (Box.ofBlock h4).part (by rw [← h8]; exact List.take_prefix _ _)⟩
theorem mk_more {w w3 : World} {mb : Nat} {K : List Int} {ca : Option Addr} {cc g1 c1 : Nat} {n : Int} (h : Mkr w mb K (.slice ca K.length cc)) (ho : w3.ownsRow (mb + 1) 2 1 (.slice (some ⟨g1, 0, none⟩) (K.length + 1) c1) (K.length + 1) (flK K ++ [.int .i64 n])) (hg : w.grownBy w3 (Value.slice ca K.length cc).ownBlock) (hl : (Value.slice ca K.length cc).ownBlock = some g1 ∨ g1 = w.heap.size) :
    Box w3 mb [.slice ca K.length cc] ∧ Mw mb (mft mb (.slice ca K.length cc)) w (K ++ [n]) (.slice (some ⟨g1, 0, none⟩) (K.length + 1) c1) (w3.setCell ⟨mb, 0, none⟩ (.slice (some ⟨g1, 0, none⟩) (K.length + 1) c1)) := by
  have hnb : ∀ i, (Value.slice ca K.length cc).ownBlock = some i → mb + 1 ≤ i := fun i hi => (h.cons.lt i hi).1
  have T1 : Turn (blk (.slice ca K.length cc)) w w3 := ⟨hg.os, hg.tape, hg.output, hg.size, fun k hk hn => hg.block k hk (fun e => hn (blk_mem.2 e.symm))⟩
  have b3 : Box w3 mb [.slice ca K.length cc] := h.box.turn T1 (fun hm => by have := hnb mb (blk_mem.1 hm); omega)
  have T2 := cturn_set w3 mb 0 (.slice (some ⟨g1, 0, none⟩) (K.length + 1) c1)
  have b4 := b3.set 0 (by simp) (.slice (some ⟨g1, 0, none⟩) (K.length + 1) c1)
  have T : Turn (mft mb (.slice ca K.length cc)) w (w3.setCell ⟨mb, 0, none⟩ (.slice (some ⟨g1, 0, none⟩) (K.length + 1) c1)) := ⟨T2.os.trans T1.os, T2.tape.trans T1.tape, T2.output.trans T1.output, Nat.le_trans T1.size T2.size, fun k hk hn => (T2.block k (Nat.lt_of_lt_of_le hk T1.size) (fun hm => hn (mft_mem.2 (.inl (List.mem_singleton.1 hm))))).trans (T1.block k hk (fun hm => hn (mft_mem.2 (.inr (blk_mem.1 hm)))))⟩
  refine ⟨b3, ⟨⟨b4, ?_⟩, T, fun i hi => ?_⟩⟩
  · rw [show flK (K ++ [n]) = flK K ++ [.int .i64 n] by simp [flK], List.length_append]
    exact own_of_keep ho (fun b hb => T2.block b (ho.lt b hb).2 (by have := (ho.lt b hb).1; simp; omega))
  · rcases mft_mem.1 hi with rfl | hi
    · exact .inl (mft_mem.2 (.inl rfl))
    · have e : g1 = i := Option.some.inj hi
      subst e
      rcases hl with hl | hl
      · exact .inl (mft_mem.2 (.inr hl))
      · exact .inr (by omega)
theorem idx_first {n : Int} : ∀ {K : List Int} {k : Nat}, K[k]? = some n → (∀ j, j < k → K[j]? ≠ some n) → K.idxOf n = k
  | [], _, h, _ => by cases h
  | a :: r, 0, h, _ => by
    cases h
    simp
  | a :: r, k + 1, h, hn => by
    have h0 : (a == n) = false := by
      have := hn 0 (by omega)
      simpa using this
    rw [List.idxOf_cons, h0]
    show List.idxOf n r + 1 = k + 1
    rw [idx_first (K := r) (k := k) h (fun j hj => hn (j + 1) (by omega))]
theorem Mw.res {w w1 w3 : World} {mb r lo : Nat} {F : List Nat} {K : List Int} {vk v : Value} {C : List Ins} {h : Nat} (hF : ∀ i, i ∈ F → i < w.heap.size) (k : Below w.heap.size w w1) (hr1 : w.heap.size ≤ r) (hr2 : r < w1.heap.size) (hm : Mw mb F w1 K vk w3) (hp : PcR lo w3 C v) (hlo : r < lo) (x y : Value) :
    Mwent mb F w K C h (.returned (pcV v h)) ((w3.setCell ⟨r, 0, none⟩ x).setCell ⟨r, 1, none⟩ y) := by
  have T := turn_tr (cturn_set w3 r 0 x) (cturn_set _ r 1 y)
  have hr : ∀ i, i ∈ mft mb vk → i ∉ [r] := fun i hi hm' => by
    have := List.mem_singleton.1 hm'
    rcases hm.foot i hi with h | h
    · have := hF i h; omega
    · omega
  have e2 := hm.early k
  refine ⟨vk, v, rfl, ⟨hm.mkr.turn T hr, (e2.turn.andSet ⟨r, 0, none⟩ x (.inr hr1)).andSet ⟨r, 1, none⟩ y (.inr hr1), e2.foot⟩, ?_⟩
  exact pc_low (own_of_keep hp (fun b hb => T.block b (hp.lt b hb).2 (by have := (hp.lt b hb).1; simp; omega))) (by omega)
set_option maxHeartbeats 2000000 in
set_option maxRecDepth 20000 in
theorem enum_c (mb : Nat) (K : List Int) (vk : Value) (n : Int) (w : World) (h : Mkr w mb K vk) (hb : K.length + 1 ≤ 1000000) :
    Calls Tryd.prog 22 #[.pointer (some ⟨mb, 0, none⟩), .int .i64 n] w fun e w' => Mwent mb (mft mb vk) w (numK K n) [(1, (K.idxOf n : Nat))] 1 e w' := by
  obtain ⟨ca, cc, rfl⟩ := own_shape h.cons
  have HGe : Hid (∀ i, i ∈ mft mb (.slice ca K.length cc) → i < w.heap.size) := chid (fun i hi => (h.ge i hi).2)
  obtain ⟨i0, hi, hz0, hz1, hz2⟩ := info_i6'
  obtain ⟨BR, BW⟩ := one_box w 55 [.slice none 0 0, .int .i64 0]
  have HBW := chid BW
  have H := chid (h.next BW)
  have HBR := chid BR
  have hWs : Hid ((w.alloc (.cells #[.slice none 0 0, .int .i64 0] 55)).heap.size = w.heap.size + 1) := by show _ = _; simp
  clear h BR BW
  go_enter Tryd.func22, Tryd.ntmps22
  go_wp2_with fail
  generalize hW : (w.alloc _) = W at *
  clear hW
  have HK := chid (mkK H.out)
  obtain ⟨r, hr⟩ : ∃ r, Hid (r = w.heap.size) := ⟨_, chid rfl⟩
  rw [← hr.out] at HBR ⊢
  have HS := chid (Mw.start H.out)
  go_loopw [5] (fun i wr => ∃ (k : Nat), i = .int .i64 (k : Nat) ∧ k ≤ K.length ∧ Hid (∀ j, j < k → K[j]? ≠ some n) ∧ wr = W) (fun i _ => match i with | .int _ z => ((K.length : Int) - z).toNat | _ => 0)
  case atStart => exact ⟨0, rfl, by omega, chid (fun j hj => by omega), rfl⟩
  case round =>
    obtain ⟨k, rfl, hk, HNo, rfl⟩ := hrel
    have x1 := H.out.box.cell 0 _ rfl
    have xf := H.out.box.free 0 (by simp)
    have xl := H.out.box.lt
    have z0 := HBR.out.cell 0 _ rfl
    have z1 := HBR.out.cell 1 _ rfl
    have zl := HBR.out.lt
    by_cases hlt : k < K.length
    · have hlt' : (k : Int) < (K.length : Int) := by omega
      obtain ⟨g, rfl, hbx⟩ : ∃ g, ca = some ⟨g, 0, none⟩ ∧ Box wr g (flK K) := by
        rcases HK.out with h | h
        · rw [h] at hlt; simp at hlt
        · exact h
      have hy0 : K[k]? = some K[k] := List.getElem?_eq_getElem hlt
      have c0 := hbx.cell k (.int .i64 K[k]) (by simp [flK, hlt])
      have gl := hbx.lt
      generalize K[k] = y0 at *
      have HY := chid hy0
      clear hbx hy0
      by_cases he0 : y0 = n
      · subst he0
        have hi1 : Hid (K.idxOf y0 = k) := chid (idx_first HY.out HNo.out)
        have hi2 : Hid (numK K y0 = K) := chid (if_pos (List.mem_of_getElem? HY.out))
        go_wp2_with fail
        refine Calls.mono (eone_c 1 (k : Nat) 1 _) ?_
        rintro e w2 ⟨v, rfl, b2, p2⟩
        have Z := HBR.out.next b2
        have z0 := Z.cell 0 _ rfl
        have z1 := Z.cell 1 _ rfl
        have zf0 := Z.free 0 (by simp)
        have zf1 := Z.free 1 (by simp)
        have zl2 := Z.lt
        obtain ⟨pa, pc, rfl⟩ := own_shape p2
        have HP := chid p2
        have HB2 := chid b2
        clear p2 b2 Z
        go_wp2_with fail
        refine bodyPost_ret (v := pcV (.slice pa [((1 : Int), ((k : Nat) : Int))].length pc) 1) (by simp [results, Tryd.results22, go_sem, *]) rfl ?_
        rw [hi1.out, hi2.out]
        exact Mw.res HGe.out HBW.out (by rw [hr.out]; exact Nat.le_refl _) (by rw [hr.out, hWs.out]; omega) (HS.out.next HB2.out) HP.out (by rw [hr.out, hWs.out]; omega) _ _
      · have he0' : (y0 == n) = false := by simpa using he0
        go_wp2_with fail
        go_roundw
        case rel => exact ⟨k + 1, by go_num, by omega, chid (fun j hj hh => by
          by_cases h : j = k
          · subst h
            rw [HY.out] at hh
            exact he0 (Option.some.inj hh)
          · exact HNo.out j (by omega) hh), trivial⟩
        case measure => simp; omega
    · have hlt' : ¬ (k : Int) < (K.length : Int) := by omega
      have hnm : n ∉ K := fun hm => by
        obtain ⟨j, hj, e⟩ := List.getElem_of_mem hm
        exact HNo.out j (by omega) (by rw [List.getElem?_eq_getElem hj, e])
      have hi1 : Hid (K.idxOf n = K.length) := chid (List.idxOf_eq_length hnm)
      have hi2 : Hid (numK K n = K ++ [n]) := chid (if_neg hnm)
      have HA := chid (H.out.new n)
      have hsm : Hid (mb + 1 ≤ (wr.alloc (.cells #[.int .i64 n] 2)).heap.size) := chid HA.out.box.lt
      clear hnm
      go_wp2_with (at_builtin; refine wpList_append_lies _ rfl _ _ 35 rfl (mb + 1) 2 i0 (.int .i64 0) 1 8 Tryd.underlying35 hi hz0 hz1 hz2 rfl (by decide) (.slice ca K.length cc) K.length (flK K) rfl HA.out.cons ⟨wr.heap.size, 0, none⟩ 1 1 [.int .i64 n] rfl rfl (one_new _ _) (by intro u hu; rw [List.mem_singleton.1 hu]; rfl) (by decide) (by unfold maxLen; omega) (by omega) hsm.out _ rfl ?_; intro g1 c1 w1 o1 k1 a1 l1; have q := mk_more HA.out o1 k1 a1; have b := q.1; have e3 := b.free 0 (by simp); have f3 := b.cell 0 _ rfl; have m3 := b.lt; have Q := chid q.2; clear o1 k1 a1 l1 q b)
      have Bn := chid (below_new wr n)
      generalize hV : (w1.setCell _ _) = V at *
      clear hV e3 f3 m3
      have HRV : Hid (Box V r [.slice none 0 0, .int .i64 0]) := chid ((HBR.out.next Bn.out).turn Q.out.turn (fun hm => by have := HGe.out r hm; have := hr.out; omega))
      have HVs : Hid (r < V.heap.size) := chid HRV.out.lt
      refine Calls.mono (eone_c 1 (K.length : Nat) 1 _) ?_
      rintro e w2 ⟨v, rfl, b2, p2⟩
      have Z := HRV.out.next b2
      replace z0 := Z.cell 0 _ rfl
      replace z1 := Z.cell 1 _ rfl
      have zf0 := Z.free 0 (by simp)
      have zf1 := Z.free 1 (by simp)
      have zl2 := Z.lt
      obtain ⟨pa, pc, rfl⟩ := own_shape p2
      have HP := chid p2
      have HB2 := chid b2
      clear p2 b2 Z x1 xf xl zl
      go_wp2_with fail
      refine bodyPost_ret (v := pcV (.slice pa [((1 : Int), ((K.length : Nat) : Int))].length pc) 1) (by simp [results, Tryd.results22, go_sem, *]) rfl ?_
      rw [hi1.out, hi2.out]
      exact Mw.res HGe.out HBW.out (by rw [hr.out]; exact Nat.le_refl _) (by rw [hr.out, hWs.out]; omega) ((Q.out.early Bn.out).next HB2.out) HP.out HVs.out _ _

theorem Mw.step {mb : Nat} {w w1 w2 : World} {K2 : List Int} {vk v2 : Value} {F : List Nat} {K : List Int} (t : Mw mb F w K vk w1) (k : Mw mb (mft mb vk) w1 K2 v2 w2) : Mw mb F w K2 v2 w2 := by
  refine ⟨k.mkr, t.turn.trans k.turn t.foot, fun i hi => ?_⟩
  rcases k.foot i hi with h | h
  · exact t.foot i h
  · exact .inr (Nat.le_trans t.turn.size h)
set_option maxHeartbeats 2000000 in
set_option maxRecDepth 20000 in
theorem epair_c (mb : Nat) (K : List Int) (vk : Value) (n m : Int) (w : World) (h : Mkr w mb K vk) (hb : K.length + 2 ≤ 1000000) :
    Calls Tryd.prog 24 #[.pointer (some ⟨mb, 0, none⟩), .int .i64 n, .int .i64 m] w fun e w' => e = .returned (.int .i64 (pairAt K n m : Nat)) ∧ ∃ vk', Mw mb (mft mb vk) w (pairK K n m) vk' w' := by
  obtain ⟨ca, cc, rfl⟩ := own_shape h.cons
  have HR := chid (mkK h)
  have H := chid h
  have x1 := h.box.cell 0 _ rfl
  have xf := h.box.free 0 (by simp)
  have xl := h.box.lt
  obtain ⟨i0, hi, hz0, hz1, hz2⟩ := info_i6'
  have HS := chid (Mw.start h)
  clear h
  go_enter Tryd.func24, Tryd.ntmps24
  go_wp2_with fail
  go_loopw [8] (fun i wr => ∃ (k : Nat), i = .int .i64 (k : Nat) ∧ k ≤ K.length ∧ Hid (∀ j, j < k → ¬ (K[j]? = some n ∧ K[j + 1]? = some m)) ∧ wr = w) (fun i _ => match i with | .int _ z => ((K.length : Int) - z).toNat | _ => 0)
  case atStart => exact ⟨0, rfl, by omega, chid (fun j hj => by omega), rfl⟩
  case round =>
    obtain ⟨k, rfl, hk, HNo, rfl⟩ := hrel
    have hw2 : IntKind.i64.wrap ((k : Int) + 1) = (k : Int) + 1 := by rw [IntKind.wrap_i64]; omega
    by_cases hlt : k + 1 < K.length
    · have hlt' : (k : Int) + 1 < (K.length : Int) := by omega
      obtain ⟨g, rfl, hbx⟩ : ∃ g, ca = some ⟨g, 0, none⟩ ∧ Box wr g (flK K) := by
        rcases HR.out with h | h
        · rw [h] at hlt; simp at hlt
        · exact h
      have hk1 : k < K.length := by omega
      have hy0 : K[k]? = some K[k] := List.getElem?_eq_getElem hk1
      have hy1 : K[k + 1]? = some K[k + 1] := List.getElem?_eq_getElem hlt
      have c0 := hbx.cell k (.int .i64 K[k]) (by simp [flK, hk1])
      have c1 := hbx.cell (k + 1) (.int .i64 K[k + 1]) (by simp [flK, hlt])
      have gl := hbx.lt
      have hl3 : (k : Int) < (K.length : Int) := by omega
      have ht1 : ((k : Int) + 1).toNat = k + 1 := by omega
      generalize K[k] = y0 at *
      generalize K[k + 1] = y1 at *
      have HY := chid (And.intro hy0 hy1)
      clear hbx hy0 hy1
      by_cases he0 : y0 = n
      · by_cases he1 : y1 = m
        · subst he0 he1
          have HI := chid (findP_some HY.out.1 HY.out.2 HNo.out)
          have HP1 : Hid (pairAt K y0 y1 = k) := chid (by unfold pairAt; rw [HI.out])
          have HP2 : Hid (pairK K y0 y1 = K) := chid (by unfold pairK; rw [HI.out])
          go_wp2_with fail
          go_ret
          rw [HP1.out, HP2.out]
          exact ⟨rfl, _, HS.out⟩
        · have he1' : (y1 == m) = false := by simpa using he1
          have he0' : (y0 == n) = true := by simpa using he0
          go_wp2_with fail
          go_roundw
          case rel => exact ⟨k + 1, by go_num, by omega, chid (fun j hj hh => by
            by_cases h : j = k
            · subst h
              rw [HY.out.2] at hh
              exact he1 (Option.some.inj hh.2)
            · exact HNo.out j (by omega) hh), trivial⟩
          case measure => simp; omega
      · have he0' : (y0 == n) = false := by simpa using he0
        go_wp2_with fail
        go_roundw
        case rel => exact ⟨k + 1, by go_num, by omega, chid (fun j hj hh => by
          by_cases h : j = k
          · subst h
            rw [HY.out.1] at hh
            exact he0 (Option.some.inj hh.1)
          · exact HNo.out j (by omega) hh), trivial⟩
        case measure => simp; omega
    · have hlt' : ¬ (k : Int) + 1 < (K.length : Int) := by omega
      have HI := chid (findP_none (K := K) (n := n) (m := m) (fun j hj => HNo.out j (by omega)))
      have hsm : Hid (∀ x : Int, mb + 1 ≤ (wr.alloc (.cells #[.int .i64 x] 2)).heap.size) := chid (fun x => (H.out.new x).box.lt)
      rcases Nat.eq_zero_or_pos K.length with h0 | hp
      · have hgl : K.getLast? ≠ some n := by rw [List.eq_nil_of_length_eq_zero h0]; simp
        have h0' : (K.length : Int) = 0 := by omega
        clear h0
        have HP1 : Hid (pairAt K n m = K.length) := chid (by unfold pairAt; rw [HI.out]; exact if_neg hgl)
        have HP2 : Hid (pairK K n m = K ++ [n, m]) := chid (by unfold pairK; rw [HI.out]; exact if_neg hgl)
        have HA := chid (H.out.new n)
        replace hsm := chid (hsm.out n)
        have Bn := chid (below_new wr n)
        clear hgl
        go_wp2_with (first | (at_builtin; refine wpList_append_lies _ rfl _ _ 35 rfl (mb + 1) 2 i0 (.int .i64 0) 1 8 Tryd.underlying35 hi hz0 hz1 hz2 rfl (by decide) (.slice ca K.length cc) K.length (flK K) rfl HA.out.cons ⟨wr.heap.size, 0, none⟩ 1 1 [.int .i64 n] rfl rfl (one_new _ _) (by intro u hu; rw [List.mem_singleton.1 hu]; rfl) (by decide) (by unfold maxLen; omega) (by omega) hsm.out _ rfl ?_; intro g1 c1 w1 o1 k1 a1 l1; have q := mk_more HA.out o1 k1 a1; have b := q.1; have e3 := b.free 0 (by simp); have f3 := b.cell 0 _ rfl; have m3 := b.lt; obtain ⟨K2, hK2⟩ : ∃ K2, Hid (K2 = K ++ [n]) := ⟨_, chid rfl⟩; have HKl : Hid (K2.length = K.length + 1) := chid (by rw [hK2.out]; simp); rw [← hK2.out, ← HKl.out] at q; rw [← HKl.out]; have hb2 : K2.length ≤ 1000000 := (by have := HKl.out; omega); have HQ := chid q.2; have HA2 := chid (q.2.mkr.new m); have B2 := chid (below_new (w1.setCell ⟨mb, 0, none⟩ (.slice (some ⟨g1, 0, none⟩) K2.length c1)) m); have hsn : Hid (mb + 1 ≤ ((w1.setCell ⟨mb, 0, none⟩ (.slice (some ⟨g1, 0, none⟩) K2.length c1)).alloc (.cells #[.int .i64 m] 2)).heap.size) := chid HA2.out.box.lt; have HN2 : Hid (∀ j u, [Value.int .i64 m][j]? = some u → ((w1.setCell ⟨mb, 0, none⟩ (.slice (some ⟨g1, 0, none⟩) K2.length c1)).alloc (.cells #[.int .i64 m] 2)).cell? ((⟨w1.heap.size, 0, none⟩ : Addr).add j) = some u) := chid (by have h := one_new (w1.setCell ⟨mb, 0, none⟩ (.slice (some ⟨g1, 0, none⟩) K2.length c1)) m; rw [show (w1.setCell ⟨mb, 0, none⟩ (.slice (some ⟨g1, 0, none⟩) K2.length c1)).heap.size = w1.heap.size by simp] at h; exact h); have z1 := q.2.mkr.box.cell 0 _ rfl; have zl := q.2.mkr.box.lt; clear o1 k1 a1 l1 q b) | (at_builtin; refine wpList_append_lies _ rfl _ _ 35 rfl (mb + 1) 2 i0 (.int .i64 0) 1 8 Tryd.underlying35 hi hz0 hz1 hz2 rfl (by decide) (.slice (some ⟨g1, 0, none⟩) K2.length c1) K2.length (flK K2) rfl HA2.out.cons ⟨w1.heap.size, 0, none⟩ 1 1 [.int .i64 m] rfl rfl HN2.out (by intro u hu; rw [List.mem_singleton.1 hu]; rfl) (by decide) (by unfold maxLen; omega) (by omega) hsn.out _ rfl ?_; intro g2 c2 w2 o2 k2 a2 l2; have q := mk_more HA2.out o2 k2 a2; have b := q.1; have e5 := b.free 0 (by simp); have f5 := b.cell 0 _ rfl; have m5 := b.lt; have HQ5 := chid q.2; clear o2 k2 a2 l2 q b))
        go_ret
        rw [HP1.out, HP2.out, show K ++ [n, m] = K2 ++ [m] by rw [hK2.out]; simp]
        exact ⟨by rw [show (K2.length : Int) + 1 - 2 = (K.length : Int) by have := HKl.out; omega]; rfl, _, (HQ.out.early Bn.out).step (HQ5.out.early B2.out)⟩
      · have hkl : K.length - 1 < K.length := by omega
        obtain ⟨g, rfl, hbx⟩ : ∃ g, ca = some ⟨g, 0, none⟩ ∧ Box wr g (flK K) := by
          rcases HR.out with h | h
          · rw [h] at hp; simp at hp
          · exact h
        have hlast : Hid (K.getLast? = some K[K.length - 1]) := chid (by rw [List.getLast?_eq_getElem?, List.getElem?_eq_getElem hkl])
        have c0 := hbx.cell (K.length - 1) (.int .i64 K[K.length - 1]) (by simp [flK, hkl])
        have gl := hbx.lt
        have hn0 : ¬ (K.length : Int) = 0 := by omega
        have hn1 : ((K.length : Int) == 0) = false := by rw [beq_eq_false_iff_ne]; omega
        have hn2 : ¬ (K.length : Int) - 1 < 0 := by omega
        have hl3 : (K.length : Int) - 1 < (K.length : Int) := by omega
        have hw1 : IntKind.i64.wrap ((K.length : Int) - 1) = (K.length : Int) - 1 := by rw [IntKind.wrap_i64]; omega
        have ht1 : ((K.length : Int) - 1).toNat = K.length - 1 := by omega
        generalize K[K.length - 1] = y at *
        clear hbx
        by_cases he : y = n
        · subst he
          have HP1 : Hid (pairAt K y m = K.length - 1) := chid (by unfold pairAt; rw [HI.out]; exact if_pos hlast.out)
          have HP2 : Hid (pairK K y m = K ++ [m]) := chid (by unfold pairK; rw [HI.out]; exact if_pos hlast.out)
          have HA := chid (H.out.new m)
          replace hsm := chid (hsm.out m)
          have hcast : ((K.length - 1 : Nat) : Int) = (K.length : Int) - 1 := by omega
          have Bn := chid (below_new wr m)
          go_wp2_with (at_builtin; refine wpList_append_lies _ rfl _ _ 35 rfl (mb + 1) 2 i0 (.int .i64 0) 1 8 Tryd.underlying35 hi hz0 hz1 hz2 rfl (by decide) (.slice (some ⟨g, 0, none⟩) K.length cc) K.length (flK K) rfl HA.out.cons ⟨wr.heap.size, 0, none⟩ 1 1 [.int .i64 m] rfl rfl (one_new _ _) (by intro u hu; rw [List.mem_singleton.1 hu]; rfl) (by decide) (by unfold maxLen; omega) (by omega) hsm.out _ rfl ?_; intro g1 c1 w1 o1 k1 a1 l1; have q := mk_more HA.out o1 k1 a1; have b := q.1; have e3 := b.free 0 (by simp); have f3 := b.cell 0 _ rfl; have m3 := b.lt; have HQ := chid q.2; clear o1 k1 a1 l1 q b)
          go_ret
          rw [HP1.out, HP2.out, hcast]
          exact ⟨by rw [show (K.length : Int) + 1 - 2 = (K.length : Int) - 1 by omega]; rfl, _, HQ.out.early Bn.out⟩
        · have he' : (y != n) = true := by simpa using he
          have hgl : K.getLast? ≠ some n := by rw [hlast.out]; exact fun e => he (Option.some.inj e)
          have HP1 : Hid (pairAt K n m = K.length) := chid (by unfold pairAt; rw [HI.out]; exact if_neg hgl)
          have HP2 : Hid (pairK K n m = K ++ [n, m]) := chid (by unfold pairK; rw [HI.out]; exact if_neg hgl)
          have HA := chid (H.out.new n)
          replace hsm := chid (hsm.out n)
          have Bn := chid (below_new wr n)
          clear hgl
          go_wp2_with (first | (at_builtin; refine wpList_append_lies _ rfl _ _ 35 rfl (mb + 1) 2 i0 (.int .i64 0) 1 8 Tryd.underlying35 hi hz0 hz1 hz2 rfl (by decide) (.slice (some ⟨g, 0, none⟩) K.length cc) K.length (flK K) rfl HA.out.cons ⟨wr.heap.size, 0, none⟩ 1 1 [.int .i64 n] rfl rfl (one_new _ _) (by intro u hu; rw [List.mem_singleton.1 hu]; rfl) (by decide) (by unfold maxLen; omega) (by omega) hsm.out _ rfl ?_; intro g1 c1 w1 o1 k1 a1 l1; have q := mk_more HA.out o1 k1 a1; have b := q.1; have e3 := b.free 0 (by simp); have f3 := b.cell 0 _ rfl; have m3 := b.lt; obtain ⟨K2, hK2⟩ : ∃ K2, Hid (K2 = K ++ [n]) := ⟨_, chid rfl⟩; have HKl : Hid (K2.length = K.length + 1) := chid (by rw [hK2.out]; simp); rw [← hK2.out, ← HKl.out] at q; rw [← HKl.out]; have hb2 : K2.length ≤ 1000000 := (by have := HKl.out; omega); have HQ := chid q.2; have HA2 := chid (q.2.mkr.new m); have B2 := chid (below_new (w1.setCell ⟨mb, 0, none⟩ (.slice (some ⟨g1, 0, none⟩) K2.length c1)) m); have hsn : Hid (mb + 1 ≤ ((w1.setCell ⟨mb, 0, none⟩ (.slice (some ⟨g1, 0, none⟩) K2.length c1)).alloc (.cells #[.int .i64 m] 2)).heap.size) := chid HA2.out.box.lt; have HN2 : Hid (∀ j u, [Value.int .i64 m][j]? = some u → ((w1.setCell ⟨mb, 0, none⟩ (.slice (some ⟨g1, 0, none⟩) K2.length c1)).alloc (.cells #[.int .i64 m] 2)).cell? ((⟨w1.heap.size, 0, none⟩ : Addr).add j) = some u) := chid (by have h := one_new (w1.setCell ⟨mb, 0, none⟩ (.slice (some ⟨g1, 0, none⟩) K2.length c1)) m; rw [show (w1.setCell ⟨mb, 0, none⟩ (.slice (some ⟨g1, 0, none⟩) K2.length c1)).heap.size = w1.heap.size by simp] at h; exact h); have z1 := q.2.mkr.box.cell 0 _ rfl; have zl := q.2.mkr.box.lt; clear o1 k1 a1 l1 q b) | (at_builtin; refine wpList_append_lies _ rfl _ _ 35 rfl (mb + 1) 2 i0 (.int .i64 0) 1 8 Tryd.underlying35 hi hz0 hz1 hz2 rfl (by decide) (.slice (some ⟨g1, 0, none⟩) K2.length c1) K2.length (flK K2) rfl HA2.out.cons ⟨w1.heap.size, 0, none⟩ 1 1 [.int .i64 m] rfl rfl HN2.out (by intro u hu; rw [List.mem_singleton.1 hu]; rfl) (by decide) (by unfold maxLen; omega) (by omega) hsn.out _ rfl ?_; intro g2 c2 w2 o2 k2 a2 l2; have q := mk_more HA2.out o2 k2 a2; have b := q.1; have e5 := b.free 0 (by simp); have f5 := b.cell 0 _ rfl; have m5 := b.lt; have HQ5 := chid q.2; clear o2 k2 a2 l2 q b))
          go_ret
          rw [HP1.out, HP2.out, show K ++ [n, m] = K2 ++ [m] by rw [hK2.out]; simp]
          exact ⟨by rw [show (K2.length : Int) + 1 - 2 = (K.length : Int) by have := HKl.out; omega]; rfl, _, (HQ.out.early Bn.out).step (HQ5.out.early B2.out)⟩

theorem viaP2 {P : Program} {c : Code} {K : Act → World → Prop} {Q' : Exit → Act → World → Prop} {a : Act} {w : World} {F : Nat → Option Addr → Nat → Option Addr → Nat → Act} (G : Nat → Option Addr → Nat → Option Addr → Nat → World → Prop)
    (hreg : c.wp P (Exit.then (fun a' w' => ∃ dd a1 c1 a2 c2, a' = F dd a1 c1 a2 c2 ∧ G dd a1 c1 a2 c2 w') Q') a w) (hrest : ∀ dd a1 c1 a2 c2 w', G dd a1 c1 a2 c2 w' → K (F dd a1 c1 a2 c2) w') : c.wp P (Exit.then K Q') a w := by
  refine Code.wp_mono (fun e a w h => ?_) hreg
  cases e with
  | normal => obtain ⟨dd, a1, c1, a2, c2, rfl, hg⟩ := h; exact hrest _ _ _ _ _ _ hg
  | _ => exact h
theorem viaQ2 {P : Program} {c : Code} {K : Act → World → Prop} {Q' : Exit → Act → World → Prop} {a : Act} {w : World} {F : Option Addr → Nat → Option Addr → Nat → Act} (G : Option Addr → Nat → Option Addr → Nat → World → Prop)
    (hreg : c.wp P (Exit.then (fun a' w' => ∃ a1 c1 a2 c2, a' = F a1 c1 a2 c2 ∧ G a1 c1 a2 c2 w') Q') a w) (hrest : ∀ a1 c1 a2 c2 w', G a1 c1 a2 c2 w' → K (F a1 c1 a2 c2) w') : c.wp P (Exit.then K Q') a w := by
  refine Code.wp_mono (fun e a w h => ?_) hreg
  cases e with
  | normal => obtain ⟨a1, c1, a2, c2, rfl, hg⟩ := h; exact hrest _ _ _ _ _ hg
  | _ => exact h
theorem step_e {ops : Array Oper} {o : Oper} {a : Act} {w : World} {K : Act → World → Prop} {Q : Exit → Act → World → Prop} {E : Prop} (hgd : o.guard = none) {f : Nat} {args : Array Value} {R : Value → World → Prop}
    (hc : Calls Tryd.prog f args w fun e w' => ∃ u, e = .returned u ∧ R u w') (he : (execOp a.eval o).run Tryd.prog w = .ok (.enter f args) w) (hK : ∀ u w', R u w' → K (a.put o.dst u) w') :
    if Region.wanted o (yielded ops a.tmps) = true then Oper.wp Tryd.prog o a w K Q else E := by
  have hwd : Region.wanted o (yielded ops a.tmps) = true := by simp [Region.wanted, hgd]
  rw [if_pos hwd]
  unfold Oper.wp
  rw [he, Oper.upon_enter]
  refine hc.mono fun e w' h => ?_
  obtain ⟨u, rfl, h1⟩ := h
  exact hK u w' h1
def JB (C : List Ins) : Prop := ∀ x, x ∈ C → jmpB x.1 = true → 0 ≤ x.2 ∧ x.2 ≤ 1152921504606846976
theorem JB.one {op a : Int} (h : jmpB op = true → 0 ≤ a ∧ a ≤ 1152921504606846976) : JB [(op, a)] := fun x hx hj => by
  rw [List.mem_singleton.1 hx] at hj ⊢
  exact h hj
theorem eone_b (op a : Int) (h : Nat) (X : World) : Calls Tryd.prog 14 #[.int .i64 op, .int .i64 a, .int .i64 (h : Nat)] X fun e u => ∃ aa cc, e = .returned (.agg #[.slice aa 1 cc, .int .i64 (h : Nat)]) ∧ Below X.heap.size X u ∧ PcR X.heap.size u [(op, a)] (.slice aa 1 cc) := by
  refine (eone_c op a h X).mono ?_
  rintro e u ⟨v, rfl, b, p⟩
  obtain ⟨aa, cc, rfl⟩ := own_shape p
  exact ⟨aa, cc, rfl, b, p⟩
theorem ethen_b (A B : List Ins) (ha hb d : Nat) (va vb : Value) (X : World) (h1 : PcQ X A va) (h2 : PcQ X B vb) (hl : A.length + B.length ≤ 1000000) (hh : ha + hb + d ≤ 1000000) (hj : JB B) (C : List Ins) (hC : C = cat A B) (n : Nat) (hn : n = C.length) (h : Nat) (hm : h = max ha (hb + d)) :
    Calls Tryd.prog 13 #[.agg #[va, .int .i64 (ha : Nat)], .agg #[vb, .int .i64 (hb : Nat)], .int .i64 (d : Nat)] X fun e u => ∃ aa cc, e = .returned (.agg #[.slice aa n cc, .int .i64 (h : Nat)]) ∧ Below X.heap.size X u ∧ PcR X.heap.size u C (.slice aa n cc) := by
  subst hC hn hm
  refine (then_c A B ha hb d va vb X h1 h2 hl hh hj).mono ?_
  rintro e u ⟨v, rfl, b, p⟩
  obtain ⟨aa, cc, rfl⟩ := own_shape p
  exact ⟨aa, cc, rfl, b, p⟩
theorem eone_s (op a : Int) (h : Nat) (X : World) : Calls Tryd.prog 14 #[.int .i64 op, .int .i64 a, .int .i64 (h : Nat)] X fun e u => ∃ v, e = .returned v ∧ ∃ aa cc, v = .agg #[.slice aa 1 cc, .int .i64 (h : Nat)] ∧ Below X.heap.size X u ∧ PcR X.heap.size u [(op, a)] (.slice aa 1 cc) :=
  (eone_b op a h X).mono fun _ _ ⟨aa, cc, h1, h2, h3⟩ => ⟨_, h1, aa, cc, rfl, h2, h3⟩
theorem ethen_s (A B : List Ins) (ha hb d : Nat) (va vb : Value) (X : World) (h1 : PcQ X A va) (h2 : PcQ X B vb) (hl : A.length + B.length ≤ 1000000) (hh : ha + hb + d ≤ 1000000) (hj : JB B) (C : List Ins) (hC : C = cat A B) (n : Nat) (hn : n = C.length) (h : Nat) (hm : h = max ha (hb + d)) :
    Calls Tryd.prog 13 #[.agg #[va, .int .i64 (ha : Nat)], .agg #[vb, .int .i64 (hb : Nat)], .int .i64 (d : Nat)] X fun e u => ∃ v, e = .returned v ∧ ∃ aa cc, v = .agg #[.slice aa n cc, .int .i64 (h : Nat)] ∧ Below X.heap.size X u ∧ PcR X.heap.size u C (.slice aa n cc) :=
  (ethen_b A B ha hb d va vb X h1 h2 hl hh hj C hC n hn h hm).mono fun _ _ ⟨aa, cc, h1, h2, h3⟩ => ⟨_, h1, aa, cc, rfl, h2, h3⟩
theorem pcq_turn {w w' : World} {S : List Nat} {C : List Ins} {v : Value} (h : PcQ w C v) (t : Turn S w w') (hS : ∀ g, v.ownBlock = some g → g ∉ S) : PcQ w' C v := by
  rcases h with h | ⟨g, cap, rfl, hb⟩
  · exact .inl h
  · exact .inr ⟨g, cap, rfl, hb.turn t (hS g rfl)⟩
structure OutAt (W : World) (C : List Ins) (n h : Nat) (dd : Nat) (aa : Option Addr) (cc : Nat) (w' : World) : Prop where
  bl : Below W.heap.size W w'
  box : Box w' dd [.slice aa n cc, .int .i64 (h : Nat)]
  lo : W.heap.size ≤ dd
  pc : PcQ w' C (.slice aa n cc)
theorem OutAt.first {W X u : World} {C : List Ins} {n h lo : Nat} {aa : Option Addr} {cc dd : Nat} (hd : dd < lo) (hx : Below W.heap.size W X) (hz : Box X dd [.slice none 0 0, .int .i64 0]) (hlo : W.heap.size ≤ dd) (b : Below X.heap.size X u) (p : PcR lo u C (.slice aa n cc)) : OutAt W C n h dd aa cc ((u.setCell ⟨dd, 0, none⟩ (.slice aa n cc)).setCell ⟨dd, 1, none⟩ (.int .i64 (h : Nat))) := by
  have T := turn_tr (cturn_set u dd 0 (.slice aa n cc)) (cturn_set _ dd 1 (.int .i64 (h : Nat)))
  have k := cbelow_on hx b hx.size
  refine ⟨k.trans (T.below (fun i hi => by rw [List.mem_singleton.1 hi]; exact hlo) k.size), ((hz.next b).set 0 (by simp) _).set 1 (by simp) _, hlo, pcq_turn (pc_read p) T (fun g hg hm => ?_)⟩
  have := (p.lt g hg).1
  rw [List.mem_singleton.1 hm] at this
  omega
theorem OutAt.last {W u : World} {C : List Ins} {n h lo : Nat} {aa : Option Addr} {cc : Nat} (k : Below W.heap.size W u) (p : PcR lo u C (.slice aa n cc)) : OutAt W C n h u.heap.size aa cc (u.alloc (.cells #[.slice aa n cc, .int .i64 (h : Nat)] 55)) :=
  ⟨k.alloc k.size _, Box.new u [.slice aa n cc, .int .i64 (h : Nat)] 55, k.size, (pc_read p).next ((Below.refl _ _).alloc (Nat.le_refl _) _)⟩
theorem OutAt.more {W w1 u : World} {C C2 : List Ins} {n n2 h h2 : Nat} {dd : Nat} {aa a2 : Option Addr} {cc c2 : Nat} (o : OutAt W C n h dd aa cc w1) (b : Below w1.heap.size w1 u) (p : PcR w1.heap.size u C2 (.slice a2 n2 c2)) : OutAt W C2 n2 h2 dd a2 c2 ((u.setCell ⟨dd, 0, none⟩ (.slice a2 n2 c2)).setCell ⟨dd, 1, none⟩ (.int .i64 (h2 : Nat))) := by
  have T := turn_tr (cturn_set u dd 0 (.slice a2 n2 c2)) (cturn_set _ dd 1 (.int .i64 (h2 : Nat)))
  have k := cbelow_on o.bl b o.bl.size
  have hl := o.box.lt
  refine ⟨k.trans (T.below (fun i hi => by rw [List.mem_singleton.1 hi]; exact o.lo) k.size), ((o.box.next b).set 0 (by simp) _).set 1 (by simp) _, o.lo, pcq_turn (pc_read p) T (fun g hg hm => ?_)⟩
  have := (p.lt g hg).1
  rw [List.mem_singleton.1 hm] at this
  omega
theorem OutAt.more2 {W w1 wk u : World} {C C2 : List Ins} {n n2 h h2 : Nat} {dd : Nat} {aa a2 : Option Addr} {cc c2 : Nat} (o : OutAt W C n h dd aa cc w1) (k : Below w1.heap.size w1 wk) (b : Below wk.heap.size wk u) (p : PcR wk.heap.size u C2 (.slice a2 n2 c2)) : OutAt W C2 n2 h2 dd a2 c2 ((u.setCell ⟨dd, 0, none⟩ (.slice a2 n2 c2)).setCell ⟨dd, 1, none⟩ (.int .i64 (h2 : Nat))) :=
  o.more (cbelow_on k b k.size) (pc_low p k.size)
theorem cell2_far {w : World} {d b j : Nat} {x y : Value} (h : b ≠ d) : ((w.setCell ⟨d, 0, none⟩ x).setCell ⟨d, 1, none⟩ y).cell? ⟨b, j, none⟩ = w.cell? ⟨b, j, none⟩ := by
  rw [World.cell?_setCell_far _ _ _ _ (fun e => h e.symm), World.cell?_setCell_far _ _ _ _ (fun e => h e.symm)]
theorem ebel (w : World) (o : Obj) : Below w.heap.size w (w.alloc o) := (Below.refl _ _).alloc (Nat.le_refl _) _
theorem bdr (W : World) : Below W.heap.size W W.drew := (Below.refl _ _).drew
theorem bda (W : World) (o : Obj) : Below W.heap.size W (W.alloc o).drew := ((Below.refl _ _).alloc (Nat.le_refl _) _).drew
theorem zbox {X u : World} (b : Below (X.alloc (.cells #[.slice none 0 0, .int .i64 0] 55)).heap.size (X.alloc (.cells #[.slice none 0 0, .int .i64 0] 55)) u) : Box u X.heap.size [.slice none 0 0, .int .i64 0] := Box.next (Box.new X [.slice none 0 0, .int .i64 0] 55) b
theorem zboxd {X u : World} (b : Below (X.alloc (.cells #[.slice none 0 0, .int .i64 0] 55)).drew.heap.size (X.alloc (.cells #[.slice none 0 0, .int .i64 0] 55)).drew u) : Box u X.heap.size [.slice none 0 0, .int .i64 0] := Box.next ((Box.new X [.slice none 0 0, .int .i64 0] 55).next (Below.refl _ _).drew) b
end Go.Proofs.YtigldebdljfnbaaDoor
