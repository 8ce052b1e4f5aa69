/- Package codec: the document's number. -/
import Derived.Test.YtgfimpphpadmgaaDoorDcF
namespace Go.Proofs.YtgfimpphpadmgaaDoor
open Go.RowKit

/-- The bytes so far lie in the row v; nothing else but F was touched. -/
structure Nb (B : Nat) (F : List Nat) (w : World) (l : List UInt8) (w' : World) (v : Value) : Prop where
  row : Bys w' B v l
  turn : Turn F w w'
  own : ∀ i, v.ownBlock = some i → i ∈ F ∨ w.heap.size ≤ i
theorem Nb.refl {B : Nat} {w : World} {l : List UInt8} {v : Value} (h : Bys w B v l) : Nb B (blk v) w l w v := ⟨h, Turn.refl _ _, fun _ hi => .inl (blk_mem.2 hi)⟩
theorem Nb.trans {B : Nat} {F : List Nat} {a b c : World} {l m : List UInt8} {v u : Value} (h : Nb B F a l b v) (k : Nb B (blk v) b m c u) : Nb B F a m c u := by
  refine ⟨k.row, h.turn.trans k.turn (fun i hi => h.own i (blk_mem.1 hi)), fun i hi => ?_⟩
  rcases k.own i hi with q | q
  · exact h.own i (blk_mem.1 q)
  · exact .inr (Nat.le_trans h.turn.size q)
theorem Nb.after {B : Nat} {F : List Nat} {a b c : World} {l : List UInt8} {v : Value} (h : Nb B F a l b v) (k : Below b.heap.size b c) : Nb B F a l c v :=
  ⟨own_turn h.row (S := []) (Turn.of_below k) (fun _ _ hm => by cases hm), h.turn.andBelow k, h.own⟩
theorem nb_laid {B : Nat} {w w1 w3 : World} {l : List UInt8} {x : UInt8} {ca : Option Addr} {cc g1 c1 : Nat} (hb : Below w.heap.size w w1) (ho : w3.ownsRow B 5 1 (.slice (some ⟨g1, 0, none⟩) (l.length + 1) c1) (l.length + 1) (l.map byc ++ [byc x])) (hg : w1.grownBy w3 (Value.slice ca l.length cc).ownBlock) (hl : (Value.slice ca l.length cc).ownBlock = some g1 ∨ g1 = w1.heap.size) :
    Nb B (blk (.slice ca l.length cc)) w (l ++ [x]) w3 (.slice (some ⟨g1, 0, none⟩) (l.length + 1) c1) := by
  refine ⟨?_, (Turn.of_below hb).trans (S' := blk (.slice ca l.length cc)) ⟨hg.os, hg.tape, hg.output, hg.size, fun k hk hn => hg.block k hk (fun e => hn (blk_mem.2 e.symm))⟩ (fun i hi => .inl hi), fun i hi => ?_⟩
  · show World.ownsRow _ _ _ _ _ (l ++ [x]).length _
    rw [List.map_append, List.length_append]
    exact ho
  · have e : g1 = i := Option.some.inj hi
    subst e
    rcases hl with hl | hl
    · exact .inl (blk_mem.2 hl)
    · exact .inr (by have := hb.size; omega)
set_option maxHeartbeats 1000000 in
set_option maxRecDepth 20000 in
theorem number_c (B : Nat) (k : Nat) (hk : k ≤ 8) (n : Int) (l : List UInt8) (v : Value) (w : World) (h : Bys w B v l) (hl : l.length ≤ 1000000) (hB : B ≤ w.heap.size) :
    Calls Tryd.prog 20 #[v, .int .u64 n, .int .i64 (k : Nat)] w fun e w' => ∃ v', e = .returned v' ∧ Nb B (blk v) w (l ++ beN k n) w' v' := by
  obtain ⟨Z, hZ⟩ : ∃ Z, Hid (Z = l ++ beN k n) := ⟨_, chid rfl⟩
  have HZl : Hid (Z.length ≤ 1000008) := chid (by rw [hZ.out, List.length_append, beN_len]; omega)
  rw [← hZ.out]
  have H0 := chid (Nb.refl h)
  obtain ⟨ca, cc, rfl⟩ := own_shape h
  obtain ⟨i0, hi, hz0, hz1, hz2⟩ := info_u8'
  clear h
  go_enter Tryd.func20, Tryd.ntmps20
  go_wp2_with fail
  go_loopw [0, 7] (fun r i wr => ∃ (a : Nat), i = .int .i64 ((a : Nat) - 1) ∧ a ≤ k ∧ ∃ X ra rc, r = .slice ra (X : List UInt8).length rc ∧ Hid (X ++ beN a n = Z) ∧ Hid (Nb B (blk (.slice ca l.length cc)) w X wr (.slice ra X.length rc))) (fun _ i _ => match i with | .int _ z => (z + 1).toNat | _ => 0)
  case atStart => exact ⟨k, rfl, by omega, l, ca, cc, rfl, chid hZ.out.symm, H0⟩
  case round =>
    obtain ⟨a, rfl, ha, X, ra, rc, rfl, HX, HN⟩ := hrel
    by_cases hlt : 1 ≤ a
    · obtain ⟨b, rfl⟩ : ∃ b, a = b + 1 := ⟨a - 1, by omega⟩
      have hb1 : ((b + 1 : Nat) : Int) - 1 = (b : Int) := by omega
      rw [hb1]
      have hb0 : (0 : Int) ≤ (b : Int) := Int.natCast_nonneg _
      have hb8 : IntKind.i64.wrap (8 * (b : Int)) = 8 * (b : Int) := by rw [IntKind.wrap_i64]; omega
      have hu8 : IntKind.u64.wrap (8 * (b : Int)) = 8 * (b : Int) := by rw [IntKind.wrap_u64]; omega
      have hXl : X.length ≤ 1000008 := by have h1 := HZl.out; rw [← HX.out] at h1; simp only [List.length_append] at h1; omega
      have HX2 : Hid (X ++ [UInt8.ofNat ((n / 256 ^ b) % 256).toNat] ++ beN b n = Z) := by rw [← HX.out, beN]; exact chid (by simp)
      have hxx : Value.int .u8 (n / 2 ^ (8 * b) % 256) = byc (UInt8.ofNat ((n / 256 ^ b) % 256).toNat) := by
        have := byte_of n b
        rw [IntKind.wrap_u8] at this
        rw [pow256]
        exact congrArg _ this
      have hxc : (UInt8.ofNat ((n / 256 ^ b) % 256).toNat).toNat < 256 := UInt8.toNat_lt _
      generalize UInt8.ofNat ((n / 256 ^ b) % 256).toNat = x at *
      obtain ⟨L, hLe⟩ : ∃ L, Hid (L = X.length) := ⟨_, chid rfl⟩
      have al := bel_alloc wr (.cells #[byc x] 5)
      have HO : Hid ((wr.alloc (.cells #[byc x] 5)).ownsRow B 5 1 (.slice ra X.length rc) X.length (X.map byc)) := chid (own_turn HN.out.row (S := []) (Turn.of_below al) (fun _ _ hm => by cases hm))
      have HNw : Hid (∀ j u, [byc x][j]? = some u → (wr.alloc (.cells #[byc x] 5)).cell? ((⟨wr.heap.size, 0, none⟩ : Addr).add j) = some u) := chid (fun j u hu => by
        have hj0 : j = 0 := by have := (List.getElem?_eq_some_iff.1 hu).1; simp at this; omega
        subst hj0
        exact (Box.new wr [byc x] 5).cell 0 _ hu)
      have HG : Hid (∀ g1 c1 w3, w3.ownsRow B 5 1 (.slice (some ⟨g1, 0, none⟩) (X.length + 1) c1) (X.length + 1) (X.map byc ++ [byc x]) → (wr.alloc (.cells #[byc x] 5)).grownBy w3 (Value.slice ra X.length rc).ownBlock → ((Value.slice ra X.length rc).ownBlock = some g1 ∨ g1 = (wr.alloc (.cells #[byc x] 5)).heap.size) → Nb B (blk (.slice ca l.length cc)) w (X ++ [x]) w3 (.slice (some ⟨g1, 0, none⟩) (X ++ [x]).length c1)) := chid (fun g1 c1 w3 ho hg hl => by
        rw [show (X ++ [x]).length = X.length + 1 by simp]
        exact Nb.trans HN.out (nb_laid al ho hg hl))
      have hBs : B ≤ wr.heap.size := by have := HN.out.turn.size; omega
      rw [← hLe.out] at HO hXl
      rw [← hLe.out] at HG ⊢
      go_wp2_with (at_builtin; refine wpList_append_lies _ rfl (.tmp 14) (.tmp 21) 31 rfl B 5 i0 (.int .u8 0) 1 1 Tryd.underlying31 hi hz0 hz1 hz2 rfl (by decide) (.slice ra L rc) L (X.map byc) (by simp [Act.eval]) HO.out ⟨wr.heap.size, 0, none⟩ 1 1 [byc x] (by simp [Act.eval]) rfl HNw.out (by intro u hu; simp only [List.mem_cons, List.not_mem_nil, or_false] at hu; rcases hu with rfl; rfl) (by decide) (by unfold maxLen; omega) (by omega) (by simp; omega) _ rfl ?_; intro g1 c1 w3 o3 k3 a3 l3; have q3 := chid (HG.out g1 c1 w3 o3 k3 a3); clear o3 k3 a3 l3)
      go_roundw
      case rel => exact ⟨b, rfl, by omega, X ++ [x], _, _, by rw [hLe.out, List.length_append]; rfl, HX2, q3⟩
      case measure => simp
    · have h0 : a = 0 := by omega
      subst h0
      have hlt2' : ¬ (0 : Int) ≤ ((0 : Nat) : Int) - 1 := by omega
      have e : X = Z := by simpa [beN] using HX.out
      go_wp2_with fail
      go_ret
      exact ⟨_, rfl, by rw [← e]; exact HN.out⟩
end Go.Proofs.YtgfimpphpadmgaaDoor
