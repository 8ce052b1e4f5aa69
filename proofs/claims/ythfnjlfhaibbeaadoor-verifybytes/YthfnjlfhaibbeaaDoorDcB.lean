/- Package codec: the writer. -/
import Derived.Test.YthfnjlfhaibbeaaDoorDcA
namespace Go.Proofs.YthfnjlfhaibbeaaDoor
open Go.RowKit

/-- The writer: its box, the bytes so far. -/
structure Wr (w : World) (wb : Nat) (l : List UInt8) (v : Value) : Prop where
  box : Box w wb [v]
  row : Bys w (wb + 1) v l
/-- The writer's blocks. -/
def foot (wb : Nat) (v : Value) : List Nat := wb :: blk v
theorem foot_mem {wb : Nat} {v : Value} {i : Nat} : i ∈ foot wb v ↔ i = wb ∨ v.ownBlock = some i := by
  unfold foot
  rw [List.mem_cons, blk_mem]
theorem Wr.ge {w : World} {wb : Nat} {l : List UInt8} {v : Value} (h : Wr w wb l v) : ∀ i, i ∈ foot wb v → wb ≤ i ∧ i < w.heap.size := by
  intro i hi
  rcases foot_mem.1 hi with rfl | hi
  · exact ⟨Nat.le_refl _, h.box.lt⟩
  · have := h.row.lt i hi; omega
theorem Wr.turn {w w' : World} {S : List Nat} {wb : Nat} {l : List UInt8} {v : Value} (h : Wr w wb l v) (t : Turn S w w') (hS : ∀ i, i ∈ foot wb v → i ∉ S) : Wr w' wb l v :=
  ⟨h.box.turn t (hS wb (foot_mem.2 (.inl rfl))), own_turn h.row t (fun b hb => hS b (foot_mem.2 (.inr hb)))⟩
theorem Wr.next {w w' : World} {wb : Nat} {l : List UInt8} {v : Value} (h : Wr w wb l v) (k : Below w.heap.size w w') : Wr w' wb l v := h.turn (S := []) (Turn.of_below k) (fun _ _ hm => by cases hm)
/-- What became of the writer: the bytes l; nothing else but F was touched. -/
def Wt (wb : Nat) (F : List Nat) (w : World) (l : List UInt8) (w' : World) : Prop := ∃ v, Wr w' wb l v ∧ Turn F w w' ∧ ∀ i, i ∈ foot wb v → i ∈ F ∨ w.heap.size ≤ i
theorem Wt.refl {w : World} {wb : Nat} {l : List UInt8} {v : Value} (h : Wr w wb l v) : Wt wb (foot wb v) w l w := ⟨v, h, Turn.refl _ _, fun _ hi => .inl hi⟩
theorem Wt.trans {a b c : World} {wb : Nat} {F : List Nat} {l : List UInt8} {v : Value} (t : Turn F a b) (hf : ∀ i, i ∈ foot wb v → i ∈ F ∨ a.heap.size ≤ i) (k : Wt wb (foot wb v) b l c) : Wt wb F a l c := by
  obtain ⟨v', h1, h2, h3⟩ := k
  refine ⟨v', h1, t.trans h2 hf, fun i hi => ?_⟩
  rcases h3 i hi with h | h
  · exact hf i h
  · exact .inr (Nat.le_trans t.size h)
theorem Wt.after {a b c : World} {wb : Nat} {F : List Nat} {l : List UInt8} (k : Wt wb F a l b) (h : Below b.heap.size b c) : Wt wb F a l c := by
  obtain ⟨v', h1, h2, h3⟩ := k
  exact ⟨v', h1.next h, h2.andBelow h, h3⟩
theorem Wt.before {a b c : World} {wb : Nat} {l : List UInt8} {v : Value} (h : Below a.heap.size a b) (k : Wt wb (foot wb v) b l c) : Wt wb (foot wb v) a l c :=
  Wt.trans (Turn.of_below h) (fun _ hi => .inl hi) k
/-- One byte more is laid: what the walk of put finds behind its append. -/
theorem wr_laid {w w3 : World} {wb : Nat} {l : List UInt8} {x : UInt8} {ca : Option Addr} {cc g1 c1 : Nat} (h : Wr w wb l (.slice ca l.length cc)) (ho : w3.ownsRow (wb + 1) 5 1 (.slice (some ⟨g1, 0, none⟩) (l.length + 1) c1) (l.length + 1) (l.map byc ++ [byc x])) (hg : w.grownBy w3 (Value.slice ca l.length cc).ownBlock) (hl : (Value.slice ca l.length cc).ownBlock = some g1 ∨ g1 = w.heap.size) :
    Box w3 wb [.slice ca l.length cc] ∧ Wt wb (foot wb (.slice ca l.length cc)) w (l ++ [x]) (w3.setCell ⟨wb, 0, none⟩ (.slice (some ⟨g1, 0, none⟩) (l.length + 1) c1)) := by
  have hnb : ∀ i, (Value.slice ca l.length cc).ownBlock = some i → wb + 1 ≤ i := fun i hi => (h.row.lt i hi).1
  have T1 : Turn (blk (.slice ca l.length cc)) w w3 := ⟨hg.os, hg.tape, hg.output, hg.size, fun k hk hn => hg.block k hk (fun e => hn (blk_mem.2 e.symm))⟩
  have b3 : Box w3 wb [.slice ca l.length cc] := h.box.turn T1 (fun hm => by have := hnb wb (blk_mem.1 hm); omega)
  have T2 := cturn_set w3 wb 0 (.slice (some ⟨g1, 0, none⟩) (l.length + 1) c1)
  have b4 := b3.set 0 (by simp) (.slice (some ⟨g1, 0, none⟩) (l.length + 1) c1)
  have hg1 : wb + 1 ≤ g1 := (ho.lt g1 rfl).1
  have T : Turn (foot wb (.slice ca l.length cc)) w (w3.setCell ⟨wb, 0, none⟩ (.slice (some ⟨g1, 0, none⟩) (l.length + 1) c1)) := ⟨T2.os.trans T1.os, T2.tape.trans T1.tape, T2.output.trans T1.output, Nat.le_trans T1.size T2.size, fun k hk hn => (T2.block k (Nat.lt_of_lt_of_le hk T1.size) (fun hm => hn (foot_mem.2 (.inl (List.mem_singleton.1 hm))))).trans (T1.block k hk (fun hm => hn (foot_mem.2 (.inr (blk_mem.1 hm)))))⟩
  refine ⟨b3, .slice (some ⟨g1, 0, none⟩) (l.length + 1) c1, ⟨b4, ?_⟩, T, ?_⟩
  · show World.ownsRow _ _ _ _ _ (l ++ [x]).length _
    rw [List.map_append, List.length_append]
    exact own_of_keep ho (fun b hb => T2.block b (ho.lt b hb).2 (by have := (ho.lt b hb).1; simp; omega))
  · intro i hi
    rcases foot_mem.1 hi with rfl | hi
    · exact .inl (foot_mem.2 (.inl rfl))
    · have e : g1 = i := Option.some.inj hi
      subst e
      rcases hl with hl | hl
      · exact .inl (foot_mem.2 (.inr hl))
      · exact .inr (by omega)
/-- The byte that is laid. -/
theorem byte_of (x : Int) (k : Nat) : IntKind.u8.wrap (x / 256 ^ k) = ((UInt8.ofNat ((x / 256 ^ k) % 256).toNat).toNat : Int) := by
  generalize x / 256 ^ k = q
  have h1 : 0 ≤ q % 256 := Int.emod_nonneg _ (by decide)
  have h2 : q % 256 < 256 := Int.emod_lt_of_pos _ (by decide)
  have hq : (q % 256).toNat < 2 ^ 8 := by omega
  rw [UInt8.toNat_ofNat_of_lt' hq, IntKind.wrap_u8]
  omega
theorem pow256 (b : Nat) : (2 : Int) ^ (8 * b) = 256 ^ b := by rw [Int.pow_mul]; rfl
theorem shr_of (k : IntKind) (yk : IntKind) (x : Int) (b : Nat) (hb : 8 * b ≤ k.bits) : Op.shift .shr k x yk (8 * (b : Int)) = pure (.int k (x / 256 ^ b)) := by
  rw [shift_shr k yk x _ (by omega) (by omega), show (8 * (b : Int)).toNat = 8 * b by omega, pow256]
/-- Where the byte that is appended lies, and what comes of it. -/
def NewB (w wr w2 : World) (wb : Nat) (F : List Nat) (X : List UInt8) (x : UInt8) (ca : Option Addr) (L cc : Nat) : Prop :=
  w2.ownsRow (wb + 1) 5 1 (.slice ca L cc) L (X.map byc) ∧ (∀ j u, [byc x][j]? = some u → w2.cell? ((⟨wr.heap.size, 0, none⟩ : Addr).add j) = some u) ∧
  ∀ g1 c1 w3, w3.ownsRow (wb + 1) 5 1 (.slice (some ⟨g1, 0, none⟩) (L + 1) c1) (L + 1) (X.map byc ++ [byc x]) → w2.grownBy w3 (Value.slice ca L cc).ownBlock → ((Value.slice ca L cc).ownBlock = some g1 ∨ g1 = w2.heap.size) → Box w3 wb [.slice ca L cc] ∧ Wt wb F w (X ++ [x]) (w3.setCell ⟨wb, 0, none⟩ (.slice (some ⟨g1, 0, none⟩) (L + 1) c1))
theorem new_byte_of {w wr w2 : World} {wb : Nat} {F : List Nat} {X : List UInt8} {ca : Option Addr} {cc L : Nat} (W1 : Wr wr wb X (.slice ca X.length cc)) (t1 : Turn F w wr) (f1 : ∀ i, i ∈ foot wb (.slice ca X.length cc) → i ∈ F ∨ w.heap.size ≤ i) (x : UInt8) (hL : L = X.length) (hb : Below wr.heap.size wr w2) (hc : w2.cell? ⟨wr.heap.size, 0, none⟩ = some (byc x)) : NewB w wr w2 wb F X x ca L cc := by
  subst hL
  have W2 := W1.next hb
  refine ⟨W2.row, fun j u hu => ?_, fun g1 c1 w3 ho hg3 hl3 => ?_⟩
  · have hj0 : j = 0 := by have := (List.getElem?_eq_some_iff.1 hu).1; simp at this; omega
    subst hj0
    have hadd : (⟨wr.heap.size, 0, none⟩ : Addr).add 0 = ⟨wr.heap.size, 0, none⟩ := rfl
    rw [hadd, hc]
    exact hu
  · obtain ⟨r1, r2⟩ := wr_laid W2 ho hg3 hl3
    exact ⟨r1, Wt.trans (t1.andBelow hb) f1 r2⟩
theorem new_byte {w wr : World} {wb : Nat} {F : List Nat} {X : List UInt8} {ca : Option Addr} {cc L : Nat} (W1 : Wr wr wb X (.slice ca X.length cc)) (t1 : Turn F w wr) (f1 : ∀ i, i ∈ foot wb (.slice ca X.length cc) → i ∈ F ∨ w.heap.size ≤ i) (x : UInt8) (hL : L = X.length) :
    (∀ {u : Value}, u = byc x → NewB w wr (wr.alloc (.cells #[u] 5)).drew wb F X x ca L cc) ∧ ∀ {u : Value}, u = byc x → NewB w wr (wr.drew.alloc (.cells #[u] 5)) wb F X x ca L cc := by
  refine ⟨fun {u} e => ?_, fun {u} e => ?_⟩
  · subst e
    exact new_byte_of W1 t1 f1 x hL (bel_alloc wr _).drew ((Box.new wr [byc x] 5).cell 0 _ rfl)
  · subst e
    exact new_byte_of W1 t1 f1 x hL ((Below.refl _ _).drew.trans (bel_alloc wr.drew _)) ((Box.new wr.drew [byc x] 5).cell 0 _ rfl)
set_option maxHeartbeats 1000000 in
set_option maxRecDepth 20000 in
theorem put_c (wb : Nat) (k : Nat) (hk : k ≤ 8) (ns : List Int) (g c : Nat) (l : List UInt8) (v : Value) (w : World) (h : Wr w wb l v) (hb : Box w g (ks ns)) (hg : g ∉ foot wb v) (hl : l.length ≤ 1000000) (hn : ns.length ≤ 1000) :
    Calls Tryd.prog 50 #[.pointer (some ⟨wb, 0, none⟩), .int .i64 (k : Nat), .slice (some ⟨g, 0, none⟩) ns.length c] w fun e w' => e = .returned (.tuple #[]) ∧ Wt wb (foot wb v) w (l ++ ns.flatMap (beN k)) w' := by
  obtain ⟨N, hN⟩ : ∃ N, Hid (N = ns.length) := ⟨_, chid rfl⟩
  rw [← hN.out] at hn ⊢
  obtain ⟨Z, hZ⟩ : ∃ Z, Hid (Z = l ++ ns.flatMap (beN k)) := ⟨_, chid rfl⟩
  have HZl : Hid (Z.length ≤ 1008000) := chid (by
    rw [hZ.out, List.length_append, flat_len (beN_len k), ← hN.out]
    have : N * k ≤ N * 8 := Nat.mul_le_mul_left _ hk
    omega)
  rw [← hZ.out]
  have HB := chid hb
  have H := chid h
  clear h hb
  go_enter Tryd.func50, Tryd.ntmps50
  go_wp2_with fail
  obtain ⟨i0, hi, hz0, hz1, hz2⟩ := info_u8'
  go_loopw [11] (fun i wr => ∃ (j : Nat), i = .int .i64 (j : Nat) ∧ j ≤ N ∧ ∃ X, Hid (X ++ (ns.drop j).flatMap (beN k) = Z) ∧ Hid (Wt wb (foot wb v) w X wr)) (fun i _ => match i with | .int _ z => ((N : Int) - z).toNat | _ => 0)
  case atStart => exact ⟨0, rfl, by omega, l, by rw [List.drop_zero]; exact chid hZ.out.symm, chid (Wt.refl H.out)⟩
  case round =>
    obtain ⟨j, rfl, hj, X, HX, HT⟩ := hrel
    by_cases hlt : j < N
    · have hlt' : (j : Int) < (N : Int) := by omega
      have hjl : j < ns.length := by rw [← hN.out]; exact hlt
      have hy : ns[j]? = some ns[j] := List.getElem?_eq_getElem hjl
      have hd : ns.drop j = ns[j] :: ns.drop (j + 1) := List.drop_eq_getElem_cons hjl
      rw [hd, List.flatMap_cons, ← List.append_assoc] at HX
      have B1 : Box wr g (ks ns) := by
        obtain ⟨v', -, t, -⟩ := HT.out
        exact HB.out.turn t hg
      have c0 := B1.cell j (.int .i64 ns[j]) (by simp [ks, hjl])
      have gl := B1.lt
      clear B1 hd
      generalize ns[j] = y at *
      obtain ⟨R, hR⟩ : ∃ R, Hid (R = (ns.drop (j + 1)).flatMap (beN k)) := ⟨_, chid rfl⟩
      rw [← hR.out] at HX
      clear hy hjl
      go_wp2_with fail
      clear c0 gl
      go_loopw [8] (fun i wr => ∃ (a : Nat), i = .int .i64 ((a : Nat) - 1) ∧ a ≤ k ∧ ∃ X, Hid (X ++ beN a y ++ R = Z) ∧ Hid (Wt wb (foot wb v) w X wr)) (fun i _ => match i with | .int _ z => (z + 1).toNat | _ => 0)
      case atStart => exact ⟨k, rfl, by omega, X, HX, HT⟩
      case round =>
        obtain ⟨a, rfl, ha, X1, HX1, HT1⟩ := hrel
        by_cases hlt2 : 1 ≤ a
        · obtain ⟨b, rfl⟩ : ∃ b, a = b + 1 := ⟨a - 1, by omega⟩
          have hb1 : ((b + 1 : Nat) : Int) - 1 = (b : Int) := by omega
          rw [hb1]
          have hb0 : (0 : Int) ≤ (b : Int) := Int.natCast_nonneg _
          have hb8 : IntKind.i64.wrap (8 * (b : Int)) = 8 * (b : Int) := by rw [IntKind.wrap_i64]; omega
          have hb9 : (0 : Int) ≤ 8 * (b : Int) := by omega
          obtain ⟨v1, W1, t1, f1⟩ := HT1.out
          obtain ⟨ca, cc, rfl⟩ := own_shape W1.row
          have x0 := W1.box.cell 0 _ rfl
          have xf := W1.box.free 0 (by simp)
          have xl := W1.box.lt
          go_wp2_with fail
          have hsh := shr_of .i64 .i64 y b (by show 8 * b ≤ 64; omega)
          have hby := byte_of y b
          have HX2 : Hid (X1 ++ [UInt8.ofNat ((y / 256 ^ b) % 256).toNat] ++ beN b y ++ R = Z) := by rw [← HX1.out, beN]; exact chid (by simp)
          generalize UInt8.ofNat ((y / 256 ^ b) % 256).toNat = x at *
          have hXl : X1.length ≤ 1008000 := by have h1 := HZl.out; rw [← HX1.out] at h1; simp only [List.length_append] at h1; omega
          obtain ⟨L, hLe⟩ : ∃ L, Hid (L = X1.length) := ⟨_, chid rfl⟩
          rw [← hLe.out] at x0 hXl
          have HP := chid (new_byte W1 t1 f1 x hLe.out)
          have hx : Value.int .u8 (IntKind.u8.wrap (y / 2 ^ (8 * (b : Int)).toNat)) = byc x := by rw [show (8 * (b : Int)).toNat = 8 * b by omega, pow256, hby]
          have HX := chid hx
          clear W1 t1 f1 hx hby hsh
          go_region_law (refine step_append_lies _ rfl (.tmp 25) (.tmp 31) 22 rfl (wb + 1) 5 i0 (.int .u8 0) 1 1 Tryd.underlying22 hi hz0 hz1 hz2 rfl (by decide) (.slice ca L cc) L (X1.map byc) (by simp [Act.eval]) (by first | exact (HP.out.1 HX.out).1 | exact (HP.out.2 HX.out).1) ⟨wr.heap.size, 0, none⟩ 1 1 [byc x] (by simp [Act.eval]) rfl (by first | exact (HP.out.1 HX.out).2.1 | exact (HP.out.2 HX.out).2.1) (by intro u hu; simp only [List.mem_cons, List.not_mem_nil, or_false] at hu; rcases hu with rfl; rfl) (by decide) (by unfold maxLen; omega) (by omega) (by simp; omega) _ rfl ?_; intro g1 c1 w3 ho3 hg3 hb3 hl3; have q1 := (by first | exact (HP.out.1 HX.out).2.2 g1 c1 w3 ho3 hg3 hb3 | exact (HP.out.2 HX.out).2.2 g1 c1 w3 ho3 hg3 hb3 : Box w3 wb [.slice ca L cc] ∧ Wt wb (foot wb v) w (X1 ++ [x]) (w3.setCell ⟨wb, 0, none⟩ (.slice (some ⟨g1, 0, none⟩) (L + 1) c1))); have e3 := q1.1.free 0 (by simp); have f3 := q1.1.cell 0 _ rfl; have m3 := q1.1.lt; have q2 := chid q1.2; clear ho3 hg3 hb3 q1)
          all_goals go_wp2_with fail
          all_goals go_roundw
          all_goals first
            | exact ⟨b, rfl, by omega, X1 ++ [x], HX2, q2⟩
            | simp
        · have h0 : a = 0 := by omega
          subst h0
          have hlt2' : ¬ (0 : Int) ≤ ((0 : Nat) : Int) - 1 := by omega
          go_wp2_with fail
          go_roundw
          case rel => exact ⟨j + 1, by go_num, by omega, X1, by rw [← hR.out]; simpa [beN] using HX1, HT1⟩
          case measure => simp; omega
    · have hlt' : ¬ (j : Int) < (N : Int) := by omega
      have hj0 : j = N := by omega
      subst hj0
      have e : X = Z := by
        have := HX.out
        rw [hN.out, List.drop_length] at this
        simpa using this
      go_wp2_with fail
      refine bodyPost_end (v := .tuple #[]) (by simp [results, Tryd.results50, go_sem, *]) rfl ?_
      exact ⟨rfl, by rw [← e]; exact HT.out⟩
/-- The numbers lie new in memory. -/
theorem put_new (wb : Nat) (k : Nat) (hk : k ≤ 8) (ns : List Int) (l : List UInt8) (v : Value) (w : World) (t : TypeId) (h : Wr w wb l v) (hl : l.length ≤ 1000000) (hn : ns.length ≤ 1000) :
    Calls Tryd.prog 50 #[.pointer (some ⟨wb, 0, none⟩), .int .i64 (k : Nat), .slice (some ⟨w.heap.size, 0, none⟩) ns.length ns.length] (w.alloc (.cells (ks ns).toArray t)) fun e w' => e = .returned (.tuple #[]) ∧ Wt wb (foot wb v) w (l ++ ns.flatMap (beN k)) w' := by
  refine (put_c wb k hk ns w.heap.size ns.length l v _ (h.next (bel_alloc w _)) (Box.new w (ks ns) t) (fun hm => by have := h.ge _ hm; omega) hl hn).mono ?_
  rintro e w' ⟨rfl, h1⟩
  exact ⟨rfl, Wt.before (bel_alloc w _) h1⟩
end Go.Proofs.YthfnjlfhaibbeaaDoor
