/- Rings of numbers: the statements' own function each. -/
import Derived.Test.YtcochjicaogofaaRgG
import Derived.RegionIn
namespace Go.Proofs.Ytcochjicaogofaa
open Go.RowKit Go.Shelf
attribute [local go_sem] Oper.semAt_some

/-- How many of the pairs bear their own number. -/
def cnt : List (Nat × Int) → Nat → Nat
  | [], _ => 0
  | x :: r, j => (if x.1 = j then 1 else 0) + cnt r (j + 1)
theorem cnt_snoc (pre : List (Nat × Int)) (x : Nat × Int) (j : Nat) : cnt (pre ++ [x]) j = cnt pre j + if x.1 = j + pre.length then 1 else 0 := by
  induction pre generalizing j with
  | nil => simp [cnt]
  | cons y r ih =>
    simp only [List.cons_append, cnt, ih, List.length_cons]
    rw [show j + 1 + r.length = j + (r.length + 1) by omega]
    omega
theorem cnt_le (pre : List (Nat × Int)) (j : Nat) : cnt pre j ≤ pre.length := by
  induction pre generalizing j with
  | nil => simp [cnt]
  | cons y r ih =>
    have := ih (j + 1)
    simp only [cnt, List.length_cons]
    split <;> omega
theorem cnt_upto (f : Nat → Int) (k : Nat) : cnt (upto (fun j => (j, f j)) k) 0 = k := by
  induction k with
  | zero => rfl
  | succ k ih => rw [upto_succ, cnt_snoc, ih, upto_length]; simp
theorem upto_snd (zs : List Int) {k : Nat} (hk : k ≤ zs.length) : (upto (fun j => (j, zs[j]?.getD 0)) k).map (fun p => p.2) = zs.take k := by
  apply List.ext_getElem
  · simp [upto]; omega
  · intro i h1 h2
    have : i < zs.length := by simp [upto] at h1; omega
    simp [upto, this]
/-- What each answers: the list up to the number n, and how many numbers were right: all. -/
def EachList (w : World) (M : List Int) (e : Ending) (w' : World) : Prop := ∃ v, e = .returned (.tuple #[v, .int .i64 (M.length : Nat)]) ∧ w'.ownsRow w.heap.size 2 1 v M.length (ints M) ∧ Below w.heap.size w w'
/-- A list in a box of its own, with one number more. -/
theorem appended2 {W w1 : World} {base B n₁ : Nat} {t e : TypeId} {size : Nat} {v v' : Value} {k m : Nat} {xs ys : List Value} {tmp : Obj}
    (hv : Boxed W B t v) (hte : t ≠ e) (hrow : W.ownsRow base e size v k xs) (hb : base ≤ W.heap.size) (hn : n₁ ≤ B) (hn2 : n₁ ≤ base)
    (hown' : w1.ownsRow base e size v' m ys) (hgrow : (W.alloc tmp).grownBy w1 v.ownBlock) :
    Boxed w1 B t v ∧ Boxed (w1.setCell ⟨B, 0, none⟩ v') B t v' ∧ (w1.setCell ⟨B, 0, none⟩ v').ownsRow base e size v' m ys ∧ KeepsOthers W (w1.setCell ⟨B, 0, none⟩ v') ∧ Below n₁ W (w1.setCell ⟨B, 0, none⟩ v') ∧
      ∀ i, i < base → i ≠ B → (w1.setCell ⟨B, 0, none⟩ v').heap[i]? = W.heap[i]? := by
  have hv1 : Boxed w1 B t v := (hv.alloc tmp).kept hgrow (hv.not_row hte hrow)
  have hrb : ∀ j, v.ownBlock = some j → base ≤ j := fun j ej => (hrow.lt j ej).1
  refine ⟨hv1, hv1.set v', hown'.kept (grownBy_setCell' w1 B v') (.inr (hv1.not_row hte hown').symm), ?_, ?_, ?_⟩
  · refine ((KeepsOthers.alloc W tmp).trans (KeepsOthers.of_grownBy hgrow fun j o ej hj => ?_)).trans (KeepsOthers.setCell _ _ _)
    rcases (hrow.alloc tmp).2 with ⟨rfl, _⟩ | ⟨g, cap, cur, rfl, _, hgb, _⟩
    · simp [Value.ownBlock] at ej
    · obtain rfl : g = j := by simpa [Value.ownBlock] using ej
      rw [hgb] at hj; cases hj; rfl
  · exact (((Below.refl n₁ W).alloc (by omega) tmp).grown hgrow (by simp; omega) fun j ej => Nat.le_trans hn2 (hrb j ej)).setCell (p := ⟨B, 0, none⟩) hn v'
  · intro i hi hne
    rw [Below.heap_setCell _ _ _ _ hne, hgrow.block i (by simp; omega) (fun ej => by have := hrb i ej.symm; omega), Below.heap_alloc _ _ _ (by omega)]
theorem boxed_same {W W' : World} {B : Nat} {t : TypeId} {v : Value} (h : Boxed W B t v) (e : W'.heap[B]? = W.heap[B]?) : Boxed W' B t v := e.trans h
/-- All of these have numbers below n. -/
def Low (n : Int) (pre : List (Nat × Int)) : Prop := ∀ x ∈ pre, (x.1 : Int) < n
theorem low_nil (n : Int) : Low n [] := fun _ h => by cases h
theorem Low.snoc {n : Int} {pre : List (Nat × Int)} {x : Nat × Int} (h : Low n pre) (hx : (x.1 : Int) < n) : Low n (pre ++ [x]) := fun y hm => (List.mem_append.1 hm).elim (h y) (fun e => by simp at e; subst e; exact hx)
theorem low_upto {n : Int} {f : Nat → Int} {k : Nat} (h : Low n (upto (fun j => (j, f j)) k)) {j : Nat} (hj : j < k) : (j : Int) < n := h (j, f j) (by simp only [upto, List.mem_map, List.mem_range]; exact ⟨j, hj, rfl⟩)
/-- What the loop's own memory holds when pre has come. -/
def EachInv (B : Nat) (w1 : World) (n : Int) (pre : List (Nat × Int)) (W : World) : Prop :=
  (((∃ v, Boxed W (B + 1) 35 v ∧ W.ownsRow w1.heap.size 2 1 v pre.length (ints (pre.map (fun p => p.2))) ∧ True) ∧ Boxed W (B + 1 + 1) 3 (.int .i64 (cnt pre 0 : Nat))) ∧ Boxed W B 2 (.int .i64 n)) ∧ Below B w1 W
theorem ownsRow_mono {w : World} {base base' : Nat} {e : TypeId} {size : Nat} {v : Value} {n : Nat} {xs : List Value} (h : w.ownsRow base e size v n xs) (hb : base' ≤ base) : w.ownsRow base' e size v n xs := by
  obtain ⟨h1, h2 | ⟨g, cap, cur, e, hg, r⟩⟩ := h
  · exact ⟨h1, .inl h2⟩
  · exact ⟨h1, .inr ⟨g, cap, cur, e, Nat.le_trans hb hg, r⟩⟩
theorem eachList_of {w w1 W : World} {zs M : List Int} {k D : Nat} {v : Value} (hk : k ≤ zs.length) (hM : M = zs.take k)
    (hr : W.ownsRow w1.heap.size 2 1 v (upto (fun j => (j, zs[j]?.getD 0)) k).length (ints ((upto (fun j => (j, zs[j]?.getD 0)) k).map (fun p => p.2)))) (hB1 : Below w.heap.size w w1) (hB : Below w.heap.size w1 W)
    (hK : W.heap[D]? = some (.deferred (some []))) (hD : w1.heap.size ≤ D) :
    EachList w M (.returned (.tuple #[v, .int .i64 (cnt (upto (fun j => (j, zs[j]?.getD 0)) k) 0 : Nat)])) (W.putObj D (.deferred none)) := by
  subst hM
  rw [cnt_upto]
  rw [upto_snd zs hk, upto_length] at hr
  have hl : (zs.take k).length = k := by simp; omega
  refine ⟨v, by rw [hl], ?_, hB1.trans (hB.trans (belowK_b (w := w1) hB1.size W D _ _ hD hK rfl rfl))⟩
  rw [hl]
  exact ownsRow_mono (ownsRow_putObj hr _ hK rfl) hB1.size
theorem eachList_done {w w1 W : World} {zs : List Int} {n : Int} {D : Nat} {v : Value} (ha : Low n (upto (fun j => (j, zs[j]?.getD 0)) zs.length))
    (hr : W.ownsRow w1.heap.size 2 1 v (upto (fun j => (j, zs[j]?.getD 0)) zs.length).length (ints ((upto (fun j => (j, zs[j]?.getD 0)) zs.length).map (fun p => p.2)))) (hB1 : Below w.heap.size w w1) (hB : Below w.heap.size w1 W)
    (hK : W.heap[D]? = some (.deferred (some []))) (hD : w1.heap.size ≤ D) :
    EachList w (zs.take (n.toNat + 1)) (.returned (.tuple #[v, .int .i64 (cnt (upto (fun j => (j, zs[j]?.getD 0)) zs.length) 0 : Nat)])) (W.putObj D (.deferred none)) := by
  refine eachList_of (Nat.le_refl _) ?_ hr hB1 hB hK hD
  rw [List.take_of_length_le, List.take_of_length_le (Nat.le_refl _)]
  by_cases hz : zs.length = 0
  · omega
  · have := low_upto ha (j := zs.length - 1) (by omega)
    omega
theorem eachList_stop {w w1 W : World} {zs : List Int} {n : Int} {k D : Nat} {v : Value} {ini : List (Nat × Int)} {last : Nat × Int} (hk : k ≤ zs.length) (e : upto (fun j => (j, zs[j]?.getD 0)) k = ini ++ [last]) (ha : Low n ini) (hl : n ≤ (last.1 : Int))
    (hr : W.ownsRow w1.heap.size 2 1 v (upto (fun j => (j, zs[j]?.getD 0)) k).length (ints ((upto (fun j => (j, zs[j]?.getD 0)) k).map (fun p => p.2)))) (hB1 : Below w.heap.size w w1) (hB : Below w.heap.size w1 W)
    (hK : W.heap[D]? = some (.deferred (some []))) (hD : w1.heap.size ≤ D) :
    EachList w (zs.take (n.toNat + 1)) (.returned (.tuple #[v, .int .i64 (cnt (upto (fun j => (j, zs[j]?.getD 0)) k) 0 : Nat)])) (W.putObj D (.deferred none)) := by
  refine eachList_of hk ?_ hr hB1 hB hK hD
  congr 1
  obtain ⟨k', rfl⟩ : ∃ k', k = k' + 1 := by
    cases k with
    | zero => simp [upto] at e
    | succ k' => exact ⟨k', rfl⟩
  rw [upto_succ] at e
  obtain ⟨e5, e6⟩ := List.append_inj' e rfl
  subst e5
  obtain rfl : (k', zs[k']?.getD 0) = last := by simpa using e6
  simp at hl
  by_cases hz : k' = 0
  · omega
  · have := low_upto ha (j := k' - 1) (by omega)
    omega
theorem eachInv_own (B : Nat) (w1 : World) (n : Int) (h : B ≤ w1.heap.size) : OwnFrom w1.heap.size (EachInv B w1 n) :=
  OwnFrom.and (OwnFrom.and (OwnFrom.and (Own.from (holdsRow_own w1.heap.size (B + 1) 35 2 1 (fun pre : List (Nat × Int) => pre.length) (fun pre => ints (pre.map (fun p => p.2))) (fun _ _ => True)) _) (Own.from (boxed_own _ _ (fun pre : List (Nat × Int) => .int .i64 (cnt pre 0 : Nat))) _)) (Own.from (boxed_own _ _ (fun _ => .int .i64 n)) _)) (ownFrom_below h h)

set_option maxRecDepth 100000 in
set_option maxHeartbeats 2000000 in
theorem each_any (p : Option Addr) (room : Nat) (L : List Int) (n : Int) (w : World) (h : RgP w p room L) (hr : room ≤ 4096) :
    Calls Try.prog 22 #[.pointer p, .int .i64 n] w (EachList w (L.take (n.toNat + 1))) := by
  have hlen : L.length ≤ 4096 := by
    rcases h with ⟨_, _, e⟩ | ⟨b, q, e, h⟩
    · simp [e]
    · have := h.len; omega
  have HP := hid h
  clear h
  obtain ⟨i0, hi, hz0, hz1, hz2⟩ := info_parts info_i64
  refine (callsIn_wide (n := 5)).1 ?_
  refine callsIn_of_wp_marks Try.func22 rfl trivial ?_ rfl
  simp only [Try.ntmps22, List.size_toArray, List.length_cons, List.length_nil, Nat.reduceAdd, Nat.reduceSub, Array.replicate_succ, Array.replicate_zero, List.push_toArray, List.append_toArray, List.nil_append, List.cons_append]
  gi_wp2_with fail
  have b0 := ((Boxed.new w 2 (.int .i64 n)).alloc (.cells #[.slice none 0 0] 35)).alloc (.cells #[.int .i64 0] 3)
  have b1 := (Boxed.new (w.alloc (.cells #[.int .i64 n] 2)) 35 (.slice none 0 0)).alloc (.cells #[.int .i64 0] 3)
  have b2 := Boxed.new ((w.alloc (.cells #[.int .i64 n] 2)).alloc (.cells #[.slice none 0 0] 35)) 3 (.int .i64 0)
  have hB0 : Below w.heap.size w (((w.alloc (.cells #[.int .i64 n] 2)).alloc (.cells #[.slice none 0 0] 35)).alloc (.cells #[.int .i64 0] 3)) := (((Below.refl _ w).alloc (Nat.le_refl _) _).alloc (by simp) _).alloc (by simp; omega) _
  simp only [World.size_alloc] at b1 b2
  have hs0 : (((w.alloc (.cells #[.int .i64 n] 2)).alloc (.cells #[.slice none 0 0] 35)).alloc (.cells #[.int .i64 0] 3)).heap.size = w.heap.size + 3 := by simp
  generalize hW0 : ((w.alloc (.cells #[.int .i64 n] 2)).alloc (.cells #[.slice none 0 0] 35)).alloc (.cells #[.int .i64 0] 3) = W0 at *
  refine ⟨trivial, ?_⟩
  refine CallsIn.mono (callsIn_wide.2 (rEach_p p room L W0 (HP.out.next hB0) hr)) ?_
  rintro e w1 ⟨g, c, rfl, hg, hc, hk, hbx, hbl⟩
  have b0 := b0.kept (row := none) ⟨hbl.os, hbl.tape, hbl.output, hbl.size, fun k hk _ => hbl.block k hk⟩ (by simp)
  have b1 := b1.kept (row := none) ⟨hbl.os, hbl.tape, hbl.output, hbl.size, fun k hk _ => hbl.block k hk⟩ (by simp)
  have b2 := b2.kept (row := none) ⟨hbl.os, hbl.tape, hbl.output, hbl.size, fun k hk _ => hbl.block k hk⟩ (by simp)
  have hB1 : Below w.heap.size w w1 := hB0.trans (hbl.mono (by omega))
  have hgl := hk.lt
  have hsz := hbl.size
  clear hW0
  gi_wp2_with fail
  --LOOP
  refine wpIn_rangeFunc_ownG rfl (by decide) (gf := 34) (lb := #[.pointer (some ⟨c, 0, none⟩)]) rfl trivial (enters_of Try.func34 (by kernel_rfl) rfl)
    (each_stops Fence.wide 4 trivial rfl (by decide) c g L hlen w1 hbx hk) keepB_t (keepB_b hgl) (Below.refl _ _) (fun _ => rfl)
    (fun pre W => EachInv w.heap.size w1 n pre W ∧ Low n pre)
    (fun cd pre W => EachInv w.heap.size w1 n pre W ∧ (cd = .exit 0 ∧ ∃ ini last, pre = ini ++ [last] ∧ Low n ini ∧ n ≤ (last.1 : Int)))
    (OwnFrom.and (eachInv_own w.heap.size w1 n (by omega)) (ownFrom_pure _ _)) (fun cd => OwnFrom.and (eachInv_own w.heap.size w1 n (by omega)) (ownFrom_pure _ _))
    ⟨⟨⟨⟨⟨_, b1, World.ownsRow_nil _ _ _ _, trivial⟩, b2⟩, b0⟩, Below.refl _ _⟩, low_nil n⟩
    (fun x => { tmps := #[.pointer p, .int .i64 n, undef, .pointer (some ⟨w.heap.size, 0, none⟩), .slice none 0 0, .int .i64 0, .pointer (some ⟨w.heap.size + 1, 0, none⟩), .pointer (some ⟨w.heap.size + 1 + 1, 0, none⟩), .int .i64 (x.1 : Int), .int .i64 x.2, .pointer p, .func (.func 34) #[] #[.pointer (some ⟨c, 0, none⟩)], .int .i64 (x.1 : Int), .int .i64 x.2, undef, undef, undef, undef, undef, undef, undef, undef, undef, undef, undef, undef, undef, undef, undef], defers := [] }) ?assign ?body ?done ?stop
  case assign =>
    intro l x W K hK
    gi_wp2
    exact hK
  case body =>
    clear b0 b1 b2 hB0 hbl hB1 hbx hk
    rintro l pre x W ⟨⟨⟨⟨⟨v, hv, hrow, _⟩, hr2⟩, hb0⟩, hB⟩, hall⟩ hlt
    obtain ⟨av, cv, rfl⟩ : ∃ av cv, v = .slice av pre.length cv := by
      rcases hrow.2 with ⟨rfl, h0⟩ | ⟨g', cap, _, rfl, _⟩
      · exact ⟨none, 0, by rw [h0]⟩
      · exact ⟨_, _, rfl⟩
    have hsW := hB.size
    have hcb := cnt_le pre 0
    have hv1 := hv.cell
    have hc0 := hb0.cell
    have hc2 := hr2.cell
    have hf2 := hr2.frozen
    by_cases hx : x.1 = pre.length
    · by_cases hy : n ≤ (x.1 : Int)
      · have hx' : (x.1 : Int) = (pre.length : Int) := by omega
        have hcc : cnt (pre ++ [x]) 0 = cnt pre 0 + 1 := by rw [cnt_snoc, if_pos (by omega)]
        have hv' := hv.other (B' := w.heap.size + 1 + 1) (by omega) (.int .i64 ((cnt pre 0 : Nat) + 1))
        have hrow' := hrow.kept (grownBy_setCell' W (w.heap.size + 1 + 1) (.int .i64 ((cnt pre 0 : Nat) + 1))) (.inr (hr2.not_row (by decide) hrow).symm)
        have hb0' := hb0.other (B' := w.heap.size + 1 + 1) (by omega) (.int .i64 ((cnt pre 0 : Nat) + 1))
        have hr2' := hr2.set (.int .i64 ((cnt pre 0 : Nat) + 1))
        have hsW' : w1.heap.size ≤ (W.setCell ⟨w.heap.size + 1 + 1, 0, none⟩ (.int .i64 ((cnt pre 0 : Nat) + 1))).heap.size := by simpa [World.setCell] using hsW
        have hwn : ∀ j u, [Value.int .i64 x.2][j]? = some u → ((W.setCell ⟨w.heap.size + 1 + 1, 0, none⟩ (.int .i64 ((cnt pre 0 : Nat) + 1))).alloc (.cells #[.int .i64 x.2] 2)).cell? ((⟨W.heap.size, 0, none⟩ : Addr).add j) = some u := by have := cell_one_new (W.setCell ⟨w.heap.size + 1 + 1, 0, none⟩ (.int .i64 ((cnt pre 0 : Nat) + 1))) (.int .i64 x.2) 2; simpa [World.setCell] using this
        have hKO : KeepsOthers W (W.setCell ⟨w.heap.size + 1 + 1, 0, none⟩ (.int .i64 ((cnt pre 0 : Nat) + 1))) := KeepsOthers.setCell _ _ _
        have hBe : Below w.heap.size W (W.setCell ⟨w.heap.size + 1 + 1, 0, none⟩ (.int .i64 ((cnt pre 0 : Nat) + 1))) := (Below.refl _ _).setCell (by simp; omega) _
        have hkp : KeepB g W (W.setCell ⟨w.heap.size + 1 + 1, 0, none⟩ (.int .i64 ((cnt pre 0 : Nat) + 1))) := Below.heap_setCell _ _ _ _ (by simp; omega)
        have hc1 := hv'.cell
        have hcount : ((cnt pre 0 : Nat) + 1 : Int) = ((cnt (pre ++ [x]) 0 : Nat) : Int) := by rw [hcc]; omega
        have HR := hid hrow'
        have HV := hid hv'
        have H0 := hid hb0'
        have H2 := hid hr2'
        have HS := hid hsW'
        have HN := hid hwn
        have HCt := hid hcount
        have HKO := hid hKO
        have HBe := hid hBe
        have HKP := hid hkp
        clear hrow' hv' hb0' hr2' hsW' hwn hrow hv hcount hcc hr2 hb0 hKO hBe hkp
        gi_wp2_with (gi_at_builtin; refine wpListIn_append_own _ rfl _ _ 35 rfl w1.heap.size 2 i0 (.int .i64 0) 1 8 Try.underlying35 hi hz0 hz1 hz2 rfl (by decide) _ _ _ rfl (HR.out.alloc _) ⟨W.heap.size, 0, none⟩ 1 1 [.int .i64 x.2] rfl rfl HN.out (by simp [Value.oneCell']) (by simp only [maxLen]; omega) (by omega) (by have := HS.out; simp; omega) ?_; intro v' w2 hown' hgrow _; obtain ⟨g', cap', rfl⟩ := ownsRow_succ hown'; obtain ⟨k1, k2, k3, k4, k5, k6⟩ := appended2 HV.out (by decide) HR.out HS.out (n₁ := w.heap.size) (by omega) (by omega) hown' hgrow; have hc1' := k1.cell; have hf1' := k1.frozen; have hb0f := boxed_same H0.out (k6 w.heap.size (by omega) (by omega)); have hc0' := hb0f.cell)
        have kr : Boxed (w2.setCell ⟨w.heap.size + 1, 0, none⟩ (.slice (some ⟨g', 0, none⟩) (pre.length + 1) cap')) (w.heap.size + 1 + 1) 3 (.int .i64 (cnt (pre ++ [x]) 0 : Nat)) := by rw [← HCt.out]; exact boxed_same H2.out (k6 _ (by omega) (by omega))
        have kI : EachInv w.heap.size w1 n (pre ++ [x]) (w2.setCell ⟨w.heap.size + 1, 0, none⟩ (.slice (some ⟨g', 0, none⟩) (pre.length + 1) cap')) := ⟨⟨⟨⟨_, k2, by simpa [ints] using k3, trivial⟩, kr⟩, hb0f⟩, hB.trans (HBe.out.trans k5)⟩
        exact ⟨(HKO.out.trans k4).from _, kI, rfl, pre, x, rfl, hall, hy⟩
      · have hx' : (x.1 : Int) = (pre.length : Int) := by omega
        have hcc : cnt (pre ++ [x]) 0 = cnt pre 0 + 1 := by rw [cnt_snoc, if_pos (by omega)]
        have hv' := hv.other (B' := w.heap.size + 1 + 1) (by omega) (.int .i64 ((cnt pre 0 : Nat) + 1))
        have hrow' := hrow.kept (grownBy_setCell' W (w.heap.size + 1 + 1) (.int .i64 ((cnt pre 0 : Nat) + 1))) (.inr (hr2.not_row (by decide) hrow).symm)
        have hb0' := hb0.other (B' := w.heap.size + 1 + 1) (by omega) (.int .i64 ((cnt pre 0 : Nat) + 1))
        have hr2' := hr2.set (.int .i64 ((cnt pre 0 : Nat) + 1))
        have hsW' : w1.heap.size ≤ (W.setCell ⟨w.heap.size + 1 + 1, 0, none⟩ (.int .i64 ((cnt pre 0 : Nat) + 1))).heap.size := by simpa [World.setCell] using hsW
        have hwn : ∀ j u, [Value.int .i64 x.2][j]? = some u → ((W.setCell ⟨w.heap.size + 1 + 1, 0, none⟩ (.int .i64 ((cnt pre 0 : Nat) + 1))).alloc (.cells #[.int .i64 x.2] 2)).cell? ((⟨W.heap.size, 0, none⟩ : Addr).add j) = some u := by have := cell_one_new (W.setCell ⟨w.heap.size + 1 + 1, 0, none⟩ (.int .i64 ((cnt pre 0 : Nat) + 1))) (.int .i64 x.2) 2; simpa [World.setCell] using this
        have hKO : KeepsOthers W (W.setCell ⟨w.heap.size + 1 + 1, 0, none⟩ (.int .i64 ((cnt pre 0 : Nat) + 1))) := KeepsOthers.setCell _ _ _
        have hBe : Below w.heap.size W (W.setCell ⟨w.heap.size + 1 + 1, 0, none⟩ (.int .i64 ((cnt pre 0 : Nat) + 1))) := (Below.refl _ _).setCell (by simp; omega) _
        have hkp : KeepB g W (W.setCell ⟨w.heap.size + 1 + 1, 0, none⟩ (.int .i64 ((cnt pre 0 : Nat) + 1))) := Below.heap_setCell _ _ _ _ (by simp; omega)
        have hc1 := hv'.cell
        have hcount : ((cnt pre 0 : Nat) + 1 : Int) = ((cnt (pre ++ [x]) 0 : Nat) : Int) := by rw [hcc]; omega
        have HR := hid hrow'
        have HV := hid hv'
        have H0 := hid hb0'
        have H2 := hid hr2'
        have HS := hid hsW'
        have HN := hid hwn
        have HCt := hid hcount
        have HKO := hid hKO
        have HBe := hid hBe
        have HKP := hid hkp
        clear hrow' hv' hb0' hr2' hsW' hwn hrow hv hcount hcc hr2 hb0 hKO hBe hkp
        gi_wp2_with (gi_at_builtin; refine wpListIn_append_own _ rfl _ _ 35 rfl w1.heap.size 2 i0 (.int .i64 0) 1 8 Try.underlying35 hi hz0 hz1 hz2 rfl (by decide) _ _ _ rfl (HR.out.alloc _) ⟨W.heap.size, 0, none⟩ 1 1 [.int .i64 x.2] rfl rfl HN.out (by simp [Value.oneCell']) (by simp only [maxLen]; omega) (by omega) (by have := HS.out; simp; omega) ?_; intro v' w2 hown' hgrow _; obtain ⟨g', cap', rfl⟩ := ownsRow_succ hown'; obtain ⟨k1, k2, k3, k4, k5, k6⟩ := appended2 HV.out (by decide) HR.out HS.out (n₁ := w.heap.size) (by omega) (by omega) hown' hgrow; have hc1' := k1.cell; have hf1' := k1.frozen; have hb0f := boxed_same H0.out (k6 w.heap.size (by omega) (by omega)); have hc0' := hb0f.cell)
        have kr : Boxed (w2.setCell ⟨w.heap.size + 1, 0, none⟩ (.slice (some ⟨g', 0, none⟩) (pre.length + 1) cap')) (w.heap.size + 1 + 1) 3 (.int .i64 (cnt (pre ++ [x]) 0 : Nat)) := by rw [← HCt.out]; exact boxed_same H2.out (k6 _ (by omega) (by omega))
        have kI : EachInv w.heap.size w1 n (pre ++ [x]) (w2.setCell ⟨w.heap.size + 1, 0, none⟩ (.slice (some ⟨g', 0, none⟩) (pre.length + 1) cap')) := ⟨⟨⟨⟨_, k2, by simpa [ints] using k3, trivial⟩, kr⟩, hb0f⟩, hB.trans (HBe.out.trans k5)⟩
        exact ⟨(HKO.out.trans k4).from _, keepB_t HKP.out (k6 g hgl (by omega)), kI, hall.snoc (by omega)⟩
    · by_cases hy : n ≤ (x.1 : Int)
      · have hx' : ¬ (x.1 : Int) = (pre.length : Int) := by omega
        have hcc : cnt (pre ++ [x]) 0 = cnt pre 0 := by rw [cnt_snoc, if_neg (by omega)]; rfl
        have hv' := hv
        have hrow' := hrow
        have hb0' := hb0
        have hr2' := hr2
        have hsW' := hsW
        have hwn := cell_one_new W (.int .i64 x.2) 2
        have hKO := KeepsOthers.refl W
        have hBe := Below.refl w.heap.size W
        have hkp : KeepB g W W := Eq.refl _
        have hc1 := hv'.cell
        have hcount : ((cnt pre 0 : Nat) : Int) = ((cnt (pre ++ [x]) 0 : Nat) : Int) := by rw [hcc]
        have HR := hid hrow'
        have HV := hid hv'
        have H0 := hid hb0'
        have H2 := hid hr2'
        have HS := hid hsW'
        have HN := hid hwn
        have HCt := hid hcount
        have HKO := hid hKO
        have HBe := hid hBe
        have HKP := hid hkp
        clear hrow' hv' hb0' hr2' hsW' hwn hrow hv hcount hcc hr2 hb0 hKO hBe hkp
        gi_wp2_with (gi_at_builtin; refine wpListIn_append_own _ rfl _ _ 35 rfl w1.heap.size 2 i0 (.int .i64 0) 1 8 Try.underlying35 hi hz0 hz1 hz2 rfl (by decide) _ _ _ rfl (HR.out.alloc _) ⟨W.heap.size, 0, none⟩ 1 1 [.int .i64 x.2] rfl rfl HN.out (by simp [Value.oneCell']) (by simp only [maxLen]; omega) (by omega) (by have := HS.out; simp; omega) ?_; intro v' w2 hown' hgrow _; obtain ⟨g', cap', rfl⟩ := ownsRow_succ hown'; obtain ⟨k1, k2, k3, k4, k5, k6⟩ := appended2 HV.out (by decide) HR.out HS.out (n₁ := w.heap.size) (by omega) (by omega) hown' hgrow; have hc1' := k1.cell; have hf1' := k1.frozen; have hb0f := boxed_same H0.out (k6 w.heap.size (by omega) (by omega)); have hc0' := hb0f.cell)
        have kr : Boxed (w2.setCell ⟨w.heap.size + 1, 0, none⟩ (.slice (some ⟨g', 0, none⟩) (pre.length + 1) cap')) (w.heap.size + 1 + 1) 3 (.int .i64 (cnt (pre ++ [x]) 0 : Nat)) := by rw [← HCt.out]; exact boxed_same H2.out (k6 _ (by omega) (by omega))
        have kI : EachInv w.heap.size w1 n (pre ++ [x]) (w2.setCell ⟨w.heap.size + 1, 0, none⟩ (.slice (some ⟨g', 0, none⟩) (pre.length + 1) cap')) := ⟨⟨⟨⟨_, k2, by simpa [ints] using k3, trivial⟩, kr⟩, hb0f⟩, hB.trans (HBe.out.trans k5)⟩
        exact ⟨(HKO.out.trans k4).from _, kI, rfl, pre, x, rfl, hall, hy⟩
      · have hx' : ¬ (x.1 : Int) = (pre.length : Int) := by omega
        have hcc : cnt (pre ++ [x]) 0 = cnt pre 0 := by rw [cnt_snoc, if_neg (by omega)]; rfl
        have hv' := hv
        have hrow' := hrow
        have hb0' := hb0
        have hr2' := hr2
        have hsW' := hsW
        have hwn := cell_one_new W (.int .i64 x.2) 2
        have hKO := KeepsOthers.refl W
        have hBe := Below.refl w.heap.size W
        have hkp : KeepB g W W := Eq.refl _
        have hc1 := hv'.cell
        have hcount : ((cnt pre 0 : Nat) : Int) = ((cnt (pre ++ [x]) 0 : Nat) : Int) := by rw [hcc]
        have HR := hid hrow'
        have HV := hid hv'
        have H0 := hid hb0'
        have H2 := hid hr2'
        have HS := hid hsW'
        have HN := hid hwn
        have HCt := hid hcount
        have HKO := hid hKO
        have HBe := hid hBe
        have HKP := hid hkp
        clear hrow' hv' hb0' hr2' hsW' hwn hrow hv hcount hcc hr2 hb0 hKO hBe hkp
        gi_wp2_with (gi_at_builtin; refine wpListIn_append_own _ rfl _ _ 35 rfl w1.heap.size 2 i0 (.int .i64 0) 1 8 Try.underlying35 hi hz0 hz1 hz2 rfl (by decide) _ _ _ rfl (HR.out.alloc _) ⟨W.heap.size, 0, none⟩ 1 1 [.int .i64 x.2] rfl rfl HN.out (by simp [Value.oneCell']) (by simp only [maxLen]; omega) (by omega) (by have := HS.out; simp; omega) ?_; intro v' w2 hown' hgrow _; obtain ⟨g', cap', rfl⟩ := ownsRow_succ hown'; obtain ⟨k1, k2, k3, k4, k5, k6⟩ := appended2 HV.out (by decide) HR.out HS.out (n₁ := w.heap.size) (by omega) (by omega) hown' hgrow; have hc1' := k1.cell; have hf1' := k1.frozen; have hb0f := boxed_same H0.out (k6 w.heap.size (by omega) (by omega)); have hc0' := hb0f.cell)
        have kr : Boxed (w2.setCell ⟨w.heap.size + 1, 0, none⟩ (.slice (some ⟨g', 0, none⟩) (pre.length + 1) cap')) (w.heap.size + 1 + 1) 3 (.int .i64 (cnt (pre ++ [x]) 0 : Nat)) := by rw [← HCt.out]; exact boxed_same H2.out (k6 _ (by omega) (by omega))
        have kI : EachInv w.heap.size w1 n (pre ++ [x]) (w2.setCell ⟨w.heap.size + 1, 0, none⟩ (.slice (some ⟨g', 0, none⟩) (pre.length + 1) cap')) := ⟨⟨⟨⟨_, k2, by simpa [ints] using k3, trivial⟩, kr⟩, hb0f⟩, hB.trans (HBe.out.trans k5)⟩
        exact ⟨(HKO.out.trans k4).from _, keepB_t HKP.out (k6 g hgl (by omega)), kI, hall.snoc (by omega)⟩
  case done =>
    rintro D ys W hD rfl ⟨⟨⟨⟨⟨v, hv, hrow, _⟩, hr2⟩, hb0⟩, hB⟩, hall⟩ hK
    have hc1 := hv.cell
    have hc2 := hr2.cell
    have HA := hid hall
    have HR := hid hrow
    have HB := hid hB
    have HD := hid hD
    have HK := hid hK
    clear hall hrow hB hD hK
    gi_wp2
    gi_region
    all_goals gi_wp2
    all_goals (
      refine ⟨by simp, .inl ⟨_, _, rfl, run_takeDeferred (ds := []) HK.out, ?_⟩⟩
      refine ⟨_, results_tmp2 (t := 4) (u := 5) rfl _ _ _, ?_⟩
      exact eachList_done (W := W.drew) HA.out HR.out.drew hB1 HB.out.drew HK.out HD.out)
  case stop =>
    rintro D cd pre W hD ⟨k, hk', rfl⟩ ⟨⟨⟨⟨⟨v, hv, hrow, _⟩, hr2⟩, hb0⟩, hB⟩, rfl, ini, last, e1, e2, e3⟩ hK
    have hc1 := hv.cell
    have hc2 := hr2.cell
    have HE := hid e1
    have HL := hid e2
    have HG := hid e3
    have HR := hid hrow
    have HB := hid hB
    have HD := hid hD
    have HK := hid hK
    clear e1 e2 e3 hrow hB hD hK
    gi_wp2
    gi_region
    all_goals gi_wp2
    all_goals (
      refine ⟨by simp, .inl ⟨_, _, rfl, run_takeDeferred (ds := []) HK.out, ?_⟩⟩
      refine ⟨_, results_tmp2 (t := 4) (u := 5) rfl _ _ _, ?_⟩
      exact eachList_stop (W := W.drew) hk' HE.out HL.out HG.out HR.out.drew hB1 HB.out.drew HK.out HD.out)
end Go.Proofs.Ytcochjicaogofaa
