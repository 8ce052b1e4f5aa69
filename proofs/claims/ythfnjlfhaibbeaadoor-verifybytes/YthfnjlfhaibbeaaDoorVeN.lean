/- Package verify: Check, Heights. -/
import Derived.Test.YthfnjlfhaibbeaaDoorVeM
import Derived.Test.YthfnjlfhaibbeaaDoorVeK
namespace Go.Proofs.YthfnjlfhaibbeaaDoor
open Go.RowKit

theorem sound_all : SoundC := fun _ _ _ _ _ _ i h1 h2 h3 h4 h5 h6 h7 w h8 => sound_c i h1 h2 h3 h4 h5 h6 h7 w h8
/-- Check's numbers. -/
def ckF (g : PgP) : Int × Int := match looksF cfB g with
  | (some _, _) => (0, 0)
  | (none, n) => ((n : Nat), 41)
theorem check_c (g : PgP) (u : PgV) (w : World) (h : PgRd w g u) (ho : PgOk g) (hF : FldAt w) (hT : TabAt w) : Calls Tryd.prog 13 #[pgV g u] w fun e w' => e = .returned (.tuple #[.int .i64 (ckF g).1, .int .i64 (ckF g).2]) ∧ Below w.heap.size w w' := by
  have XB := bel_alloc w (.cells (pgL g u).toArray 31)
  have HC := chid (walked_c sound_all g u _ (h.next XB) ho (hF.later XB) (hT.next XB))
  have HXB := chid XB
  clear XB
  unfold WkP at HC
  unfold ckF
  clear h ho hF hT
  cases hl : looksF cfB g with
  | mk q n =>
    rw [hl] at HC
    clear hl
    cases q with
    | none =>
      simp only at HC ⊢
      go_enter Tryd.func13, Tryd.ntmps13
      go_wp2_with fail
      refine Calls.mono HC.out ?_
      rintro e w1 ⟨b1, rfl⟩
      go_wp2_with fail
      refine bodyPost_ret (v := .tuple #[.int .i64 (n : Nat), .int .i64 41]) (by simp [results, Tryd.results13, go_sem, *]) rfl ⟨rfl, cbelow_on HXB.out b1 HXB.out.size⟩
    | some pl =>
      simp only at HC ⊢
      go_enter Tryd.func13, Tryd.ntmps13
      go_wp2_with fail
      refine Calls.mono HC.out ?_
      rintro e w1 ⟨b1, qb, rfl, -, -⟩
      go_wp2_with fail
      refine bodyPost_ret (v := .tuple #[.int .i64 0, .int .i64 0]) (by simp [results, Tryd.results13, go_sem, *]) rfl ⟨rfl, cbelow_on HXB.out b1 HXB.out.size⟩
def htO (o : Option St) : Int := (o.getD (0, 0)).1
def hsL (pl : List (Option St)) : List Value := pl.map (fun o => .int .i64 (htO o))
/-- What Heights answers. -/
def HeP (g : PgP) (w : World) (e : Ending) (w' : World) : Prop := Below w.heap.size w w' ∧ match looksF cfB g with
  | (some pl, _) => ∃ v, e = .returned (.tuple #[v, .int .i64 0]) ∧ w'.ownsRow w.heap.size 3 1 v pl.length (hsL pl)
  | (none, _) => e = .returned (.tuple #[.slice none 0 0, .int .i64 41])
theorem take_set_v {xs R : List Value} {k : Nat} {u : Value} (h : xs.take k = R.take k) (hk : k < xs.length) (hu : R[k]? = some u) : (xs.set k u).take (k + 1) = R.take (k + 1) := by
  apply List.ext_getElem?
  intro i
  rcases Nat.lt_trichotomy i k with hi | hi | hi
  · have := congrArg (fun l => l[i]?) h
    simp only [List.getElem?_take, hi, if_true] at this
    simp only [List.getElem?_take, show i < k + 1 by omega, if_true]
    rw [List.getElem?_set_ne (by omega)]
    exact this
  · subst hi
    simp only [List.getElem?_take, show i < i + 1 by omega, if_true]
    rw [List.getElem?_set_self hk, hu]
  · simp only [List.getElem?_take, show ¬ i < k + 1 by omega, if_false]
theorem info_int : (Tryd.prog.info? 3).map (fun i => (i.zero, i.size, i.bytes)) = some (some (.int .i64 0), 1, 8) := by kernel_rfl
theorem info_int' : ∃ i, Tryd.prog.info? 3 = some i ∧ i.zero = some (.int .i64 0) ∧ i.size = 1 ∧ i.bytes = 8 := by
  have h := info_int
  cases e : Tryd.prog.info? 3 with
  | none => rw [e] at h; cases h
  | some i =>
    rw [e] at h
    simp only [Option.map_some, Option.some.injEq, Prod.mk.injEq] at h
    exact ⟨i, rfl, h.1, h.2.1, h.2.2⟩
theorem loopF_len {g : PgP} : ∀ (k i : Nat) (pl : List (Option St)) {q : List (Option St)} {n : Nat}, PIn g pl → loopF g k i pl = (some q, n) → q.length = pl.length ∧ PIn g q
  | 0, i, pl, q, n, hp, h => by cases h; exact ⟨rfl, hp⟩
  | k + 1, i, pl, q, n, hp, h => by
    cases e : stepF g i pl with
    | none => rw [loop_none e] at h; cases h
    | some p =>
      rw [loop_some e] at h
      have h2 := stepF_in e hp
      have h3 := loopF_len k (i + 1) p h2.1 h
      exact ⟨h3.1.trans h2.2, h3.2⟩
theorem looks_len {g : PgP} {pl : List (Option St)} {n : Nat} (h : looksF cfB g = (some pl, n)) : pl.length = g.C.length ∧ 1 ≤ g.C.length ∧ g.C.length ≤ 16384 := by
  unfold looksF at h
  cases hb : headB cfB g with
  | false => rw [hb] at h; cases h
  | true =>
    rw [hb] at h
    have hfew : 1 ≤ g.C.length ∧ g.C.length ≤ 16384 ∧ 0 ≤ g.h := by
      unfold headB fewB at hb
      simp at hb
      omega
    have h1 := loopF_len _ _ _ (start_in g g.C.length hfew.2.2) h
    exact ⟨by rw [h1.1, start_len], hfew.1, hfew.2.1⟩
set_option maxHeartbeats 2000000 in
set_option maxRecDepth 20000 in
theorem heights_c (g : PgP) (u : PgV) (w : World) (h : PgRd w g u) (ho : PgOk g) (hF : FldAt w) (hT : TabAt w) : Calls Tryd.prog 15 #[pgV g u] w (HeP g w) := by
  have XB := bel_alloc w (.cells (pgL g u).toArray 31)
  have HC := chid (walked_c sound_all g u _ (h.next XB) ho (hF.later XB) (hT.next XB))
  have HXB := chid XB
  clear XB
  unfold WkP at HC
  clear h ho hF hT
  cases hl : looksF cfB g with
  | mk q n =>
    have HNo : Hid (∀ w', Below w.heap.size w w' → q = none → HeP g w (.returned (.tuple #[.slice none 0 0, .int .i64 41])) w') := chid (fun w' hb hq => ⟨hb, by rw [hl, hq]⟩)
    have HYs : Hid (∀ w' pl v, Below w.heap.size w w' → q = some pl → w'.ownsRow w.heap.size 3 1 v pl.length (hsL pl) → HeP g w (.returned (.tuple #[v, .int .i64 0])) w') := chid (fun w' pl v hb hq hx => ⟨hb, by rw [hl, hq]; exact ⟨v, rfl, hx⟩⟩)
    rw [hl] at HC
    generalize HeP g w = Post at *
    cases q with
    | none =>
      simp only at HC
      go_enter Tryd.func15, Tryd.ntmps15
      go_wp2_with fail
      refine Calls.mono HC.out ?_
      rintro e w1 ⟨b1, rfl⟩
      have HB1 := chid (cbelow_on HXB.out b1 HXB.out.size)
      clear b1
      go_wp2_with fail
      exact HNo.out _ HB1.out (by trivial)
    | some pl =>
      have hlen : pl.length ≤ 16384 := by have := looks_len hl; omega
      simp only at HC
      clear hl HNo
      go_enter Tryd.func15, Tryd.ntmps15
      go_wp2_with fail
      refine Calls.mono HC.out ?_
      rintro e w1 ⟨b1, qb, rfl, hb, hq⟩
      have HB1 := chid (cbelow_on HXB.out b1 HXB.out.size)
      have HQ := chid hb
      have hq1 := hb.lt
      clear b1 hb HC
      obtain ⟨i0, hi, hz0, hz1, hz2⟩ := info_int'
      obtain ⟨N, hN⟩ : ∃ N, Hid (N = pl.length) := ⟨_, chid rfl⟩
      rw [← hN.out] at hlen ⊢
      go_wp2_with (at_make; refine wpList_make_full _ rfl _ _ 42 rfl w.heap.size 3 i0 (.int .i64 0) 1 Tryd.underlying42 hi hz0 hz1 _ _ _ _ N rfl rfl rfl rfl (by rw [hz2]; omega) (by unfold maxLen; omega) HB1.out.size ?_; intro w3 hown hgrow; have hb3 : Below w1.heap.size w1 w3 := (Below.refl _ _).grown hgrow (Nat.le_refl _) (by simp); have HB3 := chid hb3; have HO := chid hown; clear hb3 hown hgrow)
      obtain ⟨hb, hhb⟩ : ∃ x, Hid (x = w1.heap.size) := ⟨_, chid rfl⟩
      have hne : hb ≠ qb := by have := hhb.out; omega
      have hwb : w.heap.size ≤ hb := by have := hhb.out; have := HB1.out.size; omega
      have HQ3 := chid (HQ.out.next HB3.out)
      have HBa := chid (cbelow_on HB1.out HB3.out HB1.out.size)
      have HO2 : Hid (∃ xs : List Value, xs.length = N ∧ w3.ownsRow w.heap.size 3 1 (.slice (some ⟨hb, 0, none⟩) N N) N xs) := by
        rw [hhb.out]
        exact chid ⟨_, by have := HO.out.1; omega, HO.out⟩
      obtain ⟨xs0, hx0, ho0⟩ := HO2.out
      have HO0 := chid ho0
      have HX0 := chid hx0
      rw [← hhb.out]
      clear HO HO2 ho0 hx0 hi hz0 hz1 hz2 HB3 HQ
      go_loopw [24] (fun z wr => ∃ (k : Nat) (xs : List Value), z = .int .i64 (k : Nat) ∧ k ≤ N ∧ Hid (xs.length = N) ∧ Hid (xs.take k = (hsL pl).take k) ∧ Hid (wr.ownsRow w.heap.size 3 1 (.slice (some ⟨hb, 0, none⟩) N N) N xs) ∧ Hid (Box wr qb (flR plL pl)) ∧ Hid (Below w.heap.size w wr)) (fun z _ => match z with | .int _ z => ((N : Int) - z).toNat | _ => 0)
      case atStart => exact ⟨0, xs0, rfl, by omega, HX0, chid rfl, HO0, HQ3, HBa⟩
      case round =>
        obtain ⟨k, xs, rfl, hk, HXl, HXs, HOw, HQr, HBr⟩ := hrel
        clear HX0 HO0 HQ3 HBa
        by_cases hlt : k < N
        · have hlt' : (k : Int) < (N : Int) := by omega
          have hkl : k < pl.length := by rw [← hN.out]; exact hlt
          have hat : pl[k]? = some pl[k] := List.getElem?_eq_getElem hkl
          obtain ⟨p0, p1, p2, hpo⟩ : ∃ (p0 : Bool) (p1 p2 : Int), Hid (plL pl[k] = [.bool p0, .int .i64 p1, .int .i64 p2] ∧ p1 = htO pl[k]) := by cases pl[k] <;> exact ⟨_, _, _, chid ⟨rfl, rfl⟩⟩
          have y0 := HQr.out.cell _ _ (flR_at plL_len pl k 0 _ (.bool p0) hat (by rw [hpo.out.1]; rfl))
          have y1 := HQr.out.cell _ _ (flR_at plL_len pl k 1 _ (.int .i64 p1) hat (by rw [hpo.out.1]; rfl))
          have y2 := HQr.out.cell _ _ (flR_at plL_len pl k 2 _ (.int .i64 p2) hat (by rw [hpo.out.1]; rfl))
          rw [Nat.add_zero] at y0
          have ql := HQr.out.lt
          have hR : (hsL pl)[k]? = some (.int .i64 p1) := by
            unfold hsL
            rw [List.getElem?_map, hat, hpo.out.2]
            rfl
          have HT := chid (take_set_v HXs.out (by have := HXl.out; omega) hR)
          have k0 := HOw.out.cellAt k (by omega)
          rw [List.getElem?_eq_getElem (by have := HXl.out; omega)] at k0
          have f0 := HOw.out.frozenAt k
          have hgl := (HOw.out.lt hb rfl).2
          have HSt : Hid (∀ (W : World), Below wr.heap.size wr W → (W.setCell ⟨hb, k, none⟩ (.int .i64 p1)).ownsRow w.heap.size 3 1 (.slice (some ⟨hb, 0, none⟩) N N) N (xs.set k (.int .i64 p1)) ∧ Box (W.setCell ⟨hb, k, none⟩ (.int .i64 p1)) qb (flR plL pl) ∧ Below w.heap.size w (W.setCell ⟨hb, k, none⟩ (.int .i64 p1))) := chid (fun W hW => by
            have O4 := own_turn HOw.out (S := []) (Turn.of_below hW) (fun _ _ hm => by cases hm)
            exact ⟨(O4.stored k _).1, (HQr.out.next hW).other (Ne.symm hne), (cbelow_on HBr.out hW HBr.out.size).setCell (p := ⟨hb, k, none⟩) hwb _⟩)
          clear hat hR HXs
          go_wp2_with fail
          have HS3 := HSt.out wr (Below.refl _ _)
          have al := bel_alloc (wr.setCell ⟨hb, k, none⟩ (.int .i64 p1)) (.cells #[.bool p0, .int .i64 p1, .int .i64 p2] 77)
          refine ⟨⟨k + 1, xs.set k (.int .i64 p1), by go_num, by omega, chid (by rw [List.length_set]; exact HXl.out), HT, chid (own_turn HS3.1 (S := []) (Turn.of_below al) (fun _ _ hm => by cases hm)), chid (HS3.2.1.next al), chid (cbelow_on HS3.2.2 al HS3.2.2.size)⟩, ?_⟩
          show ((N : Int) - ((k : Int) + 1)).toNat < ((N : Int) - (k : Int)).toNat
          omega
        · have hlt' : ¬ (k : Int) < (N : Int) := by omega
          have hkN : k = N := by omega
          subst hkN
          have hE : Hid (xs = hsL pl) := by
            have h1 := HXs.out
            rw [List.take_of_length_le (by have := HXl.out; omega), List.take_of_length_le (by unfold hsL; rw [List.length_map]; have := hN.out; omega)] at h1
            exact chid h1
          go_wp2_with fail
          have HF := HYs.out _ pl (.slice (some ⟨hb, 0, none⟩) k k) HBr.out rfl (by rw [← hE.out, ← hN.out]; exact HOw.out)
          exact HF
end Go.Proofs.YthfnjlfhaibbeaaDoor
