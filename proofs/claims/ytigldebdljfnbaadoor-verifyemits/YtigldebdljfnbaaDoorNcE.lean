import Derived.Test.YtigldebdljfnbaaDoorVeM
import Derived.Test.YtigldebdljfnbaaDoorVeK
namespace Go.Proofs.YtigldebdljfnbaaDoor
open Go.RowKit

theorem sound_all : SoundC := fun _ _ _ _ _ _ i h1 h2 h3 h4 h5 h6 h7 w h8 => sound_c i h1 h2 h3 h4 h5 h6 h7 w h8
def ckF (g : PgP) : Int × Int := match looksF cfB g with
  | (some _, _) => (0, 0)
  | (none, n) => ((n : Nat), 41)
theorem check_c (g : PgP) (u : PgV) (w : World) (h : PgRd w g u) (ho : PgOk g) (hF : FldAt w) (hT : TabAt w) : Calls Tryd.prog 7 #[pgV g u] w fun e w' => e = .returned (.tuple #[.int .i64 (ckF g).1, .int .i64 (ckF g).2]) ∧ Below w.heap.size w w' := by
  have XB := bel_alloc w (.cells (pgL g u).toArray 38)
  have HC := chid (walked_c sound_all g u _ (h.next XB) ho (hF.later XB) (hT.next XB))
  have HXB := chid XB
  clear XB
  unfold WkP at HC
  unfold ckF
  clear h ho hF hT
  cases hl : looksF cfB g with
  | mk q n =>
    rw [hl] at HC
    clear hl
    cases q with
    | none =>
      simp only at HC ⊢
      go_enter Tryd.func7, Tryd.ntmps7
      go_wp2_with fail
      refine Calls.mono HC.out ?_
      rintro e w1 ⟨b1, rfl⟩
      go_wp2_with fail
      refine bodyPost_ret (v := .tuple #[.int .i64 (n : Nat), .int .i64 41]) (by simp [results, Tryd.results7, go_sem, *]) rfl ⟨rfl, cbelow_on HXB.out b1 HXB.out.size⟩
    | some pl =>
      simp only at HC ⊢
      go_enter Tryd.func7, Tryd.ntmps7
      go_wp2_with fail
      refine Calls.mono HC.out ?_
      rintro e w1 ⟨b1, qb, rfl, -, -⟩
      go_wp2_with fail
      refine bodyPost_ret (v := .tuple #[.int .i64 0, .int .i64 0]) (by simp [results, Tryd.results7, go_sem, *]) rfl ⟨rfl, cbelow_on HXB.out b1 HXB.out.size⟩
def htO (o : Option St) : Int := (o.getD (0, 0)).1
def hsL (pl : List (Option St)) : List Value := pl.map (fun o => .int .i64 (htO o))
def HeP (g : PgP) (w : World) (e : Ending) (w' : World) : Prop := Below w.heap.size w w' ∧ match looksF cfB g with
  | (some pl, _) => ∃ v, e = .returned (.tuple #[v, .int .i64 0]) ∧ w'.ownsRow w.heap.size 3 1 v pl.length (hsL pl)
  | (none, _) => e = .returned (.tuple #[.slice none 0 0, .int .i64 41])
theorem take_set_v {xs R : List Value} {k : Nat} {u : Value} (h : xs.take k = R.take k) (hk : k < xs.length) (hu : R[k]? = some u) : (xs.set k u).take (k + 1) = R.take (k + 1) := by
  apply List.ext_getElem?
  intro i
  rcases Nat.lt_trichotomy i k with hi | hi | hi
  · have := congrArg (fun l => l[i]?) h
    simp only [List.getElem?_take, hi, if_true] at this
    simp only [List.getElem?_take, show i < k + 1 by omega, if_true]
    rw [List.getElem?_set_ne (by omega)]
    exact this
  · subst hi
    simp only [List.getElem?_take, show i < i + 1 by omega, if_true]
    rw [List.getElem?_set_self hk, hu]
  · simp only [List.getElem?_take, show ¬ i < k + 1 by omega, if_false]
theorem info_int' : ∃ i, Tryd.prog.info? 3 = some i ∧ i.zero = some (.int .i64 0) ∧ i.size = 1 ∧ i.bytes = 8 := by
  have h := info_int
  cases e : Tryd.prog.info? 3 with
  | none => rw [e] at h; cases h
  | some i =>
    rw [e] at h
    simp only [Option.map_some, Option.some.injEq, Prod.mk.injEq] at h
    exact ⟨i, rfl, h.1, h.2.1, h.2.2⟩
theorem loopF_len {g : PgP} : ∀ (k i : Nat) (pl : List (Option St)) {q : List (Option St)} {n : Nat}, PIn g pl → loopF g k i pl = (some q, n) → q.length = pl.length ∧ PIn g q
  | 0, i, pl, q, n, hp, h => by cases h; exact ⟨rfl, hp⟩
  | k + 1, i, pl, q, n, hp, h => by
    cases e : stepF g i pl with
    | none => rw [loop_none e] at h; cases h
    | some p =>
      rw [loop_some e] at h
      have h2 := stepF_in e hp
      have h3 := loopF_len k (i + 1) p h2.1 h
      exact ⟨h3.1.trans h2.2, h3.2⟩
theorem looks_len {g : PgP} {pl : List (Option St)} {n : Nat} (h : looksF cfB g = (some pl, n)) : pl.length = g.C.length ∧ 1 ≤ g.C.length ∧ g.C.length ≤ 16384 := by
  unfold looksF at h
  cases hb : headB cfB g with
  | false => rw [hb] at h; cases h
  | true =>
    rw [hb] at h
    have hfew : 1 ≤ g.C.length ∧ g.C.length ≤ 16384 ∧ 0 ≤ g.h := by
      unfold headB vewB at hb
      simp at hb
      omega
    have h1 := loopF_len _ _ _ (start_in g g.C.length hfew.2.2) h
    exact ⟨by rw [h1.1, start_len], hfew.1, hfew.2.1⟩
set_option maxHeartbeats 2000000 in
set_option maxRecDepth 20000 in
theorem heights_c (g : PgP) (u : PgV) (w : World) (h : PgRd w g u) (ho : PgOk g) (hF : FldAt w) (hT : TabAt w) : Calls Tryd.prog 8 #[pgV g u] w (HeP g w) := by
  have XB := bel_alloc w (.cells (pgL g u).toArray 38)
  have HC := chid (walked_c sound_all g u _ (h.next XB) ho (hF.later XB) (hT.next XB))
  have HXB := chid XB
  clear XB
  unfold WkP at HC
  clear h ho hF hT
  cases hl : looksF cfB g with
  | mk q n =>
    have HNo : Hid (∀ w', Below w.heap.size w w' → q = none → HeP g w (.returned (.tuple #[.slice none 0 0, .int .i64 41])) w') := chid (fun w' hb hq => ⟨hb, by rw [hl, hq]⟩)
    have HYs : Hid (∀ w' pl v, Below w.heap.size w w' → q = some pl → w'.ownsRow w.heap.size 3 1 v pl.length (hsL pl) → HeP g w (.returned (.tuple #[v, .int .i64 0])) w') := chid (fun w' pl v hb hq hx => ⟨hb, by rw [hl, hq]; exact ⟨v, rfl, hx⟩⟩)
    rw [hl] at HC
    generalize HeP g w = Post at *
    cases q with
    | none =>
      simp only at HC
      go_enter Tryd.func8, Tryd.ntmps8
      go_wp2_with fail
      refine Calls.mono HC.out ?_
      rintro e w1 ⟨b1, rfl⟩
      have HB1 := chid (cbelow_on HXB.out b1 HXB.out.size)
      clear b1
      go_wp2_with fail
      exact HNo.out _ HB1.out (by trivial)
    | some pl =>
      have hlen : pl.length ≤ 16384 := by have := looks_len hl; omega
      simp only at HC
      clear hl HNo
      go_enter Tryd.func8, Tryd.ntmps8
      go_wp2_with fail
      refine Calls.mono HC.out ?_
      rintro e w1 ⟨b1, qb, rfl, hb, hq⟩
      have HB1 := chid (cbelow_on HXB.out b1 HXB.out.size)
      have HQ := chid hb
      have hq1 := hb.lt
      clear b1 hb HC
      obtain ⟨i0, hi, hz0, hz1, hz2⟩ := info_int'
      obtain ⟨N, hN⟩ : ∃ N, Hid (N = pl.length) := ⟨_, chid rfl⟩
      rw [← hN.out] at hlen ⊢
      go_wp2_with (at_make; refine wpList_make_full _ rfl _ _ 44 rfl w.heap.size 3 i0 (.int .i64 0) 1 Tryd.underlying44 hi hz0 hz1 _ _ _ _ N rfl rfl rfl rfl (by rw [hz2]; omega) (by unfold maxLen; omega) HB1.out.size ?_; intro w3 hown hgrow; have hb3 : Below w1.heap.size w1 w3 := (Below.refl _ _).grown hgrow (Nat.le_refl _) (by simp); have HB3 := chid hb3; have HO := chid hown; clear hb3 hown hgrow)
      obtain ⟨hb, hhb⟩ : ∃ x, Hid (x = w1.heap.size) := ⟨_, chid rfl⟩
      have hne : hb ≠ qb := by have := hhb.out; omega
      have hwb : w.heap.size ≤ hb := by have := hhb.out; have := HB1.out.size; omega
      have HQ3 := chid (HQ.out.next HB3.out)
      have HBa := chid (cbelow_on HB1.out HB3.out HB1.out.size)
      have HO2 : Hid (∃ xs : List Value, xs.length = N ∧ w3.ownsRow w.heap.size 3 1 (.slice (some ⟨hb, 0, none⟩) N N) N xs) := by
        rw [hhb.out]
        exact chid ⟨_, by have := HO.out.1; omega, HO.out⟩
      obtain ⟨xs0, hx0, ho0⟩ := HO2.out
      have HO0 := chid ho0
      have HX0 := chid hx0
      rw [← hhb.out]
      clear HO HO2 ho0 hx0 hi hz0 hz1 hz2 HB3 HQ
      go_loopw [24] (fun z wr => ∃ (k : Nat) (xs : List Value), z = .int .i64 (k : Nat) ∧ k ≤ N ∧ Hid (xs.length = N) ∧ Hid (xs.take k = (hsL pl).take k) ∧ Hid (wr.ownsRow w.heap.size 3 1 (.slice (some ⟨hb, 0, none⟩) N N) N xs) ∧ Hid (Box wr qb (flR pcL pl)) ∧ Hid (Below w.heap.size w wr)) (fun z _ => match z with | .int _ z => ((N : Int) - z).toNat | _ => 0)
      case atStart => exact ⟨0, xs0, rfl, by omega, HX0, chid rfl, HO0, HQ3, HBa⟩
      case round =>
        obtain ⟨k, xs, rfl, hk, HXl, HXs, HOw, HQr, HBr⟩ := hrel
        clear HX0 HO0 HQ3 HBa
        by_cases hlt : k < N
        · have hlt' : (k : Int) < (N : Int) := by omega
          have hkl : k < pl.length := by rw [← hN.out]; exact hlt
          have hat : pl[k]? = some pl[k] := List.getElem?_eq_getElem hkl
          obtain ⟨p0, p1, p2, hpo⟩ : ∃ (p0 : Bool) (p1 p2 : Int), Hid (pcL pl[k] = [.bool p0, .int .i64 p1, .int .i64 p2] ∧ p1 = htO pl[k]) := by cases pl[k] <;> exact ⟨_, _, _, chid ⟨rfl, rfl⟩⟩
          have y0 := HQr.out.cell _ _ (flR_at pcL_len pl k 0 _ (.bool p0) hat (by rw [hpo.out.1]; rfl))
          have y1 := HQr.out.cell _ _ (flR_at pcL_len pl k 1 _ (.int .i64 p1) hat (by rw [hpo.out.1]; rfl))
          have y2 := HQr.out.cell _ _ (flR_at pcL_len pl k 2 _ (.int .i64 p2) hat (by rw [hpo.out.1]; rfl))
          rw [Nat.add_zero] at y0
          have ql := HQr.out.lt
          have hR : (hsL pl)[k]? = some (.int .i64 p1) := by
            unfold hsL
            rw [List.getElem?_map, hat, hpo.out.2]
            rfl
          have HT := chid (take_set_v HXs.out (by have := HXl.out; omega) hR)
          have k0 := HOw.out.cellAt k (by omega)
          rw [List.getElem?_eq_getElem (by have := HXl.out; omega)] at k0
          have f0 := HOw.out.frozenAt k
          have hgl := (HOw.out.lt hb rfl).2
          have HSt : Hid (∀ (W : World), Below wr.heap.size wr W → (W.setCell ⟨hb, k, none⟩ (.int .i64 p1)).ownsRow w.heap.size 3 1 (.slice (some ⟨hb, 0, none⟩) N N) N (xs.set k (.int .i64 p1)) ∧ Box (W.setCell ⟨hb, k, none⟩ (.int .i64 p1)) qb (flR pcL pl) ∧ Below w.heap.size w (W.setCell ⟨hb, k, none⟩ (.int .i64 p1))) := chid (fun W hW => by
            have O4 := own_turn HOw.out (S := []) (Turn.of_below hW) (fun _ _ hm => by cases hm)
            exact ⟨(O4.stored k _).1, (HQr.out.next hW).other (Ne.symm hne), (cbelow_on HBr.out hW HBr.out.size).setCell (p := ⟨hb, k, none⟩) hwb _⟩)
          clear hat hR HXs
          go_wp2_with fail
          have HS3 := HSt.out wr (Below.refl _ _)
          have al := bel_alloc (wr.setCell ⟨hb, k, none⟩ (.int .i64 p1)) (.cells #[.bool p0, .int .i64 p1, .int .i64 p2] 67)
          refine ⟨⟨k + 1, xs.set k (.int .i64 p1), by go_num, by omega, chid (by rw [List.length_set]; exact HXl.out), HT, chid (own_turn HS3.1 (S := []) (Turn.of_below al) (fun _ _ hm => by cases hm)), chid (HS3.2.1.next al), chid (cbelow_on HS3.2.2 al HS3.2.2.size)⟩, ?_⟩
          show ((N : Int) - ((k : Int) + 1)).toNat < ((N : Int) - (k : Int)).toNat
          omega
        · have hlt' : ¬ (k : Int) < (N : Int) := by omega
          have hkN : k = N := by omega
          subst hkN
          have hE : Hid (xs = hsL pl) := by
            have h1 := HXs.out
            rw [List.take_of_length_le (by have := HXl.out; omega), List.take_of_length_le (by unfold hsL; rw [List.length_map]; have := hN.out; omega)] at h1
            exact chid h1
          go_wp2_with fail
          have HF := HYs.out _ pl (.slice (some ⟨hb, 0, none⟩) k k) HBr.out rfl (by rw [← hE.out, ← hN.out]; exact HOw.out)
          exact HF

def codedP (hh : Int) (l : List Ins) : PgP := ⟨0, ⟨0, 1, 1, 0, 0⟩, [], [], [], 0, hh, l⟩
theorem lk1 : looksF cfB (codedP 1 [(2, 0), (30, 0)]) = (some [some (0, 0), some (1, 0)], 0) := by decide
theorem lk2 : looksF cfB (codedP 0 [(2, 0), (30, 0)]) = (none, 0) := by decide
theorem lk3 : looksF cfB (codedP 1 [(2, 0), (30, 0), (30, 0)]) = (none, 2) := by decide
theorem c64_sm {x : Int} (h0 : 0 ≤ x) (h1 : x ≤ 99) : C64 x := ⟨by omega, by omega⟩
theorem coded_ok (hh : Int) (l : List Ins) (h0 : 0 ≤ hh) (h1 : hh ≤ 99) (hl : ∀ x, x ∈ l → (0 ≤ x.1 ∧ x.1 ≤ 99) ∧ 0 ≤ x.2 ∧ x.2 ≤ 99) : PgOk (codedP hh l) where
  met := (show C64 0 from ⟨by omega, by omega⟩)
  ru := ⟨(show C64 0 from ⟨by omega, by omega⟩), (show C64 1 from ⟨by omega, by omega⟩), (show C64 1 from ⟨by omega, by omega⟩), (show C64 0 from ⟨by omega, by omega⟩), (show C64 0 from ⟨by omega, by omega⟩)⟩
  K := fun x hx => by cases hx
  wins := fun x hx => by cases hx
  crons := fun x hx => by cases hx
  loc := (show C64 0 from ⟨by omega, by omega⟩)
  h := c64_sm h0 h1
  C := fun x hx => ⟨c64_sm (hl x hx).1.1 (hl x hx).1.2, c64_sm (hl x hx).2.1 (hl x hx).2.2⟩
theorem nil_rowsV (w : World) (k : Nat) (cs : Nat → List Value) : RowsK w (.slice none 0 0) 0 k cs := ⟨none, 0, rfl, by omega, by omega, .inl rfl⟩
theorem coded_c (hh : Int) (v : Value) (l : List Ins) (w : World) (hv : InsAt w v l) : Calls Tryd.prog 9 #[.int .i64 hh, v] w fun e w' => e = .returned (pgV (codedP hh l) ⟨.slice none 0 0, .slice none 0 0, .slice none 0 0, v⟩) ∧ Below w.heap.size w w' := by
  obtain ⟨va, vc, rfl, -, -⟩ := RowsK.shape hv
  go_enter Tryd.func9, Tryd.ntmps9
  go_wp2_with fail
  refine bodyPost_ret (v := pgV (codedP hh l) ⟨.slice none 0 0, .slice none 0 0, .slice none 0 0, .slice va l.length vc⟩) (by simp [codedP, results, Tryd.results9, go_sem, *]) rfl ⟨rfl, (Below.refl _ _).alloc (Nat.le_refl _) _⟩
theorem coded_rd {w : World} {l : List Ins} {v : Value} (hh : Int) (hv : InsAt w v l) : PgRd w (codedP hh l) ⟨.slice none 0 0, .slice none 0 0, .slice none 0 0, v⟩ := ⟨nil_rowsV _ _ _, nil_rowsV _ _ _, nil_rowsV _ _ _, hv⟩
theorem hsL_fl (pl : List (Option St)) : hsL pl = flR (fun a : Int => [Value.int .i64 a]) (pl.map htO) := by
  unfold hsL flR
  induction pl with
  | nil => rfl
  | cons x l ih => simp [ih]
theorem hs_rows {w : World} {B : Nat} {v : Value} {pl : List (Option St)} (h : w.ownsRow B 3 1 v pl.length (hsL pl)) : RowsK w v (pl.map htO).length 1 (fun i => [.int .i64 ((pl.map htO).getD i 0)]) := by
  rw [hsL_fl] at h
  rw [← List.length_map (f := htO)] at h
  exact OwR.rows (k := 1) (L := fun a : Int => [.int .i64 a]) (fun _ => rfl) h 0
theorem ins_new (w : World) (l : List Ins) (t : TypeId) (cs : Array Value) (hc : cs = (flR (fun a : Ins => inL a) l).toArray) (hl : l.length ≤ 9223372036854775807) : InsAt (w.alloc (.cells cs t)) (.slice (some ⟨w.heap.size, 0, none⟩) l.length l.length) l := by
  subst hc
  have B := Box.new w (flR (fun a : Ins => inL a) l) t
  refine ⟨some ⟨w.heap.size, 0, none⟩, l.length, rfl, Nat.le_refl _, hl, .inr ⟨w.heap.size, 0, rfl, B.lt, fun i hi j x hx => ?_⟩⟩
  have hg : l.getD i in0 = l[i] := by simp [List.getD, hi]
  have hx' : (inL l[i])[j]? = some x := by rw [← hg]; exact hx
  have := B.cell _ _ (flR_at (k := 2) (fun _ => rfl) l i j l[i] x (List.getElem?_eq_getElem hi) hx')
  have e : 0 + i * 2 + j = i * 2 + j := by omega
  exact e ▸ this
set_option maxRecDepth 20000 in
theorem awake23_c (w : World) (hF : FldAt w) (hT : TabAt w) : Calls Tryd.prog 4 #[] w fun e w' => e = .returned (.bool true) ∧ Below w.heap.size w w' := by
  have HF := chid hF
  have HT := chid hT
  clear hF hT
  have a1 := bel_alloc w (.cells #[.int .i64 2, .int .i64 0, .int .i64 30, .int .i64 0] 49)
  have HI := chid (ins_new w [(2, 0), (30, 0)] 49 #[.int .i64 2, .int .i64 0, .int .i64 30, .int .i64 0] rfl (by decide))
  have HA := chid a1
  clear a1
  generalize hw1 : w.alloc (.cells #[.int .i64 2, .int .i64 0, .int .i64 30, .int .i64 0] 49) = w1 at HI HA
  have HC1 := chid (coded_c 1 _ _ w1 HI.out)
  go_enter Tryd.func4, Tryd.ntmps4
  go_wp2_with fail
  refine Calls.mono HC1.out ?_
  rintro e w2 ⟨rfl, b2⟩
  have HA2 := chid (cbelow_on HA.out b2 HA.out.size)
  have HI2 := chid (RowsK.next HI.out b2)
  have HH := chid (heights_c _ _ w2 (coded_rd 1 HI2.out) (coded_ok 1 _ (by decide) (by decide) (by decide)) (HF.out.later HA2.out) (HT.out.next HA2.out))
  unfold HeP at HH
  rw [lk1] at HH
  simp only at HH
  clear HC1 b2 HI hw1
  go_wp2_with fail
  refine Calls.mono HH.out ?_
  rintro e w3 ⟨b3, v, rfl, hv⟩
  have HA3 := chid (cbelow_on HA2.out b3 HA2.out.size)
  have HV := chid (hs_rows hv)
  have HI3 := chid (RowsK.next HI2.out b3)
  have HF3 := chid (HF.out.later HA3.out)
  have HT3 := chid (HT.out.next HA3.out)
  obtain ⟨vb, vo, vcap, hve, -, -, hvl, hvx⟩ := RowsK.open HV.out (show 0 < 2 by omega)
  rw [show ([some (0, 0), some (1, 0)].map htO).length = 2 from rfl] at hve
  subst hve
  have HC2 := chid (coded_c 0 _ _ w3 HI3.out)
  clear HH b3 hv HI2 HA2 hvx hvl
  go_wp2_with fail
  refine Calls.mono HC2.out ?_
  rintro e w4 ⟨rfl, b4⟩
  have HA4 := chid (cbelow_on HA3.out b4 HA3.out.size)
  have HK := chid (check_c _ _ w4 (coded_rd 0 (RowsK.next HI3.out b4)) (coded_ok 0 _ (by decide) (by decide) (by decide)) (HF3.out.later b4) (HT3.out.next b4))
  have HV4 := chid (RowsK.next HV.out b4)
  have HF4 := chid (HF3.out.later b4)
  have HT4 := chid (HT3.out.next b4)
  have hk : ckF (codedP 0 [(2, 0), (30, 0)]) = (0, 41) := by unfold ckF; rw [lk2]; rfl
  rw [hk] at HK
  clear hk HC2 b4 HV HI3 HF3 HT3 HA3
  go_wp2_with fail
  refine Calls.mono HK.out ?_
  rintro e w5 ⟨rfl, b5⟩
  have HA5 := chid (cbelow_on HA4.out b5 HA4.out.size)
  have HV5 := chid (RowsK.next HV4.out b5)
  have HF5 := chid (HF4.out.later b5)
  have HT5 := chid (HT4.out.next b5)
  have a6 := bel_alloc w5 (.cells #[.int .i64 2, .int .i64 0, .int .i64 30, .int .i64 0, .int .i64 30, .int .i64 0] 49)
  have HI6 := chid (ins_new w5 [(2, 0), (30, 0), (30, 0)] 49 #[.int .i64 2, .int .i64 0, .int .i64 30, .int .i64 0, .int .i64 30, .int .i64 0] rfl (by decide))
  have HA6 := chid (cbelow_on HA5.out a6 HA5.out.size)
  have HV6 := chid (RowsK.next HV5.out a6)
  have HF6 := chid (HF5.out.later a6)
  have HT6 := chid (HT5.out.next a6)
  clear HK b5 HV4 HF4 HT4 HA4 a6 HV5 HF5 HT5 HA5
  generalize hw6 : w5.alloc (.cells #[.int .i64 2, .int .i64 0, .int .i64 30, .int .i64 0, .int .i64 30, .int .i64 0] 49) = w6 at HI6 HA6 HV6 HF6 HT6
  have HC6 := chid (coded_c 1 _ _ w6 HI6.out)
  go_wp2_with fail
  refine Calls.mono HC6.out ?_
  rintro e w7 ⟨rfl, b7⟩
  have HA7 := chid (cbelow_on HA6.out b7 HA6.out.size)
  have HK := chid (check_c _ _ w7 (coded_rd 1 (RowsK.next HI6.out b7)) (coded_ok 1 _ (by decide) (by decide) (by decide)) (HF6.out.later b7) (HT6.out.next b7))
  have HV7 := chid (RowsK.next HV6.out b7)
  have hk : ckF (codedP 1 [(2, 0), (30, 0), (30, 0)]) = (2, 41) := by unfold ckF; rw [lk3]; rfl
  rw [hk] at HK
  clear hk HC6 b7 HV6 HI6 HF6 HT6 HA6 hw6
  go_wp2_with fail
  refine Calls.mono HK.out ?_
  rintro e w8 ⟨rfl, b8⟩
  have HA8 := chid (cbelow_on HA7.out b8 HA7.out.size)
  obtain ⟨vb', vo', vcap', hve, -, -, hvl, hvx⟩ := RowsK.open (RowsK.next HV7.out b8) (show 0 < 2 by omega)
  cases hve
  have x1 : w8.cell? ⟨vb, vo + 1, none⟩ = some (.int .i64 1) := by
    have h1 := hvx 1 (by show 1 < 2; omega) 0 _ rfl
    rw [show vo + 1 * 1 + 0 = vo + 1 by omega] at h1
    exact h1
  clear HK b8 HV7 HA7 hvx
  go_wp2_with fail
  go_ret
  exact ⟨rfl, HA8.out⟩

abbrev inF (a : Int) : List Value := [.int .i64 a]
def heF (g : PgP) : List Int × Int := match looksF cfB g with
  | (some pl, _) => (pl.map htO, 0)
  | (none, _) => ([], 41)
theorem he_all {g : PgP} {w : World} {e : Ending} {w' : World} (h : HeP g w e w') : Below w.heap.size w w' ∧ ∃ v, e = .returned (.tuple #[v, .int .i64 (heF g).2]) ∧ w'.ownsRow w.heap.size 3 1 v (heF g).1.length (flR inF (heF g).1) := by
  obtain ⟨hb, h⟩ := h
  refine ⟨hb, ?_⟩
  unfold heF
  cases hl : looksF cfB g with
  | mk q n =>
    rw [hl] at h
    cases q with
    | none => exact ⟨_, h, World.ownsRow_nil _ _ _ _⟩
    | some pl =>
      obtain ⟨v, h1, h2⟩ := h
      refine ⟨v, h1, ?_⟩
      simp only
      rw [List.length_map, ← hsL_fl]
      exact h2
theorem in_rows {w : World} {B : Nat} {v : Value} {hs : List Int} (h : w.ownsRow B 3 1 v hs.length (flR inF hs)) : RowsK w v hs.length 1 (fun i => [.int .i64 (hs.getD i 0)]) := OwR.rows (k := 1) (L := inF) (fun _ => rfl) h 0
end Go.Proofs.YtigldebdljfnbaaDoor
