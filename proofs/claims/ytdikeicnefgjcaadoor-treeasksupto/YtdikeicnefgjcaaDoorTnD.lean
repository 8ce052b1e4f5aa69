/- The document's names. -/
import Derived.Test.YtdikeicnefgjcaaDoorTnC
import Derived.Test.YtdikeicnefgjcaaDoorTsB
import Derived.Deep.QuietTactic
namespace Go.Proofs.YtdikeicnefgjcaaDoor
open Go.RowKit Go.Maps

theorem row_open {w : World} {B n : Nat} {e : TypeId} {v : Value} {xs : List Value} (h : w.ownsRow B e 1 v n xs) {i : Nat} (hi : i < n) : ∃ g c x, v = .slice (some ⟨g, 0, none⟩) n c ∧ xs[i]? = some x ∧ w.cell? ⟨g, i, none⟩ = some x ∧ g < w.heap.size := by
  have hl := h.1
  have hh := h
  have hlt := h.lt
  rcases h.2 with ⟨_, rfl⟩ | ⟨g, cap, cur, rfl, hb, hg, _⟩
  · omega
  · have hx : xs[i]? = some xs[i] := List.getElem?_eq_getElem (by omega)
    refine ⟨g, cap, xs[i], rfl, hx, ?_, (hlt g rfl).2⟩
    have hadd : (⟨g, 0, none⟩ : Addr).add i = ⟨g, i, none⟩ := by unfold Addr.add; split <;> simp_all
    have := hh.cells (g := g) rfl i _ hx
    rwa [hadd] at this
theorem beq_dec (a b : List UInt8) : (a == b) = decide (a = b) := Bool.eq_iff_iff.2 (by simp)
theorem hasN_step {acc : List ByteArray} {j : Nat} {x s : ByteArray} (hx : acc[j]? = some x) : hasN (acc.take (j + 1)) s = (hasN (acc.take j) s || decide (x.toList = s.toList)) := by
  unfold hasN
  rw [List.take_add_one, hx, List.any_append]
  simp
theorem foldN_len : ∀ (l : List Tm) (acc : List ByteArray), (l.foldl addN acc).length ≤ acc.length + l.length
  | [], acc => by simp
  | t :: r, acc => by
    have h1 := foldN_len r (addN acc t)
    have h2 := addN_len acc t
    simp only [List.foldl_cons, List.length_cons]
    omega
theorem pord_fold (acc : List ByteArray) (t : Tm) : (pord t).foldl addN acc = (t.parts.map pord).flatten.foldl addN (addN acc t) := by
  rw [pord_eq, List.foldl_cons]
/-- append onto a row: it stays where it is, or lies at the heap's end. -/
theorem wpList_append_blk (w : World) {ops : Array Oper} {rest : List Oper} {o : Oper} {a : Act} {Q : Exit → Act → World → Prop} (hgd : o.guard = none) (s x : Operand) (t : TypeId)
    (ho : o.op = .call { callee := .builtin .append, args := #[s, x], argTypes := #[t, t] })
    (base : Nat) (e : TypeId) (i : TypeInfo) (z : Value) (size bytes : Nat) (ht : Tryd.prog.underlying t = some (.slice e)) (hi : Tryd.prog.info? e = some i) (hz : i.zero = some z)
    (hsize : i.size = size) (hby : i.bytes = bytes) (hzs : z.cells.size = size) (hsz : 0 < size)
    (v : Value) (n : Nat) (xs : List Value) (hs : a.eval s = v) (hown : w.ownsRow base e size v n xs)
    (ad : Addr) (m c : Nat) (news : List Value) (hx : a.eval x = .slice (some ad) m c) (hl : news.length = m * size) (hm : 0 < m) (hnews : ∀ j u, news[j]? = some u → w.cell? (ad.add j) = some u) (h1 : ∀ u ∈ news, u.oneCell' = true)
    (h63 : n + m ≤ maxLen) (hbytes : (n + m) * bytes ≤ 140737488355328) (hbase : base ≤ w.heap.size)
    (h : ∀ a' c' w', w'.ownsRow base e size (.slice a' (n + m) c') (n + m) (xs ++ news) → w.grownBy w' v.ownBlock → ((Value.slice a' (n + m) c').ownBlock = v.ownBlock ∨ (Value.slice a' (n + m) c').ownBlock = some w.heap.size) → wpList Tryd.prog ops Q rest (a.put o.dst (.slice a' (n + m) c')) w') : wpList Tryd.prog ops Q (o :: rest) a w := by
  refine wpList_plain hgd fun K hK => ?_
  obtain ⟨v', w', hr, h2, h3, hb⟩ := run_append_blk w base t o.type e i z size bytes ht hi hz hsize hby hzs hsz v n xs hown ad m c news hl hm hnews h1 h63 hbytes hbase
  obtain ⟨a', c', rfl⟩ := row_val h2
  unfold Oper.wp execOp
  simp only [ho, resolve, invoke, builtin, Sem.run_bind, Sem.run_pure, Result.andThen_ok, List.map_toArray, List.map_cons, List.map_nil, hs, hx, hr]
  exact hK _ _ (h a' c' w' h2 h3 hb)
/-- Names put behind a list. -/
def NamP (B : Nat) (L : List ByteArray) (lv : Value) (w : World) (e : Ending) (w' : World) : Prop := ∃ lv', e = .returned lv' ∧ w'.ownsRow B 9 1 lv' L.length (strs L) ∧ Turn lv.ownBlock.toList w w' ∧ ∀ k, lv'.ownBlock = some k → lv.ownBlock = some k ∨ w.heap.size ≤ k
def RNam (z : Nat) (t : Tm) : Prop := ∀ (W : World) (B : Nat) (acc : List ByteArray) (v lv : Value) (w : World), Sits z W t v → Below W.heap.size W w → W.heap.size ≤ B → B ≤ w.heap.size → w.ownsRow B 9 1 lv acc.length (strs acc) → acc.length + nodes t ≤ 16384 → Calls Tryd.prog 51 #[tmV t v, lv] w (NamP B ((pord t).foldl addN acc) lv w)
set_option maxRecDepth 20000 in
set_option maxHeartbeats 8000000 in
theorem rNam_step {z : Nat} (t : Tm) (ih : ∀ x, x ∈ t.parts → RNam z x) : RNam z t := by
  intro W B acc v lv w hs hW hWB hB hrow hn
  obtain ⟨i0, hi, hz0, hz1, hz2⟩ := info_parts info_str
  have HS := hid2 hs
  have HI := hid2 ih
  have HR := hid2 hrow
  have HW := hid2 hW
  obtain ⟨ad, cap, rfl, hc1, hc2⟩ := hs.parts.shape
  obtain ⟨la, lc, rfl⟩ := row_val hrow
  obtain ⟨N, hN⟩ : ∃ N, Hid (N = t.parts.length) := ⟨_, rfl⟩
  obtain ⟨X0, XB⟩ := one_box w 24 (tmL t (.slice ad t.parts.length cap))
  have BX := hid2 X0
  have BB := hid2 XB
  have HL : Hid (acc.length + 1 + nodesL t.parts ≤ 16384) := by have := nodes_eq t; show _ ≤ _; omega
  have hacc : acc.length + 1 ≤ 16384 := by have := HL.out; omega
  rw [← hN.out] at hc1 BX BB HS ⊢
  clear X0 XB hs ih hrow hW hn
  by_cases hk : t.kind = 2
  · have HEN := hid2 (pord_fold acc t)
    have HK2 := hid2 hk
    have d2 : (t.kind == 2) = true := by simp [hk]
    clear hk
    go_enter Tryd.func51, Tryd.ntmps51
    go_wp2_with fail
    generalize hw1 : w.alloc _ = w1 at BX BB ⊢
    clear hw1
    have HR1 := hid2 (row_turn (S := []) HR.out (Turn.of_below BB.out) (by simp))
    go_loopw [5, 6] (fun th i wr => ∃ (j : Nat) (r : Bool), i = .int .i64 (j : Nat) ∧ th = .bool r ∧ j ≤ acc.length ∧ Hid (r = hasN (acc.take j) t.text) ∧ Hid (Below w1.heap.size w1 wr)) (fun _ i _ => match i with | .int _ p => ((acc.length : Int) - p).toNat | _ => 0)
    case atStart => exact ⟨0, false, rfl, rfl, by omega, hid2 rfl, Below.refl _ _⟩
    case round =>
      obtain ⟨j, r, rfl, rfl, hj, HRj, HBj⟩ := hrel
      have HXj := hid2 (BX.out.next HBj.out)
      have x1 := HXj.out.cell 1 _ rfl
      have lx := HXj.out.lt
      by_cases hlt : j < acc.length
      · have hlt' : (j : Int) < (acc.length : Int) := by omega
        obtain ⟨g, c, s, hv, hs1, hs2, hs3⟩ := row_open (row_turn (S := []) HR1.out (Turn.of_below HBj.out) (by simp)) hlt
        simp only [Value.slice.injEq] at hv
        obtain ⟨rfl, -, rfl⟩ := hv
        have hs4 : ∃ y, acc[j]? = some y ∧ s = .string y := by
          unfold strs at hs1
          rw [List.getElem?_map, List.getElem?_eq_getElem hlt] at hs1
          exact ⟨acc[j], List.getElem?_eq_getElem hlt, (Option.some.inj hs1).symm⟩
        obtain ⟨y, hy, rfl⟩ := hs4
        have HST := hid2 (hasN_step (s := t.text) hy)
        rw [← HRj.out] at HST
        clear hs1 hy HRj
        cases r
        · go_wp2_with fail
          go_quiet (fail)
          go_wp2_with fail
          go_roundw
          case rel => exact ⟨j + 1, _, by go_num, rfl, by omega, hid2 (by rw [HST.out]; first | rfl | (rw [Bool.false_or]; exact beq_dec _ _)), hid2 (HBj.out.trans (below_drewN (Below.refl _ _) _))⟩
          case measure => simp; omega
        · go_wp2_with fail
          go_quiet (fail)
          go_wp2_with fail
          go_roundw
          case rel => exact ⟨j + 1, _, by go_num, rfl, by omega, hid2 (by rw [HST.out]; first | rfl | (rw [Bool.false_or]; exact beq_dec _ _)), hid2 (HBj.out.trans (below_drewN (Below.refl _ _) _))⟩
          case measure => simp; omega
      · have hlt' : ¬ (j : Int) < (acc.length : Int) := by omega
        have hjl : acc.take j = acc := List.take_of_length_le (by omega)
        rw [hjl] at HRj
        have HBw := hid2 (below_on BB.out HBj.out BB.out.size)
        have HRw := hid2 (row_turn (S := []) HR1.out (Turn.of_below HBj.out) (by simp))
        cases r
        · have HNW := hid2 (addN_new HK2.out HRj.out.symm)
          have hlt2 : w.heap.size + 1 ≤ wr.heap.size := HXj.out.lt
          go_wp2_with (at_builtin; refine wpList_append_blk _ rfl _ _ 36 rfl B 9 i0 (.string ⟨#[]⟩) 1 16 Tryd.underlying36 hi hz0 hz1 hz2 rfl (by decide) _ _ _ rfl (row_turn (S := []) HRw.out (Turn.of_below ((Below.refl _ _).alloc (Nat.le_refl _) _)) (by simp)) ⟨wr.heap.size, 0, none⟩ 1 1 [.string t.text] rfl rfl (by decide) (cell_one_new _ _ _) (by intro u hu; simp at hu; rcases hu with rfl; rfl) (by unfold maxLen; omega) (by omega) (by simp; omega) ?_; intro a4 c4 w4 hrow4 hgrow4 hblk4)
          have G4 : (wr.alloc (.cells #[.string t.text] 9)).grownBy w4 (Value.slice la acc.length lc).ownBlock := hgrow4
          have R4 : Hid (w4.ownsRow B 9 1 (.slice a4 (acc.length + 1) c4) (acc ++ [t.text]).length (strs (acc ++ [t.text]))) := by
            have := hrow4
            unfold strs at this ⊢
            rw [List.length_append, List.map_append]
            exact this
          have TT : Turn (Value.slice la acc.length lc).ownBlock.toList wr w4 := (Turn.of_below (S := (Value.slice la acc.length lc).ownBlock.toList) ((Below.refl _ _).alloc (Nat.le_refl _) (.cells #[.string t.text] 9))).trans (turn_grown G4) (fun i hi => .inl hi)
          have T4 : Hid (Turn (Value.slice la acc.length lc).ownBlock.toList w w4) := (Turn.of_below (S := (Value.slice la acc.length lc).ownBlock.toList) HBw.out).trans TT (fun i hi => .inl hi)
          have O4 : Hid (∀ k, (Value.slice a4 (acc.length + 1) c4).ownBlock = some k → (Value.slice la acc.length lc).ownBlock = some k ∨ w.heap.size + 1 ≤ k) := fun k hk => by
            rcases hblk4 with e | e
            · exact .inl (e.symm.trans hk)
            · rw [hk] at e
              exact .inr (by have := Option.some.inj e; simp at this; omega)
          have X4 : Hid (Box w4 w.heap.size (tmL t (.slice ad N cap))) := HXj.out.turn TT (fun hm => by have := (row_ge HR.out (k := w.heap.size) (by simpa using hm)).2; omega)
          have HE4 : Hid ((pord t).foldl addN acc = (t.parts.map pord).flatten.foldl addN (acc ++ [t.text])) := by rw [← HNW.out]; exact HEN.out
          have hs4 : w.heap.size + 1 ≤ w4.heap.size := X4.out.lt
          clear hrow4 hgrow4 hblk4 G4 TT HNW HEN HRw HXj x1 lx BX BB HR1
          go_loopw [1, 7] (fun l i wr => ∃ (j : Nat) (ja : Option Addr) (jc jn : Nat), i = .int .i64 (j : Nat) ∧ l = .slice ja jn jc ∧ j ≤ N ∧ Hid (jn = (((t.parts.take j).map pord).flatten.foldl addN (acc ++ [t.text])).length) ∧ Hid (wr.ownsRow B 9 1 (.slice ja jn jc) (((t.parts.take j).map pord).flatten.foldl addN (acc ++ [t.text])).length (strs (((t.parts.take j).map pord).flatten.foldl addN (acc ++ [t.text])))) ∧ Hid (Turn (Value.slice la acc.length lc).ownBlock.toList w wr) ∧ Hid (∀ k, (Value.slice ja jn jc).ownBlock = some k → (Value.slice la acc.length lc).ownBlock = some k ∨ w.heap.size + 1 ≤ k) ∧ Hid (Box wr w.heap.size (tmL t (.slice ad N cap)))) (fun _ i _ => match i with | .int _ p => ((N : Int) - p).toNat | _ => 0)
          case atStart => exact ⟨0, _, _, _, rfl, rfl, by omega, hid2 (by simp), hid2 (by simpa using R4.out), T4, O4, X4⟩
          case round =>
            obtain ⟨j, ja, jc, jn, rfl, rfl, hj, HJn, HRj, HTj, HOj, HXj⟩ := hrel
            have x5 := HXj.out.cell 5 _ rfl
            have lx := HXj.out.lt
            by_cases hlt : j < N
            · have hlt' : (j : Int) < (N : Int) := by omega
              have h1 : j < t.parts.length := by rw [← hN.out]; exact hlt
              obtain ⟨b, off, c1, hv, -, -, hbl, hx⟩ := HS.out.parts.open (by omega)
              rw [← hN.out] at hv
              simp only [Value.slice.injEq] at hv
              obtain ⟨rfl, -, rfl⟩ := hv
              obtain ⟨u, h6, hu⟩ := hx j h1
              have HB1 : Hid (Below W.heap.size W wr) := HW.out.trans (HTj.out.below (fun k hk => by have := (row_ge HR.out (k := k) (by simpa using hk)).1; omega) HW.out.size)
              obtain ⟨c0, c1, c2, c3, c4, c5⟩ := h6.keep (w' := wr) (fun q => HB1.out.cell (p := ⟨b, q, none⟩) hbl)
              have lb : b < wr.heap.size := Nat.lt_of_lt_of_le hbl HB1.out.size
              have hnl : Hid ((((t.parts.take j).map pord).flatten.foldl addN (acc ++ [t.text])).length + nodes t.parts[j] ≤ 16384) := by
                have e1 := foldN_len ((t.parts.take j).map pord).flatten (acc ++ [t.text])
                have e2 := congrArg List.length (flat_split t.parts j h1)
                rw [List.length_append, List.length_append] at e2
                have e3 : (acc ++ [t.text]).length + nodesL t.parts ≤ 16384 := (by have := HL.out; simp; omega)
                unfold nodesL at e3
                show _ ≤ _
                unfold nodes
                omega
              have hsz : Hid (B ≤ wr.heap.size) := Nat.le_trans hB HTj.out.size
              have HC := hid2 (HI.out _ (List.getElem_mem h1) W B _ u (.slice ja jn jc) wr hu HB1.out hWB hsz.out HRj.out hnl.out)
              have HE2 : Hid (((t.parts.take (j + 1)).map pord).flatten.foldl addN (acc ++ [t.text]) = (pord t.parts[j]).foldl addN (((t.parts.take j).map pord).flatten.foldl addN (acc ++ [t.text]))) := by
                show _ = _
                rw [flat_take t.parts j h1, List.foldl_append]
              obtain ⟨au, cu, rfl, -, -⟩ := hu.parts.shape
              clear h6 hu hx hnl hsz HB1
              generalize t.parts[j] = x at *
              clear h1
              go_wp2_with fail
              refine Calls.mono HC.out ?_
              rintro e w5 ⟨lv5, rfl, r5, t5, o5⟩
              rw [← HE2.out] at r5
              have ho := HOj.out
              have nb : w.heap.size ∉ (Value.slice ja jn jc).ownBlock.toList := fun hm => by
                rcases ho w.heap.size (by simpa using hm) with e | e
                · have := (row_ge HR.out e).2; omega
                · omega
              have R5 := hid2 r5
              have X5 := hid2 (HXj.out.turn t5 nb)
              have T5 : Hid (Turn (Value.slice la acc.length lc).ownBlock.toList w w5) := HTj.out.trans t5 (fun i hi => by
                rcases ho i (by simpa using hi) with e | e
                · exact .inl (by simp [e])
                · exact .inr (by omega))
              have O5 : Hid (∀ k, lv5.ownBlock = some k → (Value.slice la acc.length lc).ownBlock = some k ∨ w.heap.size + 1 ≤ k) := fun k hk => by
                rcases o5 k hk with e | e
                · exact ho k e
                · exact .inr (by have := HTj.out.size; omega)
              obtain ⟨a5, c5', e5⟩ := row_val r5
              obtain ⟨n5, hn5⟩ : ∃ n, Hid (n = (((t.parts.take (j + 1)).map pord).flatten.foldl addN (acc ++ [t.text])).length) := ⟨_, rfl⟩
              rw [← hn5.out] at e5
              subst e5
              clear HC HE2 r5 t5 o5 ho nb c0 c1 c2 c3 c4 c5 x5
              go_wp2_with fail
              go_roundw
              case rel => exact ⟨j + 1, _, _, _, by go_num, rfl, by omega, hn5, R5, T5, O5, X5⟩
              case measure => simp; omega
            · have hlt' : ¬ (j : Int) < (N : Int) := by omega
              have hjN : j = N := by omega
              subst hjN
              have e1 : t.parts.take j = t.parts := by rw [hN.out]; exact List.take_length
              rw [e1] at HRj
              have HP : Hid (NamP B ((pord t).foldl addN acc) (.slice la acc.length lc) w (.returned (.slice ja jn jc)) wr) := ⟨_, rfl, by rw [HE4.out]; exact HRj.out, HTj.out, fun k hk => by
                rcases HOj.out k hk with e | e
                · exact .inl e
                · exact .inr (by omega)⟩
              go_wp2_with fail
              go_ret
              exact HP.out
        · have HE4 : Hid ((pord t).foldl addN acc = (t.parts.map pord).flatten.foldl addN acc) := by
            have := addN_old (acc := acc) (t := t) (fun _ => HRj.out.symm)
            rw [this] at HEN
            exact HEN.out
          have T4 : Hid (Turn (Value.slice la acc.length lc).ownBlock.toList w wr) := Turn.of_below HBw.out
          have O4 : Hid (∀ k, (Value.slice la acc.length lc).ownBlock = some k → (Value.slice la acc.length lc).ownBlock = some k ∨ w.heap.size + 1 ≤ k) := fun k hk => .inl hk
          clear HEN x1 lx BX BB HR1
          go_wp2_with fail
          go_loopw [1, 7] (fun l i wr => ∃ (j : Nat) (ja : Option Addr) (jc jn : Nat), i = .int .i64 (j : Nat) ∧ l = .slice ja jn jc ∧ j ≤ N ∧ Hid (jn = (((t.parts.take j).map pord).flatten.foldl addN acc).length) ∧ Hid (wr.ownsRow B 9 1 (.slice ja jn jc) (((t.parts.take j).map pord).flatten.foldl addN acc).length (strs (((t.parts.take j).map pord).flatten.foldl addN acc))) ∧ Hid (Turn (Value.slice la acc.length lc).ownBlock.toList w wr) ∧ Hid (∀ k, (Value.slice ja jn jc).ownBlock = some k → (Value.slice la acc.length lc).ownBlock = some k ∨ w.heap.size + 1 ≤ k) ∧ Hid (Box wr w.heap.size (tmL t (.slice ad N cap)))) (fun _ i _ => match i with | .int _ p => ((N : Int) - p).toNat | _ => 0)
          case atStart => exact ⟨0, _, _, _, rfl, rfl, by omega, hid2 (by simp), hid2 (by simpa using HRw.out), T4, O4, HXj⟩
          case round =>
            obtain ⟨j, ja, jc, jn, rfl, rfl, hj, HJn, HRj, HTj, HOj, HXj⟩ := hrel
            have x5 := HXj.out.cell 5 _ rfl
            have lx := HXj.out.lt
            by_cases hlt : j < N
            · have hlt' : (j : Int) < (N : Int) := by omega
              have h1 : j < t.parts.length := by rw [← hN.out]; exact hlt
              obtain ⟨b, off, c1, hv, -, -, hbl, hx⟩ := HS.out.parts.open (by omega)
              rw [← hN.out] at hv
              simp only [Value.slice.injEq] at hv
              obtain ⟨rfl, -, rfl⟩ := hv
              obtain ⟨u, h6, hu⟩ := hx j h1
              have HB1 : Hid (Below W.heap.size W wr) := HW.out.trans (HTj.out.below (fun k hk => by have := (row_ge HR.out (k := k) (by simpa using hk)).1; omega) HW.out.size)
              obtain ⟨c0, c1, c2, c3, c4, c5⟩ := h6.keep (w' := wr) (fun q => HB1.out.cell (p := ⟨b, q, none⟩) hbl)
              have lb : b < wr.heap.size := Nat.lt_of_lt_of_le hbl HB1.out.size
              have hnl : Hid ((((t.parts.take j).map pord).flatten.foldl addN acc).length + nodes t.parts[j] ≤ 16384) := by
                have e1 := foldN_len ((t.parts.take j).map pord).flatten acc
                have e2 := congrArg List.length (flat_split t.parts j h1)
                rw [List.length_append, List.length_append] at e2
                have e3 : acc.length + nodesL t.parts ≤ 16384 := (by have := HL.out; omega)
                unfold nodesL at e3
                show _ ≤ _
                unfold nodes
                omega
              have hsz : Hid (B ≤ wr.heap.size) := Nat.le_trans hB HTj.out.size
              have HC := hid2 (HI.out _ (List.getElem_mem h1) W B _ u (.slice ja jn jc) wr hu HB1.out hWB hsz.out HRj.out hnl.out)
              have HE2 : Hid (((t.parts.take (j + 1)).map pord).flatten.foldl addN acc = (pord t.parts[j]).foldl addN (((t.parts.take j).map pord).flatten.foldl addN acc)) := by
                show _ = _
                rw [flat_take t.parts j h1, List.foldl_append]
              obtain ⟨au, cu, rfl, -, -⟩ := hu.parts.shape
              clear h6 hu hx hnl hsz HB1
              generalize t.parts[j] = x at *
              clear h1
              go_wp2_with fail
              refine Calls.mono HC.out ?_
              rintro e w5 ⟨lv5, rfl, r5, t5, o5⟩
              rw [← HE2.out] at r5
              have ho := HOj.out
              have nb : w.heap.size ∉ (Value.slice ja jn jc).ownBlock.toList := fun hm => by
                rcases ho w.heap.size (by simpa using hm) with e | e
                · have := (row_ge HR.out e).2; omega
                · omega
              have R5 := hid2 r5
              have X5 := hid2 (HXj.out.turn t5 nb)
              have T5 : Hid (Turn (Value.slice la acc.length lc).ownBlock.toList w w5) := HTj.out.trans t5 (fun i hi => by
                rcases ho i (by simpa using hi) with e | e
                · exact .inl (by simp [e])
                · exact .inr (by omega))
              have O5 : Hid (∀ k, lv5.ownBlock = some k → (Value.slice la acc.length lc).ownBlock = some k ∨ w.heap.size + 1 ≤ k) := fun k hk => by
                rcases o5 k hk with e | e
                · exact ho k e
                · exact .inr (by have := HTj.out.size; omega)
              obtain ⟨a5, c5', e5⟩ := row_val r5
              obtain ⟨n5, hn5⟩ : ∃ n, Hid (n = (((t.parts.take (j + 1)).map pord).flatten.foldl addN acc).length) := ⟨_, rfl⟩
              rw [← hn5.out] at e5
              subst e5
              clear HC HE2 r5 t5 o5 ho nb c0 c1 c2 c3 c4 c5 x5
              go_wp2_with fail
              go_roundw
              case rel => exact ⟨j + 1, _, _, _, by go_num, rfl, by omega, hn5, R5, T5, O5, X5⟩
              case measure => simp; omega
            · have hlt' : ¬ (j : Int) < (N : Int) := by omega
              have hjN : j = N := by omega
              subst hjN
              have e1 : t.parts.take j = t.parts := by rw [hN.out]; exact List.take_length
              rw [e1] at HRj
              have HP : Hid (NamP B ((pord t).foldl addN acc) (.slice la acc.length lc) w (.returned (.slice ja jn jc)) wr) := ⟨_, rfl, by rw [HE4.out]; exact HRj.out, HTj.out, fun k hk => by
                rcases HOj.out k hk with e | e
                · exact .inl e
                · exact .inr (by omega)⟩
              go_wp2_with fail
              go_ret
              exact HP.out
  · have HE4 : Hid ((pord t).foldl addN acc = (t.parts.map pord).flatten.foldl addN acc) := by
      show _ = _
      rw [pord_fold, addN_old (fun h => absurd h hk)]
    have d2 : (t.kind == 2) = false := by simp [hk]
    have T4 : Hid (Turn (Value.slice la acc.length lc).ownBlock.toList w (w.alloc (.cells #[.int .i64 t.kind, .string t.text, .int .i64 t.n, .int .i64 t.m, .int .i64 t.pl, .slice ad N cap] 24))) := Turn.of_below BB.out
    have O4 : Hid (∀ k, (Value.slice la acc.length lc).ownBlock = some k → (Value.slice la acc.length lc).ownBlock = some k ∨ w.heap.size + 1 ≤ k) := fun k hk => .inl hk
    have HR1 := hid2 (row_turn (S := []) HR.out (Turn.of_below BB.out) (by simp))
    clear hk
    go_enter Tryd.func51, Tryd.ntmps51
    go_wp2_with fail
    go_loopw [1, 7] (fun l i wr => ∃ (j : Nat) (ja : Option Addr) (jc jn : Nat), i = .int .i64 (j : Nat) ∧ l = .slice ja jn jc ∧ j ≤ N ∧ Hid (jn = (((t.parts.take j).map pord).flatten.foldl addN acc).length) ∧ Hid (wr.ownsRow B 9 1 (.slice ja jn jc) (((t.parts.take j).map pord).flatten.foldl addN acc).length (strs (((t.parts.take j).map pord).flatten.foldl addN acc))) ∧ Hid (Turn (Value.slice la acc.length lc).ownBlock.toList w wr) ∧ Hid (∀ k, (Value.slice ja jn jc).ownBlock = some k → (Value.slice la acc.length lc).ownBlock = some k ∨ w.heap.size + 1 ≤ k) ∧ Hid (Box wr w.heap.size (tmL t (.slice ad N cap)))) (fun _ i _ => match i with | .int _ p => ((N : Int) - p).toNat | _ => 0)
    case atStart => exact ⟨0, _, _, _, rfl, rfl, by omega, hid2 (by simp), hid2 (by simpa using HR1.out), T4, O4, BX⟩
    case round =>
      obtain ⟨j, ja, jc, jn, rfl, rfl, hj, HJn, HRj, HTj, HOj, HXj⟩ := hrel
      have x5 := HXj.out.cell 5 _ rfl
      have lx := HXj.out.lt
      by_cases hlt : j < N
      · have hlt' : (j : Int) < (N : Int) := by omega
        have h1 : j < t.parts.length := by rw [← hN.out]; exact hlt
        obtain ⟨b, off, c1, hv, -, -, hbl, hx⟩ := HS.out.parts.open (by omega)
        rw [← hN.out] at hv
        simp only [Value.slice.injEq] at hv
        obtain ⟨rfl, -, rfl⟩ := hv
        obtain ⟨u, h6, hu⟩ := hx j h1
        have HB1 : Hid (Below W.heap.size W wr) := HW.out.trans (HTj.out.below (fun k hk => by have := (row_ge HR.out (k := k) (by simpa using hk)).1; omega) HW.out.size)
        obtain ⟨c0, c1, c2, c3, c4, c5⟩ := h6.keep (w' := wr) (fun q => HB1.out.cell (p := ⟨b, q, none⟩) hbl)
        have lb : b < wr.heap.size := Nat.lt_of_lt_of_le hbl HB1.out.size
        have hnl : Hid ((((t.parts.take j).map pord).flatten.foldl addN acc).length + nodes t.parts[j] ≤ 16384) := by
          have e1 := foldN_len ((t.parts.take j).map pord).flatten acc
          have e2 := congrArg List.length (flat_split t.parts j h1)
          rw [List.length_append, List.length_append] at e2
          have e3 : acc.length + nodesL t.parts ≤ 16384 := (by have := HL.out; omega)
          unfold nodesL at e3
          show _ ≤ _
          unfold nodes
          omega
        have hsz : Hid (B ≤ wr.heap.size) := Nat.le_trans hB HTj.out.size
        have HC := hid2 (HI.out _ (List.getElem_mem h1) W B _ u (.slice ja jn jc) wr hu HB1.out hWB hsz.out HRj.out hnl.out)
        have HE2 : Hid (((t.parts.take (j + 1)).map pord).flatten.foldl addN acc = (pord t.parts[j]).foldl addN (((t.parts.take j).map pord).flatten.foldl addN acc)) := by
          show _ = _
          rw [flat_take t.parts j h1, List.foldl_append]
        obtain ⟨au, cu, rfl, -, -⟩ := hu.parts.shape
        clear h6 hu hx hnl hsz HB1
        generalize t.parts[j] = x at *
        clear h1
        go_wp2_with fail
        refine Calls.mono HC.out ?_
        rintro e w5 ⟨lv5, rfl, r5, t5, o5⟩
        rw [← HE2.out] at r5
        have ho := HOj.out
        have nb : w.heap.size ∉ (Value.slice ja jn jc).ownBlock.toList := fun hm => by
          rcases ho w.heap.size (by simpa using hm) with e | e
          · have := (row_ge HR.out e).2; omega
          · omega
        have R5 := hid2 r5
        have X5 := hid2 (HXj.out.turn t5 nb)
        have T5 : Hid (Turn (Value.slice la acc.length lc).ownBlock.toList w w5) := HTj.out.trans t5 (fun i hi => by
          rcases ho i (by simpa using hi) with e | e
          · exact .inl (by simp [e])
          · exact .inr (by omega))
        have O5 : Hid (∀ k, lv5.ownBlock = some k → (Value.slice la acc.length lc).ownBlock = some k ∨ w.heap.size + 1 ≤ k) := fun k hk => by
          rcases o5 k hk with e | e
          · exact ho k e
          · exact .inr (by have := HTj.out.size; omega)
        obtain ⟨a5, c5', e5⟩ := row_val r5
        obtain ⟨n5, hn5⟩ : ∃ n, Hid (n = (((t.parts.take (j + 1)).map pord).flatten.foldl addN acc).length) := ⟨_, rfl⟩
        rw [← hn5.out] at e5
        subst e5
        clear HC HE2 r5 t5 o5 ho nb c0 c1 c2 c3 c4 c5 x5
        go_wp2_with fail
        go_roundw
        case rel => exact ⟨j + 1, _, _, _, by go_num, rfl, by omega, hn5, R5, T5, O5, X5⟩
        case measure => simp; omega
      · have hlt' : ¬ (j : Int) < (N : Int) := by omega
        have hjN : j = N := by omega
        subst hjN
        have e1 : t.parts.take j = t.parts := by rw [hN.out]; exact List.take_length
        rw [e1] at HRj
        have HP : Hid (NamP B ((pord t).foldl addN acc) (.slice la acc.length lc) w (.returned (.slice ja jn jc)) wr) := ⟨_, rfl, by rw [HE4.out]; exact HRj.out, HTj.out, fun k hk => by
          rcases HOj.out k hk with e | e
          · exact .inl e
          · exact .inr (by omega)⟩
        go_wp2_with fail
        go_ret
        exact HP.out
theorem rNam_all {z : Nat} (t : Tm) : RNam z t := by
  induction t using Tm.ind with
  | h t ih => exact rNam_step t ih
end Go.Proofs.YtdikeicnefgjcaaDoor
