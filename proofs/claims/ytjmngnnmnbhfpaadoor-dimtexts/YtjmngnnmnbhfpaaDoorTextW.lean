/- Text of package dim: the walk: what every dimension is told by. -/
import Derived.Test.YtjmngnnmnbhfpaaDoorTextP
import Derived.Test.YtjmngnnmnbhfpaaDoorGroup
import Derived.Test.YtjmngnnmnbhfpaaDoorShelfT
import Derived.Deep.OwnRows
import Derived.Maps.AppendAt
namespace Go.Proofs.YtjmngnnmnbhfpaaDoor
open Go.RowKit Go.Deep

/-- A text as a Go value. -/
abbrev strV (l : List UInt8) : Value := .string ⟨l.toArray⟩
/-- The table of the powers of ten lies where the library's text lays it. -/
def PowAt (w : World) : Prop := Lib.TabIs Tryd.prog w "internal/strconv.uint64pow10" .u64 Lib.pow10Tab
theorem gPow : Tryd.prog.globalNamed "internal/strconv.uint64pow10" = some 5 := by kernel_rfl
theorem PowAt.later {w w' : World} (h : PowAt w) (hb : Below w.heap.size w w') : PowAt w' := by
  unfold PowAt Lib.TabIs World.var? at *
  rw [gPow] at h ⊢
  simp only [Option.bind_some] at h ⊢
  have hlt : 5 < w.heap.size := by
    cases hh : w.heap[5]? with
    | none => rw [hh] at h; cases h
    | some o => exact (Array.getElem?_eq_some_iff.1 hh).1
  rw [hb.block 5 hlt]
  exact h
theorem grow_below (w : World) (k : Nat) (os : Array Obj) : Below w.heap.size w (Sort.grow (w.drewN k) os) :=
  ⟨rfl, rfl, rfl, by simp [Sort.grow], fun j hj => by simp [Sort.grow, Array.getElem?_append_left hj]⟩
/-- The base units' names lie where the program's text lays them. -/
def BasesAt (w : World) : Prop := (∀ k, k < 5 → w.cell? ⟨0, k, none⟩ = some (.string ⟨(baseN k).toArray⟩)) ∧ 0 < w.heap.size
theorem BasesAt.later {w w' : World} (h : BasesAt w) (hb : Below w.heap.size w w') : BasesAt w' :=
  ⟨fun k hk => (hb.cell (p := ⟨0, k, none⟩) h.2).trans (h.1 k hk), Nat.lt_of_lt_of_le h.2 hb.size⟩
theorem own_later {w w' : World} {B : Nat} {e : TypeId} {v : Value} {n : Nat} {xs : List Value} (h : w.ownsRow B e 1 v n xs) (hb : Below w.heap.size w w') : w'.ownsRow B e 1 v n xs := by
  obtain ⟨h1, h2⟩ := h
  refine ⟨h1, ?_⟩
  rcases h2 with h2 | ⟨g, cap, cur, rfl, h3, h4, h5, h6, h7, h8⟩
  · exact .inl h2
  · exact .inr ⟨g, cap, cur, rfl, h3, (hb.block g (Array.getElem?_eq_some_iff.1 h4).1).trans h4, h5, h6, h7, h8⟩
theorem add_str (x y : List UInt8) (hx : x.length ≤ 1000) (hy : y.length ≤ 1000) (w : World) : (Op.stringOp .add ⟨x.toArray⟩ ⟨y.toArray⟩).run Tryd.prog w = .ok (strV (x ++ y)) w := by
  have h := run_string_add_sum (P := Tryd.prog) w ⟨x.toArray⟩ ⟨y.toArray⟩ (by
    have e1 : (ByteArray.mk x.toArray).size = x.length := by simp [ByteArray.size]
    have e2 : (ByteArray.mk y.toArray).size = y.length := by simp [ByteArray.size]
    omega)
  rw [h]
  congr 2
theorem power_any (nm : List UInt8) (n : Int) (h4 : nm.length ≤ 4) (n0 : -9223372036854775808 ≤ n) (n1 : n ≤ 9223372036854775807) (w : World) (hP : PowAt w) :
    Calls Tryd.prog 25 #[strV nm, .int .i64 n] w fun e w' => e = .returned (strV (itemS nm n)) ∧ Below w.heap.size w w' := by
  by_cases h : n = 1
  · have e : itemS nm n = nm := if_pos h
    rw [e]
    subst h
    go_enter Tryd.func25, Tryd.ntmps25
    go_wp2_with fail
    go_ret
    exact ⟨rfl, Below.refl _ _⟩
  · have e : itemS nm n = nm ++ 94 :: Lib.itoa n := if_neg h
    rw [e]
    have hi := Lib.itoa_length_le n n0 n1
    have s1 := fun wx => add_str nm [94] (by omega) (by simp) wx
    have s2 := fun wx => add_str (nm ++ [94]) (Lib.itoa n) (by simp; omega) (by omega) wx
    have ha := Go.Proofs.Tryd.strconv_Itoa n n0 n1 w hP
    have k1 : (n == 1) = false := beq_eq_false_iff_ne.2 h
    have eq : nm ++ [94] ++ Lib.itoa n = nm ++ 94 :: Lib.itoa n := by simp
    rw [eq] at s2
    clear e h eq
    generalize Lib.itoa n = ds at *
    generalize nm ++ 94 :: ds = all at *
    generalize nm ++ [94] = pre at *
    go_enter Tryd.func25, Tryd.ntmps25
    go_wp2_with fail
    refine ha.mono ?_
    rintro e w1 ⟨rfl, kk, os, hw⟩
    have hb1 : Below w.heap.size w w1 := by rw [hw]; exact grow_below w kk os
    clear hw
    go_wp2_with fail
    go_ret
    exact ⟨rfl, hb1⟩

theorem info_str : (Tryd.prog.info? 9).map (fun i => (i.zero, i.size, i.bytes)) = some (some (.string ⟨#[]⟩), 1, 16) := by kernel_rfl
theorem idx_dim (x : D5) (k : Nat) (h : k < 5) (w : World) : (Instr.index 24 (dimV x) (.int .i64 k)).run Tryd.prog w = .ok (.int .i64 (x.ex k)) w := by
  rcases (show k = 0 ∨ k = 1 ∨ k = 2 ∨ k = 3 ∨ k = 4 by omega) with rfl | rfl | rfl | rfl | rfl
  all_goals kernel_rfl
theorem own_str {w : World} {B : Nat} {v : Value} {ds : List (List UInt8)} {d : List UInt8} (h : w.ownsRow B 9 1 v (ds.length + 1) (ds.map strV ++ [strV d])) : w.ownsRow B 9 1 v (ds ++ [d]).length ((ds ++ [d]).map strV) := by
  simpa using h
theorem below_str {B : Nat} {W wr w' : World} {v : Value} {n : Nat} {xs : List Value} (hbl : Below B W wr) (hs : B ≤ wr.heap.size) (o : Obj) (hown : wr.ownsRow B 9 1 v n xs) (hg : (wr.alloc o).grownBy w' v.ownBlock) : Below B W w' :=
  (hbl.alloc hs o).grown hg (by simp; omega) (fun k hk => (hown.lt k hk).1)

set_option maxHeartbeats 4000000 in
theorem Text_some (x : D5) (fx : x.Fits) (hne : x ≠ dim0) (w : World) (hP : PowAt w) (hB : BasesAt w) :
    Calls Tryd.prog 12 #[dimV x] w fun e w' => e = .returned (strV (Lib.join (items x 5) [42])) ∧ Below w.heap.size w w' := by
  obtain ⟨i0, hi, hz0, hz1, hz2⟩ := info_parts info_str
  have hq := fun wx => eqDim x dim0 wx
  have hf : eqD x dim0 = false := by
    cases h : eqD x dim0 with
    | false => rfl
    | true =>
      exfalso
      apply hne
      unfold eqD at h
      simp only [Bool.and_eq_true, beq_iff_eq] at h
      cases x
      obtain ⟨⟨⟨⟨h1, h2⟩, h3⟩, h4⟩, h5⟩ := h
      simp only [dim0] at *
      subst h1; subst h2; subst h3; subst h4; subst h5
      rfl
  rw [hf] at hq
  simp only [dimV, dim0] at hq
  obtain ⟨xb, l0⟩ := one_box w 24 [.int .i64 x.a, .int .i64 x.b, .int .i64 x.c, .int .i64 x.d, .int .i64 x.e]
  have hP := hP.later l0
  have hB := hB.later l0
  have HNE : Hid _ := hne
  clear hf hne
  go_enter Tryd.func12, Tryd.ntmps12
  go_wp2_with fail
  go_loopw [3, 10] (fun p i wr => ∃ k : Nat, i = .int .i64 k ∧ k ≤ 5 ∧ wr.ownsRow (w.heap.size + 1) 9 1 p (items x k).length ((items x k).map strV) ∧ Below (w.heap.size + 1) (w.alloc (.cells #[.int .i64 x.a, .int .i64 x.b, .int .i64 x.c, .int .i64 x.d, .int .i64 x.e] 24)) wr) (fun _ i _ => 5 - (intOf i).toNat)
  case atStart => exact ⟨0, rfl, by decide, World.ownsRow_nil _ _ _ _, by simpa using Below.refl _ _⟩
  case round =>
    obtain ⟨k, rfl, hk, hown, hbl⟩ := hrel
    have hbl' : Below (w.alloc (.cells #[.int .i64 x.a, .int .i64 x.b, .int .i64 x.c, .int .i64 x.d, .int .i64 x.e] 24)).heap.size (w.alloc (.cells #[.int .i64 x.a, .int .i64 x.b, .int .i64 x.c, .int .i64 x.d, .int .i64 x.e] 24)) wr := by simpa using hbl
    have hP := hP.later hbl'
    have hB := hB.later hbl'
    have hsz : w.heap.size + 1 ≤ wr.heap.size := by have := hbl.size; simpa using this
    by_cases hlt : k < 5
    · have hix := idx_dim x k hlt
      have hz := items_zero x k
      have ho := items_one x k
      have be := fx.ex k
      have bb := baseN_len k
      have ib := (items_bd x fx k).1
      have hcell := hB.1 k hlt
      have k1 : (k : Int) < 5 := by omega
      simp only [dimV] at hix
      have hpow := fun wx h => power_any (baseN k) (x.ex k) bb.2 be.1 be.2 wx h
      generalize itemS (baseN k) (x.ex k) = it at *
      generalize x.ex k = n at *
      generalize baseN k = nm at *
      by_cases h0 : n = 0
      · have e1 := hz h0
        subst h0
        rw [← e1] at hown
        have HO : Hid _ := hown
        clear e1 hz ho hown
        go_wp2_with fail
        go_roundw
        case rel => exact ⟨k + 1, by go_num, by omega, HO.out, hbl⟩
        case measure => simp [intOf]; omega
      · have e1 := ho h0
        have h0' : (n != 0) = true := bne_iff_ne.2 h0
        have E1 : Hid _ := e1
        clear e1 hz ho
        go_wp2_with (first
          | (go_at_call 25; refine (hpow _ hP).mono ?_; rintro e w1 ⟨rfl, hb1⟩; have hown := own_later hown hb1; have hbl := hbl.trans (hb1.mono hsz); have hsz : w.heap.size + 1 ≤ w1.heap.size := Nat.le_trans hsz hb1.size; clear hb1)
          | (at_builtin; refine wpList_append_own _ rfl _ _ 57 rfl (w.heap.size + 1) 9 i0 (.string ⟨#[]⟩) 1 16 Tryd.underlying57 hi hz0 hz1 hz2 rfl (by decide) _ _ _ rfl (hown.alloc _) ⟨w1.heap.size, 0, none⟩ 1 1 [strV it] rfl rfl ?c1 ?c2 ?c3 ?c4 ?c5 ?_))
        case c1 => exact cell_one_new _ _ _
        case c2 => intro u hu; simp at hu; subst hu; rfl
        case c3 => unfold maxLen; omega
        case c4 => omega
        case c5 => simp; omega
        intro v' w2 hown' hgrow _
        have hown2 := own_str hown'
        have hbl2 := below_str hbl hsz _ hown hgrow
        rw [← E1.out] at hown2
        clear hown' hgrow
        go_wp2_with fail
        go_roundw
        case rel => exact ⟨k + 1, by go_num, by omega, hown2, hbl2⟩
        case measure => simp [intOf]; omega
    · obtain rfl : k = 5 := by omega
      have hit : items x 5 ≠ [] := fun h => HNE.out (items_none x h)
      have hbd := items_bd x fx 5
      have hjl := join_len (items x 5) (fun y hy => (hbd.2 y hy).2) hbd.1
      have hlen0 : (items x 5).length ≠ 0 := fun h => hit (List.length_eq_zero_iff.1 h)
      generalize hI : items x 5 = its at *
      have HI : Hid _ := hI
      clear hI
      obtain ⟨h1, h2⟩ := hown
      rcases h2 with ⟨_, h2⟩ | ⟨g, cap, cur, rfl, h3, h4, h5, h6, h7, h8⟩
      · exact absurd h2 hlen0
      have hjoin := fun wx hc hb => Go.Proofs.Tryd.strings_Join g 0 cap (its.map fun l => (⟨l.toArray⟩ : ByteArray)) ⟨#[42]⟩ wx hc hb (by rw [List.length_map]; omega) (by rw [List.length_map]; exact h5) (by simpa [Function.comp_def] using (show (Lib.join its [42]).length ≤ 140737488355328 by omega))
      have hcells : ∀ (j : Nat) (y : ByteArray), (its.map fun l => (⟨l.toArray⟩ : ByteArray))[j]? = some y → wr.cell? ⟨g, 0 + j, none⟩ = some (.string y) := by
        intro j y hy
        have hj : (cur.toList.take (its.length * 1))[j]? = some (.string y) := by
          rw [h8, List.getElem?_map]
          rw [List.getElem?_map] at hy
          cases hh : its[j]? with
          | none => rw [hh] at hy; cases hy
          | some l => rw [hh] at hy; cases hy; rfl
        have hlt' : j < its.length := by
          have := (List.getElem?_eq_some_iff.1 hy).1
          simpa using this
        rw [List.getElem?_take, if_pos (by omega)] at hj
        unfold World.cell?
        simp [h4]
        simpa using hj
      have hg : g < wr.heap.size := (Array.getElem?_eq_some_iff.1 h4).1
      have hJ := hjoin wr hcells hg
      rw [List.length_map] at hJ
      have ej : Lib.join (List.map (fun x => x.data.toList) (its.map fun l => (⟨l.toArray⟩ : ByteArray))) (ByteArray.mk #[42]).data.toList = Lib.join its [42] := by simp [Function.comp_def]
      rw [ej] at hJ
      clear hjoin hcells h8 h1 h4 h7 hP hB hbl' ej hit
      go_wp2_with fail
      refine hJ.mono ?_
      rintro e w3 ⟨rfl, hb3⟩
      go_wp2_with fail
      go_ret
      exact ⟨by rw [HI.out]; rfl, (l0.trans (hbl.mono (by simp))).trans (hb3.mono (by omega))⟩
theorem Text_any (x : D5) (fx : x.Fits) (w : World) (hP : PowAt w) (hB : BasesAt w) :
    Calls Tryd.prog 12 #[dimV x] w fun e w' => e = .returned (strV (textS x)) ∧ Below w.heap.size w w' := by
  by_cases h : x = dim0
  · rw [h, text_zero]
    exact (Text_zero w).mono fun _ _ h => h
  · rw [show textS x = Lib.join (items x 5) [42] from if_neg fun k => h (items_none x k)]
    exact Text_some x fx h w hP hB
end Go.Proofs.YtjmngnnmnbhfpaaDoor
