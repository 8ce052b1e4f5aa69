/- The document's list in rising order. -/
import Derived.Test.YtgljcaebgcmahaaRkT
namespace Go.Proofs.Ytgljcaebgcmahaa
open Go.RowKit

/-- While the numbers above x move up by one: those from the place k on have moved. -/
structure Shift (w : World) (x : Int) (O J : List Int) (g k : Nat) (y : Int) : Prop where
  le : k ≤ O.length
  up : cnt x O ≤ k
  blk : Blk w g ((O.take k ++ y :: O.drop k) ++ J)
theorem shift_start {w : World} {x : Int} {O J : List Int} {g : Nat} (h : Blk w g ((O ++ [x]) ++ J)) : Shift w x O J g O.length x := ⟨Nat.le_refl _, cnt_le x O, by simpa using h⟩
theorem Shift.below {w : World} {x y z : Int} {O J : List Int} {g k : Nat} (h : Shift w x O J g (k + 1) y) (hz : O[k]? = some z) : w.cell? ⟨g, k, none⟩ = some (.int .i64 z) := by
  have hk : k < O.length := (List.getElem?_eq_some_iff.1 hz).1
  refine box_cell h.blk.box ?_
  rw [List.append_assoc, List.getElem?_append_left (by simp; omega), List.getElem?_take_of_lt (by omega), hz]
theorem Shift.here {w : World} {x y : Int} {O J : List Int} {g k : Nat} (h : Shift w x O J g k y) : w.cell? ⟨g, k, none⟩ = some (.int .i64 y) ∧ w.frozen? ⟨g, k, none⟩ = false := by
  have hl := h.le
  have h1 : (O.take k).length = k := by simp; omega
  refine ⟨box_cell h.blk.box ?_, box_free h.blk.box (by simp; omega)⟩
  rw [List.append_assoc, List.getElem?_append_right (by omega), h1]
  simp
theorem Shift.put {w : World} {x y : Int} {O J : List Int} {g k : Nat} (h : Shift w x O J g k y) (z : Int) : Blk (w.setCell ⟨g, k, none⟩ (.int .i64 z)) g ((O.take k ++ z :: O.drop k) ++ J) := by
  have hl := h.le
  have h1 : (O.take k).length = k := by simp; omega
  have := h.blk.put k z
  rwa [List.append_assoc, List.set_append_right _ _ (by omega), h1, Nat.sub_self, List.cons_append, List.set_cons_zero, ← List.cons_append, ← List.append_assoc] at this
theorem Shift.step {w : World} {x y z : Int} {O J : List Int} {g k : Nat} (ha : Asc O) (h : Shift w x O J g (k + 1) y) (hz : O[k]? = some z) (hx : x < z) : Shift (w.setCell ⟨g, k + 1, none⟩ (.int .i64 z)) x O J g k z := by
  have hk : k < O.length := (List.getElem?_eq_some_iff.1 hz).1
  refine ⟨by omega, ?_, ?_⟩
  · have := asc_cnt ha x k z hz
    omega
  · have hp := h.put z
    have hd : O.drop k = z :: O.drop (k + 1) := by
      rw [List.drop_eq_getElem_cons hk]
      have := List.getElem?_eq_getElem hk
      rw [hz] at this
      rw [← Option.some.inj this]
    rw [List.take_add_one, hz] at hp
    rw [hd]
    simpa using hp
theorem Shift.stop {w : World} {x y : Int} {O J : List Int} {g k : Nat} (ha : Asc O) (h : Shift w x O J g k y) (hs : k = 0 ∨ ∃ z, O[k - 1]? = some z ∧ z ≤ x) : Blk (w.setCell ⟨g, k, none⟩ (.int .i64 x)) g (ins x O ++ J) := by
  have hp := h.put x
  have hk : k = cnt x O := by
    have := h.up
    rcases hs with e | ⟨z, hz, hzx⟩
    · omega
    · have := (asc_cnt ha x _ z hz).1 hzx
      omega
  unfold ins
  rw [← hk]
  exact hp
/-- What the list is behind a round. -/
def Sorts (B : Nat) (w : World) (lv : Value) (S : List Int) : Prop := (lv = .slice none 0 0 ∧ S = []) ∨ ∃ g J, B ≤ g ∧ BAt w g lv S J
theorem Sorts.pick {B : Nat} {w : World} {lv : Value} {S : List Int} (h : Sorts B w lv S) (hB : B ≤ w.heap.size) : ∃ g, B ≤ g ∧ ((lv = .slice none 0 0 ∧ S = []) ∨ ∃ J, BAt w g lv S J) := by
  rcases h with h | ⟨g, J, hg, h⟩
  · exact ⟨w.heap.size, hB, .inl h⟩
  · exact ⟨g, hg, .inr ⟨J, h⟩⟩
theorem Sorts.shape {B : Nat} {w : World} {lv : Value} {S : List Int} (h : Sorts B w lv S) : ∃ a c, lv = .slice a S.length c := by
  rcases h with ⟨rfl, rfl⟩ | ⟨g, J, _, h⟩
  · exact ⟨none, 0, rfl⟩
  · exact ⟨_, _, h.val⟩
theorem Sorts.rd {B : Nat} {w : World} {lv : Value} {S : List Int} (h : Sorts B w lv S) : Rd w lv S := by
  rcases h with ⟨rfl, rfl⟩ | ⟨g, J, _, h⟩
  · exact ⟨none, 0, rfl, .inl rfl⟩
  · exact h.rd
theorem Sorts.next {B : Nat} {w w' : World} {lv : Value} {S : List Int} (h : Sorts B w lv S) (t : Below w.heap.size w w') : Sorts B w' lv S := by
  rcases h with h | ⟨g, J, hg, h⟩
  · exact .inl h
  · exact .inr ⟨g, J, hg, h.next t⟩
theorem sorts_grown {w w1 wa w2 : World} {g : Nat} {lv lv2 : Value} {S A : List Int} (hg : w.heap.size ≤ g) (hB : Below w.heap.size w w1) (hwa : Below w1.heap.size w1 wa) (h3 : Apd wa g lv lv2 (S ++ A) w2) (hA : S ++ A ≠ []) :
    ∃ g' J, w.heap.size ≤ g' ∧ BAt w2 g' lv2 (S ++ A) J ∧ Below w.heap.size w w2 := by
  have sz := hB.size
  have sa := hwa.size
  rcases h3 with ⟨_, e, _⟩ | ⟨J', h4, h5, _⟩ | ⟨g', J', h4, h5, h6⟩
  · exact absurd e hA
  · exact ⟨g, J', hg, h4, hB.trans ((hwa.mono sz).trans (h5.below (by simpa using hg) (by omega)))⟩
  · exact ⟨g', J', by omega, h4, hB.trans ((hwa.mono sz).trans (h5.mono (by omega)))⟩
theorem cell_arg_one (w : World) (v : Int) : Rd (w.alloc (.cells #[.int .i64 v] 2)) (.slice (some ⟨w.heap.size, 0, none⟩) 1 1) [v] := by
  refine ⟨_, 1, rfl, .inr ⟨w.heap.size, 0, rfl, by simp, fun i x hx => ?_⟩⟩
  have hi : i < 1 := (List.getElem?_eq_some_iff.1 hx).1
  obtain rfl : i = 0 := by omega
  simp at hx
  subst hx
  exact (Box.new w [.int .i64 v] 2).cell 0 _ rfl
theorem Shift.drewN {w : World} {x y : Int} {O J : List Int} {g k : Nat} (h : Shift w x O J g k y) (m : Nat) : Shift (w.drewN m) x O J g k y := ⟨h.le, h.up, h.blk.alike rfl⟩
theorem fList_end {w wr w2 : World} {L O J : List Int} {x y : Int} {g j k q n : Nat} (hO : O = srt (L.take k)) (hOl : O.length = k) (hx : L[k]? = some x) (hA : BAt w2 g (.slice (some ⟨g, 0, none⟩) (k + 1) q) (O ++ [x]) J) (hg : w.heap.size ≤ g) (h : Shift wr x O J g j y) (hs : j = 0 ∨ ∃ z, O[j - 1]? = some z ∧ z ≤ x) (hB : Below w.heap.size w wr) (hk : k < n) (m : Nat) :
    (∃ k1 : Nat, Value.int .i64 ((k : Int) + 1) = .int .i64 (k1 : Nat) ∧ k1 ≤ n ∧ Sorts w.heap.size ((wr.drewN m).setCell ⟨g, j, none⟩ (.int .i64 x)) (.slice (some ⟨g, 0, none⟩) (k + 1) q) (srt (L.take k1)) ∧ Below w.heap.size w ((wr.drewN m).setCell ⟨g, j, none⟩ (.int .i64 x))) ∧ n - (intOf (Value.int .i64 ((k : Int) + 1))).toNat < n - (intOf (Value.int .i64 (k : Nat))).toNat := by
  have ha : Asc O := by rw [hO]; exact srt_asc _
  have hb := (h.drewN m).stop ha hs
  have hm := hA.most
  have hval := hA.val
  simp only [Value.slice.injEq] at hval
  simp only [List.length_append, List.length_cons, List.length_nil] at hm hval
  refine ⟨⟨k + 1, by simp, by omega, ?_, (hB.trans ((drewN_turn [] wr m).below (by simp) hB.size)).setCell hg _⟩, by simp [intOf]; omega⟩
  rw [srt_step hx, ← hO]
  refine .inr ⟨g, J, hg, ?_, hb, by rw [ins_length]; omega⟩
  rw [ins_length, hOl]
  congr 1
  omega
set_option maxRecDepth 20000 in
set_option maxHeartbeats 2000000 in
theorem fList (v : Value) (L : List Int) (w : World) (hv : Rd w v L) (hl : L.length < 17592186044416) :
    Calls Try.prog 18 #[v] w fun e w' => ∃ lv, e = .returned lv ∧ Sorts w.heap.size w' lv (srt L) ∧ Below w.heap.size w w' := by
  obtain ⟨a, c, rfl, hv⟩ := hv
  have HV := hid hv
  obtain ⟨n, hn⟩ : ∃ n, n = L.length := ⟨_, rfl⟩
  rw [← hn] at hl ⊢
  have HN := hid hn
  clear hv hn
  go_enter Try.func18, Try.ntmps18
  go_wp2_with fail
  go_loopw [3, 4] (fun p q wr => ∃ k : Nat, q = .int .i64 (k : Nat) ∧ k ≤ n ∧ Sorts w.heap.size wr p (srt (L.take k)) ∧ Below w.heap.size w wr) (fun _ q _ => n - (intOf q).toNat)
  case atStart => exact ⟨0, rfl, by omega, .inl ⟨rfl, rfl⟩, Below.refl _ _⟩
  case round =>
    obtain ⟨k, rfl, hk, hS, hB⟩ := hrel
    obtain ⟨ao, co, rfl⟩ := hS.shape
    obtain ⟨O, hO⟩ : ∃ O, O = srt (L.take k) := ⟨_, rfl⟩
    rw [← hO] at hS ⊢
    have hOl : O.length = k := by rw [hO, srt_length]; have := HN.out; simp; omega
    have ha : Asc O := by rw [hO]; exact srt_asc _
    rw [hOl] at hS ⊢
    have HO := hid hO
    have HS := hid hS
    have HB := hid hB
    have HOL := hid hOl
    have HA := hid ha
    clear hO hS hB hOl ha
    by_cases hlt : k < n
    · have hkA : k < L.length := by have := HN.out; omega
      obtain ⟨x, hx⟩ : ∃ x, L[k]? = some x := ⟨_, List.getElem?_eq_getElem hkA⟩
      rcases HV.out with e | ⟨ga, off, rfl, hga, hcell⟩
      · rw [e] at hkA; simp at hkA
      have e0 := hcell k x hx
      have c0 := (HB.out.cell (p := ⟨ga, off + k, none⟩) hga).trans e0
      have hlt' : (k : Int) < (n : Int) := by omega
      have HX := hid hx
      obtain ⟨gs, hgs, hso⟩ := HS.out.pick HB.out.size
      have HSO := hid hso
      have hzs := HB.out.size
      clear hx hcell hkA hso
      go_wp2_with (at_builtin; refine wpList_append_b _ rfl _ _ rfl gs (.slice ao k co) O rfl (HSO.out.imp_right (fun h => h.elim fun J h => ⟨J, h.next ((Below.refl _ _).alloc (Nat.le_refl _) _)⟩)) (.slice (some ⟨wr.heap.size, 0, none⟩) 1 1) [x] rfl (cell_arg_one wr x) (by rw [HOL.out]; simp; omega) ?_; intro lv2 w2 h2; obtain ⟨g2, J, hg2, hA2, hB2⟩ := sorts_grown hgs HB.out ((Below.refl _ _).alloc (Nat.le_refl _) _) h2 (by simp); have hv2 := hA2.val; simp only [List.length_append, HOL.out, List.length_cons, List.length_nil, Nat.zero_add] at hv2; subst hv2; have HA2 := hid hA2; have HB2 := hid hB2; clear h2 hA2 hB2)
      obtain ⟨q, hq⟩ : ∃ q, q = k + 1 + J.length := ⟨_, rfl⟩
      rw [← hq] at HA2
      rw [← hq]
      have hkq : k + 1 ≤ q := by omega
      have HQ := hid hq
      clear hq c0
      go_loopw [5] (fun p wr => ∃ (j : Nat) (y : Int), p = .int .i64 (j : Nat) ∧ Shift wr x O J g2 j y ∧ Below w.heap.size w wr) (fun p _ => (intOf p).toNat)
      case atStart => exact ⟨k, x, rfl, by have := shift_start HA2.out.blk; rwa [HOL.out] at this, HB2.out⟩
      case round =>
        obtain ⟨j, y, rfl, hsh, hb3⟩ := hrel
        have hjk : j ≤ k := by have := hsh.le; rwa [HOL.out] at this
        have hblt := hsh.blk.lt
        obtain ⟨d0, f0⟩ := hsh.here
        have c0 := (hb3.cell (p := ⟨ga, off + k, none⟩) hga).trans e0
        have hng : ¬ ga = g2 := by omega
        have HSH := hid hsh
        have HB3 := hid hb3
        clear hsh hb3
        have hjk' : (j : Int) < ((k + 1 : Nat) : Int) := by omega
        rcases Nat.eq_zero_or_pos j with h0 | h0
        · subst h0
          go_wp2_with fail
          go_quiet (fail)
          go_wp2_with fail
          exact fList_end HO.out HOL.out HX.out HA2.out hg2 HSH.out (.inl rfl) HB3.out hlt _
        · obtain ⟨m, rfl⟩ : ∃ m, j = m + 1 := ⟨j - 1, by omega⟩
          obtain ⟨z, hz⟩ : ∃ z, O[m]? = some z := ⟨_, List.getElem?_eq_getElem (by have := HOL.out; omega)⟩
          have z0 := HSH.out.below hz
          have hmk : (m : Int) < ((k + 1 : Nat) : Int) := by omega
          have hm0 : (0 : Int) < ((m + 1 : Nat) : Int) := by omega
          have HZ := hid hz
          clear hz
          by_cases hxz : x < z
          · go_wp2_with fail
            go_quiet (fail)
            go_wp2_with fail
            exact ⟨⟨m, z, rfl, (HSH.out.drewN _).step HA.out HZ.out hxz, (HB3.out.trans ((drewN_turn [] wr _).below (by simp) HB3.out.size)).setCell hg2 _⟩, by simp [intOf]⟩
          · go_wp2_with fail
            go_quiet (fail)
            go_wp2_with fail
            exact fList_end HO.out HOL.out HX.out HA2.out hg2 HSH.out (.inr ⟨z, HZ.out, by omega⟩) HB3.out hlt _
    · obtain rfl : k = n := by omega
      go_wp2_with fail
      go_ret
      have hO := HO.out
      rw [List.take_of_length_le (by have := HN.out; omega)] at hO
      rw [← hO]
      exact ⟨_, rfl, HS.out, HB.out⟩
end Go.Proofs.Ytgljcaebgcmahaa
