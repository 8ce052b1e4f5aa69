/- The library's IndexAny, of texts whose runes are all let in. -/
import Derived.Test.YtecdfnpbcabdnaaGreatDoorLxJ
import Derived.Test.YtecdfnpbcabdnaaGreatDoorMoM
namespace Go.Proofs.YtecdfnpbcabdnaaGreatDoor
open Go.RowKit Go.Lib

theorem get_ascii {l : List UInt8} (hch : ∀ b ∈ l, b.toNat < 128) (j : Nat) : ((ofL l).get! j).toNat < 128 := by
  rw [gd]
  show (l[j]?.getD 0).toNat < 128
  cases h : l[j]? with
  | none => decide
  | some b => exact hch b (List.mem_of_getElem? h)
theorem index_pos (l : List UInt8) (b : UInt8) : decide (0 ≤ indexByte l b) = l.contains b := (contains_iff_indexByte l b).symm
/-- Is the rune one of them? -/
theorem indexRune_any (l : List UInt8) (hch : ∀ b ∈ l, b.toNat < 128) (r : Nat) (w : World) :
    Calls Tryz.prog 154 #[.string (ofL l), .int .i32 (r : Int)] w fun e w' => (∃ z : Int, e = .returned (.int .i64 z) ∧ decide (0 ≤ z) = !(nin l r)) ∧ Below w.heap.size w w' := by
  by_cases h0 : r < 128
  · refine (Go.Proofs.Tryz.strings_IndexRune_ascii (ofL l) (r : Int) w (by omega) (by omega)).mono ?_
    rintro e w' ⟨rfl, rfl⟩
    refine ⟨⟨_, rfl, ?_⟩, Below.refl _ _⟩
    show decide (0 ≤ indexByte l _) = _
    rw [index_pos]
    have e1 : ((r : Int).toNat.toUInt8).toNat = r := by simp; omega
    have := nin_byte l ((r : Int).toNat.toUInt8)
    rw [e1] at this
    rw [this]
    simp
  · have hn : nin l r = true := nin_high hch (by omega)
    have fin : ∀ e w', e = Ending.returned (.int .i64 (-1)) ∧ Below w.heap.size w w' → (∃ z : Int, e = .returned (.int .i64 z) ∧ decide (0 ≤ z) = !(nin l r)) ∧ Below w.heap.size w w' := by
      rintro e w' ⟨rfl, hb⟩
      exact ⟨⟨_, rfl, by rw [hn]; rfl⟩, hb⟩
    by_cases h1 : (r : Int) = 65533
    · rw [h1]
      exact (indexRune_err (ofL l) (get_ascii hch) w).mono fin
    · cases h2 : Lib.validRune (r : Int) with
      | false => exact (indexRune_bad (ofL l) r (by omega) h1 h2 w).mono fin
      | true => exact (indexRune_ok (ofL l) (get_ascii hch) r (by omega) h1 h2 w).mono fin
/-- What is answered: where the first of them stands. -/
def anyI (s : ByteArray) (l : List UInt8) (i : Nat) : Int := if rn s (nin l) i < s.size then ((rn s (nin l) i - i : Nat) : Int) else -1
set_option maxHeartbeats 2000000 in
theorem indexAny_short (s : ByteArray) (l : List UInt8) (hch : ∀ b ∈ l, b.toNat < 128) (h2 : 2 ≤ l.length) (i : Nat) (hi : i ≤ s.size) (h8 : s.size - i ≤ 8) (w : World) :
    Calls Tryz.prog 142 #[.string (s.extract i s.size), .string (ofL l)] w fun e w' => e = .returned (.int .i64 (anyI s l i)) ∧ Below w.heap.size w w' := by
  obtain ⟨z, hr⟩ : ∃ z : Int, Hid (z = anyI s l i) := ⟨_, rfl⟩
  rw [← hr.out]
  have htz : (s.extract i s.size).size = s.size - i := size_tail s i
  have htd : ∀ pos, Utf8.decode (s.extract i s.size) pos = Utf8.decode s (i + pos) := decode_rest s i
  obtain ⟨t, ht⟩ : ∃ t, t = s.extract i s.size := ⟨_, rfl⟩
  rw [← ht] at htz htd ⊢
  have R := fun r wx => indexRune_any l hch r wx
  have HRn := hid2 R
  have A := fun wx => Go.Proofs.Tryz.strings_shouldUseASCIISet (t.size : Int) wx
  have ha : decide ((8 : Int) < (t.size : Int)) = false := decide_eq_false (by omega)
  rw [ha] at A
  have cz : (ofL l).size = l.length := by simp [ByteArray.size]
  have HNE : ((ofL l).toList == ([] : List UInt8)) = false := by
    rw [Lib.toList_data]
    cases l with
    | nil => simp at h2
    | cons _ _ => rfl
  generalize hc : ofL l = c at *
  have q1 : ((c.size : Int) == 1) = false := beq_eq_false_iff_ne.2 (by omega)
  have q0 : ((c.size : Int) == 0) = false := beq_eq_false_iff_ne.2 (by omega)
  have HZ := hid2 htz
  have HTD := hid2 htd
  clear hch ha R htz htd cz hc ht
  go_enter Tryz.func142, Tryz.ntmps142
  go_wp2_with fail
  refine (A _).mono ?_
  rintro e w1 ⟨rfl, rfl⟩
  go_wp2_with fail
  go_loopw [] (fun wr => ∃ pos : Nat, wr.heap[w1.heap.size]? = some (.stringIter t pos) ∧ Below w1.heap.size w1 wr ∧ Hid (rn s (nin l) (i + pos) = rn s (nin l) i)) (fun wr => t.size - wr.iterPos w1.heap.size)
  case atStart => exact ⟨0, World.iter_heap w1 t 0, (Below.refl _ _).alloc (Nat.le_refl _) _, rfl⟩
  case round =>
    obtain ⟨pos, hit, hbw, HS⟩ := hrel
    have hpos0 := iterPos_of hit
    have hz := HZ.out
    by_cases hp : pos < t.size
    · have hnx : ∀ ty, (Instr.next (.pointer (some ⟨w1.heap.size, 0, none⟩)) true ty).run Tryz.prog wr = _ := fun ty => Lib.run_next_any_at wr w1.heap.size t pos ty hit hp
      have hwd := width_pos s (i + pos)
      have hit2 := Lib.iterAt_heap wr w1.heap.size t pos (pos + (Utf8.decode t pos).2) hit
      have hbw2 := Lib.below_iterAt hbw (k := w1.heap.size) (Nat.le_refl _) t (pos + (Utf8.decode t pos).2)
      obtain ⟨W1, hW1⟩ : ∃ W1, W1 = wr.iterAt w1.heap.size t (pos + (Utf8.decode t pos).2) := ⟨_, rfl⟩
      rw [← hW1] at hnx hit2 hbw2
      have hin : i + pos < s.size := by omega
      have hy := fun hb => rn_yes (s := s) (p := nin l) hin hb
      have hn := fun hb => rn_no (s := s) (p := nin l) hin hb
      rw [HTD.out] at hnx hit2
      generalize Utf8.decode s (i + pos) = d at *
      obtain ⟨r, k⟩ := d
      simp only [] at *
      have HY : Hid (nin l r = true → rn s (nin l) (i + (pos + k)) = rn s (nin l) i) := fun hb => by
        rw [← HS.out, hy hb, Nat.add_assoc]
      have HN : Hid (nin l r = false → z = (pos : Int)) := fun hb => by
        rw [hr.out]
        unfold anyI
        rw [← HS.out, hn hb, if_pos hin]
        omega
      have HIT := hid2 hit2
      have HBW := hid2 hbw2
      have I := HRn.out r W1
      have hb0 := hbw2.size
      have HWD := hid2 hwd
      have HP0 := hid2 hpos0
      clear hW1 hit hbw HS hit2 hbw2 hz hy hn hwd hpos0
      go_wp2_with fail
      refine I.mono ?_
      rintro e w2 ⟨⟨zz, rfl, hzz⟩, hb⟩
      cases hb1 : nin l r with
      | true =>
        rw [hb1] at hzz
        have h5 : ¬ (0 : Int) ≤ zz := by simpa using hzz
        have h6 := HY.out hb1
        clear hzz hb1 HY HN
        go_wp2_with fail
        go_roundw
        case rel => exact ⟨_, iter_next HIT.out hb, below_on HBW.out hb hb0, h6⟩
        case measure => rw [iterPos_of (iter_next HIT.out hb), HP0.out]; have := HWD.out; omega
      | false =>
        rw [hb1] at hzz
        have h5 : (0 : Int) ≤ zz := by simpa using hzz
        have h6 := HN.out hb1
        clear hzz hb1 HY HN
        go_wp2_with fail
        go_ret
        exact ⟨by rw [h6]; rfl, below_on HBW.out hb hb0⟩
    · have hnx : ∀ ty, (Instr.next (.pointer (some ⟨w1.heap.size, 0, none⟩)) true ty).run Tryz.prog wr = _ := fun ty => Lib.run_next_end_at wr w1.heap.size t pos ty hit hp
      have HE : Hid (z = -1) := by
        show z = -1
        rw [hr.out]
        unfold anyI
        rw [← HS.out, rn_end (by omega), if_neg (by omega)]
      clear HS hit hz
      go_wp2_with fail
      go_ret
      exact ⟨by rw [HE.out]; rfl, hbw⟩
theorem indexAny_c (s : ByteArray) (l : List UInt8) (hch : ∀ b ∈ l, b.toNat < 128) (h2 : 2 ≤ l.length) (h4 : l.length ≤ 4) (i : Nat) (hi : i ≤ s.size) (hv : Vd s i) (hz : s.size ≤ 1048576) (w : World) :
    Calls Tryz.prog 142 #[.string (s.extract i s.size), .string (ofL l)] w fun e w' => e = .returned (.int .i64 (anyI s l i)) ∧ Below w.heap.size w w' := by
  by_cases h8 : s.size - i ≤ 8
  · exact indexAny_short s l hch h2 i hi h8 w
  · have htz : (s.extract i s.size).size = s.size - i := size_tail s i
    have cz : (ofL l).size = l.length := by simp [ByteArray.size]
    refine (Go.Proofs.Tryz.strings_IndexAny_long (zero_of_info info_set).1 (s.extract i s.size) (ofL l) w (by omega) (by omega) (by omega) (by omega) (fun j b hb => hch b (List.mem_of_getElem? hb))).mono ?_
    rintro e w' ⟨rfl, rfl⟩
    refine ⟨?_, ((Below.refl _ _).alloc (Nat.le_refl _) _).alloc (by simp) _⟩
    have := any_idx hch i hi hv
    show Ending.returned (.int .i64 (indexAny _ l)) = _
    rw [this]
    rfl
end Go.Proofs.YtecdfnpbcabdnaaGreatDoor
