/- The library's FormatUint and FormatInt at base 10, and its Cut at one byte. -/
import Derived.Test.YtlkmpfpepkkeeaaDoorShelfF
import Derived.Test.YtlkmpfpepkkeeaaDoorShelfI
import Derived.Test.YtlkmpfpepkkeeaaDoorNuA
import Derived.Lib.ItoaLen
import Derived.Lib.TrimByte
import Derived.Shelf.RegionOpenPlain
namespace Go.Proofs.YtlkmpfpepkkeeaaDoor
open Go.RowKit Go.Sort Go.Lib

/-- The table of the powers of ten lies where the library's text lays it. -/
def PowAt (w : World) : Prop := Lib.TabIs Tryd.prog w "internal/strconv.uint64pow10" .u64 Lib.pow10Tab
theorem gPow : Tryd.prog.globalNamed "internal/strconv.uint64pow10" = some 1 := by kernel_rfl
theorem PowAt.later {w w' : World} (h : PowAt w) (hb : Below w.heap.size w w') : PowAt w' := by
  unfold PowAt Lib.TabIs World.var? at *
  rw [gPow] at h ⊢
  simp only [Option.bind_some] at h ⊢
  have hlt : 1 < w.heap.size := by
    cases hh : w.heap[1]? with
    | none => rw [hh] at h; cases h
    | some o => exact (Array.getElem?_eq_some_iff.1 hh).1
  rw [hb.block _ hlt]
  exact h
theorem drewN_b (w : World) (n : Nat) : Below w.heap.size w (w.drewN n) := ⟨rfl, rfl, rfl, Nat.le_refl _, fun _ _ => rfl⟩
theorem grow_below (w : World) (k : Nat) (os : Array Obj) : Below w.heap.size w (Sort.grow (w.drewN k) os) :=
  ⟨rfl, rfl, rfl, by simp [Sort.grow], fun j hj => by simp [Sort.grow, Array.getElem?_append_left hj]⟩
abbrev enc8 : UInt8 → Value := fun b => Value.int .u8 (b.toNat : Int)
theorem holds0 (w : World) (T : TypeId) (nd : Nat) (hs : nd ≤ 24) : Holds enc8 (w.alloc (.cells Lib.zeros24 T)) w.heap.size 0 (Array.replicate nd (0 : UInt8)) := fun j hj => by
  have hj' : j < nd := by simpa using hj
  refine ⟨?_, World.frozen?_alloc_new _ _ _ _⟩
  rw [World.cell?_alloc_new, Lib.zeros24_at _ (by omega), getElem!_pos _ j hj]
  simp
theorem fin0 (w : World) (o : Obj) (dk : Array UInt8) (k : Nat) : Below w.heap.size w ((putRow enc8 (w.alloc o) w.heap.size 0 dk).drewN k) := by
  rw [alloc_eq_grow]
  obtain ⟨os', _, e⟩ := putRow_grow_new enc8 w #[o] w.heap.size 0 dk (Nat.le_refl _)
  rw [e]
  exact grow_below w k os'

set_option maxHeartbeats 4000000 in
set_option maxRecDepth 100000 in
theorem formatUint_in (u : Nat) (hu64 : u < 18446744073709551616) (w : World) (hP : PowAt w) :
    Calls Tryd.prog 38 #[.int .u64 u, .int .i64 10] w fun e w' => e = .returned (strV (decDigits u)) ∧ Below w.heap.size w w' := by
  by_cases hs : u < 100
  · have h1 := Go.Proofs.Tryd.internal_strconv_small u hs
    generalize decDigits u = d at *
    go_enter Tryd.func38, Tryd.ntmps38
    go_wp2_with fail
    refine (h1 _).mono ?_
    rintro e w1 ⟨rfl, rfl⟩
    go_wp2_with fail
    go_ret
    exact ⟨rfl, Below.refl _ _⟩
  · have hu1 : 1 ≤ u := by omega
    have hnd20 := Lib.nDigits_le20 u hu64
    have hal : Tryd.prog.arrayLen 65 = 24 := by kernel_rfl
    have hsl1 : ∀ W, (Instr.sliceAt 65 (.pointer (some ⟨w.heap.size, 0, none⟩)) none (some (.int .i64 (Lib.nDigits u : Int))) none).run Tryd.prog W = .ok (.slice (some ⟨w.heap.size, 0, none⟩) (Lib.nDigits u) 24) W := fun W => by
      rw [run_sliceAt_array_h W 65 ⟨w.heap.size, 0, none⟩ (by kernel_rfl) .i64 (Lib.nDigits u : Int) (by omega) (by rw [hal]; omega)]
      go_simp
    have hH0 := holds0 w 65 (Lib.nDigits u) (by omega)
    have hfmt := Go.Proofs.Tryd.internal_strconv_formatBase10 w.heap.size 0 24 u (Array.replicate (Lib.nDigits u) 0) (w.alloc (.cells Lib.zeros24 65)) hH0 (by rw [Array.size_replicate]; exact Lib.lt_pow_nDigits u) hu64 (by rw [Array.size_replicate]; omega)
    rw [Array.size_replicate] at hfmt
    have hnum := Go.Proofs.Tryd.internal_strconv_numDigits u hu1 hu64 (w.alloc (.cells Lib.zeros24 65)) (Lib.tabIs_alloc hP _)
    have HH0 : Hid _ := hH0
    clear hH0 hal
    go_enter Tryd.func38, Tryd.ntmps38
    go_wp2_with fail
    refine hnum.mono ?_
    rintro e w1 ⟨rfl, rfl⟩
    go_wp2_with fail
    refine hfmt.mono ?_
    rintro e w1 ⟨rfl, k, v', dk, rfl, hF⟩
    have hcv : (convert 68 9 (.slice (some ⟨w.heap.size, 0, none⟩) (Lib.nDigits u) 24)).run Tryd.prog ((putRow enc8 (w.alloc (.cells Lib.zeros24 65)) w.heap.size 0 dk).drewN k) = .ok (strV (decDigits u)) ((putRow enc8 (w.alloc (.cells Lib.zeros24 65)) w.heap.size 0 dk).drewN k) := by
      have h := run_convert_bytes_back (P := Tryd.prog) ((putRow enc8 (w.alloc (.cells Lib.zeros24 65)) w.heap.size 0 dk).drewN k) 68 9 5 ⟨w.heap.size, 0, none⟩ 24 (Lib.decDigits u) Tryd.underlying68 Tryd.underlying5 Tryd.underlying9 (fun j hj => by
        rw [Lib.row_is_numeral hF j hj, Lib.add_plain, World.cell?_drewN]
        exact cell?_putRow enc8 _ w.heap.size 0 _ dk HH0.out (by rw [hF.size, Array.size_replicate]) j (by rw [hF.size]; rw [Lib.decDigits_length] at hj; exact hj))
      rw [Lib.decDigits_length] at h
      exact h
    have hb := fin0 w (.cells Lib.zeros24 65) dk k
    generalize (putRow enc8 (w.alloc (.cells Lib.zeros24 65)) w.heap.size 0 dk).drewN k = wq at *
    go_wp2_with fail
    go_ret
    exact ⟨rfl, hb⟩
theorem formatUint_any (u : Nat) (hu64 : u < 18446744073709551616) (w : World) (hP : PowAt w) :
    Calls Tryd.prog 32 #[.int .u64 u, .int .i64 10] w fun e w' => e = .returned (strV (decDigits u)) ∧ Below w.heap.size w w' := by
  have h := formatUint_in u hu64 w hP
  generalize decDigits u = d at *
  go_enter Tryd.func32, Tryd.ntmps32
  go_wp2_with fail
  refine h.mono ?_
  rintro e w1 ⟨rfl, hb⟩
  go_wp2_with fail
  go_ret
  exact ⟨rfl, hb⟩
theorem formatInt_any (n : Int) (h0 : -9223372036854775808 ≤ n) (h1 : n ≤ 9223372036854775807) (w : World) (hP : PowAt w) :
    Calls Tryd.prog 25 #[.int .i64 n, .int .i64 10] w fun e w' => e = .returned (strV (itoa n)) ∧ Below w.heap.size w w' :=
  (Go.Proofs.Tryd.strconv_FormatInt_10 n h0 h1 w hP).mono fun e w' ⟨h, k, os, hw⟩ => ⟨h, by rw [hw]; exact grow_below w k os⟩

theorem index_pt (l : List UInt8) : indexByte l 46 = if hasPt l = true then ((pre l).length : Int) else -1 := by
  induction l with
  | nil => rfl
  | cons b r ih =>
    unfold indexByte
    by_cases hb : b = 46
    · subst hb; rfl
    · have e1 : hasPt (b :: r) = hasPt r := by
        unfold hasPt
        rw [List.contains_cons, beq_eq_false_iff_ne.2 (fun e => hb e.symm), Bool.false_or]
      have e2 : pre (b :: r) = b :: pre r := by unfold pre; rw [List.takeWhile_cons, if_pos (bne_iff_ne.2 hb)]
      rw [e1, e2, ih, beq_eq_false_iff_ne.2 hb]
      by_cases h : hasPt r = true
      · rw [if_pos h, if_pos h, List.length_cons]
        have : (((pre r).length : Int) == -1) = false := beq_eq_false_iff_ne.2 (by omega)
        simp [this]
      · rw [if_neg h, if_neg h]; rfl
theorem pre_take (l : List UInt8) : l.take (pre l).length = pre l := by
  unfold pre
  have := List.takeWhile_append_dropWhile (p := (· != (46 : UInt8))) (l := l)
  conv => lhs; rw [← this]
  conv => lhs; lhs; rw [this]
  rw [List.take_left]
theorem pre_app2 (l : List UInt8) (h : ∀ b ∈ l, (b != 46) = true) : pre l = l := by
  have := List.takeWhile_append_of_pos (p := (· != (46 : UInt8))) (l₁ := l) (l₂ := []) h
  rw [List.append_nil] at this
  unfold pre
  rw [this]
  simp
theorem pre_all (l : List UInt8) (h : hasPt l = false) : pre l = l ∧ post l = [] := by
  have e : pre l = l := by
    have := pre_app2 l (fun b hb => bne_iff_ne.2 (fun e => by unfold hasPt at h; subst e; simp [hb] at h))
    exact this
  refine ⟨e, ?_⟩
  unfold post
  rw [e]
  simp
theorem pre_lt (l : List UInt8) (h : hasPt l = true) : (pre l).length + 1 ≤ l.length := by
  by_cases hc : (pre l).length < l.length
  · exact hc
  · exfalso
    have e := pre_take l
    rw [List.take_of_length_le (by omega)] at e
    unfold hasPt at h
    simp only [List.contains_eq_mem, decide_eq_true_eq] at h
    rw [e] at h
    unfold pre at h
    have key : ∀ m : List UInt8, (46 : UInt8) ∉ m.takeWhile (· != 46) := by
      intro m
      induction m with
      | nil => simp
      | cons b r ih =>
        rw [List.takeWhile_cons]
        split
        · rename_i hb
          intro hm
          rcases List.mem_cons.1 hm with rfl | hm
          · simp at hb
          · exact ih hm
        · simp
    exact key l h
theorem slice_h (l : List UInt8) (k : Nat) (h : k ≤ l.length) (w : World) : (Instr.slice 9 (strV l) none (some (.int .i64 k)) none).run Tryd.prog w = .ok (strV (l.take k)) w := by
  rw [run_slice_string_h w 9 ⟨l.toArray⟩ Tryd.underlying9 .i64 k (by omega) (by rw [Lib.size_mk]; omega), Lib.extract_mk]
  simp
theorem slice_l (l : List UInt8) (k : Nat) (h : k ≤ l.length) (w : World) : (Instr.slice 9 (strV l) (some (.int .i64 k)) none none).run Tryd.prog w = .ok (strV (l.drop k)) w := by
  rw [run_slice_string_l w 9 ⟨l.toArray⟩ Tryd.underlying9 .i64 k (by omega) (by rw [Lib.size_mk]; omega), Lib.extract_mk, Lib.size_mk, Int.toNat_natCast, List.take_of_length_le (by rw [List.length_drop]; omega)]
theorem slice_lh (l : List UInt8) (a b : Nat) (h : a ≤ b) (hb : b ≤ l.length) (w : World) : (Instr.slice 9 (strV l) (some (.int .i64 a)) (some (.int .i64 b)) none).run Tryd.prog w = .ok (strV ((l.drop a).take (b - a))) w := by
  rw [run_slice_string_if w 9 ⟨l.toArray⟩ .i64 .i64 a b Tryd.underlying9, if_pos ⟨by omega, by rw [Lib.size_mk]; omega⟩, if_pos ⟨by omega, by omega⟩, Lib.extract_mk]
  simp
/-- The library's Cut at a point. -/
def cutPost (l : List UInt8) (w : World) (e : Ending) (w' : World) : Prop := e = .returned (.tuple #[strV (pre l), strV (post l), .bool (hasPt l)]) ∧ Below w.heap.size w w'
theorem cut_in (l : List UInt8) (hz : l.length ≤ 281474976710656) (w : World) :
    Calls Tryd.prog 30 #[strV l, .string ⟨#[46]⟩] w (cutPost l w) := by
  have hI := fun wx => Go.Proofs.Tryd.stringslite_Index_one ⟨l.toArray⟩ 46 wx
  have ei : indexByte (ByteArray.mk l.toArray).data.toList 46 = if hasPt l = true then ((pre l).length : Int) else -1 := index_pt l
  cases hp : hasPt l with
  | true =>
    have hlt := pre_lt l hp
    have s1 := fun wx => slice_h l (pre l).length (by omega) wx
    have s2 := fun wx => slice_l l ((pre l).length + 1) hlt wx
    rw [pre_take] at s1
    rw [hp, if_pos rfl] at ei
    rw [ei] at hI
    have hq : ∀ e w', e = Ending.returned (.tuple #[strV (pre l), strV (l.drop ((pre l).length + 1)), .bool true]) ∧ Below w.heap.size w w' → cutPost l w e w' := by
      rintro e w' ⟨h1, h2⟩
      exact ⟨by rw [h1, hp]; rfl, h2⟩
    have e1 : (((pre l).length + 1 : Nat) : Int) = ((pre l).length : Int) + 1 := by omega
    rw [e1] at s2
    generalize l.drop ((pre l).length + 1) = po at *
    generalize (pre l).length = k at *
    generalize pre l = pr at *
    refine Calls.mono ?_ hq
    clear hq ei hp e1
    go_enter Tryd.func30, Tryd.ntmps30
    go_wp2_with fail
    refine (hI _).mono ?_
    rintro e w1 ⟨rfl, rfl⟩
    go_wp2_with fail
    go_quiet (fail)
    go_wp2_with fail
    go_ret3
    exact ⟨rfl, drewN_b _ _⟩
  | false =>
    rw [hp, if_neg (by simp)] at ei
    rw [ei] at hI
    obtain ⟨e1, e2⟩ := pre_all l hp
    have hq : ∀ e w', e = Ending.returned (.tuple #[strV l, strV [], .bool false]) ∧ Below w.heap.size w w' → cutPost l w e w' := by
      rintro e w' ⟨h1, h2⟩
      exact ⟨by rw [h1, hp, e1, e2], h2⟩
    refine Calls.mono ?_ hq
    clear hq ei hp e1 e2
    go_enter Tryd.func30, Tryd.ntmps30
    go_wp2_with fail
    refine (hI _).mono ?_
    rintro e w1 ⟨rfl, rfl⟩
    go_wp2_with fail
    go_ret3
    exact ⟨rfl, Below.refl _ _⟩
theorem cut_any (l : List UInt8) (hz : l.length ≤ 281474976710656) (w : World) :
    Calls Tryd.prog 18 #[strV l, .string ⟨#[46]⟩] w (cutPost l w) := by
  have h := cut_in l hz w
  have hq : ∀ e w', e = Ending.returned (.tuple #[strV (pre l), strV (post l), .bool (hasPt l)]) ∧ Below w.heap.size w w' → cutPost l w e w' := fun _ _ h => h
  refine Calls.mono ?_ hq
  unfold cutPost at h
  clear hq
  generalize pre l = p at *
  generalize post l = q at *
  generalize hasPt l = r at *
  go_enter Tryd.func18, Tryd.ntmps18
  go_wp2_with fail
  refine h.mono ?_
  rintro e w1 ⟨rfl, hb⟩
  go_wp2_with fail
  go_ret3
  exact ⟨rfl, hb⟩
end Go.Proofs.YtlkmpfpepkkeeaaDoor
