/- The library's Cut at a point. -/
import Derived.Test.YtecdfnpbcabdnaaGreatDoorShelfI
import Derived.Test.YtecdfnpbcabdnaaGreatDoorNuA
import Derived.Lib.TrimByte
import Derived.Shelf.RegionOpenPlain
namespace Go.Proofs.YtecdfnpbcabdnaaGreatDoor
open Go.RowKit Go.Lib

theorem drewN_b (w : World) (n : Nat) : Below w.heap.size w (w.drewN n) := ⟨rfl, rfl, rfl, Nat.le_refl _, fun _ _ => rfl⟩
theorem index_pt (l : List UInt8) : indexByte l 46 = if hasPt l = true then ((pre l).length : Int) else -1 := by
  induction l with
  | nil => rfl
  | cons b r ih =>
    unfold indexByte
    by_cases hb : b = 46
    · subst hb; rfl
    · have e1 : hasPt (b :: r) = hasPt r := by
        unfold hasPt
        rw [List.contains_cons, beq_eq_false_iff_ne.2 (fun e => hb e.symm), Bool.false_or]
      have e2 : pre (b :: r) = b :: pre r := by unfold pre; rw [List.takeWhile_cons, if_pos (bne_iff_ne.2 hb)]
      rw [e1, e2, ih, beq_eq_false_iff_ne.2 hb]
      by_cases h : hasPt r = true
      · rw [if_pos h, if_pos h, List.length_cons]
        have : (((pre r).length : Int) == -1) = false := beq_eq_false_iff_ne.2 (by omega)
        simp [this]
      · rw [if_neg h, if_neg h]; rfl
theorem pre_take (l : List UInt8) : l.take (pre l).length = pre l := by
  unfold pre
  have := List.takeWhile_append_dropWhile (p := (· != (46 : UInt8))) (l := l)
  conv => lhs; rw [← this]
  conv => lhs; lhs; rw [this]
  rw [List.take_left]
theorem pre_app2 (l : List UInt8) (h : ∀ b ∈ l, (b != 46) = true) : pre l = l := by
  have := List.takeWhile_append_of_pos (p := (· != (46 : UInt8))) (l₁ := l) (l₂ := []) h
  rw [List.append_nil] at this
  unfold pre
  rw [this]
  simp
theorem pre_all (l : List UInt8) (h : hasPt l = false) : pre l = l ∧ post l = [] := by
  have e : pre l = l := by
    have := pre_app2 l (fun b hb => bne_iff_ne.2 (fun e => by unfold hasPt at h; subst e; simp [hb] at h))
    exact this
  refine ⟨e, ?_⟩
  unfold post
  rw [e]
  simp
theorem pre_lt (l : List UInt8) (h : hasPt l = true) : (pre l).length + 1 ≤ l.length := by
  by_cases hc : (pre l).length < l.length
  · exact hc
  · exfalso
    have e := pre_take l
    rw [List.take_of_length_le (by omega)] at e
    unfold hasPt at h
    simp only [List.contains_eq_mem, decide_eq_true_eq] at h
    rw [e] at h
    unfold pre at h
    have key : ∀ m : List UInt8, (46 : UInt8) ∉ m.takeWhile (· != 46) := by
      intro m
      induction m with
      | nil => simp
      | cons b r ih =>
        rw [List.takeWhile_cons]
        split
        · rename_i hb
          intro hm
          rcases List.mem_cons.1 hm with rfl | hm
          · simp at hb
          · exact ih hm
        · simp
    exact key l h
theorem slice_h (l : List UInt8) (k : Nat) (h : k ≤ l.length) (w : World) : (Instr.slice 9 (strV l) none (some (.int .i64 k)) none).run Tryz.prog w = .ok (strV (l.take k)) w := by
  rw [run_slice_string_h w 9 ⟨l.toArray⟩ Tryz.underlying9 .i64 k (by omega) (by rw [Lib.size_mk]; omega), Lib.extract_mk]
  simp
theorem slice_l (l : List UInt8) (k : Nat) (h : k ≤ l.length) (w : World) : (Instr.slice 9 (strV l) (some (.int .i64 k)) none none).run Tryz.prog w = .ok (strV (l.drop k)) w := by
  rw [run_slice_string_l w 9 ⟨l.toArray⟩ Tryz.underlying9 .i64 k (by omega) (by rw [Lib.size_mk]; omega), Lib.extract_mk, Lib.size_mk, Int.toNat_natCast, List.take_of_length_le (by rw [List.length_drop]; omega)]
theorem slice_lh (l : List UInt8) (a b : Nat) (h : a ≤ b) (hb : b ≤ l.length) (w : World) : (Instr.slice 9 (strV l) (some (.int .i64 a)) (some (.int .i64 b)) none).run Tryz.prog w = .ok (strV ((l.drop a).take (b - a))) w := by
  rw [run_slice_string_if w 9 ⟨l.toArray⟩ .i64 .i64 a b Tryz.underlying9, if_pos ⟨by omega, by rw [Lib.size_mk]; omega⟩, if_pos ⟨by omega, by omega⟩, Lib.extract_mk]
  simp
/-- The library's Cut at a point. -/
def cutPost (l : List UInt8) (w : World) (e : Ending) (w' : World) : Prop := e = .returned (.tuple #[strV (pre l), strV (post l), .bool (hasPt l)]) ∧ Below w.heap.size w w'
theorem cut_in (l : List UInt8) (hz : l.length ≤ 281474976710656) (w : World) :
    Calls Tryz.prog 143 #[strV l, .string ⟨#[46]⟩] w (cutPost l w) := by
  have hI := fun wx => Go.Proofs.Tryz.stringslite_Index_one ⟨l.toArray⟩ 46 wx
  have ei : indexByte (ByteArray.mk l.toArray).data.toList 46 = if hasPt l = true then ((pre l).length : Int) else -1 := index_pt l
  cases hp : hasPt l with
  | true =>
    have hlt := pre_lt l hp
    have s1 := fun wx => slice_h l (pre l).length (by omega) wx
    have s2 := fun wx => slice_l l ((pre l).length + 1) hlt wx
    rw [pre_take] at s1
    rw [hp, if_pos rfl] at ei
    rw [ei] at hI
    have hq : ∀ e w', e = Ending.returned (.tuple #[strV (pre l), strV (l.drop ((pre l).length + 1)), .bool true]) ∧ Below w.heap.size w w' → cutPost l w e w' := by
      rintro e w' ⟨h1, h2⟩
      exact ⟨by rw [h1, hp]; rfl, h2⟩
    have e1 : (((pre l).length + 1 : Nat) : Int) = ((pre l).length : Int) + 1 := by omega
    rw [e1] at s2
    generalize l.drop ((pre l).length + 1) = po at *
    generalize (pre l).length = k at *
    generalize pre l = pr at *
    refine Calls.mono ?_ hq
    clear hq ei hp e1
    go_enter Tryz.func143, Tryz.ntmps143
    go_wp2_with fail
    refine (hI _).mono ?_
    rintro e w1 ⟨rfl, rfl⟩
    go_wp2_with fail
    go_quiet (fail)
    go_wp2_with fail
    go_ret3
    exact ⟨rfl, drewN_b _ _⟩
  | false =>
    rw [hp, if_neg (by simp)] at ei
    rw [ei] at hI
    obtain ⟨e1, e2⟩ := pre_all l hp
    have hq : ∀ e w', e = Ending.returned (.tuple #[strV l, strV [], .bool false]) ∧ Below w.heap.size w w' → cutPost l w e w' := by
      rintro e w' ⟨h1, h2⟩
      exact ⟨by rw [h1, hp, e1, e2], h2⟩
    refine Calls.mono ?_ hq
    clear hq ei hp e1 e2
    go_enter Tryz.func143, Tryz.ntmps143
    go_wp2_with fail
    refine (hI _).mono ?_
    rintro e w1 ⟨rfl, rfl⟩
    go_wp2_with fail
    go_ret3
    exact ⟨rfl, Below.refl _ _⟩
theorem cut_any (l : List UInt8) (hz : l.length ≤ 281474976710656) (w : World) :
    Calls Tryz.prog 123 #[strV l, .string ⟨#[46]⟩] w (cutPost l w) := by
  have h := cut_in l hz w
  have hq : ∀ e w', e = Ending.returned (.tuple #[strV (pre l), strV (post l), .bool (hasPt l)]) ∧ Below w.heap.size w w' → cutPost l w e w' := fun _ _ h => h
  refine Calls.mono ?_ hq
  unfold cutPost at h
  clear hq
  generalize pre l = p at *
  generalize post l = q at *
  generalize hasPt l = r at *
  go_enter Tryz.func123, Tryz.ntmps123
  go_wp2_with fail
  refine h.mono ?_
  rintro e w1 ⟨rfl, hb⟩
  go_wp2_with fail
  go_ret3
  exact ⟨rfl, hb⟩
end Go.Proofs.YtecdfnpbcabdnaaGreatDoor
