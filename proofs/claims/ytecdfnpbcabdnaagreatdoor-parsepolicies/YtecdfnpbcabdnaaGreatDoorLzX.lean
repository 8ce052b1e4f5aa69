/- A duration read part by part, plain; the library's ParseInt at digits. -/
import Derived.Test.YtecdfnpbcabdnaaGreatDoorLxH
import Derived.Test.YtecdfnpbcabdnaaGreatDoorLxG
import Derived.Test.YtecdfnpbcabdnaaGreatDoorLzR
import Derived.Test.YtecdfnpbcabdnaaGreatDoorShelfP
import Derived.Lib.ParseIntBCases
import Derived.Lib.AtoiErrMem
namespace Go.Proofs.YtecdfnpbcabdnaaGreatDoor
open Go.RowKit

theorem foldl_ge (W : List UInt8) (n : Nat) : n ≤ W.foldl vstep n := by
  rw [foldl_val]
  have : 1 ≤ 10 ^ W.length := Nat.one_le_pow _ _ (by decide)
  have : n * 1 ≤ n * 10 ^ W.length := Nat.mul_le_mul_left _ this
  omega
theorem parseM (W : List UInt8) (M : Nat) (hM : 999999 ≤ M) : ∀ acc, W.all isD = true → W.foldl vstep acc ≤ 999999 → Lib.parseUintM M acc W = .ok (W.foldl vstep acc) := by
  induction W with
  | nil => intro acc _ _; rfl
  | cons c r ih =>
    intro acc ha hv
    rw [List.all_cons, Bool.and_eq_true] at ha
    have hc := isD_iff.1 ha.1
    rw [List.foldl_cons] at hv ⊢
    have h1 := foldl_ge r (vstep acc c)
    have e : vstep acc c = acc * 10 + (c.toNat - 48) := rfl
    rw [Lib.parseUintM, if_pos hc, if_neg (by omega), if_neg (by omega), ← e]
    exact ih _ ha.2 hv
theorem parse_digits (W : List UInt8) (ha : W.all isD = true) (hn : W ≠ []) (hv : val W ≤ 999999) : Lib.parseIntB 64 W = .ok (val W : Int) := by
  cases W with
  | nil => exact absurd rfl hn
  | cons c r =>
    have ha' := ha
    rw [List.all_cons, Bool.and_eq_true] at ha'
    have hc := isD_iff.1 ha'.1
    have hp : Lib.parseUintB 64 (c :: r) = .ok (val (c :: r)) := by
      unfold Lib.parseUintB
      rw [if_neg (by simp)]
      exact parseM (c :: r) _ (by decide) 0 ha hv
    rw [Lib.parseIntB_plain 64 c r (by omega) (by omega), hp]
    show (if 2 ^ (64 - 1) ≤ val (c :: r) then _ else _) = _
    rw [if_neg]
    have : (2 : Nat) ^ (64 - 1) = 9223372036854775808 := by decide
    omega
theorem parse_any (W : List UInt8) (ha : W.all isD = true) (hn : W ≠ []) (hv : val W ≤ 999999) (hz : W.length ≤ 6) (w : World) :
    Calls Tryz.prog 126 #[strV W, .int .i64 10, .int .i64 64] w fun e w' => e = .returned (.tuple #[.int .i64 (val W : Nat), .nilIface]) ∧ Below w.heap.size w w' := by
  refine (Go.Proofs.Tryz.strconv_ParseInt_10_at64_ok ⟨W.toArray⟩ (by rw [Lib.size_mk]; omega) (val W : Int) (parse_digits W ha hn hv) w).mono ?_
  rintro e w' ⟨h, hw⟩
  refine ⟨h, ?_⟩
  rcases hw with rfl | ⟨t, rfl⟩
  · exact Below.refl _ _
  · exact Lib.bytesWorld_below _ _ _
/-- The digits from a place on. -/
def digW (l : List UInt8) (k : Nat) : List UInt8 := (l.drop k).take (runL l k)
theorem digW_eq (l : List UInt8) (k : Nat) : digW l k = (l.drop k).takeWhile isD := by
  unfold digW runL
  have := List.takeWhile_append_dropWhile (p := isD) (l := l.drop k)
  conv => lhs; rw [← this]
  conv => lhs; lhs; rw [this]
  rw [List.take_left]
theorem digW_all (l : List UInt8) (k : Nat) : (digW l k).all isD = true := by rw [digW_eq]; exact run_all _
theorem digW_len (l : List UInt8) (k : Nat) : (digW l k).length = runL l k := by rw [digW_eq]; rfl
theorem digW_split (l : List UInt8) (k : Nat) : l.drop k = digW l k ++ l.drop (k + runL l k) := by
  unfold digW
  rw [← List.drop_drop, List.take_append_drop]
theorem digW_rest (l : List UInt8) (k : Nat) : l.drop (k + runL l k) = (l.drop k).dropWhile isD := by
  have h1 := digW_split l k
  have h2 := split_run (l.drop k)
  rw [← digW_eq] at h2
  exact List.append_cancel_left (h1.symm.trans h2)
theorem runL_le (l : List UInt8) (k : Nat) (h : k ≤ l.length) : k + runL l k ≤ l.length := by
  have := congrArg List.length (digW_split l k)
  rw [List.length_append, digW_len, List.length_drop, List.length_drop] at this
  omega
theorem digW_head (l : List UInt8) (k : Nat) (h : k < l.length) (hf : 1 ≤ runL l k) : (digW l k).head? = some l[k] := by
  have e := digW_split l k
  rw [List.drop_eq_getElem_cons h] at e
  have hl := digW_len l k
  cases hd : digW l k with
  | nil => rw [hd] at hl; simp at hl; omega
  | cons b t => rw [hd] at e; rw [List.cons_append] at e; injection e with e1 _; rw [e1]; rfl
section
variable {l : List UInt8} {k sm nx : Nat}
theorem At10.none_run (h : At10 l k sm 0 nx) (hk : k < l.length) (hf : runL l k < 1) : spanR l = .tuple #[.int .i64 0, .int .i64 13] := by
  refine h.no hk ?_ (.inr rfl)
  cases hd : isD l[k] with
  | false => rfl
  | true => rw [runL_yes l k hk hd] at hf; omega
theorem At10.by_run (h : At10 l k sm 0 nx) (hk : k < l.length) (hf : 1 ≤ runL l k) : spanN l = if l[k] = 48 ∨ 6 < runL l k then none else sp sm (val (digW l k)) nx (l.drop (k + runL l k)) := by
  rw [h.e, digW_split l k, sp_run sm nx _ _ (digW_all l k) (by intro e; have := digW_len l k; rw [e] at this; simp at this; omega), digW_head l k hk hf, digW_len]
  simp only [Option.some.injEq]
theorem At10.bad_run (h : At10 l k sm 0 nx) (hk : k < l.length) (hf : 1 ≤ runL l k) (hb : l[k] = 48 ∨ 6 < runL l k) : spanR l = .tuple #[.int .i64 0, .int .i64 13] :=
  spanR_no (by rw [h.by_run hk hf, if_pos hb])
theorem val_ne (hk : k < l.length) (hf : 1 ≤ runL l k) (h48 : l[k] ≠ 48) : val (digW l k) ≠ 0 := by
  refine val_pos _ (digW_all l k) (by intro e; have := digW_len l k; rw [e] at this; simp at this; omega) ?_
  rw [digW_head l k hk hf]
  exact fun e => h48 (Option.some.inj e)
theorem At10.end_run (h : At10 l k sm 0 nx) (hk : k < l.length) (hf : 1 ≤ runL l k) (he : l.length ≤ k + runL l k) : spanR l = .tuple #[.int .i64 0, .int .i64 13] := by
  by_cases hb : l[k] = 48 ∨ 6 < runL l k
  · exact h.bad_run hk hf hb
  · refine spanR_no ?_
    rw [h.by_run hk hf, if_neg hb, List.drop_of_length_le he, sp_nil, if_neg]
    rintro ⟨h0, _⟩
    exact val_ne hk hf (fun e => hb (.inl e)) h0
theorem At10.letter (_h : At10 l k sm 0 nx) (he : k + runL l k < l.length) : isD l[k + runL l k] = false := by
  have h1 := digW_rest l k
  rw [List.drop_eq_getElem_cons he] at h1
  exact drop_head (l.drop k) _ _ h1.symm
theorem At10.no_part (h : At10 l k sm 0 nx) (hk : k < l.length) (hf : 1 ≤ runL l k) (hg : ¬ (l[k] = 48 ∨ 6 < runL l k)) (he : k + runL l k < l.length) (hp : Go.Proofs.YtecdfnpbcabdnaaGreatDoor.part l[k + runL l k].toNat nx = none) : spanR l = .tuple #[.int .i64 0, .int .i64 13] :=
  spanR_no (by rw [h.by_run hk hf, if_neg hg, List.drop_eq_getElem_cons he, sp_no _ _ _ _ _ (h.letter he) (.inl hp)])
theorem At10.one_part {j : Nat} (h : At10 l k sm 0 nx) (hk : k < l.length) (hf : 1 ≤ runL l k) (hg : ¬ (l[k] = 48 ∨ 6 < runL l k)) (he : k + runL l k < l.length) (hp : Go.Proofs.YtecdfnpbcabdnaaGreatDoor.part l[k + runL l k].toNat nx = some j) :
    At10 l (k + (runL l k + 1)) (sm + val (digW l k) * wrt j) 0 (j + 1) ∧ val (digW l k) ≤ 999999 := by
  have hv : val (digW l k) ≤ 999999 := val_six _ (digW_all l k) (by rw [digW_len]; omega)
  have hn := val_ne hk hf (fun e => hg (.inl e))
  obtain ⟨h1, h2, _⟩ := part_some hp
  have h3 : val (digW l k) * wrt j ≤ 999999 * 86400 := Nat.mul_le_mul hv (wrt_le j)
  have h4 := h.s
  have h5 : nx * 86399913600 ≤ j * 86399913600 := Nat.mul_le_mul_right _ h1
  exact ⟨⟨by omega, by omega, by omega, by rw [h.by_run hk hf, if_neg hg, List.drop_eq_getElem_cons he, sp_part _ _ _ _ _ _ (h.letter he) hp hn, Nat.add_assoc]⟩, hv⟩
end
end Go.Proofs.YtecdfnpbcabdnaaGreatDoor
