/- Package cron: the reader. -/
import Derived.Test.YtddinknnaakmmabDoorCroA
namespace Go.Proofs.YtddinknnaakmmabDoor
open Go.RowKit

/-- The reader at g has gone on to m; no other block has changed. -/
structure Moved (w : World) (g : Nat) (s : ByteArray) (m : Nat) (w' : World) : Prop where
  box : Box w' g [.string s, .int .i64 m]
  keep : ∀ B a, B ≤ g → Below B a w → Below B a w'
  rest : ∀ q vs, q ≠ g → Box w q vs → Box w' q vs
theorem Moved.trans {w w1 w2 : World} {g : Nat} {s : ByteArray} {m n : Nat} (h : Moved w g s m w1) (k : Moved w1 g s n w2) : Moved w g s n w2 :=
  ⟨k.box, fun B a hB hb => k.keep B a hB (h.keep B a hB hb), fun q vs hq hb => k.rest q vs hq (h.rest q vs hq hb)⟩
theorem Box.drewN {w : World} {g : Nat} {vs : List Value} (h : Box w g vs) (n : Nat) : Box (w.drewN n) g vs := ⟨h.cell, h.free, h.lt⟩
theorem Moved.drewN {w w1 : World} {g : Nat} {s : ByteArray} {m : Nat} (h : Moved w g s m w1) (n : Nat) : Moved w g s m (w1.drewN n) :=
  ⟨⟨h.box.cell, h.box.free, h.box.lt⟩, fun B a hB hb => below_drewN (h.keep B a hB hb) n, fun q vs hq hb => (h.rest q vs hq hb).drewN n⟩
theorem Box.moved {w : World} {g : Nat} {s : ByteArray} {n : Nat} (h : Box w g [.string s, .int .i64 n]) : Moved w g s n w := ⟨h, fun _ _ _ k => k, fun _ _ _ k => k⟩
theorem Box.movedA {w : World} {g : Nat} {s : ByteArray} {n : Nat} (h : Box w g [.string s, .int .i64 n]) (o : Obj) : Moved w g s n (w.alloc o) :=
  ⟨h.next ((Below.refl _ _).alloc (Nat.le_refl _) _), fun _ _ hB k => k.alloc (Nat.le_trans hB (Nat.le_of_lt h.lt)) _, fun _ _ _ k => k.next ((Below.refl _ _).alloc (Nat.le_refl _) _)⟩
theorem Box.go {w : World} {g : Nat} {s : ByteArray} {n : Nat} (h : Box w g [.string s, .int .i64 n]) (m : Nat) (i : Int) (e : i = m) : Moved w g s m (w.setCell ⟨g, 1, none⟩ (.int .i64 i)) := by
  subst e
  exact ⟨h.set 1 (by simp) (.int .i64 m), fun _ _ hB hb => hb.setCell hB _, fun _ _ hq k => k.other hq⟩
theorem Box.goD {w : World} {g : Nat} {s : ByteArray} {n : Nat} (h : Box w g [.string s, .int .i64 n]) (k m : Nat) (i : Int) (e : i = m) : Moved w g s m ((w.drewN k).setCell ⟨g, 1, none⟩ (.int .i64 i)) :=
  (h.moved.drewN k).trans ((h.drewN k).go m i e)
theorem Box.two {w : World} {g : Nat} {v0 v1 : Value} (h : Box w g [v0, v1]) : w.cell? ⟨g, 0, none⟩ = some v0 ∧ w.cell? ⟨g, 1, none⟩ = some v1 ∧ w.frozen? ⟨g, 0, none⟩ = false ∧ w.frozen? ⟨g, 1, none⟩ = false :=
  ⟨h.cell 0 _ rfl, h.cell 1 _ rfl, h.free 0 (by simp), h.free 1 (by simp)⟩

set_option maxHeartbeats 800000 in
theorem take_any (s : ByteArray) (l : List UInt8) (hl : s.data.toList = l) (hz : s.size ≤ 256) (g n : Nat) (b : Int) (hn : n ≤ s.size) (w : World) (hb : Box w g [.string s, .int .i64 n]) :
    Calls Tryd.prog 11 #[.pointer (some ⟨g, 0, none⟩), .int .u8 b] w fun e w' => e = .returned (.bool (isB l n b)) ∧ Moved w g s (if isB l n b = true then n + 1 else n) w' := by
  have hs : l.length = s.size := by rw [← hl]; rfl
  obtain ⟨o0, o1, f0, f1⟩ := hb.two
  by_cases hlt : n < s.size
  · have hg := bt_get s n hlt
    rw [hl] at hg
    have k1 : ((n : Int) == (s.size : Int)) = false := beq_eq_false_iff_ne.2 (by omega)
    by_cases hq : bt l n = b
    · have e : isB l n b = true := (isB_iff _ _ _).2 ⟨by omega, hq⟩
      have q1 : (bt l n != b) = false := by simp [hq]
      simp only [e, if_true]
      clear e hq
      generalize bt l n = c at *
      go_enter Tryd.func11, Tryd.ntmps11
      go_wp2_with fail
      go_quiet (fail)
      go_wp2_with fail
      go_ret
      exact ⟨rfl, hb.goD _ _ _ (by omega)⟩
    · have e : isB l n b = false := (isB_no _ _ _).2 fun h => hq h.2
      have q1 : (bt l n != b) = true := bne_iff_ne.2 hq
      simp only [e, Bool.false_eq_true, if_false]
      clear e hq
      generalize bt l n = c at *
      go_enter Tryd.func11, Tryd.ntmps11
      go_wp2_with fail
      go_quiet (fail)
      go_wp2_with fail
      go_ret
      exact ⟨rfl, hb.moved.drewN _⟩
  · have e : isB l n b = false := (isB_no _ _ _).2 fun h => hlt (by omega)
    have k1 : ((n : Int) == (s.size : Int)) = true := beq_iff_eq.2 (by omega)
    simp only [e, Bool.false_eq_true, if_false]
    clear e
    go_enter Tryd.func11, Tryd.ntmps11
    go_wp2_with fail
    go_quiet (fail)
    go_wp2_with fail
    go_ret
    exact ⟨rfl, hb.moved.drewN _⟩

/-- What a run of digits counts, by itself. -/
def valD (x : List UInt8) : Option Nat :=
  if x.length = 1 then some (bt x 0 - 48).toNat
  else if x.length = 2 ∧ bt x 0 ≠ 48 then some ((bt x 0 - 48) * 10 + (bt x 1 - 48)).toNat
  else none
def valV (o : Option Nat) : Value := .tuple #[.int .i64 (o.getD 0 : Nat), .bool o.isSome]
theorem valV_none : valV none = .tuple #[.int .i64 0, .bool false] := rfl
theorem valV_some (n : Nat) : valV (some n) = .tuple #[.int .i64 (n : Nat), .bool true] := rfl
set_option maxHeartbeats 800000 in
theorem value_any (d : ByteArray) (x : List UInt8) (hx : d.data.toList = x) (hd : ∀ j, j < d.size → 48 ≤ bt x j ∧ bt x j ≤ 57) (w : World) :
    Calls Tryd.prog 38 #[.string d] w fun e w' => e = .returned (valV (valD x)) ∧ ∃ m, w' = w.drewN m := by
  have hs : x.length = d.size := by rw [← hx]; rfl
  by_cases h1 : d.size = 1
  · have hg := bt_get d 0 (by omega)
    rw [hx] at hg
    have b0 := hd 0 (by omega)
    have e : valD x = some (bt x 0 - 48).toNat := if_pos (by omega)
    rw [e]
    have k1 : ((d.size : Int) == 1) = true := beq_iff_eq.2 (by omega)
    have k2 : 0 < d.size := by omega
    clear e
    generalize bt x 0 = c at *
    go_enter Tryd.func38, Tryd.ntmps38
    go_wp2_with fail
    go_ret2
    refine ⟨?_, 0, rfl⟩
    rw [valV_some, Int.toNat_of_nonneg (by omega)]; rfl
  · have k1 : ((d.size : Int) == 1) = false := beq_eq_false_iff_ne.2 (by omega)
    by_cases h2 : d.size = 2
    · have hg := bt_get d 0 (by omega)
      have hg1 := bt_get d 1 (by omega)
      rw [hx] at hg hg1
      have b0 := hd 0 (by omega)
      have b1 := hd 1 (by omega)
      have k2 : ((d.size : Int) == 2) = true := beq_iff_eq.2 (by omega)
      have k3 : 0 < d.size := by omega
      have k4 : 1 < d.size := by omega
      by_cases h3 : bt x 0 = 48
      · have e : valD x = none := by unfold valD; rw [if_neg (by omega), if_neg (fun h => h.2 h3)]
        rw [e]
        have k5 : (bt x 0 != 48) = false := by simp [h3]
        clear e h3
        generalize bt x 0 = c at *
        generalize bt x 1 = c1 at *
        go_enter Tryd.func38, Tryd.ntmps38
        go_wp2_with fail
        go_ret2
        exact ⟨rfl, 0, rfl⟩
      · have e : valD x = some ((bt x 0 - 48) * 10 + (bt x 1 - 48)).toNat := by unfold valD; rw [if_neg (by omega), if_pos ⟨by omega, h3⟩]
        rw [e]
        have k5 : (bt x 0 != 48) = true := bne_iff_ne.2 h3
        clear e h3
        generalize bt x 0 = c at *
        generalize bt x 1 = c1 at *
        go_enter Tryd.func38, Tryd.ntmps38
        go_wp2_with fail
        go_quiet (fail)
        go_wp2_with fail
        go_ret2
        refine ⟨?_, nq, rfl⟩
        rw [valV_some, Int.toNat_of_nonneg (by omega)]; rfl
    · have k2 : ((d.size : Int) == 2) = false := beq_eq_false_iff_ne.2 (by omega)
      have e : valD x = none := by unfold valD; rw [if_neg (by omega), if_neg (by omega)]
      rw [e]
      clear e
      go_enter Tryd.func38, Tryd.ntmps38
      go_wp2_with fail
      go_ret2
      exact ⟨rfl, 0, rfl⟩

theorem cut_bt (s : ByteArray) (l : List UInt8) (hl : s.data.toList = l) (n e : Nat) (_ : e ≤ s.size) (j : Nat) (hj : j < e - n) : bt (s.extract n e).data.toList j = bt l (n + j) := by
  have h1 : (s.extract n e).data.toList = (l.drop n).take (e - n) := by
    rw [ByteArray.data_extract, ← hl]
    simp [List.extract_eq_take_drop]
  have hs : l.length = s.size := by rw [← hl]; rfl
  rw [h1]
  unfold bt
  rw [List.getD_eq_getElem?_getD, List.getD_eq_getElem?_getD, List.getElem?_take, if_pos hj, List.getElem?_drop]
theorem cut_size (s : ByteArray) (n e : Nat) (he : e ≤ s.size) : (s.extract n e).size = e - n := by
  rw [ByteArray.size_extract]; omega
theorem cut_val (s : ByteArray) (l : List UInt8) (hl : s.data.toList = l) (n : Nat) (hn : n ≤ s.size) : valD (s.extract n (runEnd l n)).data.toList = valS l n := by
  have hs : l.length = s.size := by rw [← hl]; rfl
  have hr := runEnd_le l n (by omega)
  have h1 : (s.extract n (runEnd l n)).data.toList.length = runEnd l n - n := (show _ = (s.extract n (runEnd l n)).size from rfl).trans (cut_size s n _ (by omega))
  have h2 := cut_bt s l hl n (runEnd l n) (by omega)
  unfold valD valS
  rw [h1]
  by_cases k1 : runEnd l n = n + 1
  · rw [if_pos (by omega), if_pos k1, h2 0 (by omega)]; rfl
  · rw [if_neg (by omega), if_neg k1]
    by_cases k2 : runEnd l n = n + 2
    · rw [h2 0 (by omega), h2 1 (by omega), Nat.add_zero]
      by_cases k3 : bt l n = 48
      · rw [if_neg (fun h => h.2 k3), if_neg (fun h => h.2 k3)]
      · rw [if_pos ⟨by omega, k3⟩, if_pos ⟨k2, k3⟩]
    · rw [if_neg (by omega), if_neg (by omega)]

def numV (o : Option (Nat × Nat)) : Value := .tuple #[.int .i64 ((o.getD (0, 0)).1 : Nat), .bool o.isSome]
/-- What number answers, and how far the reader has gone. -/
def NumPost (l : List UInt8) (s : ByteArray) (n lo hi : Nat) (w : World) (g : Nat) (e : Ending) (w' : World) : Prop :=
  e = .returned (numV (numS l n lo hi)) ∧ Moved w g s (match numS l n lo hi with | none => n | some (_, e) => e) w'
theorem NumPost.no {l : List UInt8} {s : ByteArray} {n lo hi : Nat} {w : World} {g : Nat} {w' : World} (h : numS l n lo hi = none) (k : Moved w g s n w') : NumPost l s n lo hi w g (.returned (.tuple #[.int .i64 0, .bool false])) w' := by
  unfold NumPost; rw [h]; exact ⟨rfl, k⟩
theorem NumPost.yes {l : List UInt8} {s : ByteArray} {n lo hi v m : Nat} {w : World} {g : Nat} {w' : World} (h : numS l n lo hi = some (v, m)) (k : Moved w g s m w') : NumPost l s n lo hi w g (.returned (.tuple #[.int .i64 v, .bool true])) w' := by
  unfold NumPost; rw [h]; exact ⟨rfl, k⟩
set_option maxHeartbeats 1600000 in
theorem number_any (s : ByteArray) (l : List UInt8) (hl : s.data.toList = l) (hz : s.size ≤ 256) (g n lo hi : Nat) (hn : n ≤ s.size) (_hlo : lo ≤ 1000) (_hhi : hi ≤ 1000) (w : World) (hb : Box w g [.string s, .int .i64 n]) :
    Calls Tryd.prog 31 #[.pointer (some ⟨g, 0, none⟩), .int .i64 lo, .int .i64 hi] w (NumPost l s n lo hi w g) := by
  have hs : l.length = s.size := by rw [← hl]; rfl
  obtain ⟨o0, o1, f0, f1⟩ := hb.two
  have hr := runEnd_le l n (by omega)
  have hds := runEnd_digit l n
  have hcv := cut_val s l hl n hn
  have hcb := cut_bt s l hl n (runEnd l n) (by omega)
  have hcs := cut_size s n (runEnd l n) (by omega)
  have hva := value_any (s.extract n (runEnd l n)) _ rfl (fun j hj => by
    rw [hcb j (by omega)]
    exact (digitB_iff _).1 (hds (n + j) (by omega) (by omega)))
  rw [hcv] at hva
  have HA : Hid _ := hva
  clear hva hcv hcb hcs hds
  go_enter Tryd.func31, Tryd.ntmps31
  go_wp2_with fail
  go_loopw [8] (fun p wr => ∃ m : Nat, p = .int .i64 m ∧ n ≤ m ∧ m ≤ s.size ∧ runEnd l m = runEnd l n ∧ w = wr) (fun p _ => s.size - (intOf p).toNat)
  case atStart => exact ⟨n, rfl, Nat.le_refl _, hn, rfl, rfl⟩
  case round =>
    obtain ⟨m, rfl, hm0, hm1, he, rfl⟩ := hrel
    by_cases hdig : m < s.size ∧ 48 ≤ bt l m ∧ bt l m ≤ 57
    · obtain ⟨hlt, h1, h2⟩ := hdig
      have hg := bt_get s m hlt
      rw [hl] at hg
      have hx := runEnd_go l m (by omega) ((digitB_iff _).2 ⟨h1, h2⟩)
      rw [he] at hx
      have HX : Hid _ := hx
      have k1 : (m : Int) < (s.size : Int) := by omega
      clear hx he HA
      generalize bt l m = c at *
      go_wp2_with fail
      exact ⟨⟨m + 1, by go_num, by omega, by omega, HX.out.symm, trivial⟩, by simp [intOf]; omega⟩
    · have hx : runEnd l m = m := by
        by_cases hlt : m < s.size
        · exact runEnd_no l m (by omega) (by
            cases hd : digitB (bt l m) with
            | false => rfl
            | true => exact absurd ⟨hlt, (digitB_iff _).1 hd⟩ hdig)
        · exact runEnd_end l m (by omega)
      have hex : runEnd l n = m := by rw [← he, hx]
      have hva := HA.out
      rw [hex] at hva
      have hnum : numS l n lo hi = match valS l n with | none => none | some v => if lo ≤ v ∧ v ≤ hi then some (v, m) else none := by unfold numS; rw [hex]; rfl
      have HN : Hid _ := hnum
      clear hx he HA hex hnum
      have hcase : ¬ ((m : Int) < (s.size : Int)) ∨ ((m : Int) < (s.size : Int) ∧ ∃ h : m < s.size, (((s[m]'h).toNat : Int) = bt l m ∧ ¬ 48 ≤ bt l m)) ∨ ((m : Int) < (s.size : Int) ∧ ∃ h : m < s.size, (((s[m]'h).toNat : Int) = bt l m ∧ 48 ≤ bt l m ∧ ¬ bt l m ≤ 57)) := by
        by_cases hlt : m < s.size
        · have hg := bt_get s m hlt
          rw [hl] at hg
          by_cases h1 : 48 ≤ bt l m
          · exact .inr (.inr ⟨by omega, hlt, hg, h1, fun h2 => hdig ⟨hlt, h1, h2⟩⟩)
          · exact .inr (.inl ⟨by omega, hlt, hg, h1⟩)
        · exact .inl (by omega)
      clear hdig
      generalize bt l m = c at *
      generalize valS l n = V at *
      rcases hcase with h0 | ⟨h0, h1, h2, h3⟩ | ⟨h0, h1, h2, h3, h4⟩
      all_goals
        rcases V with _ | v
        · have hno : numS l n lo hi = none := HN.out
          have HNO : Hid _ := hno
          clear hno HN
          simp only [valV_none] at hva
          have HV : Hid _ := hva
          clear hva
          go_wp2_with fail
          go_quiet (exact Calls.quiet_of (HV.out _))
          go_wp2_with fail
          go_ret2
          exact NumPost.no HNO.out (hb.moved.drewN _)
        · simp only [valV_some] at hva
          have HV : Hid _ := hva
          clear hva
          by_cases c1 : lo ≤ v
          · have d1 : ¬ ((v : Int) < (lo : Int)) := by omega
            by_cases c2 : v ≤ hi
            · have d2 : ¬ ((hi : Int) < (v : Int)) := by omega
              have hno : numS l n lo hi = some (v, m) := HN.out.trans (if_pos ⟨c1, c2⟩)
              have HNO : Hid _ := hno
              clear hno HN
              go_wp2_with fail
              go_quiet (exact Calls.quiet_of (HV.out _))
              go_wp2_with fail
              go_ret2
              exact NumPost.yes HNO.out (hb.goD _ _ _ rfl)
            · have d2 : (hi : Int) < (v : Int) := by omega
              have hno : numS l n lo hi = none := HN.out.trans (if_neg fun h => c2 h.2)
              have HNO : Hid _ := hno
              clear hno HN
              go_wp2_with fail
              go_quiet (exact Calls.quiet_of (HV.out _))
              go_wp2_with fail
              go_ret2
              exact NumPost.no HNO.out (hb.moved.drewN _)
          · have d1 : (v : Int) < (lo : Int) := by omega
            have hno : numS l n lo hi = none := HN.out.trans (if_neg fun h => c1 h.1)
            have HNO : Hid _ := hno
            clear hno HN
            go_wp2_with fail
            go_quiet (exact Calls.quiet_of (HV.out _))
            go_wp2_with fail
            go_ret2
            exact NumPost.no HNO.out (hb.moved.drewN _)
end Go.Proofs.YtddinknnaakmmabDoor
