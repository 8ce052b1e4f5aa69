/- The document's Find and side (package capstanref02). -/
import Derived.Test.YtjmngnnmnbhfpaaDoorRNames
namespace Go.Proofs.YtjmngnnmnbhfpaaDoor
open Go.RowKit

def findI (l : List UInt8) : Option Nat := (List.range 18).find? fun k => nameOf k == l
def placeI (o : Option Nat) : Int := match o with | some k => (k : Int) | none => -1
theorem tab_range : tab = (List.range 18).map fun k => (nameOf k, unitOf k) := by rfl
theorem findS_I (l : List UInt8) : findS l = (findI l).map unitOf := by
  unfold findS findI
  rw [tab_range, List.find?_map, Option.map_map]
  rfl
theorem findI_lt (l : List UInt8) (k : Nat) (h : findI l = some k) : k < 18 := by
  have := List.mem_of_find?_eq_some h
  simpa using this
theorem range_drop (k : Nat) (h : k < 18) : (List.range 18).drop k = k :: (List.range 18).drop (k + 1) := by
  rw [List.drop_eq_getElem_cons (by simpa using h), List.getElem_range]
set_option maxHeartbeats 1000000 in
theorem rFind_any (s : ByteArray) (l : List UInt8) (hl : s.data.toList = l) (w : World) :
    Calls Tryd.prog 44 #[.string s] w fun e w' => e = .returned (.int .i64 (placeI (findI l))) ∧ Below w.heap.size w w' := by
  have hb := Box.new w rAll 53
  have l0 : Below w.heap.size w (w.alloc (.cells rAll.toArray 53)) := (Below.refl _ _).alloc (Nat.le_refl _) _
  go_enter Tryd.func44, Tryd.ntmps44
  go_wp2_with fail
  refine (Names_any _).mono ?_
  rintro e w1 ⟨rfl, rfl⟩
  generalize w.alloc (.cells rAll.toArray 53) = W at *
  go_wp2_with fail
  go_loopw [4] (fun i wr => ∃ k : Nat, i = .int .i64 k ∧ k ≤ 18 ∧ ((List.range 18).drop k).find? (fun j => nameOf j == l) = findI l ∧ W = wr) (fun i _ => 18 - (intOf i).toNat)
  case atStart => exact ⟨0, rfl, by decide, rfl, rfl⟩
  case round =>
    obtain ⟨k, rfl, hk, he, rfl⟩ := hrel
    by_cases hlt : k < 18
    · have m0 := hb.cell (5 * k) _ (rAll_name k hlt)
      have hn : (nameS k).toList = nameOf k := by unfold nameS; rw [ByteArray.toList_mk]
      have hsl : s.toList = l := by rw [ByteArray.toList_eq, hl]
      have k1 : (k : Int) < 18 := by omega
      rw [range_drop k hlt, List.find?_cons] at he
      have m1 : W.cell? ⟨w.heap.size, k * 5, none⟩ = some (.string (nameS k)) := by rw [Nat.mul_comm]; exact m0
      by_cases hq : nameOf k = l
      · have e1 : ((nameS k).toList == s.toList) = true := by rw [hn, hsl, hq]; exact beq_self_eq_true _
        rw [hq, beq_self_eq_true] at he
        have HE : Hid _ := he
        clear he hn hsl
        generalize nameS k = nm at *
        go_wp2_with fail
        go_ret
        exact ⟨by rw [← HE.out]; rfl, l0⟩
      · have e1 : ((nameS k).toList == s.toList) = false := by rw [hn, hsl]; exact beq_eq_false_iff_ne.2 hq
        rw [beq_eq_false_iff_ne.2 hq] at he
        have HE : Hid _ := he
        clear he hn hsl
        generalize nameS k = nm at *
        go_wp2_with fail
        go_roundw
        case rel => exact ⟨k + 1, by go_num, by omega, HE.out, trivial⟩
        case measure => simp [intOf]; omega
    · obtain rfl : k = 18 := by omega
      have HE : Hid _ := he
      clear he
      go_wp2_with fail
      go_ret
      exact ⟨by rw [← HE.out]; rfl, l0⟩

/-- The exponents, one by one; the primes; their product up to one of them. -/
def P3.at (q : P3) : Nat → Int
  | 0 => q.a
  | 1 => q.b
  | _ => q.c
def pr : Nat → Nat
  | 0 => 2
  | 1 => 3
  | _ => 5
def accN (q : P3) : Nat → Nat
  | 0 => 1
  | i + 1 => accN q i * pr i ^ (q.at i).toNat
theorem accN_all (q : P3) : accN q 3 = prN q := by
  simp only [accN, prN, P3.at, pr, Nat.one_mul, Nat.mul_assoc]
theorem pr_pos (i : Nat) : 0 < pr i := by unfold pr; split <;> decide
theorem pr_le (i : Nat) : pr i ≤ 5 := by unfold pr; split <;> decide
theorem accN_mono (q : P3) (i : Nat) : accN q i ≤ accN q (i + 1) := Nat.le_mul_of_pos_right _ (Nat.pow_pos (pr_pos i))
theorem accN_top (q : P3) (i : Nat) (hi : i < 3) (m : Nat) (hm : m ≤ (q.at i).toNat) : accN q i * pr i ^ m ≤ prN q := by
  have h1 : accN q i * pr i ^ m ≤ accN q (i + 1) := Nat.mul_le_mul_left _ (Nat.pow_le_pow_right (pr_pos i) hm)
  have h2 := accN_mono q 1
  have h3 := accN_mono q 2
  rw [← accN_all q]
  rcases (show i = 0 ∨ i = 1 ∨ i = 2 by omega) with rfl | rfl | rfl
  · exact Nat.le_trans h1 (Nat.le_trans h2 h3)
  · exact Nat.le_trans h1 h3
  · exact h1
def sideS (q : P3) : Nat := if prN q ≤ 1000000000000000 then prN q else 1000000000000001
def P3.scale (g : Int) (p : P3) : P3 := ⟨g * p.a, g * p.b, g * p.c⟩
abbrev pCells (p : P3) : List Value := [.int .i64 p.a, .int .i64 p.b, .int .i64 p.c]
theorem pCells_at (p : P3) (i : Nat) (h : i < 3) : (pCells p)[i]? = some (.int .i64 (p.at i)) := by
  rcases (show i = 0 ∨ i = 1 ∨ i = 2 by omega) with rfl | rfl | rfl <;> rfl
abbrev primeCells : List Value := [.int .i64 2, .int .i64 3, .int .i64 5]
theorem primeCells_at (i : Nat) (h : i < 3) : primeCells[i]? = some (.int .i64 (pr i : Nat)) := by
  rcases (show i = 0 ∨ i = 1 ∨ i = 2 by omega) with rfl | rfl | rfl <;> rfl
theorem scale_at (g : Int) (p : P3) (i : Nat) : (p.scale g).at i = g * p.at i := by unfold P3.at P3.scale; split <;> rfl
structure P3.Small (p : P3) : Prop where
  a0 : -1000 ≤ p.a
  a1 : p.a ≤ 1000
  b0 : -1000 ≤ p.b
  b1 : p.b ≤ 1000
  c0 : -1000 ≤ p.c
  c1 : p.c ≤ 1000
theorem P3.Small.at {p : P3} (h : p.Small) (i : Nat) : -1000 ≤ p.at i ∧ p.at i ≤ 1000 := by
  obtain ⟨h1, h2, h3, h4, h5, h6⟩ := h
  unfold P3.at
  split <;> omega

set_option maxHeartbeats 2000000 in
theorem side_any (p : P3) (g : Int) (hg : g = 1 ∨ g = -1) (hp : p.Small) (w : World) :
    Calls Tryd.prog 24 #[.agg #[.int .i64 p.a, .int .i64 p.b, .int .i64 p.c], .int .i64 g] w fun e w' => e = .returned (.int .i64 (sideS (p.scale g) : Nat)) ∧ Below w.heap.size w w' := by
  obtain ⟨pb, qb, l0⟩ := two_boxes w 47 80 (pCells p) primeCells
  go_enter Tryd.func24, Tryd.ntmps24
  go_wp2_with fail
  generalize hW : (w.alloc (.cells (pCells p).toArray 47)).alloc (.cells primeCells.toArray 80) = W at *
  clear hW
  go_loopw [5, 7] (fun n i wr => ∃ k : Nat, i = .int .i64 k ∧ k ≤ 3 ∧ n = .int .i64 (accN (p.scale g) k : Nat) ∧ accN (p.scale g) k ≤ 1000000000000000 ∧ W = wr) (fun _ i _ => 3 - (intOf i).toNat)
  case atStart => exact ⟨0, rfl, by decide, rfl, (show (1 : Nat) ≤ 1000000000000000 by decide), rfl⟩
  case round =>
    obtain ⟨k, rfl, hk, rfl, hM, rfl⟩ := hrel
    by_cases hlt : k < 3
    · have m0 := pb.cell k _ (pCells_at p k hlt)
      have m1 := qb.cell k _ (primeCells_at k hlt)
      have hb := hp.at k
      have k1 : (k : Int) < 3 := by omega
      have htop := accN_top (p.scale g) k hlt
      have hstep : accN (p.scale g) (k + 1) = accN (p.scale g) k * pr k ^ ((p.scale g).at k).toNat := rfl
      rw [scale_at] at htop hstep
      have hpr := pr_pos k
      have hp5 := pr_le k
      have hgb : -1000 ≤ g * p.at k ∧ g * p.at k ≤ 1000 := by rcases hg with rfl | rfl <;> omega
      have hsd : ∀ m : Nat, m ≤ (g * p.at k).toNat → 1000000000000000 < accN (p.scale g) k * pr k ^ m → sideS (p.scale g) = 1000000000000001 := fun m hm h => by
        unfold sideS
        rw [if_neg]
        have := htop m hm
        omega
      have HSD : Hid _ := hsd
      have HST : Hid _ := hstep
      clear hsd hstep htop
      generalize hxx : p.at k = x at *
      clear hxx
      obtain ⟨y, hy⟩ : ∃ y, y = g * x := ⟨_, rfl⟩
      rw [← hy] at hgb HSD HST
      have hyw : g * x = y := hy.symm
      have HY : Hid _ := hyw
      clear hy
      go_wp2_with fail
      go_loopw [5, 8] (fun n j wr => ∃ m : Nat, j = .int .i64 m ∧ m ≤ y.toNat ∧ n = .int .i64 (accN (p.scale g) k * pr k ^ m : Nat) ∧ accN (p.scale g) k * pr k ^ m ≤ 1000000000000000 ∧ W = wr) (fun _ j _ => y.toNat - (intOf j).toNat)
      case atStart => exact ⟨0, rfl, Nat.zero_le _, by rw [Nat.pow_zero, Nat.mul_one], by rw [Nat.pow_zero, Nat.mul_one]; exact hM, rfl⟩
      case round =>
        obtain ⟨m, rfl, hm, rfl, hA, rfl⟩ := hrel
        have hpw : accN (p.scale g) k * pr k ^ (m + 1) = accN (p.scale g) k * pr k ^ m * pr k := by rw [Nat.pow_succ, Nat.mul_assoc]
        have hsd := HSD.out (m + 1)
        rw [hpw] at hsd
        have HPW : Hid _ := hpw
        have hst := HST.out
        clear hpw
        by_cases hmy : m < y.toNat
        · have k2 : (m : Int) < y := by omega
          have hz : accN (p.scale g) k * pr k ^ m * pr k ≤ 1000000000000000 * 5 := Nat.mul_le_mul hA hp5
          generalize hN : accN (p.scale g) k * pr k ^ m = N at *
          have HN : Hid _ := hN
          clear hN hst
          generalize hPP : pr k = P at *
          have HP : Hid _ := hPP
          clear hPP
          have hy := HY.out
          have wr0 : -9223372036854775808 ≤ g * x := by omega
          have wr1 : g * x ≤ 9223372036854775807 := by omega
          have k3 : (m : Int) < g * x := by omega
          have v0 : (N : Int) * (P : Int) = ((N * P : Nat) : Int) := by rw [Int.natCast_mul]
          by_cases hbig : 1000000000000000 < N * P
          · have hs := hsd (by omega) hbig
            have HS : Hid _ := hs
            have b1 : (1000000000000000 : Int) < (N : Int) * (P : Int) := by omega
            have b2 : (N : Int) * (P : Int) ≤ 9223372036854775807 := by omega
            clear hs hsd v0
            go_wp2_with fail
            go_ret
            exact ⟨by rw [HS.out]; rfl, l0⟩
          · have b1 : ¬ (1000000000000000 : Int) < (N : Int) * (P : Int) := by omega
            have V0 : Hid _ := v0
            clear hsd v0
            go_wp2_with fail
            go_roundw
            case rel => exact ⟨m + 1, by go_num, by omega, by rw [V0.out]; rw [HPW.out], by rw [HPW.out]; omega, trivial⟩
            case measure => simp [intOf]; omega
        · have hmm : m = y.toNat := by omega
          rw [← hmm] at hst
          have HS : Hid _ := hst
          have k2 : ¬ (m : Int) < y := by omega
          have hy := HY.out
          have k3 : ¬ (m : Int) < g * x := by omega
          have wr0 : -9223372036854775808 ≤ g * x := by omega
          have wr1 : g * x ≤ 9223372036854775807 := by omega
          clear hst hsd
          generalize hN : accN (p.scale g) k * pr k ^ m = N at *
          have HN : Hid _ := hN
          clear hN
          go_wp2_with fail
          go_roundw
          case rel => exact ⟨k + 1, by go_num, by omega, by rw [HS.out], by rw [HS.out]; exact hA, trivial⟩
          case measure => simp [intOf]; omega
    · obtain rfl : k = 3 := by omega
      have hs : sideS (p.scale g) = accN (p.scale g) 3 := by
        unfold sideS
        rw [accN_all] at hM ⊢
        rw [if_pos hM]
      have HS : Hid _ := hs
      clear hs
      go_wp2_with fail
      go_ret
      exact ⟨by rw [HS.out]; rfl, l0⟩
end Go.Proofs.YtjmngnnmnbhfpaaDoor
