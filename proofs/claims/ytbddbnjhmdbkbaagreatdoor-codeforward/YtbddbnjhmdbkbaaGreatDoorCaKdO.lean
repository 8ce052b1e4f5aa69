/- Package code: height. -/
import Derived.Test.YtbddbnjhmdbkbaaGreatDoorCaKdF
import Derived.Test.YtbddbnjhmdbkbaaGreatDoorCaMgP
namespace Go.Proofs.YtbddbnjhmdbkbaaGreatDoor
open Go.RowKit

set_option maxHeartbeats 2000000 in
set_option maxRecDepth 20000 in
theorem beneath_c (t : Co) (i : Nat) (x : Co) (hx : t.parts[i]? = some x) (hi : i ≤ 1000000) (v : Value) (w : World) (hs : CSits w t v) :
    Calls Tryz.prog 126 #[coV t v, .int .i64 (i : Nat)] w fun e w' => e = .returned (.int .i64 (benF t.op i x.op : Nat)) ∧ Below w.heap.size w w' := by
  obtain ⟨hil, rfl⟩ := List.getElem?_eq_some_iff.1 hx
  obtain ⟨b, off, cap, rfl, k1, k2, hbl, hp⟩ := hs.parts.open (by omega)
  obtain ⟨u, f, -⟩ := hp i hil
  have hlt : (i : Int) < (t.parts.length : Int) := by omega
  obtain ⟨R, hR⟩ : ∃ R, Hid (R = benF t.op i t.parts[i].op) := ⟨_, chid rfl⟩
  rw [← hR.out]
  clear hx hs hp k1
  generalize t.parts[i] = x at *
  clear hil
  generalize t.parts.length = N at *
  obtain ⟨o, n, m, P⟩ := t
  have HR : Hid (R = benF o i x.op) := hR
  clear hR
  have HB := chid ((Below.refl w.heap.size w).alloc (Nat.le_refl _) (.cells #[.int .i64 o, .int .i64 n, .int .i64 m, .slice (some ⟨b, off, none⟩) N cap] 30))
  have y0 := (HB.out.cell (p := ⟨b, off + i * 4, none⟩) hbl).trans f.c0
  have lb : b < (w.alloc (.cells #[.int .i64 o, .int .i64 n, .int .i64 m, .slice (some ⟨b, off, none⟩) N cap] 30)).heap.size := Nat.lt_of_lt_of_le hbl HB.out.size
  have Y0 := Box.new w [.int .i64 o, .int .i64 n, .int .i64 m, .slice (some ⟨b, off, none⟩) N cap] 30
  have x0 := Y0.cell 0 _ rfl
  have x3 := Y0.cell 3 _ rfl
  have xl := Y0.lt
  have HX : Hid (w.heap.size < (w.alloc (.cells #[.int .i64 o, .int .i64 n, .int .i64 m, .slice (some ⟨b, off, none⟩) N cap] 30)).heap.size) := chid xl
  clear f Y0 hbl
  generalize x.op = xo at *
  by_cases h1 : 14 ≤ o ∧ o ≤ 24
  · have h14 : decide (14 ≤ o) = true := by simp; omega
    have h24 : decide (o ≤ 24) = true := by simp; omega
    have ha : 14 ≤ o := h1.1
    have hb : o ≤ 24 := h1.2
    have hr : Hid (R = i) := chid (by rw [HR.out]; exact if_pos h1)
    clear h1
    go_enter Tryz.func126, Tryz.ntmps126
    go_wp2_with fail
    go_ret
    rw [hr.out]
    exact ⟨rfl, HB.out⟩
  · by_cases h2 : o = 32
    · subst h2
      by_cases h3 : 0 < i
      · have h3' : (0 : Int) < (i : Int) := by omega
        by_cases h4 : xo = 1
        · subst h4
          have hr : Hid (R = 2) := chid (by rw [HR.out]; unfold benF; rw [if_neg (by decide), if_pos ⟨rfl, h3, rfl⟩])
          clear h1 HR
          go_enter Tryz.func126, Tryz.ntmps126
          go_wp2_with fail
          go_ret
          rw [hr.out]
          exact ⟨rfl, HB.out⟩
        · have h4' : (xo == 1) = false := by simpa using h4
          have hr : Hid (R = 0) := chid (by rw [HR.out]; unfold benF; rw [if_neg (by decide), if_neg (fun h => h4 h.2.2)])
          clear h1 HR
          go_enter Tryz.func126, Tryz.ntmps126
          go_wp2_with fail
          go_ret
          rw [hr.out]
          exact ⟨rfl, HB.out⟩
      · obtain rfl : i = 0 := by omega
        have hr : Hid (R = 0) := chid (by rw [HR.out]; unfold benF; rw [if_neg (by decide), if_neg (fun h => by omega)])
        clear h1 h3 HR
        go_enter Tryz.func126, Tryz.ntmps126
        go_wp2_with fail
        go_ret
        rw [hr.out]
        exact ⟨rfl, HB.out⟩
    · have h2' : (o == 32) = false := by simpa using h2
      have hr : Hid (R = 0) := chid (by rw [HR.out]; unfold benF; rw [if_neg h1, if_neg (fun h => h2 h.1)])
      clear HR
      by_cases h3 : 14 ≤ o
      · have h14 : decide (14 ≤ o) = true := by simp; omega
        have h24 : decide (o ≤ 24) = false := by simp; omega
        have hb : ¬ o ≤ 24 := by omega
        clear h1
        go_enter Tryz.func126, Tryz.ntmps126
        go_wp2_with fail
        go_ret
        rw [hr.out]
        exact ⟨rfl, HB.out⟩
      · have h14 : decide (14 ≤ o) = false := by simp; omega
        clear h1
        go_enter Tryz.func126, Tryz.ntmps126
        go_wp2_with fail
        go_ret
        rw [hr.out]
        exact ⟨rfl, HB.out⟩
end Go.Proofs.YtbddbnjhmdbkbaaGreatDoor
