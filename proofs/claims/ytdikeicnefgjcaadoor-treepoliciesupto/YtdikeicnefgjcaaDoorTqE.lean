/- Package tree: endsWithDecide, all over formedItem. -/
import Derived.Test.YtdikeicnefgjcaaDoorTqD
namespace Go.Proofs.YtdikeicnefgjcaaDoor
open Go.RowKit

set_option maxRecDepth 20000 in
set_option maxHeartbeats 2000000 in
theorem allFormed_c {z : Nat} (hz : z ≤ 562949953421312) (l : List It) (v : Value) (w : World) (hl : IAt z w v l) (hT : TabsAt w) (hn : l.length ≤ 1048576) :
    Calls Tryd.prog 42 #[v, .func (.func 43) #[] #[]] w fun e w' => e = .returned (.bool (l.all itemB)) ∧ Below w.heap.size w w' := by
  have HL := hid2 hl
  have HF := hid2 (fun i vx vy wx (hb : Below w.heap.size w wx) (h : ItAt z wx i vx vy) => formedItem_c hz i vx vy wx h (hT.next hb))
  obtain ⟨ad, cap, rfl, hc1, hc2⟩ := hl.shape
  obtain ⟨N, hN⟩ : ∃ N, Hid (N = l.length) := ⟨_, rfl⟩
  obtain ⟨r, hr⟩ : ∃ r : Bool, Hid (r = l.all itemB) := ⟨_, rfl⟩
  rw [← hr.out]
  rw [← hN.out] at hc1 hn HL ⊢
  clear hl hT
  obtain ⟨m, hm⟩ : ∃ m : Nat, Hid (m = 19) := ⟨_, rfl⟩
  have zs : ∀ w, (sizeOf 32).run Tryd.prog w = .ok m w := by rw [hm.out]; exact Tryd.sizeOf32
  have zm : (19 = m) = True := eq_true hm.out.symm
  go_enter Tryd.func42, Tryd.ntmps42
  go_wp2_with fail
  go_loopw [9] (fun i wr => ∃ j : Nat, i = .int .i64 (j : Nat) ∧ j ≤ N ∧ Hid ((l.take j).all itemB = true) ∧ Hid (Below w.heap.size w wr)) (fun i _ => match i with | .int _ p => ((N : Int) - p).toNat | _ => 0)
  case atStart => exact ⟨0, rfl, by omega, hid2 (by simp), Below.refl _ _⟩
  case round =>
    obtain ⟨j, rfl, hj, HJ, HB⟩ := hrel
    by_cases hlt : j < N
    · have hlt' : (j : Int) < (N : Int) := by omega
      have h1 : j < l.length := by rw [← hN.out]; exact hlt
      obtain ⟨b, off, cq, hv, -, -, hbl, hxs⟩ := HL.out.open (by omega)
      rw [← hN.out] at hv
      simp only [Value.slice.injEq] at hv
      obtain ⟨rfl, -, rfl⟩ := hv
      obtain ⟨vx, vy, hcs, hit⟩ := hxs j h1
      have lb : b < wr.heap.size := Nat.lt_of_lt_of_le hbl HB.out.size
      obtain ⟨X, hX⟩ : ∃ X : Array Value, Hid (X = (itC l[j] vx vy).toArray) := ⟨_, hid2 rfl⟩
      have s1 : X.size = 19 := by rw [hX.out]; rfl
      have ldA := ld_at (w := wr) (b := b) (o := off + j * m) (fun q u hu => by rw [hm.out]; exact (HB.out.cell (p := ⟨b, off + j * 19 + q, none⟩) hbl).trans (hcs q u hu)) hX.out (hm.out.trans (show 19 = _ from rfl))
      have stA := st_it wr s1 (by rw [hX.out]; exact itC_one hit)
      have X0 := Box.new wr (itC l[j] vx vy) 32
      have HA : Hid (Below w.heap.size w (wr.alloc (.cells X 32))) := HB.out.alloc HB.out.size _
      have hit2 := hit.next HA.out
      rw [show (itC l[j] vx vy).toArray = X from hX.out.symm] at X0
      have ldC := ld_bx X0 hX.out (hm.out.trans (show 19 = _ from rfl))
      unfold zeroI at stA

      have HC : Hid (Calls Tryd.prog 43 #[.agg X] (wr.alloc (.cells X 32)) fun e w' => e = .returned (.bool (itemB l[j])) ∧ Hid (Below w.heap.size w w')) := by
        have := HF.out l[j] vx vy _ HA.out hit2
        rw [show itA l[j] vx vy = .agg X by rw [hX.out]] at this
        exact this.mono fun e w' h => ⟨h.1, below_on HA.out h.2 HA.out.size⟩
      have HT : Hid ((l.take (j + 1)).all itemB = itemB l[j]) := by
        show _ = _
        rw [List.take_succ_eq_append_getElem h1, List.all_append, HJ.out]
        simp
      have HD : Hid (itemB l[j] = false → r = false) := fun h => by
        rw [hr.out]
        exact List.all_eq_false.2 ⟨l[j], List.getElem_mem h1, by rw [h]; decide⟩
      clear hcs hit hxs hX X0 hit2 HA
      generalize itemB l[j] = q at *
      clear h1
      go_wp2_with fail
      refine Calls.mono HC.out ?_
      rintro e w1 ⟨rfl, B1⟩
      clear HC ldA stA ldC
      cases q
      · obtain rfl := HD.out rfl
        go_wp2_with fail
        go_ret
        exact ⟨rfl, B1.out⟩
      · go_wp2_with fail
        go_roundw
        case rel => exact ⟨j + 1, by go_num, by omega, HT, B1⟩
        case measure => simp; omega
    · have hlt' : ¬ (j : Int) < (N : Int) := by omega
      have e1 : l.take j = l := List.take_of_length_le (by have := hN.out; omega)
      rw [e1, ← hr.out] at HJ
      have rt := HJ.out
      subst rt
      go_wp2_with fail
      go_ret
      exact ⟨rfl, HB.out⟩
theorem ends_drop {l : List It} {j : Nat} (h : j < l.length) : endsB (l.drop j) = if l[j].kind = 7 then decide (j + 1 = l.length) else endsB (l.drop (j + 1)) := by
  rw [List.drop_eq_getElem_cons h, endsB]
  by_cases hk : l[j].kind = 7
  · rw [if_pos hk, if_pos hk]
    refine Bool.eq_iff_iff.2 ?_
    simp
    omega
  · rw [if_neg hk, if_neg hk]
set_option maxRecDepth 20000 in
set_option maxHeartbeats 2000000 in
theorem ends_c {z : Nat} (l : List It) (v : Value) (w : World) (hl : IAt z w v l) (hn : l.length ≤ 1048576) :
    Calls Tryd.prog 40 #[v] w fun e w' => e = .returned (.bool (endsB l)) ∧ Below w.heap.size w w' := by
  have HL := hid2 hl
  obtain ⟨ad, cap, rfl, hc1, hc2⟩ := hl.shape
  obtain ⟨N, hN⟩ : ∃ N, Hid (N = l.length) := ⟨_, rfl⟩
  obtain ⟨r, hr⟩ : ∃ r : Bool, Hid (r = endsB l) := ⟨_, rfl⟩
  rw [← hr.out]
  rw [← hN.out] at hc1 hn HL ⊢
  clear hl
  obtain ⟨m, hm⟩ : ∃ m : Nat, Hid (m = 19) := ⟨_, rfl⟩
  have zs : ∀ w, (sizeOf 32).run Tryd.prog w = .ok m w := by rw [hm.out]; exact Tryd.sizeOf32
  have zm : (19 = m) = True := eq_true hm.out.symm
  go_enter Tryd.func40, Tryd.ntmps40
  go_wp2_with fail
  go_loopw [7] (fun i wr => ∃ j : Nat, i = .int .i64 (j : Nat) ∧ j ≤ N ∧ Hid (r = endsB (l.drop j)) ∧ Hid (Below w.heap.size w wr)) (fun i _ => match i with | .int _ p => ((N : Int) - p).toNat | _ => 0)
  case atStart => exact ⟨0, rfl, by omega, hr, Below.refl _ _⟩
  case round =>
    obtain ⟨j, rfl, hj, HJ, HB⟩ := hrel
    by_cases hlt : j < N
    · have hlt' : (j : Int) < (N : Int) := by omega
      have h1 : j < l.length := by rw [← hN.out]; exact hlt
      obtain ⟨b, off, cq, hv, -, -, hbl, hxs⟩ := HL.out.open (by omega)
      rw [← hN.out] at hv
      simp only [Value.slice.injEq] at hv
      obtain ⟨rfl, -, rfl⟩ := hv
      obtain ⟨vx, vy, hcs, hit⟩ := hxs j h1
      have lb : b < wr.heap.size := Nat.lt_of_lt_of_le hbl HB.out.size
      obtain ⟨X, hX⟩ : ∃ X : Array Value, Hid (X = (itC l[j] vx vy).toArray) := ⟨_, hid2 rfl⟩
      have s1 : X.size = 19 := by rw [hX.out]; rfl
      have ldA := ld_at (w := wr) (b := b) (o := off + j * m) (fun q u hu => by rw [hm.out]; exact (HB.out.cell (p := ⟨b, off + j * 19 + q, none⟩) hbl).trans (hcs q u hu)) hX.out (hm.out.trans (show 19 = _ from rfl))
      have stA := st_it wr s1 (by rw [hX.out]; exact itC_one hit)
      have X0 := Box.new wr (itC l[j] vx vy) 32
      have HA : Hid (Below w.heap.size w (wr.alloc (.cells X 32))) := HB.out.alloc HB.out.size _
      have hit2 := hit.next HA.out
      rw [show (itC l[j] vx vy).toArray = X from hX.out.symm] at X0
      have ldC := ld_bx X0 hX.out (hm.out.trans (show 19 = _ from rfl))
      unfold zeroI at stA

      have k0 := X0.cell 0 _ rfl
      have HE := hid2 (HJ.out.trans (ends_drop h1))
      clear hcs hit hxs hX X0 hit2 ldC HJ
      generalize l[j] = x at *
      clear h1
      by_cases hk : x.kind = 7
      · have HR : Hid (r = decide (j + 1 = N)) := by show _ = _; rw [HE.out, if_pos hk, hN.out]
        have d7 : (x.kind == 7) = true := by simp [hk]
        have hd : ((j : Int) == (N : Int) - 1) = r := by
          rw [HR.out]
          refine Bool.eq_iff_iff.2 ?_
          simp
          omega
        clear HE hk
        go_wp2_with fail
        go_ret
        exact ⟨rfl, HA.out⟩
      · have HR : Hid (r = endsB (l.drop (j + 1))) := by show _ = _; rw [HE.out, if_neg hk]
        have d7 : (x.kind == 7) = false := by simp [hk]
        clear HE hk
        go_wp2_with fail
        go_roundw
        case rel => exact ⟨j + 1, by go_num, by omega, HR, HA⟩
        case measure => simp; omega
    · have hlt' : ¬ (j : Int) < (N : Int) := by omega
      have e1 : l.drop j = [] := List.drop_eq_nil_of_le (by have := hN.out; omega)
      rw [e1] at HJ
      have rt : r = false := HJ.out
      subst rt
      go_wp2_with fail
      go_ret
      exact ⟨rfl, HB.out⟩
end Go.Proofs.YtdikeicnefgjcaaDoor
