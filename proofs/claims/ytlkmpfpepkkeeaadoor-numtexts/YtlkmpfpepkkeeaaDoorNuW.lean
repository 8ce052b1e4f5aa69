/- The document's Text (package capstanref10); the statement NumTexts. -/
import Derived.Test.YtlkmpfpepkkeeaaDoorNuC
import Derived.Test.YtlkmpfpepkkeeaaDoorNuG
import Derived.ProofKit
import Derived.OpenShut
namespace Go.Proofs.YtlkmpfpepkkeeaaDoor
open Go.RowKit

theorem trimZ_zero (q : List UInt8) : trimZ (q ++ [48]) = trimZ q := by
  unfold trimZ
  rw [List.reverse_append, List.reverse_singleton, List.singleton_append, List.dropWhile_cons, if_pos (by rfl)]
theorem trimZ_keep (q : List UInt8) (b : UInt8) (h : b ≠ 48) : trimZ (q ++ [b]) = q ++ [b] := by
  unfold trimZ
  rw [List.reverse_append, List.reverse_singleton, List.singleton_append, List.dropWhile_cons, if_neg (by simpa using h), List.reverse_cons, List.reverse_reverse]
/-- Where the padding stands. -/
def Pad10 (u : Nat) (l : List UInt8) : Prop := ∃ j, l = List.replicate j 48 ++ Lib.decDigits u ∧ j ≤ 7 - Lib.nDigits u
theorem Pad10.more {u : Nat} {l : List UInt8} (h : Pad10 u l) (hl : l.length < 7) : Pad10 u (48 :: l) := by
  obtain ⟨j, rfl, hj⟩ := h
  rw [List.length_append, List.length_replicate, Lib.decDigits_length] at hl
  exact ⟨j + 1, by rw [List.replicate_succ]; rfl, by omega⟩
theorem Pad10.done {u : Nat} {l : List UInt8} (h : Pad10 u l) (hl : ¬ l.length < 7) : l = Lib.decDigits (u / 1000000) ++ digsN 6 u := by
  obtain ⟨j, rfl, hj⟩ := h
  rw [List.length_append, List.length_replicate, Lib.decDigits_length] at hl
  rw [← pad7_eq, pad7, show j = 7 - Lib.nDigits u by omega]
theorem Pad10.len {u : Nat} {l : List UInt8} (h : Pad10 u l) (hu : u < 18446744073709551616) : l.length ≤ 27 := by
  obtain ⟨j, rfl, hj⟩ := h
  have := Lib.nDigits_le20 u hu
  rw [List.length_append, List.length_replicate, Lib.decDigits_length]
  omega
def strLen : Value → Nat
  | .string t => t.size
  | _ => 0
theorem strLen_v (l : List UInt8) : strLen (strV l) = l.length := Lib.size_mk l
theorem minus_head (u : Nat) (h : 0 < (Lib.decDigits u).length) : ((Lib.decDigits u)[0].toNat : Int) ≠ 45 := by
  have := isD_at (Lib.decDigits u) (dec_all u) 0 h
  omega
set_option maxHeartbeats 4000000 in
theorem rText_pos (u : Nat) (hu : u ≤ 9223372036854775808) (hu2 : u < 9223372036854775808) (w : World) (hP : PowAt w) :
    Calls Tryd.prog 13 #[.int .i64 (u : Int)] w fun e w' => e = .returned (strV ([] ++ textN u)) ∧ Below w.heap.size w w' := by
  have f := formatInt_any (u : Int) (by omega) (by omega) w hP
  rw [Lib.itoa_nonneg] at f
  have hd0 : 0 < (Lib.decDigits u).length := by rw [Lib.decDigits_length]; exact Lib.nDigits_pos u
  have hix : ∀ wx, (Instr.index 9 (strV (Lib.decDigits u)) (.int .i64 0)).run Tryd.prog wx = .ok (.int .u8 ((Lib.decDigits u)[0].toNat : Nat)) wx := fun wx => idx_at _ 0 hd0 wx
  have h45 : (((Lib.decDigits u)[0].toNat : Int) == 45) = false := beq_eq_false_iff_ne.2 (minus_head u hd0)
  have H0 : Hid (Pad10 u (Lib.decDigits u)) := (⟨0, rfl, by omega⟩ : Pad10 u (Lib.decDigits u))
  generalize ((Lib.decDigits u)[0].toNat : Int) = b0 at *
  clear hd0
  have hl1 := dec_len (u / 1000000) (by omega)
  have hd6 : (digsN 6 u).length = 6 := digs_len 6 u
  have hpl := plc_len u
  have htx : textN u = if plc u = [] then Lib.decDigits (u / 1000000) else Lib.decDigits (u / 1000000) ++ 46 :: plc u := by
    have hq := plc_nil u
    unfold textN
    by_cases h : u % 1000000 = 0
    · rw [if_pos h, if_pos (hq.2 h)]
    · rw [if_neg h, if_neg (fun e => h (hq.1 e))]
  have hpd : ∀ l, Pad10 u l → l.length ≤ 27 := fun l h => h.len (by omega)
  have hdone : ∀ l, Pad10 u l → ¬ l.length < 7 → l = Lib.decDigits (u / 1000000) ++ digsN 6 u := fun l h => h.done
  have hmore : ∀ l, Pad10 u l → l.length < 7 → Pad10 u (48 :: l) := fun l h => h.more
  have hpc : plc u = trimZ (digsN 6 u) := rfl
  have HPC : Hid _ := hpc
  have HTX : Hid _ := htx
  have HD : Hid _ := hdone
  have HM : Hid _ := hmore
  have HL : Hid _ := hpd
  clear hpc htx hdone hmore hpd
  generalize plc u = pl at *
  generalize textN u = tx at *
  generalize hRR : [] ++ tx = RR at *
  have HRR : Hid _ := hRR
  clear hRR
  generalize Lib.decDigits (u / 1000000) = W at *
  generalize digsN 6 u = D at *
  generalize Lib.decDigits u = ds at *
  go_enter Tryd.func13, Tryd.ntmps13
  go_wp2_with fail
  refine f.mono ?_
  rintro e w1 ⟨rfl, b1⟩
  go_wp2_with fail
  go_loopw [3] (fun s wr => ∃ l : List UInt8, s = strV l ∧ Hid (Pad10 u l) ∧ Below w.heap.size w wr) (fun s _ => 7 - strLen s)
  case atStart => exact ⟨_, rfl, H0, b1⟩
  case round =>
    obtain ⟨l, rfl, hl, bl⟩ := hrel
    have hz := HL.out l hl.out
    by_cases hlt : l.length < 7
    · have h2 : Hid _ := HM.out l hl.out hlt
      have s1 := fun wx => add_str [48] l (by simp) (by omega) wx
      rw [List.singleton_append] at s1
      have k1 : (l.length : Int) < 7 := by omega
      have hm : strLen (strV (48 :: l)) = l.length + 1 := by rw [strLen_v]; rfl
      have hm0 : strLen (strV l) = l.length := strLen_v l
      have HMs : Hid _ := hm
      have HMt : Hid _ := hm0
      clear hl hm hm0
      generalize 48 :: l = l2 at *
      go_wp2_with fail
      go_roundw
      case rel => exact ⟨l2, rfl, h2, bl⟩
      case measure => rw [HMs.out, HMt.out]; omega
    · have e : l = W ++ D := HD.out l hl.out hlt
      have k1 : ¬ (l.length : Int) < 7 := by omega
      have hlen : l.length = W.length + 6 := by rw [e, List.length_append, hd6]
      have sl1 := fun wx => slice_h l W.length (by omega) wx
      have sl2 := fun wx => slice_l l W.length (by omega) wx
      have e1 : l.take W.length = W := by rw [e]; simp
      have e2 : l.drop W.length = D := by rw [e]; simp
      have e3 : (W.length : Int) = (l.length : Int) - 6 := by omega
      rw [e1, e3] at sl1
      rw [e2, e3] at sl2
      have HLen : Hid _ := hlen
      clear hl e e1 e2 e3 hlen
      go_wp2_with fail
      go_loopw [6] (fun s w2 => ∃ q : List UInt8, s = strV q ∧ q.length ≤ 6 ∧ Hid (trimZ q = pl) ∧ Below w.heap.size w w2) (fun s _ => strLen s)
      case atStart => exact ⟨D, rfl, by omega, HPC.out.symm, bl⟩
      case round =>
        clear bl
        obtain ⟨q, rfl, hq6, hq, bl⟩ := hrel
        rcases snoc_cases q with rfl | ⟨a, b, rfl⟩
        · have hR : Hid (RR = [] ++ W) := by
            have e : pl = [] := hq.out.symm
            have := HTX.out
            rw [if_pos e] at this
            exact (by rw [← HRR.out, this] : RR = [] ++ W)
          have s1 := fun wx => add_str [] W (by simp) (by omega) wx
          clear hq
          generalize [] ++ W = R at *
          go_wp2_with fail
          go_ret
          exact ⟨by rw [hR.out]; rfl, bl⟩
        · have hql : (a ++ [b]).length = a.length + 1 := by rw [List.length_append, List.length_singleton]
          have q1 : (a ++ [b]).isEmpty = false := by cases a <;> rfl
          have q2 : ¬ a ++ [b] = [] := by simp
          have hib := fun wx => idx_at (a ++ [b]) a.length (by omega) wx
          have eb : (a ++ [b])[a.length]'(by omega) = b := by rw [List.getElem_append_right (Nat.le_refl _)]; simp
          have e1 : (a.length : Int) = ((a ++ [b]).length : Int) - 1 := by omega
          rw [eb, e1] at hib
          by_cases h48 : b = 48
          · have sla := fun wx => slice_h (a ++ [b]) a.length (by omega) wx
            have e2 : (a ++ [b]).take a.length = a := by simp
            rw [e2, e1] at sla
            have hq2 : Hid (trimZ a = pl) := by
              have := hq.out
              rw [h48, trimZ_zero] at this
              exact this
            have hm : strLen (strV a) < strLen (strV (a ++ [b])) := by rw [strLen_v, strLen_v]; omega
            have HMs : Hid _ := hm
            have bb : (b.toNat : Int) = 48 := by rw [h48]; rfl
            have ha6 : a.length ≤ 6 := by omega
            rw [bb] at hib
            clear hm hq eb e1 e2 bb h48 hql
            generalize a ++ [b] = q at *
            go_wp2_with fail
            go_roundw
            case rel => exact ⟨a, rfl, ha6, hq2, bl⟩
            case measure => exact HMs.out
          · have bb : ((b.toNat : Int) == 48) = false := beq_eq_false_iff_ne.2 (fun e => h48 (UInt8.toNat_inj.1 (by have : (48 : UInt8).toNat = 48 := rfl; omega)))
            have hR : Hid (RR = ([] ++ W ++ [46]) ++ (a ++ [b])) := by
              have e : pl = a ++ [b] := by rw [← hq.out, trimZ_keep a b h48]
              have := HTX.out
              rw [e, if_neg q2] at this
              exact (by rw [← HRR.out, this]; simp : RR = ([] ++ W ++ [46]) ++ (a ++ [b]))
            have s1 := fun wx => add_str [] W (by simp) (by omega) wx
            have s2 := fun wx => add_str ([] ++ W) [46] (by rw [List.length_append]; simp; try omega) (by simp) wx
            have s3 := fun wx => add_str ([] ++ W ++ [46]) (a ++ [b]) (by rw [List.length_append, List.length_append]; simp; omega) (by omega) wx
            clear hq eb e1 h48 hql
            generalize b.toNat = bn at *
            generalize a ++ [b] = q at *
            generalize ([] ++ W ++ [46]) ++ q = R3 at *
            generalize [] ++ W ++ [46] = R2 at *
            generalize [] ++ W = R1 at *
            go_wp2_with fail
            go_ret
            exact ⟨by rw [hR.out]; rfl, bl⟩
set_option maxHeartbeats 4000000 in
theorem rText_neg (u : Nat) (hu : u ≤ 9223372036854775808) (hu1 : 1 ≤ u) (w : World) (hP : PowAt w) :
    Calls Tryd.prog 13 #[.int .i64 (-(u : Int))] w fun e w' => e = .returned (strV ([45] ++ textN u)) ∧ Below w.heap.size w w' := by
  have f := formatInt_any (-(u : Int)) (by omega) (by omega) w hP
  rw [Lib.itoa_neg u hu1] at f
  have hix : ∀ wx, (Instr.index 9 (strV (45 :: Lib.decDigits u)) (.int .i64 0)).run Tryd.prog wx = .ok (.int .u8 45) wx := fun wx => idx_at (45 :: Lib.decDigits u) 0 (by simp) wx
  have hsl : ∀ wx, (Instr.slice 9 (strV (45 :: Lib.decDigits u)) (some (.int .i64 1)) none none).run Tryd.prog wx = .ok (strV (Lib.decDigits u)) wx := fun wx => slice_l (45 :: Lib.decDigits u) 1 (by simp) wx
  have H0 : Hid (Pad10 u (Lib.decDigits u)) := (⟨0, rfl, by omega⟩ : Pad10 u (Lib.decDigits u))
  have hl1 := dec_len (u / 1000000) (by omega)
  have hd6 : (digsN 6 u).length = 6 := digs_len 6 u
  have hpl := plc_len u
  have htx : textN u = if plc u = [] then Lib.decDigits (u / 1000000) else Lib.decDigits (u / 1000000) ++ 46 :: plc u := by
    have hq := plc_nil u
    unfold textN
    by_cases h : u % 1000000 = 0
    · rw [if_pos h, if_pos (hq.2 h)]
    · rw [if_neg h, if_neg (fun e => h (hq.1 e))]
  have hpd : ∀ l, Pad10 u l → l.length ≤ 27 := fun l h => h.len (by omega)
  have hdone : ∀ l, Pad10 u l → ¬ l.length < 7 → l = Lib.decDigits (u / 1000000) ++ digsN 6 u := fun l h => h.done
  have hmore : ∀ l, Pad10 u l → l.length < 7 → Pad10 u (48 :: l) := fun l h => h.more
  have hpc : plc u = trimZ (digsN 6 u) := rfl
  have HPC : Hid _ := hpc
  have HTX : Hid _ := htx
  have HD : Hid _ := hdone
  have HM : Hid _ := hmore
  have HL : Hid _ := hpd
  clear hpc htx hdone hmore hpd
  generalize plc u = pl at *
  generalize textN u = tx at *
  generalize hRR : [45] ++ tx = RR at *
  have HRR : Hid _ := hRR
  clear hRR
  generalize Lib.decDigits (u / 1000000) = W at *
  generalize digsN 6 u = D at *
  generalize 45 :: Lib.decDigits u = ds1 at *
  generalize Lib.decDigits u = ds at *
  go_enter Tryd.func13, Tryd.ntmps13
  go_wp2_with fail
  refine f.mono ?_
  rintro e w1 ⟨rfl, b1⟩
  go_wp2_with fail
  go_loopw [3] (fun s wr => ∃ l : List UInt8, s = strV l ∧ Hid (Pad10 u l) ∧ Below w.heap.size w wr) (fun s _ => 7 - strLen s)
  case atStart => exact ⟨_, rfl, H0, b1⟩
  case round =>
    obtain ⟨l, rfl, hl, bl⟩ := hrel
    have hz := HL.out l hl.out
    by_cases hlt : l.length < 7
    · have h2 : Hid _ := HM.out l hl.out hlt
      have s1 := fun wx => add_str [48] l (by simp) (by omega) wx
      rw [List.singleton_append] at s1
      have k1 : (l.length : Int) < 7 := by omega
      have hm : strLen (strV (48 :: l)) = l.length + 1 := by rw [strLen_v]; rfl
      have hm0 : strLen (strV l) = l.length := strLen_v l
      have HMs : Hid _ := hm
      have HMt : Hid _ := hm0
      clear hl hm hm0
      generalize 48 :: l = l2 at *
      go_wp2_with fail
      go_roundw
      case rel => exact ⟨l2, rfl, h2, bl⟩
      case measure => rw [HMs.out, HMt.out]; omega
    · have e : l = W ++ D := HD.out l hl.out hlt
      have k1 : ¬ (l.length : Int) < 7 := by omega
      have hlen : l.length = W.length + 6 := by rw [e, List.length_append, hd6]
      have sl1 := fun wx => slice_h l W.length (by omega) wx
      have sl2 := fun wx => slice_l l W.length (by omega) wx
      have e1 : l.take W.length = W := by rw [e]; simp
      have e2 : l.drop W.length = D := by rw [e]; simp
      have e3 : (W.length : Int) = (l.length : Int) - 6 := by omega
      rw [e1, e3] at sl1
      rw [e2, e3] at sl2
      have HLen : Hid _ := hlen
      clear hl e e1 e2 e3 hlen
      go_wp2_with fail
      go_loopw [6] (fun s w2 => ∃ q : List UInt8, s = strV q ∧ q.length ≤ 6 ∧ Hid (trimZ q = pl) ∧ Below w.heap.size w w2) (fun s _ => strLen s)
      case atStart => exact ⟨D, rfl, by omega, HPC.out.symm, bl⟩
      case round =>
        clear bl
        obtain ⟨q, rfl, hq6, hq, bl⟩ := hrel
        rcases snoc_cases q with rfl | ⟨a, b, rfl⟩
        · have hR : Hid (RR = [45] ++ W) := by
            have e : pl = [] := hq.out.symm
            have := HTX.out
            rw [if_pos e] at this
            exact (by rw [← HRR.out, this] : RR = [45] ++ W)
          have s1 := fun wx => add_str [45] W (by simp) (by omega) wx
          clear hq
          generalize [45] ++ W = R at *
          go_wp2_with fail
          go_ret
          exact ⟨by rw [hR.out]; rfl, bl⟩
        · have hql : (a ++ [b]).length = a.length + 1 := by rw [List.length_append, List.length_singleton]
          have q1 : (a ++ [b]).isEmpty = false := by cases a <;> rfl
          have q2 : ¬ a ++ [b] = [] := by simp
          have hib := fun wx => idx_at (a ++ [b]) a.length (by omega) wx
          have eb : (a ++ [b])[a.length]'(by omega) = b := by rw [List.getElem_append_right (Nat.le_refl _)]; simp
          have e1 : (a.length : Int) = ((a ++ [b]).length : Int) - 1 := by omega
          rw [eb, e1] at hib
          by_cases h48 : b = 48
          · have sla := fun wx => slice_h (a ++ [b]) a.length (by omega) wx
            have e2 : (a ++ [b]).take a.length = a := by simp
            rw [e2, e1] at sla
            have hq2 : Hid (trimZ a = pl) := by
              have := hq.out
              rw [h48, trimZ_zero] at this
              exact this
            have hm : strLen (strV a) < strLen (strV (a ++ [b])) := by rw [strLen_v, strLen_v]; omega
            have HMs : Hid _ := hm
            have bb : (b.toNat : Int) = 48 := by rw [h48]; rfl
            have ha6 : a.length ≤ 6 := by omega
            rw [bb] at hib
            clear hm hq eb e1 e2 bb h48 hql
            generalize a ++ [b] = q at *
            go_wp2_with fail
            go_roundw
            case rel => exact ⟨a, rfl, ha6, hq2, bl⟩
            case measure => exact HMs.out
          · have bb : ((b.toNat : Int) == 48) = false := beq_eq_false_iff_ne.2 (fun e => h48 (UInt8.toNat_inj.1 (by have : (48 : UInt8).toNat = 48 := rfl; omega)))
            have hR : Hid (RR = ([45] ++ W ++ [46]) ++ (a ++ [b])) := by
              have e : pl = a ++ [b] := by rw [← hq.out, trimZ_keep a b h48]
              have := HTX.out
              rw [e, if_neg q2] at this
              exact (by rw [← HRR.out, this]; simp : RR = ([45] ++ W ++ [46]) ++ (a ++ [b]))
            have s1 := fun wx => add_str [45] W (by simp) (by omega) wx
            have s2 := fun wx => add_str ([45] ++ W) [46] (by rw [List.length_append]; simp; try omega) (by simp) wx
            have s3 := fun wx => add_str ([45] ++ W ++ [46]) (a ++ [b]) (by rw [List.length_append, List.length_append]; simp; omega) (by omega) wx
            clear hq eb e1 h48 hql
            generalize b.toNat = bn at *
            generalize a ++ [b] = q at *
            generalize ([45] ++ W ++ [46]) ++ q = R3 at *
            generalize [45] ++ W ++ [46] = R2 at *
            generalize [45] ++ W = R1 at *
            go_wp2_with fail
            go_ret
            exact ⟨by rw [hR.out]; rfl, bl⟩
theorem rText_any (n : Int) (h0 : -9223372036854775808 ≤ n) (h1 : n ≤ 9223372036854775807) (w : World) (hP : PowAt w) :
    Calls Tryd.prog 13 #[.int .i64 n] w fun e w' => e = .returned (strV (textI n)) ∧ Below w.heap.size w w' := by
  by_cases hn : n < 0
  · obtain ⟨u, rfl⟩ : ∃ u : Nat, n = -(u : Int) := ⟨n.natAbs, by omega⟩
    have et : textI (-(u : Int)) = [45] ++ textN u := by unfold textI; rw [if_pos hn]; simp
    rw [et]
    exact rText_neg u (by omega) (by omega) w hP
  · obtain ⟨u, rfl⟩ : ∃ u : Nat, n = (u : Int) := ⟨n.toNat, by omega⟩
    have et : textI (u : Int) = [] ++ textN u := by unfold textI; rw [if_neg hn]; simp
    rw [et]
    exact rText_pos u (by omega) (by omega) w hP
set_option maxHeartbeats 1000000 in
theorem numTexts_walk (n : Int) (hn : (Lit.int .i64 n).wf = true) (w : World) (hP : PowAt w) :
    Calls Tryd.prog 4 #[.int .i64 n] w fun e w' => e = .returned (.bool true) ∧ Below w.heap.size w w' := by
  have bn := bounds_i64 hn
  have ha := awake_any w hP
  have h1 := fun wx h => Text_any n (by omega) (by omega) wx h
  have h2 := fun wx h => rText_any n (by omega) (by omega) wx h
  generalize textI n = t at *
  clear hn bn
  go_enter Tryd.func4, Tryd.ntmps4
  go_wp2_with fail
  refine ha.mono ?_
  rintro e w1 ⟨rfl, b1⟩
  have hP := hP.later b1
  go_wp2_with fail
  refine (h1 _ hP).mono ?_
  rintro e w2 ⟨rfl, b2⟩
  have hP := hP.later b2
  have b2 := b1.trans (b2.mono b1.size)
  go_wp2_with fail
  refine (h2 _ hP).mono ?_
  rintro e w3 ⟨rfl, b3⟩
  have b3 := b2.trans (b3.mono b2.size)
  go_wp2_with fail
  go_ret
  exact ⟨rfl, b3⟩
end Go.Proofs.YtlkmpfpepkkeeaaDoor
