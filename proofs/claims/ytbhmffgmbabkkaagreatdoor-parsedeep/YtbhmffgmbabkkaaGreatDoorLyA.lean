/- The document's answer: reserved words. -/
import Derived.Test.YtbhmffgmbabkkaaGreatDoorLxB
import Derived.Test.YtbhmffgmbabkkaaGreatDoorScX
import Derived.Test.YtbhmffgmbabkkaaGreatDoorMgS
import Derived.Test.YtbhmffgmbabkkaaGreatDoorMoM
namespace Go.Proofs.YtbhmffgmbabkkaaGreatDoor
open Go.RowKit Go.Lib

def wordV : List Value := words.map fun l => .string (ofL l)
set_option maxHeartbeats 2000000 in
set_option maxRecDepth 20000 in
theorem words_c (w : World) : Calls Tryz.prog 122 #[] w fun e w' => e = .returned (.slice (some ⟨w.heap.size, 0, none⟩) 35 35) ∧ Box w' w.heap.size wordV ∧ Below w.heap.size w w' := by
  go_enter Tryz.func122, Tryz.ntmps122
  go_wp2_with fail
  go_ret
  exact ⟨rfl, Box.new w wordV _, (Below.refl _ _).alloc (Nat.le_refl _) _⟩
theorem wordV_get (j : Nat) (hj : j < 35) : ∃ l, words[j]? = some l ∧ wordV[j]? = some (.string (ofL l)) := by
  have h : j < words.length := hj
  refine ⟨words[j], List.getElem?_eq_getElem h, ?_⟩
  unfold wordV
  rw [List.getElem?_map, List.getElem?_eq_getElem h]
  rfl
theorem has_drop {j : Nat} {l x : List UInt8} (h : words[j]? = some l) : (words.drop j).contains x = (x == l || (words.drop (j + 1)).contains x) := by
  obtain ⟨hj, e⟩ := List.getElem?_eq_some_iff.1 h
  rw [List.drop_eq_getElem_cons hj, e, List.contains_cons]
set_option maxHeartbeats 2000000 in
theorem rReserved_c (t : ByteArray) (w : World) : Calls Tryz.prog 76 #[.string t] w fun e w' => e = .returned (.bool (resv t.data.toList)) ∧ Below w.heap.size w w' := by
  obtain ⟨r, hr⟩ : ∃ r : Bool, Hid (r = resv t.data.toList) := ⟨_, rfl⟩
  rw [← hr.out]
  have HW := hid2 (words_c w)
  go_enter Tryz.func76, Tryz.ntmps76
  go_wp2_with fail
  refine Calls.mono HW.out ?_
  rintro e w1 ⟨rfl, hb, b1⟩
  have HB := hid2 hb
  have B1 := hid2 b1
  have hg : w.heap.size < w1.heap.size := hb.lt
  clear hb b1 HW
  go_wp2_with fail
  go_loop [4] (fun s3 => ∃ j : Nat, s3 = .int .i64 (j : Nat) ∧ j ≤ 35 ∧ Hid (r = (words.drop j).contains t.data.toList)) (fun s3 => 35 - (RowKit.intOf s3).toNat)
  case atStart => exact ⟨0, rfl, by omega, hr⟩
  case round =>
    obtain ⟨j, rfl, hj, HR⟩ := hrel
    clear hr
    by_cases hlt : j < 35
    · have hlt2 : (j : Int) < 35 := by omega
      obtain ⟨l, h1, h2⟩ := wordV_get j hlt
      have hc := HB.out.cell j _ h2
      have hR := HR.out
      rw [has_drop h1] at hR
      have hE : Hid (r = ((ofL l).toList == t.toList || (words.drop (j + 1)).contains t.data.toList)) := by
        show r = _
        rw [hR, Lib.toList_data, Lib.toList_data]
        congr 1
        show (t.data.toList == l) = (l == t.data.toList)
        rw [Bool.eq_iff_iff, beq_iff_eq, beq_iff_eq]
        exact eq_comm
      generalize ofL l = c at *
      clear h1 h2 hR HR
      cases hq : (c.toList == t.toList) with
      | true =>
        have hR2 : r = true := by rw [hE.out, hq]; rfl
        clear hE
        subst hR2
        go_wp2_with fail
        go_ret
        exact ⟨rfl, B1.out⟩
      | false =>
        have hR2 : Hid (r = (words.drop (j + 1)).contains t.data.toList) := by show r = _; rw [hE.out, hq]; rfl
        clear hE
        go_wp2_with fail
        go_round
        case rel => exact ⟨j + 1, by go_num, by omega, hR2⟩
        case measure => simp [RowKit.intOf]; omega
    · obtain rfl : j = 35 := by omega
      have hR2 : r = false := by rw [HR.out]; rfl
      subst hR2
      clear HR
      go_wp2_with fail
      go_ret
      exact ⟨rfl, B1.out⟩
theorem own_box {w : World} {B size : Nat} {e : TypeId} {v : Value} {n : Nat} {xs : List Value} (h : w.ownsRow B e size v n xs) : (v = .slice none 0 0 ∧ n = 0) ∨ ∃ g cap, v = .slice (some ⟨g, 0, none⟩) n cap ∧ B ≤ g ∧ Box w g xs := by
  obtain ⟨h1, ⟨h2, h3⟩ | ⟨g, cap, cur, h2, h3, h4, h5, h6, h7, h8⟩⟩ := h
  · exact .inl ⟨h2, h3⟩
  · exact .inr ⟨g, cap, h2, h3, (Box.ofBlock h4).part (by rw [← h8]; exact List.take_prefix _ _)⟩
/-- What the document's IsName answers. -/
def rN (s : ByteArray) : Bool := decide ((sd 10 11 s (rs s 0)).2 = 0) && (decide (1 ≤ (rs s 0).length) && (decide ((rs s 0).length ≤ 32) && (isC (((rs s 0).headD (0, 0)).1 : Nat) 1 && ((rs s 0).all (fun q => isC (q.1 : Nat) 3) && !(resv s.data.toList)))))
set_option maxHeartbeats 4000000 in
theorem rIsName_c (s : ByteArray) (hz : s.size ≤ 1048576) (w : World) : Calls Tryz.prog 43 #[.string s] w fun e w' => e = .returned (.bool (rN s)) ∧ Below w.heap.size w w' := by
  obtain ⟨r, hr⟩ : ∃ r : Bool, Hid (r = rN s) := ⟨_, rfl⟩
  rw [← hr.out]
  unfold rN at hr
  have HP := hid2 (pieces_c s hz w)
  have HR := hid2 (fun wx => rReserved_c s wx)
  have HI := hid2 (fun (q c : Int) wx => rIs_c q c wx)
  go_enter Tryz.func43, Tryz.ntmps43
  go_wp2_with fail
  refine Calls.mono HP.out ?_
  rintro e w1 ⟨⟨v, rfl, hv⟩, b1⟩
  have B1 := hid2 b1
  generalize (sd 10 11 s (rs s 0)).1 = pl at *
  generalize (sd 10 11 s (rs s 0)).2 = er at *
  clear HP b1
  by_cases he : er = 0
  · rw [if_pos he] at hv
    subst he
    generalize resv s.data.toList = rv at *
    generalize rs s 0 = P at *
    rcases own_box hv with ⟨rfl, h0⟩ | ⟨g, cap, rfl, _, hb⟩
    · have hP : P = [] := List.eq_nil_of_length_eq_zero h0
      subst hP
      have hr2 : r = false := by rw [hr.out]; rfl
      subst hr2
      clear hr hv
      go_wp2_with fail
      go_ret
      exact ⟨rfl, B1.out⟩
    · cases P with
      | nil =>
        have hr2 : r = false := by rw [hr.out]; rfl
        subst hr2
        clear hr hv
        go_wp2_with fail
        go_ret
        exact ⟨rfl, B1.out⟩
      | cons q Q =>
        have HB := hid2 hb
        have bl := hb.lt
        have c0 := (hb.cell 0 _ rfl : w1.cell? ⟨g, 0, none⟩ = some (.int .i64 (q.1 : Nat)))
        have hl0 : ¬ (((q :: Q).length : Nat) : Int) < 1 := by simp; omega
        have HQ : Hid ((q :: Q).length = (q :: Q).length) := rfl
        generalize hLL : (q :: Q) = P at *
        generalize hLn : P.length = ln at *
        clear hv hb
        by_cases h32 : ln ≤ 32
        · have h33 : ¬ (32 : Int) < (ln : Int) := by omega
          have hr3 := hr.out
          rw [← hLL] at hr3
          simp only [List.headD_cons, decide_true, Bool.true_and] at hr3
          rw [hLL, decide_eq_true (show 1 ≤ ln by omega), decide_eq_true h32, Bool.true_and, Bool.true_and] at hr3
          have HR3 := hid2 hr3
          clear hr hr3 HQ
          go_wp2_with fail
          refine Calls.mono (HI.out _ _ _) ?_
          rintro e w2 ⟨rfl, rfl⟩
          cases hq : isC ((q.1 : Nat) : Int) 1 with
          | false =>
            have hr2 : r = false := by rw [HR3.out, hq]; rfl
            subst hr2
            clear HR3 hq
            go_wp2_with fail
            go_ret
            exact ⟨rfl, B1.out⟩
          | true =>
            have hr2 : Hid (r = ((P.drop 0).all (fun q => isC (q.1 : Nat) 3) && !rv)) := by show r = _; rw [HR3.out, hq]; rfl
            clear HR3 hq
            go_wp2_with fail
            go_loop [6] (fun s6 => ∃ j : Nat, s6 = .int .i64 (j : Nat) ∧ j ≤ ln ∧ Hid (r = ((P.drop j).all (fun q => isC (q.1 : Nat) 3) && !rv))) (fun s6 => ln - (RowKit.intOf s6).toNat)
            case atStart => exact ⟨0, rfl, by omega, hr2⟩
            case round =>
              obtain ⟨j, rfl, hj, HJ⟩ := hrel
              clear hr2
              by_cases hlt : j < ln
              · have hlt2 : (j : Int) < (ln : Int) := by omega
                have hj2 : j < P.length := by omega
                have hget : (toI P)[j]? = some (((P[j].1 : Nat) : Int), ((P[j].2 : Nat) : Int)) := by
                  show (P.map _)[j]? = _
                  rw [List.getElem?_map, List.getElem?_eq_getElem hj2]
                  rfl
                have hc := HB.out.cell (2 * j) _ (pcs_get _ _ _ hget).1
                have hR := HJ.out
                rw [List.drop_eq_getElem_cons hj2, List.all_cons] at hR
                have HRR := hid2 hR
                rw [Nat.mul_comm] at hc
                generalize P[j].1 = pr at *
                clear hR HJ hget c0
                go_wp2_with fail
                refine Calls.mono (HI.out _ _ _) ?_
                rintro e w3 ⟨rfl, rfl⟩
                cases hq : isC ((pr : Nat) : Int) 3 with
                | false =>
                  have hr2 : r = false := by rw [HRR.out, hq]; rfl
                  subst hr2
                  clear HRR hq
                  go_wp2_with fail
                  go_ret
                  exact ⟨rfl, B1.out⟩
                | true =>
                  have hr2 : Hid (r = ((P.drop (j + 1)).all (fun q => isC (q.1 : Nat) 3) && !rv)) := by show r = _; rw [HRR.out, hq]; rfl
                  clear HRR hq
                  go_wp2_with fail
                  go_round
                  case rel => exact ⟨j + 1, by go_num, by omega, hr2⟩
                  case measure => simp [RowKit.intOf]; omega
              · obtain rfl : j = ln := by omega
                have hr3 : r = !rv := by rw [HJ.out, List.drop_of_length_le (by omega)]; rfl
                subst hr3
                clear HJ
                go_wp2_with fail
                refine Calls.mono (HR.out _) ?_
                rintro e w3 ⟨rfl, b3⟩
                go_wp2_with fail
                go_ret
                exact ⟨rfl, below_on B1.out b3 B1.out.size⟩
        · have h33 : (32 : Int) < (ln : Int) := by omega
          have hr2 : r = false := by rw [hr.out, decide_eq_false h32]; simp
          subst hr2
          clear hr
          go_wp2_with fail
          go_ret
          exact ⟨rfl, B1.out⟩
  · have he2 : (er != 0) = true := by simpa using he
    have hr2 : r = false := by rw [hr.out, decide_eq_false he]; rfl
    rw [if_neg he] at hv
    subst hv hr2
    clear hr
    go_wp2_with fail
    go_ret
    exact ⟨rfl, B1.out⟩
end Go.Proofs.YtbhmffgmbabkkaaGreatDoor
