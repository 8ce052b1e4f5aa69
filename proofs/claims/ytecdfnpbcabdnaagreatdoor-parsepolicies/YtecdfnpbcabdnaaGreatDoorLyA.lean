/- The document's answer: reserved words. -/
import Derived.Test.YtecdfnpbcabdnaaGreatDoorLxB
import Derived.Test.YtecdfnpbcabdnaaGreatDoorScX
import Derived.Test.YtecdfnpbcabdnaaGreatDoorLxJ
import Derived.Test.YtecdfnpbcabdnaaGreatDoorMoM
namespace Go.Proofs.YtecdfnpbcabdnaaGreatDoor
open Go.RowKit Go.Lib

def wordV : List Value := words.map fun l => .string (ofL l)
set_option maxHeartbeats 2000000 in
set_option maxRecDepth 20000 in
theorem words_c (w : World) : Calls Tryz.prog 106 #[] w fun e w' => e = .returned (.slice (some ⟨w.heap.size, 0, none⟩) 35 35) ∧ Box w' w.heap.size wordV ∧ Below w.heap.size w w' := by
  go_enter Tryz.func106, Tryz.ntmps106
  go_wp2_with fail
  go_ret
  exact ⟨rfl, Box.new w wordV _, (Below.refl _ _).alloc (Nat.le_refl _) _⟩
theorem wordV_get (j : Nat) (hj : j < 35) : ∃ l, words[j]? = some l ∧ wordV[j]? = some (.string (ofL l)) := by
  have h : j < words.length := hj
  refine ⟨words[j], List.getElem?_eq_getElem h, ?_⟩
  unfold wordV
  rw [List.getElem?_map, List.getElem?_eq_getElem h]
  rfl
theorem has_drop {j : Nat} {l x : List UInt8} (h : words[j]? = some l) : (words.drop j).contains x = (x == l || (words.drop (j + 1)).contains x) := by
  obtain ⟨hj, e⟩ := List.getElem?_eq_some_iff.1 h
  rw [List.drop_eq_getElem_cons hj, e, List.contains_cons]
set_option maxHeartbeats 2000000 in
theorem rReserved_c (t : ByteArray) (w : World) : Calls Tryz.prog 83 #[.string t] w fun e w' => e = .returned (.bool (resv t.data.toList)) ∧ Below w.heap.size w w' := by
  obtain ⟨r, hr⟩ : ∃ r : Bool, Hid (r = resv t.data.toList) := ⟨_, rfl⟩
  rw [← hr.out]
  have HW := hid2 (words_c w)
  go_enter Tryz.func83, Tryz.ntmps83
  go_wp2_with fail
  refine Calls.mono HW.out ?_
  rintro e w1 ⟨rfl, hb, b1⟩
  have HB := hid2 hb
  have B1 := hid2 b1
  have hg : w.heap.size < w1.heap.size := hb.lt
  clear hb b1 HW
  go_wp2_with fail
  go_loop [4] (fun s3 => ∃ j : Nat, s3 = .int .i64 (j : Nat) ∧ j ≤ 35 ∧ Hid (r = (words.drop j).contains t.data.toList)) (fun s3 => 35 - (RowKit.intOf s3).toNat)
  case atStart => exact ⟨0, rfl, by omega, hr⟩
  case round =>
    obtain ⟨j, rfl, hj, HR⟩ := hrel
    clear hr
    by_cases hlt : j < 35
    · have hlt2 : (j : Int) < 35 := by omega
      obtain ⟨l, h1, h2⟩ := wordV_get j hlt
      have hc := HB.out.cell j _ h2
      have hR := HR.out
      rw [has_drop h1] at hR
      have hE : Hid (r = ((ofL l).toList == t.toList || (words.drop (j + 1)).contains t.data.toList)) := by
        show r = _
        rw [hR, Lib.toList_data, Lib.toList_data]
        congr 1
        show (t.data.toList == l) = (l == t.data.toList)
        rw [Bool.eq_iff_iff, beq_iff_eq, beq_iff_eq]
        exact eq_comm
      generalize ofL l = c at *
      clear h1 h2 hR HR
      cases hq : (c.toList == t.toList) with
      | true =>
        have hR2 : r = true := by rw [hE.out, hq]; rfl
        clear hE
        subst hR2
        go_wp2_with fail
        go_ret
        exact ⟨rfl, B1.out⟩
      | false =>
        have hR2 : Hid (r = (words.drop (j + 1)).contains t.data.toList) := by show r = _; rw [hE.out, hq]; rfl
        clear hE
        go_wp2_with fail
        go_round
        case rel => exact ⟨j + 1, by go_num, by omega, hR2⟩
        case measure => simp [RowKit.intOf]; omega
    · obtain rfl : j = 35 := by omega
      have hR2 : r = false := by rw [HR.out]; rfl
      subst hR2
      clear HR
      go_wp2_with fail
      go_ret
      exact ⟨rfl, B1.out⟩
theorem own_box {w : World} {B size : Nat} {e : TypeId} {v : Value} {n : Nat} {xs : List Value} (h : w.ownsRow B e size v n xs) : (v = .slice none 0 0 ∧ n = 0) ∨ ∃ g cap, v = .slice (some ⟨g, 0, none⟩) n cap ∧ B ≤ g ∧ Box w g xs := by
  obtain ⟨h1, ⟨h2, h3⟩ | ⟨g, cap, cur, h2, h3, h4, h5, h6, h7, h8⟩⟩ := h
  · exact .inl ⟨h2, h3⟩
  · exact .inr ⟨g, cap, h2, h3, (Box.ofBlock h4).part (by rw [← h8]; exact List.take_prefix _ _)⟩
/-- What the document's IsName answers. -/
def rN (s : ByteArray) : Bool := decide ((sd 10 11 s (rs s 0)).2 = 0) && (decide (1 ≤ (rs s 0).length) && (decide ((rs s 0).length ≤ 32) && (isC (((rs s 0).headD (0, 0)).1 : Nat) 1 && ((rs s 0).all (fun q => isC (q.1 : Nat) 3) && !(resv s.data.toList)))))
end Go.Proofs.YtecdfnpbcabdnaaGreatDoor
