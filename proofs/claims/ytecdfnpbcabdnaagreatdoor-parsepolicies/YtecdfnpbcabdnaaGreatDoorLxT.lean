/- Package lex: signs. -/
import Derived.Test.YtecdfnpbcabdnaaGreatDoorLxB
import Derived.Test.YtecdfnpbcabdnaaGreatDoorScR
namespace Go.Proofs.YtecdfnpbcabdnaaGreatDoor
open Go.RowKit Go.Lib
def signs : List (List UInt8) := [[46, 46], [60, 61], [62, 61], [59], [58], [44], [61], [40], [41], [123], [125], [43], [45], [42], [47], [60], [62]]
def sgn (l : List UInt8) : Bool := signs.contains l
theorem sgn_or (t : ByteArray) : sgn t.data.toList = ((t.toList == ({ data := #[46, 46] } : ByteArray).toList) || (t.toList == ({ data := #[60, 61] } : ByteArray).toList) || (t.toList == ({ data := #[62, 61] } : ByteArray).toList) || (t.toList == ({ data := #[59] } : ByteArray).toList) || (t.toList == ({ data := #[58] } : ByteArray).toList) || (t.toList == ({ data := #[44] } : ByteArray).toList) || (t.toList == ({ data := #[61] } : ByteArray).toList) || (t.toList == ({ data := #[40] } : ByteArray).toList) || (t.toList == ({ data := #[41] } : ByteArray).toList) || (t.toList == ({ data := #[123] } : ByteArray).toList) || (t.toList == ({ data := #[125] } : ByteArray).toList) || (t.toList == ({ data := #[43] } : ByteArray).toList) || (t.toList == ({ data := #[45] } : ByteArray).toList) || (t.toList == ({ data := #[42] } : ByteArray).toList) || (t.toList == ({ data := #[47] } : ByteArray).toList) || (t.toList == ({ data := #[60] } : ByteArray).toList) || (t.toList == ({ data := #[62] } : ByteArray).toList) || false) := by
  unfold sgn signs
  simp only [List.contains_cons, List.contains_nil, Lib.toList_data, Bool.or_assoc]
set_option maxHeartbeats 4000000 in
set_option maxRecDepth 20000 in
theorem isSign_c (t : ByteArray) (w : World) : Calls Tryz.prog 122 #[.string t] w fun e w' => e = .returned (.bool (sgn t.data.toList)) ∧ w = w' := by
  obtain ⟨r, hr⟩ : ∃ r : Bool, Hid (r = sgn t.data.toList) := ⟨_, rfl⟩
  rw [← hr.out]
  have hr2 := hr.out
  rw [sgn_or] at hr2
  clear hr
  go_enter Tryz.func122, Tryz.ntmps122
  generalize ({ data := #[46, 46] } : ByteArray) = c0 at hr2 ⊢
  generalize ({ data := #[60, 61] } : ByteArray) = c1 at hr2 ⊢
  generalize ({ data := #[62, 61] } : ByteArray) = c2 at hr2 ⊢
  generalize ({ data := #[59] } : ByteArray) = c3 at hr2 ⊢
  generalize ({ data := #[58] } : ByteArray) = c4 at hr2 ⊢
  generalize ({ data := #[44] } : ByteArray) = c5 at hr2 ⊢
  generalize ({ data := #[61] } : ByteArray) = c6 at hr2 ⊢
  generalize ({ data := #[40] } : ByteArray) = c7 at hr2 ⊢
  generalize ({ data := #[41] } : ByteArray) = c8 at hr2 ⊢
  generalize ({ data := #[123] } : ByteArray) = c9 at hr2 ⊢
  generalize ({ data := #[125] } : ByteArray) = c10 at hr2 ⊢
  generalize ({ data := #[43] } : ByteArray) = c11 at hr2 ⊢
  generalize ({ data := #[45] } : ByteArray) = c12 at hr2 ⊢
  generalize ({ data := #[42] } : ByteArray) = c13 at hr2 ⊢
  generalize ({ data := #[47] } : ByteArray) = c14 at hr2 ⊢
  generalize ({ data := #[60] } : ByteArray) = c15 at hr2 ⊢
  generalize ({ data := #[62] } : ByteArray) = c16 at hr2 ⊢
  generalize f0 : (t.toList == c0.toList) = b0 at hr2
  generalize f1 : (t.toList == c1.toList) = b1 at hr2
  generalize f2 : (t.toList == c2.toList) = b2 at hr2
  generalize f3 : (t.toList == c3.toList) = b3 at hr2
  generalize f4 : (t.toList == c4.toList) = b4 at hr2
  generalize f5 : (t.toList == c5.toList) = b5 at hr2
  generalize f6 : (t.toList == c6.toList) = b6 at hr2
  generalize f7 : (t.toList == c7.toList) = b7 at hr2
  generalize f8 : (t.toList == c8.toList) = b8 at hr2
  generalize f9 : (t.toList == c9.toList) = b9 at hr2
  generalize f10 : (t.toList == c10.toList) = b10 at hr2
  generalize f11 : (t.toList == c11.toList) = b11 at hr2
  generalize f12 : (t.toList == c12.toList) = b12 at hr2
  generalize f13 : (t.toList == c13.toList) = b13 at hr2
  generalize f14 : (t.toList == c14.toList) = b14 at hr2
  generalize f15 : (t.toList == c15.toList) = b15 at hr2
  generalize f16 : (t.toList == c16.toList) = b16 at hr2
  have HR : Hid _ := hr2
  clear hr2
  go_wp2_with fail
  all_goals go_ret
  all_goals refine ⟨?_, rfl⟩
  all_goals rw [HR.out]
  all_goals clear f0 f1 f2 f3 f4 f5 f6 f7 f8 f9 f10 f11 f12 f13 f14 f15 f16
  all_goals simp_all
end Go.Proofs.YtecdfnpbcabdnaaGreatDoor
