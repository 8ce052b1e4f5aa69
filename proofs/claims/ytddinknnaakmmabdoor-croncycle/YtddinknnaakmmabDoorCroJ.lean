/- The statements' own question: a program that does something answers it. -/
import Derived.Test.YtddinknnaakmmabDoorCroI
namespace Go.Proofs.YtddinknnaakmmabDoor
open Go.RowKit Go.Deep

def awL : List UInt8 := [49, 48, 45, 50, 48, 47, 53, 32, 48, 32, 42, 32, 49, 32, 51]
def awT : List UInt8 := [49, 48, 44, 49, 53, 44, 50, 48, 32, 48, 32, 42, 32, 49, 32, 51]
def awC : Cr := ⟨1082368, 1, 4294967294, 2, 8⟩
theorem aw_read : readS awL = .ok [1082368, 1, 4294967294, 2, 8] := by kernel_rfl
theorem aw_readV : readV awL = .tuple #[cronV awC, .int .i64 0, .int .i64 0] := by
  unfold readV
  rw [if_neg (by decide), aw_read]
  rfl
theorem aw_formed : cfB awC = true := by decide +kernel
theorem aw_text : textL awC.get = awT := by decide +kernel
theorem aw_textV : textV awC = .tuple #[strV awT, .int .i64 0] := by
  unfold textV
  rw [if_pos aw_formed, aw_text]
set_option maxRecDepth 20000 in
set_option maxHeartbeats 2000000 in
theorem awake_any (w : World) (hF : FldAt w) (hT : TzAt w) :
    Calls Tryd.prog 4 #[] w fun e w' => e = .returned (.bool true) ∧ Below w.heap.size w w' := by
  have hr := Read_any ⟨#[49, 48, 45, 50, 48, 47, 53, 32, 48, 32, 42, 32, 49, 32, 51]⟩ awL rfl w hF
  unfold ReadPost at hr
  rw [aw_readV] at hr
  have ht := fun wx h1 h2 => Text_any awC ⟨by decide, by decide, by decide, by decide, by decide⟩ wx h1 h2
  unfold TextPost at ht
  rw [aw_textV] at ht
  have HR : Hid _ := hr
  have HT : Hid _ := ht
  clear hr ht
  go_enter Tryd.func4, Tryd.ntmps4
  go_wp2_with fail
  refine Calls.mono HR.out ?_
  rintro e w1 ⟨rfl, hb1⟩
  have hF1 := hF.later hb1
  have hT1 := hT.later hb1
  obtain ⟨cb, l1⟩ := one_box w1 24 (u5 awC.a awC.b awC.c awC.d awC.e)
  have hF2 := hF1.later l1
  have hT2 := hT1.later l1
  have bl1 := hb1.trans (l1.mono hb1.size)
  go_wp2_with fail
  refine (HT.out _ hF2 hT2).mono ?_
  rintro e w2 ⟨rfl, hb2⟩
  obtain ⟨o0, _⟩ := (cb.next hb2).five
  have bl2 := bl1.trans (hb2.mono bl1.size)
  have o1 : w2.cell? ⟨w1.heap.size, 0, none⟩ = some (.int .u64 1082368) := o0
  clear o0 cb hF1 hT1 hF2 hT2
  go_wp2_with fail
  go_ret
  exact ⟨rfl, bl2⟩
end Go.Proofs.YtddinknnaakmmabDoor
