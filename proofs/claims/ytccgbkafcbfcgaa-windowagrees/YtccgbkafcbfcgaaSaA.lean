/- Rings of samples: Len, Room, the slot of a number. -/
import Derived.Test.YtccgbkafcbfcgaaSaM
import Derived.Deep.RegionWith
import Derived.BigQuiet
import Derived.OwnWalk
namespace Go.Proofs.Ytccgbkafcbfcgaa
open Go.RowKit

theorem qLen (b q room : Nat) (L : List Pr) (w : World) (h : Rq w b q room L) :
    Calls Try.prog 47 #[.pointer (some ⟨b, 0, none⟩)] w fun e w' => e = .returned (.int .i64 (L.length : Nat)) ∧ w = w' := by
  obtain ⟨first, sv, cs, h⟩ := h
  obtain ⟨c0, c1, c2, c3, f0, f1, f2, f3⟩ := h.box.four
  have hlt := h.box.lt
  go_enter Try.func47, Try.ntmps47
  go_wp2_with fail
  go_ret
  exact ⟨rfl, rfl⟩
theorem qRoom (b q room : Nat) (L : List Pr) (w : World) (h : Rq w b q room L) :
    Calls Try.prog 34 #[.pointer (some ⟨b, 0, none⟩)] w fun e w' => e = .returned (.int .i64 (room : Nat)) ∧ w = w' := by
  obtain ⟨first, sv, cs, h⟩ := h
  obtain ⟨c0, c1, c2, c3, f0, f1, f2, f3⟩ := h.box.four
  have hlt := h.box.lt
  go_enter Try.func34, Try.ntmps34
  go_wp2_with fail
  go_ret
  exact ⟨rfl, rfl⟩

/-- The slot of the number j. -/
theorem qSlot (b q room first n j s : Nat) (v2 : Value) (w : World) (hbox : Box w b [.int .i64 (room : Nat), .int .i64 (first : Nat), v2, .slice (some ⟨q, 0, none⟩) n n]) (hn : 0 < n) (hm : n ≤ 4096) (hf : first < n) (hj : j ≤ 4096) (hs : s = (first + j) % n) :
    Calls Try.prog 38 #[.pointer (some ⟨b, 0, none⟩), .int .i64 (j : Nat)] w fun e w' => e = .returned (.int .i64 (s : Nat)) ∧ ∃ k, w' = w.drewN k := by
  obtain ⟨c0, c1, c2, c3, f0, f1, f2, f3⟩ := hbox.four
  have hlt := hbox.lt
  have hz : ¬ (n : Int) = 0 := by omega
  have hk : (((first : Nat) : Int) + (j : Nat)) % (n : Nat) = (s : Nat) := by rw [hs, Int.natCast_emod, Int.natCast_add]
  have HK : Hid _ := hk
  clear hk hs
  go_enter Try.func38, Try.ntmps38
  go_wp2_with fail
  go_quiet (fail)
  go_wp2_with fail
  go_ret
  exact ⟨by rw [HK.out]; rfl, _, rfl⟩
end Go.Proofs.Ytccgbkafcbfcgaa
