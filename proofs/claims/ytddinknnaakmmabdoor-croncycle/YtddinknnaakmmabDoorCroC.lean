/- Package cron: what the reader reads: steps, items, fields. -/
import Derived.Test.YtddinknnaakmmabDoorCroB
namespace Go.Proofs.YtddinknnaakmmabDoor
open Go.RowKit

def exV (x : Except Nat (Nat × Nat)) : Value := match x with
  | .error _ => .tuple #[.int .u64 0, .bool false]
  | .ok (s, _) => .tuple #[.int .u64 (s : Nat), .bool true]
def exP (x : Except Nat (Nat × Nat)) : Nat := match x with
  | .error p => p
  | .ok (_, e) => e
/-- What a reading answers, and how far the reader has gone. -/
def ExPost (x : Except Nat (Nat × Nat)) (s : ByteArray) (w : World) (g : Nat) (e : Ending) (w' : World) : Prop :=
  e = .returned (exV x) ∧ Moved w g s (exP x) w'

set_option maxHeartbeats 1600000 in
theorem steps_any (s : ByteArray) (l : List UInt8) (hl : s.data.toList = l) (hz : s.size ≤ 256) (g n a b : Nat) (hn : n ≤ s.size) (hab : a ≤ b) (hb64 : b < 64) (w : World) (hb : Box w g [.string s, .int .i64 n]) :
    Calls Tryd.prog 30 #[.pointer (some ⟨g, 0, none⟩), .int .i64 a, .int .i64 b] w (ExPost (stepsS l n a b) s w g) := by
  have hs : l.length = s.size := by rw [← hl]; rfl
  have ht := take_any s l hl hz g n 47 hn w hb
  cases hc : isB l n 47 with
  | false =>
    have e : stepsS l n a b = .ok (evS a b 1, n) := if_neg (by rw [hc]; decide)
    rw [e]
    simp only [hc, Bool.false_eq_true, if_false] at ht
    have hv := every_any a b 1 hab hb64 (by decide) (by decide)
    have HT : Hid _ := ht
    have HV : Hid _ := hv
    clear ht hv e hc
    go_enter Tryd.func30, Tryd.ntmps30
    go_wp2_with fail
    refine Calls.mono HT.out ?_
    rintro e w1 ⟨rfl, hm⟩
    go_wp2_with fail
    refine (HV.out _).mono ?_
    rintro e w2 ⟨rfl, rfl⟩
    go_wp2_with fail
    go_ret2
    exact ⟨rfl, hm⟩
  | true =>
    have hlt := ((isB_iff _ _ _).1 hc).1
    simp only [hc, if_true] at ht
    have e0 : stepsS l n a b = match numS l (n + 1) 1 99 with | none => .error (n + 1) | some (k, e) => .ok (evS a b k, e) := if_pos hc
    have hnum := fun wx hx => number_any s l hl hz g (n + 1) 1 99 (by omega) (by decide) (by decide) wx hx
    have HT : Hid _ := ht
    cases hk : numS l (n + 1) 1 99 with
    | none =>
      rw [e0, hk]
      have HN : Hid _ := hnum
      have HK : Hid _ := hk
      clear hnum hk e0 ht hc
      go_enter Tryd.func30, Tryd.ntmps30
      go_wp2_with fail
      refine Calls.mono HT.out ?_
      rintro e w1 ⟨rfl, hm⟩
      go_wp2_with fail
      refine (HN.out _ hm.box).mono ?_
      rintro e w2 ⟨rfl, hm2⟩
      rw [HK.out] at hm2 ⊢
      simp only [numV, Option.getD, Option.isSome]
      go_wp2_with fail
      go_ret2
      exact ⟨rfl, hm.trans hm2⟩
    | some kf =>
      obtain ⟨k, f⟩ := kf
      have hq := numS_some hk
      rw [e0, hk]
      have hv := every_any a b k hab hb64 (by omega) (by omega)
      have HV : Hid _ := hv
      have HN : Hid _ := hnum
      have HK : Hid _ := hk
      clear hnum hk e0 ht hc hv hq
      go_enter Tryd.func30, Tryd.ntmps30
      go_wp2_with fail
      refine Calls.mono HT.out ?_
      rintro e w1 ⟨rfl, hm⟩
      go_wp2_with fail
      refine (HN.out _ hm.box).mono ?_
      rintro e w2 ⟨rfl, hm2⟩
      rw [HK.out] at hm2 ⊢
      simp only [numV, Option.getD, Option.isSome]
      go_wp2_with fail
      refine (HV.out _).mono ?_
      rintro e w3 ⟨rfl, rfl⟩
      go_wp2_with fail
      go_ret2
      exact ⟨rfl, hm.trans hm2⟩
end Go.Proofs.YtddinknnaakmmabDoor
