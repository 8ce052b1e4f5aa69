/- Package dim: times (one name behind the other) and inverse. -/
import Derived.Test.YtjmngnnmnbhfpaaDoorDimR
namespace Go.Proofs.YtjmngnnmnbhfpaaDoor
open Go.RowKit

def timesS (b : U5) : Nat → U5 → Option U5
  | 0, u => some u
  | n + 1, u => match prodS u b with
    | none => none
    | some v => timesS b n v
abbrev facV (u : U5) (c : Int) : Value := .agg #[.int .i64 u.num, .int .i64 u.den, .int .i64 u.dim.a, .int .i64 u.dim.b, .int .i64 u.dim.c, .int .i64 u.dim.d, .int .i64 u.dim.e, .int .i64 c]
theorem timesS_ok (b : U5) (hb : b.Ok) : ∀ (n : Nat) (u v : U5), u.Ok → timesS b n u = some v → v.Ok
  | 0, u, v, hu, h => by simp only [timesS, Option.some.injEq] at h; exact h ▸ hu
  | n + 1, u, v, hu, h => by
    simp only [timesS] at h
    split at h
    · cases h
    · rename_i x hx
      exact timesS_ok b hb n x v (prodS_ok u b x hu hb hx) h
abbrev uCells (u : U5) : List Value := [.int .i64 u.num, .int .i64 u.den, .int .i64 u.dim.a, .int .i64 u.dim.b, .int .i64 u.dim.c, .int .i64 u.dim.d, .int .i64 u.dim.e]

set_option maxHeartbeats 4000000 in
theorem dtimes_any (a b : U5) (c : Nat) (hc : c ≤ 1000) (ha : a.Ok) (hb : b.Ok) (w : World) :
    Calls Tryd.prog 21 #[unitV a, facV b c] w fun e w' => e = .returned (findV (timesS b c a)) ∧ Below w.heap.size w w' := by
  obtain ⟨ab, bb, ob, l0⟩ := three_boxes w 26 41 26 (uCells a) [.int .i64 b.num, .int .i64 b.den, .int .i64 b.dim.a, .int .i64 b.dim.b, .int .i64 b.dim.c, .int .i64 b.dim.d, .int .i64 b.dim.e, .int .i64 c] [.int .i64 0, .int .i64 0, .int .i64 0, .int .i64 0, .int .i64 0, .int .i64 0, .int .i64 0]
  go_enter Tryd.func21, Tryd.ntmps21
  go_wp2_with fail
  go_loopw [10] (fun i wr => ∃ (k : Nat) (u : U5), i = .int .i64 k ∧ k ≤ c ∧ u.Ok ∧ timesS b (c - k) u = timesS b c a ∧ Box wr w.heap.size (uCells u) ∧ Box wr (w.heap.size + 1) [.int .i64 b.num, .int .i64 b.den, .int .i64 b.dim.a, .int .i64 b.dim.b, .int .i64 b.dim.c, .int .i64 b.dim.d, .int .i64 b.dim.e, .int .i64 c] ∧ Box wr (w.heap.size + 1 + 1) [.int .i64 0, .int .i64 0, .int .i64 0, .int .i64 0, .int .i64 0, .int .i64 0, .int .i64 0] ∧ Below w.heap.size w wr) (fun i _ => c - (intOf i).toNat)
  case atStart => exact ⟨0, a, rfl, Nat.zero_le _, ha, rfl, ab, bb, ob, l0⟩
  case round =>
    clear ab bb ob l0
    obtain ⟨k, u, rfl, hk, hu, he, ab, bb, ob, bl⟩ := hrel
    obtain ⟨a0, a1, a2, a3, a4, a5, a6, ag0, ag1, ag2, ag3, ag4, ag5, ag6⟩ := ab.seven
    obtain ⟨b0, b1, b2, b3, b4, b5, b6, b7, bg0, bg1, bg2, bg3, bg4, bg5, bg6, bg7⟩ := bb.eight
    have HA : Hid _ := ab
    have HB : Hid _ := bb
    have HO : Hid _ := ob
    clear ab bb ob
    by_cases hlt : k < c
    · have k1 : (k : Int) < (c : Int) := by omega
      have e1 : c - k = (c - (k + 1)) + 1 := by omega
      rw [e1] at he
      cases hp : prodS u b with
      | none =>
        have e2 : timesS b c a = none := by rw [← he]; simp only [timesS, hp]
        have E2 : Hid _ := e2
        have HP : Hid _ := hp
        clear he hp e2 e1
        go_wp2_with fail
        refine (product_any u b hu hb _).mono ?_
        rintro e w1 ⟨he, hb1⟩
        rw [HP.out] at he
        simp only [findV, Option.getD, Option.isSome, unitV, unit0, dim0] at he
        subst he
        have ox := (HO.out.next hb1).next ((Below.refl _ _).alloc (Nat.le_refl _) (.cells #[.int .i64 0, .int .i64 0, .int .i64 0, .int .i64 0, .int .i64 0, .int .i64 0, .int .i64 0] 26))
        obtain ⟨o0, o1, o2, o3, o4, o5, o6, g0, g1, g2, g3, g4, g5, g6⟩ := ox.seven
        have sz := hb1.size
        have sz0 := bl.size
        have bl2 := (bl.trans (hb1.mono bl.size)).alloc (by omega) (.cells #[.int .i64 0, .int .i64 0, .int .i64 0, .int .i64 0, .int .i64 0, .int .i64 0, .int .i64 0] 26)
        clear a0 a1 a2 a3 a4 a5 a6 b0 b1 b2 b3 b4 b5 b6 b7 ag0 ag1 ag2 ag3 ag4 ag5 ag6 bg0 bg1 bg2 bg3 bg4 bg5 bg6 bg7 hb1
        go_wp2_with fail
        refine bodyPost_ret (v := .tuple #[unitV unit0, .bool false]) (by simp [results, Tryd.results21, go_sem, unit0, dim0, o0, o1, o2, o3, o4, o5, o6]) rfl ⟨by rw [E2.out]; rfl, ?_⟩
        exact below_seven bl2 (by omega) _ _ _ _ _ _ _
      | some v =>
        have e2 : timesS b (c - (k + 1)) v = timesS b c a := by rw [← he]; simp only [timesS, hp]
        have hv := prodS_ok u b v hu hb hp
        have E2 : Hid _ := e2
        have HP : Hid _ := hp
        clear he hp e2 e1
        go_wp2_with fail
        refine (product_any u b hu hb _).mono ?_
        rintro e w1 ⟨he, hb1⟩
        rw [HP.out] at he
        simp only [findV, Option.getD, Option.isSome, unitV] at he
        subst he
        have l1 : Below w1.heap.size w1 (w1.alloc (.cells #[.int .i64 v.num, .int .i64 v.den, .int .i64 v.dim.a, .int .i64 v.dim.b, .int .i64 v.dim.c, .int .i64 v.dim.d, .int .i64 v.dim.e] 26)) := (Below.refl _ _).alloc (Nat.le_refl _) _
        have ax := (HA.out.next hb1).next l1
        have bx := (HB.out.next hb1).next l1
        have ox := (HO.out.next hb1).next l1
        have sz := hb1.size
        have sz0 := bl.size
        have bl2 := (bl.trans (hb1.mono bl.size)).alloc (by omega) (.cells #[.int .i64 v.num, .int .i64 v.den, .int .i64 v.dim.a, .int .i64 v.dim.b, .int .i64 v.dim.c, .int .i64 v.dim.d, .int .i64 v.dim.e] 26)
        clear a0 a1 a2 a3 a4 a5 a6 b0 b1 b2 b3 b4 b5 b6 b7 ag0 ag1 ag2 ag3 ag4 ag5 ag6 bg0 bg1 bg2 bg3 bg4 bg5 bg6 bg7 hb1 HA HB HO
        obtain ⟨a0, a1, a2, a3, a4, a5, a6, ag0, ag1, ag2, ag3, ag4, ag5, ag6⟩ := ax.seven
        have HA : Hid _ := ax.put_seven (.int .i64 v.num) (.int .i64 v.den) (.int .i64 v.dim.a) (.int .i64 v.dim.b) (.int .i64 v.dim.c) (.int .i64 v.dim.d) (.int .i64 v.dim.e)
        have HB : Hid _ := bx.other_seven (q := w.heap.size) (by omega) (.int .i64 v.num) (.int .i64 v.den) (.int .i64 v.dim.a) (.int .i64 v.dim.b) (.int .i64 v.dim.c) (.int .i64 v.dim.d) (.int .i64 v.dim.e)
        have HO : Hid _ := ox.other_seven (q := w.heap.size) (by omega) (.int .i64 v.num) (.int .i64 v.den) (.int .i64 v.dim.a) (.int .i64 v.dim.b) (.int .i64 v.dim.c) (.int .i64 v.dim.d) (.int .i64 v.dim.e)
        clear ax bx ox
        go_wp2_with fail
        go_roundw
        case rel =>
          exact ⟨k + 1, v, by go_num, by omega, hv, E2.out, HA.out, HB.out, HO.out, below_seven bl2 (Nat.le_refl _) _ _ _ _ _ _ _⟩
        case measure => simp [intOf]; omega
    · have hkc : k = c := by omega
      have e1 : timesS b c a = some u := by rw [← he, hkc, Nat.sub_self]; rfl
      have E1 : Hid _ := e1
      clear he e1
      obtain ⟨o0, o1, o2, o3, o4, o5, o6, g0, g1, g2, g3, g4, g5, g6⟩ := HO.out.seven
      go_wp2_with fail
      refine bodyPost_ret (v := .tuple #[unitV u, .bool true]) (by simp [results, Tryd.results21, go_sem, o0, o1, o2, o3, o4, o5, o6]) rfl ⟨by rw [E1.out]; rfl, ?_⟩
      exact below_seven bl (by omega) _ _ _ _ _ _ _

def invS (u : U5) : U5 := ⟨u.den, u.num, ⟨0 - u.dim.a, 0 - u.dim.b, 0 - u.dim.c, 0 - u.dim.d, 0 - u.dim.e⟩⟩
theorem invS_ok (u : U5) (h : u.Ok) : (invS u).Ok := by
  obtain ⟨h1, h2, h3, h4, ⟨a0, a1⟩, ⟨b0, b1⟩, ⟨c0, c1⟩, ⟨d0, d1⟩, ⟨e0, e1⟩⟩ := h
  exact ⟨h3, h4, h1, h2, ⟨by simp only [invS]; omega, by simp only [invS]; omega⟩, ⟨by simp only [invS]; omega, by simp only [invS]; omega⟩, ⟨by simp only [invS]; omega, by simp only [invS]; omega⟩, ⟨by simp only [invS]; omega, by simp only [invS]; omega⟩, ⟨by simp only [invS]; omega, by simp only [invS]; omega⟩⟩
set_option maxHeartbeats 4000000 in
theorem inverse_any (u : U5) (hu : u.Ok) (w : World) :
    Calls Tryd.prog 20 #[unitV u] w fun e w' => e = .returned (unitV (invS u)) ∧ Below w.heap.size w w' := by
  have hi := invS_ok u hu
  have hj : joinS (· - ·) dim0 u.dim = some (invS u).dim := joinS_some (· - ·) dim0 u.dim ⟨hi.a, hi.b, hi.c, hi.d, hi.e⟩
  have JN : Hid _ := hj
  have f0 : dim0.Fits := by constructor <;> decide
  have fu := hu.fits
  clear hj
  obtain ⟨ub, ob, l0⟩ := two_boxes w 26 26 (uCells u) [.int .i64 0, .int .i64 0, .int .i64 0, .int .i64 0, .int .i64 0, .int .i64 0, .int .i64 0]
  go_enter Tryd.func20, Tryd.ntmps20
  go_wp2_with fail
  refine (Div_any dim0 u.dim f0 fu _).mono ?_
  rintro e w1 ⟨he, hb1⟩
  rw [JN.out] at he
  simp only [joinV, Option.getD, Option.isSome, dimV] at he
  subst he
  generalize hv : (invS u).dim = v at *
  have HV : Hid _ := hv
  clear hv
  have l1 : Below w1.heap.size w1 (w1.alloc (.cells #[.int .i64 v.a, .int .i64 v.b, .int .i64 v.c, .int .i64 v.d, .int .i64 v.e] 24)) := (Below.refl _ _).alloc (Nat.le_refl _) _
  have ux := (ub.next hb1).next l1
  have ox := (ob.next hb1).next l1
  have u0 := ux.cell 0 _ rfl
  have u1 := ux.cell 1 _ rfl
  obtain ⟨o0, o1, o2, o3, o4, o5, o6, g0, g1, g2, g3, g4, g5, g6⟩ := ox.seven
  have sz := hb1.size
  simp at sz
  have bl2 := (l0.trans (hb1.mono l0.size)).alloc (by omega) (.cells #[.int .i64 v.a, .int .i64 v.b, .int .i64 v.c, .int .i64 v.d, .int .i64 v.e] 24)
  clear ub ob ux ox hb1 l1
  go_wp2_with fail
  refine bodyPost_ret (v := unitV ⟨u.den, u.num, v⟩) (by simp [results, Tryd.results20, go_sem, o0, o1, o2, o3, o4, o5, o6]) rfl ⟨by rw [← HV.out]; rfl, ?_⟩
  exact below_seven bl2 (by omega) _ _ _ _ _ _ _
end Go.Proofs.YtjmngnnmnbhfpaaDoor
