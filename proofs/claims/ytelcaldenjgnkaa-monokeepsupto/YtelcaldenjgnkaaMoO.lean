/- Is all that can be asked the document's? -/
import Derived.Test.YtelcaldenjgnkaaMoS
namespace Go.Proofs.Ytelcaldenjgnkaa
open Go.RowKit

/-- What Best answers. -/
def bestS (h : Bool) (L : List Int) : Int := (kept h L).headD 0
theorem mBest (b g : Nat) (h : Bool) (L : List Int) (w : World) (x : Mo w b g h L) :
    Calls Try.prog 13 #[.pointer (some ⟨b, 0, none⟩)] w fun e w' => e = .returned (.tuple #[.int .i64 (bestS h L), .bool (!L.isEmpty)]) ∧ w = w' := by
  cases hk : kept h L with
  | nil =>
    have : L = [] := by
      cases L with
      | nil => rfl
      | cons y T => exact absurd hk (kept_ne h (by simp))
    subst this
    simpa [bestS, hk] using mBest_no b g h w x
  | cons y K =>
    have hne : L.isEmpty = false := by
      cases L with
      | nil => cases hk
      | cons z T => rfl
    rw [hne]
    simpa [bestS, hk] using mBest_yes b g h L y K w x hk
theorem fBest (h : Bool) (v : Value) (L : List Int) (w : World) (hv : Rd w v L) (hl : L.length < 4611686018427387904) :
    Calls Try.prog 19 #[.bool h, v] w fun e w' => e = .returned (.tuple #[.int .i64 (bestS h L), .bool (!L.isEmpty)]) ∧ w = w' := by
  cases hk : kept h L with
  | nil =>
    have : L = [] := by
      cases L with
      | nil => rfl
      | cons y T => exact absurd hk (kept_ne h (by simp))
    subst this
    simpa [bestS, hk] using fBest_no h v w hv
  | cons y K =>
    have hne : L.isEmpty = false := by
      cases L with
      | nil => cases hk
      | cons z T => rfl
    rw [hne]
    simpa [bestS, hk] using fBest_yes h v L y K w hv hk hl
set_option maxRecDepth 20000 in
set_option maxHeartbeats 1000000 in
theorem looks_any (b g : Nat) (h : Bool) (v : Value) (L : List Int) (w : World) (x : Mo w b g h L) (hv : Rd w v L) (hl : L.length ≤ 8796093022208) :
    Calls Try.prog 11 #[.pointer (some ⟨b, 0, none⟩), .bool h, v] w fun e w' => e = .returned (.bool true) ∧ Below w.heap.size w w' := by
  have HV := hid hv
  have HX := hid x
  obtain ⟨a, c, rfl, _⟩ := hv
  obtain ⟨n, hn⟩ : ∃ n, n = L.length := ⟨_, rfl⟩
  obtain ⟨y, hy⟩ : ∃ y, y = bestS h L := ⟨_, rfl⟩
  obtain ⟨ok, hok⟩ : ∃ ok, ok = !L.isEmpty := ⟨_, rfl⟩
  have h1 := mBest b g h L w x
  have h2 := fBest h (.slice a L.length c) L w HV.out (by omega)
  have h3 := mLen b g h L w x
  rw [← hy, ← hok] at h1 h2
  rw [← hn] at h2 h3 ⊢
  rw [← hn] at HV
  have H1 := hid h1
  have H2 := hid h2
  have H3 := hid h3
  clear h1 h2 h3 x hn hy hok
  go_enter Try.func11, Try.ntmps11
  go_wp2_with fail
  refine Calls.mono H1.out ?_
  rintro e w1 ⟨rfl, rfl⟩
  go_wp2_with fail
  refine Calls.mono H2.out ?_
  rintro e w1 ⟨rfl, rfl⟩
  go_wp2_with fail
  refine Calls.mono H3.out ?_
  rintro e w1 ⟨rfl, rfl⟩
  go_wp2_with fail
  refine Calls.mono (mKept b g h L w HX.out hl) ?_
  rintro e w1 ⟨g1, rfl, hg1, hk1, hb1⟩
  have HK1 := hid hk1
  have HB1 := hid hb1
  clear hk1 hb1
  go_wp2_with fail
  refine Calls.mono (fKept h _ L w1 (HV.out.next HB1.out) (by omega)) ?_
  rintro e w2 ⟨v2, rfl, hr2, hb2⟩
  have HR2 := hid hr2
  have HB2 := hid hb2
  clear hr2 hb2
  go_wp2_with fail
  refine Calls.mono (same_yes _ _ (kept h L) w2 ((HK1.out.rd _).next HB2.out) HR2.out (by have := kept_length h L; omega)) ?_
  rintro e w3 ⟨rfl, k, rfl⟩
  go_wp2_with fail
  go_ret
  exact ⟨rfl, (HB1.out.trans (HB2.out.mono HB1.out.size)).trans ((drewN_below _ _).mono (Nat.le_trans HB1.out.size HB2.out.size))⟩
end Go.Proofs.Ytelcaldenjgnkaa
