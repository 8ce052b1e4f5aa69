/- Package tree: formedNode, Open. -/
import Derived.Test.YtdikeicnefgjcaaDoorTpF
namespace Go.Proofs.YtdikeicnefgjcaaDoor
open Go.RowKit

def goodB (t : Tm) : Bool := formedB t || actionB t
def FnP (z : Nat) (t : Tm) (w : World) (e : Ending) (w' : World) : Prop := ∃ n, e = .returned n ∧ Below w.heap.size w w' ∧ (goodB t = true → IsNode z w' t n) ∧ (goodB t = false → n = .nilIface)
set_option maxRecDepth 20000 in
theorem formedNode_c {z : Nat} (hz : z ≤ 562949953421312) (t : Tm) (v : Value) (w : World) (hs : Sits z w t v) (hT : TabsAt w) : Calls Tryd.prog 54 #[tmV t v] w (FnP z t w) := by
  have HN := hid2 (fun (o : Obj) => nodeOf_c t v (w.alloc o) (hs.next ((Below.refl _ _).alloc (Nat.le_refl _) _)))
  have HE := hid2 (fun n wx (hb : Below w.heap.size w wx) (hn : IsNode z wx t n) => expr_c hz t n wx hn hs.fit.s (hT.next hb))
  have HA := hid2 (fun n wx (hb : Below w.heap.size w wx) (hn : IsNode z wx t n) => action_c hz t n wx hn (hT.next hb) (fun x _ => action_all hz x))
  obtain ⟨ad, cap, rfl, -, -⟩ := hs.parts.shape
  obtain ⟨q1, h1⟩ : ∃ q : Bool, Hid (q = formedB t) := ⟨_, rfl⟩
  obtain ⟨q2, h2⟩ : ∃ q : Bool, Hid (q = actionB t) := ⟨_, rfl⟩
  rw [← h1.out] at HE
  rw [← h2.out] at HA
  have HG : Hid (goodB t = (q1 || q2)) := by rw [h1.out, h2.out]; rfl
  clear hs hT h1 h2
  go_enter Tryd.func54, Tryd.ntmps54
  go_wp2_with fail
  refine Calls.mono (HN.out _) ?_
  rintro e w1 ⟨n, rfl, hn, b1⟩
  have B1 := hid2 (below_on ((Below.refl _ _).alloc (Nat.le_refl _) _) b1 (by simp) : Below w.heap.size w w1)
  have HE1 := hid2 (HE.out n w1 B1.out hn)
  have N1 := hid2 hn
  clear b1 hn HN HE
  go_wp2_with fail
  refine Calls.mono HE1.out ?_
  rintro e w2 ⟨rfl, b2⟩
  have B2 := hid2 (below_on B1.out b2 B1.out.size)
  have N2 := hid2 (N1.out.next b2)
  have HA2 := hid2 (HA.out n w2 B2.out N2.out)
  clear b2 HE1 HA B1 N1
  cases q1
  · go_wp2_with fail
    refine Calls.mono HA2.out ?_
    rintro e w3 ⟨rfl, b3⟩
    have B3 := hid2 (below_on B2.out b3 B2.out.size)
    have N3 := hid2 (N2.out.next b3)
    clear b3 HA2
    cases q2
    · have HP : Hid (FnP z t w (.returned .nilIface) w3) := ⟨_, rfl, B3.out, (fun h => by rw [HG.out] at h; cases h), fun _ => rfl⟩
      go_wp2_with fail
      go_ret
      exact HP.out
    · go_wp2_with fail
      go_ret
      exact ⟨_, rfl, B3.out, fun _ => N3.out, fun h => by rw [HG.out] at h; cases h⟩
  · go_wp2_with fail
    go_ret
    exact ⟨_, rfl, B2.out, fun _ => N2.out, fun h => by rw [HG.out] at h; cases h⟩
theorem parts_all {t : Tm} (h : nodes t ≤ 16384) : t.parts.length ≤ 16384 ∧ ∀ x, x ∈ t.parts → nodes x ≤ 16384 := by
  have h1 := length_nodesL t.parts
  have h2 := nodes_eq t
  exact ⟨by omega, fun x hx => by have := nodes_part hx; omega⟩
def OpenP (z : Nat) (ps : List Tm) (w : World) (e : Ending) (w' : World) : Prop := ∃ v', e = .returned (.tuple #[v', .int .i64 0]) ∧ PAtL w.heap.size z w' v' ps ∧ Below w.heap.size w w'
set_option maxRecDepth 20000 in
theorem open_yes {z : Nat} (hz : z ≤ 281474976710656) (t : Tm) (v : Value) (w : World) (hs : Sits z w t v) (hT : TabsAt w) (hn : nodes t ≤ 16384) (hg : goodB t = true) : Calls Tryd.prog 27 #[tmV t v, .int .i64 t.kind] w (OpenP z t.parts w) := by
  have HN := hid2 (fun (o : Obj) => formedNode_c (by omega) t v (w.alloc o) (hs.next ((Below.refl _ _).alloc (Nat.le_refl _) _)) (hT.next ((Below.refl _ _).alloc (Nat.le_refl _) _)))
  obtain ⟨hl, hns⟩ := parts_all hn
  have HL := hid2 hl
  have HNS := hid2 hns
  have HZ := hid2 hz
  have HG := hid2 hg
  obtain ⟨ad, cap, rfl, -, -⟩ := hs.parts.shape
  clear hs hT hg hn hl hns
  go_enter Tryd.func27, Tryd.ntmps27
  go_wp2_with fail
  refine Calls.mono (HN.out _) ?_
  rintro e w1 ⟨n, rfl, b1, hn, -⟩
  have B1 := hid2 (below_on ((Below.refl _ _).alloc (Nat.le_refl _) _) b1 (by simp) : Below w.heap.size w w1)
  have HP := hid2 (partsAs_c t n w1 (hn HG.out) (by have := HG.out; unfold goodB at this; simpa using this) HL.out)
  clear b1 hn HN
  go_wp2_with fail
  refine Calls.mono HP.out ?_
  rintro e w2 ⟨v2, rfl, hp2, b2⟩
  have B2 := hid2 (below_on B1.out b2 B1.out.size)
  have HE := hid2 (eachCopy t.parts v2 w2 hp2 HL.out HNS.out (fun x _ => copy_all HZ.out x))
  clear b2 HP B1 hp2
  go_wp2_with fail
  refine Calls.mono HE.out ?_
  rintro e w3 ⟨v3, rfl, hp3, b3⟩
  have B3 := hid2 (below_on B2.out b3 B2.out.size)
  have P3 : Hid (PAtL w.heap.size z w3 v3 t.parts) := hp3.keep B2.out.size (Nat.le_refl _) (fun _ _ _ _ => rfl)
  clear b3 HE hp3
  go_wp2_with fail
  go_ret2
  exact ⟨_, rfl, P3.out, B3.out⟩
set_option maxRecDepth 20000 in
theorem open_no {z : Nat} (hz : z ≤ 562949953421312) (t : Tm) (v : Value) (k : Int) (w : World) (hs : Sits z w t v) (hT : TabsAt w) (hg : goodB t = false ∨ t.kind ≠ k) : Calls Tryd.prog 27 #[tmV t v, .int .i64 k] w fun e w' => e = .returned (.tuple #[.slice none 0 0, .int .i64 1]) ∧ Below w.heap.size w w' := by
  have HN := hid2 (fun (o : Obj) => formedNode_c hz t v (w.alloc o) (hs.next ((Below.refl _ _).alloc (Nat.le_refl _) _)) (hT.next ((Below.refl _ _).alloc (Nat.le_refl _) _)))
  obtain ⟨ad, cap, rfl, -, -⟩ := hs.parts.shape
  have HB : Hid (∀ o, Below w.heap.size w (w.alloc o)) := fun o => (Below.refl _ _).alloc (Nat.le_refl _) _
  clear hs hT
  by_cases hk : t.kind = k
  · subst hk
    have HG : Hid (goodB t = false) := by
      rcases hg with h | h
      · exact h
      · exact absurd rfl h
    clear hg
    go_enter Tryd.func27, Tryd.ntmps27
    go_wp2_with fail
    refine Calls.mono (HN.out _) ?_
    rintro e w1 ⟨n, rfl, b1, -, hn⟩
    have B1 := hid2 (below_on (HB.out _) b1 (by simp) : Below w.heap.size w w1)
    obtain rfl := hn HG.out
    have HP := hid2 (partsAs_nil t.kind w1)
    clear b1 hn HN HB
    go_wp2_with fail
    refine Calls.mono HP.out ?_
    rintro e w2 ⟨rfl, b2⟩
    have B2 := hid2 (below_on B1.out b2 B1.out.size)
    clear b2 HP B1
    go_wp2_with fail
    go_ret2
    exact ⟨rfl, B2.out⟩
  · have d : (t.kind != k) = true := by simpa using hk
    clear hg hk HN
    go_enter Tryd.func27, Tryd.ntmps27
    go_wp2_with fail
    go_ret2
    exact ⟨rfl, HB.out _⟩
end Go.Proofs.YtdikeicnefgjcaaDoor
