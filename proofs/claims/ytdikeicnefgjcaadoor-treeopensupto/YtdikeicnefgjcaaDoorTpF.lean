/- Package tree: partsAs of a formed node; formedNode; Open. -/
import Derived.Test.YtdikeicnefgjcaaDoorTpE
import Derived.Test.YtdikeicnefgjcaaDoorTrT
namespace Go.Proofs.YtdikeicnefgjcaaDoor
open Go.RowKit

set_option maxRecDepth 20000 in
set_option maxHeartbeats 1000000 in
theorem parts_L {z : Nat} (n : Value) (ps : List Tm) (w : World) (h : ∀ wx, Below w.heap.size w wx → Calls Tryd.prog 79 #[n] wx (LadP z w ps wx)) : Calls Tryd.prog 53 #[n, .int .i64 36] w (PartsP z ps w) := by
  have hmf : ∀ (fn : Fn) (first cap : Array Value) (w : World), (Instr.makeFunc fn first cap).run Tryd.prog w = .ok (.func fn first cap) w := fun _ _ _ _ => rfl
  obtain ⟨X0, X1, XB⟩ := two_boxes w 22 4 [.slice none 0 0] [.bool false]
  have HC := hid2 (h _ XB)
  have BX := hid2 X0
  have BY := hid2 X1
  have BB := hid2 XB
  clear h X0 X1 XB
  go_enter_defers Tryd.func53, Tryd.ntmps53
  go_wp2_with fail
  refine Calls.mono HC.out ?_
  rintro e w1 ⟨g, N, c, ts, rfl, g1, g2, hts, hN, hc1, hc2, hsits, hcell, b1⟩
  have Y0 := BX.out.next b1
  have Y1 := BY.out.next b1
  have B1 := hid2 (below_on BB.out b1 BB.out.size)
  have c0 := Y0.cell 0 _ rfl
  have c1 := Y1.cell 0 _ rfl
  have f0 := Y0.free 0 (by simp)
  have f1 := Y1.free 0 (by simp)
  have Z0 := ((Y0.set 0 (by simp) (.slice (some ⟨g, 0, none⟩) N c)).set 0 (by simp) (.slice (some ⟨g, 0, none⟩) N c)).other (q := w.heap.size + 1) (j := 0) (v := .bool true) (by omega)
  have z0 : (((w1.setCell ⟨w.heap.size, 0, none⟩ (.slice (some ⟨g, 0, none⟩) N c)).setCell ⟨w.heap.size, 0, none⟩ (.slice (some ⟨g, 0, none⟩) N c)).setCell ⟨w.heap.size + 1, 0, none⟩ (.bool true)).cell? ⟨w.heap.size, 0, none⟩ = some (.slice (some ⟨g, 0, none⟩) N c) := Z0.cell 0 _ rfl
  have Z1 := ((Y1.other (q := w.heap.size) (j := 0) (v := (.slice (some ⟨g, 0, none⟩) N c)) (by omega)).other (q := w.heap.size) (j := 0) (v := (.slice (some ⟨g, 0, none⟩) N c)) (by omega)).set 0 (by simp) (.bool true)
  have z1 : (((w1.setCell ⟨w.heap.size, 0, none⟩ (.slice (some ⟨g, 0, none⟩) N c)).setCell ⟨w.heap.size, 0, none⟩ (.slice (some ⟨g, 0, none⟩) N c)).setCell ⟨w.heap.size + 1, 0, none⟩ (.bool true)).cell? ⟨w.heap.size + 1, 0, none⟩ = some (.bool true) := Z1.cell 0 _ rfl
  have gg : w.heap.size + 1 + 1 ≤ g := by simpa using g1
  have HP : Hid (PartsP z ps w (.returned (.tuple #[.slice (some ⟨g, 0, none⟩) N c, .bool true])) (((w1.setCell ⟨w.heap.size, 0, none⟩ (.slice (some ⟨g, 0, none⟩) N c)).setCell ⟨w.heap.size, 0, none⟩ (.slice (some ⟨g, 0, none⟩) N c)).setCell ⟨w.heap.size + 1, 0, none⟩ (.bool true))) := by
    have B2 := ((B1.out.setCell (p := ⟨w.heap.size, 0, none⟩) (Nat.le_refl _) (.slice (some ⟨g, 0, none⟩) N c)).setCell (p := ⟨w.heap.size, 0, none⟩) (Nat.le_refl _) (.slice (some ⟨g, 0, none⟩) N c)).setCell (p := ⟨w.heap.size + 1, 0, none⟩) (Nat.le_succ _) (.bool true)
    subst hts hN
    refine ⟨_, rfl, pat_flat ts (fun j u hu => ?_) (by simpa using g2) (fun p hp => (hsits p hp).next B2) hc1 hc2, B2⟩
    rw [Nat.zero_add, World.cell?_setCell_far _ _ _ _ (by simp; omega), World.cell?_setCell_far _ _ _ _ (by simp; omega), World.cell?_setCell_far _ _ _ _ (by simp; omega)]
    exact hcell j u hu
  clear HC BX BY BB Y0 Y1 B1 Z0 Z1 hsits hcell hts hN b1
  go_wp2_with fail
  refine leaves_cons (f := 78) (args := #[.pointer (some ⟨w.heap.size, 0, none⟩), .pointer (some ⟨w.heap.size + 1, 0, none⟩)]) (by simp) (by simp [go_sem]) ?_
  refine (catch_idle _ _ _).mono ?_
  rintro e u' w'' ⟨rfl, rfl, rfl⟩
  simp [Leaves, settle, results, Tryd.results53, go_sem, z0, z1]
  exact HP.out
theorem leaf_kind {k : Int} {s : ByteArray} {n m : Int} (h : leafB k s n m = true) : k ≤ 12 := by
  unfold leafB at h
  split at h
  · omega
  split at h
  · omega
  split at h
  · omega
  split at h
  · omega
  split at h
  · omega
  have := (plain_iff.1 h).2.1
  omega
/-- partsAs of a formed node, of its own kind. -/
theorem partsAs_c {z : Nat} (t : Tm) (n : Value) (w : World) (hn : IsNode z w t n) (hf : formedB t = true ∨ actionB t = true) (hm : t.parts.length ≤ 16384) : Calls Tryd.prog 53 #[n, .int .i64 t.kind] w (PartsP z t.parts w) := by
  rcases hn with ⟨hp, rfl⟩ | ⟨x, a, hp, rfl, p⟩ | ⟨x, y, a, b, hp, rfl, p, q⟩ | ⟨x, y, u, a, b, c, hp, rfl, p, q, r⟩ | ⟨x, y, l, a, mid, b, hp, h2, rfl, p, q, r⟩
  · rw [hp]
    refine parts_0 t t.kind ?_ w
    rcases hf with hf | hf
    · rw [show formedB t = leafB t.kind t.text t.n t.m by rw [formedB_eq, hp]; simp [headB]] at hf
      exact .inl (leaf_kind hf)
    · rw [action_0 hp] at hf
      have := plain_iff.1 hf
      exact .inr (by omega)
  · rw [hp]
    rcases hf with hf | hf
    · rw [show formedB t = (plainB t.kind t.text t.n t.m 13 17 && formedB x) by rw [formedB_eq, hp]; simp [headB], Bool.and_eq_true] at hf
      have := plain_iff.1 hf.1
      exact parts_1 t x a t.kind (by omega) (.inl (by omega)) w p
    · rw [action_1 hp, Bool.and_eq_true] at hf
      have := plain_iff.1 hf.1
      exact parts_1 t x a t.kind (by omega) (.inr (by omega)) w p
  · rw [hp]
    rcases hf with hf | hf
    · rw [show formedB t = (plainB t.kind t.text t.n t.m 18 31 && (formedB x && formedB y)) by rw [formedB_eq, hp]; simp [headB], Bool.and_eq_true] at hf
      have := plain_iff.1 hf.1
      exact parts_2 t x y a b t.kind (by omega) (by omega) w p q
    · rw [action_2 hp, Bool.and_eq_true] at hf
      have := plain_iff.1 hf.1
      rw [show t.kind = 36 by omega]
      exact parts_L _ _ w (fun wx _ => ladder_2 w t x y a b wx p q)
  · rw [hp]
    rcases hf with hf | hf
    · rw [show formedB t = (plainB t.kind t.text t.n t.m 32 32 && (formedB x && (formedB y && formedB u))) by rw [formedB_eq, hp]; simp [headB], Bool.and_eq_true] at hf
      have := plain_iff.1 hf.1
      rw [show t.kind = 32 by omega]
      exact parts_3 t x y u a b c w p q r
    · rw [action_3 hp] at hf
      cases hf
  · have hlen : t.parts.length = l.length + 2 := by rw [hp]; simp
    rcases hf with hf | hf
    · have e : formedB t = false := by rw [formedB_eq, headB, if_neg (by omega), if_neg (by omega), if_neg (by omega), if_neg (by omega)]; rfl
      rw [e] at hf
      cases hf
    · rw [action_4 hp h2, Bool.and_eq_true] at hf
      have := plain_iff.1 hf.1
      rw [hp, show t.kind = 36 by omega]
      exact parts_L _ _ w (fun wx hb => ladder_4 w t x y l a mid b wx hb h2 (by omega) p q r)
end Go.Proofs.YtdikeicnefgjcaaDoor
