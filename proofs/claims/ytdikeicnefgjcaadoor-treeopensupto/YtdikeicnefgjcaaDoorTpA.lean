/- Package tree: partsAs: a node taken for one of a kind; a panic is caught. -/
import Derived.Test.YtdikeicnefgjcaaDoorTrE
import Derived.Test.YtdikeicnefgjcaaDoorTcC
import Derived.Defers
import Derived.Recover
namespace Go.Proofs.YtdikeicnefgjcaaDoor
open Go.RowKit

theorem catch_p (p q : Addr) (x y : Value) (u : TypeId) (pv : Value) (older : List PanicEntry) (w : World) (hne : p.block ≠ q.block) (hc : w.cell? p = some x) (hz : w.frozen? p = false) (hc' : w.cell? q = some y) (hz' : w.frozen? q = false) :
    CallsD Tryd.prog 78 #[.pointer (some p), .pointer (some q)] (.panicking ({ v := .iface u pv, recovered := false } :: older)) w fun e u' w' =>
      e = .returned (.tuple #[]) ∧ u' = .panicking ({ v := .iface u pv, recovered := true } :: older) ∧ w' = (w.setCell p (.slice none 0 0)).setCell q (.bool false) := by
  have h2 : (w.setCell p (.slice none 0 0)).cell? q = some y := (World.cell?_setCell_far _ _ _ _ (by simpa using hne)).trans hc'
  refine callsD_of_wpS Tryd.func78 rfl fun c₀ cs hu => ?_
  apply wpS_seq
  apply wpS_region
  simp [wpOpsS, go_sem, recoverD, hu, Tryd.ntmps78, Exit.thenS]
  refine wpS_cond (t := true) (by simp [Act.eval, Array.replicate]) ?_
  simp only [if_true]
  apply wpS_region
  simp [wpOpsS, go_sem, hc, hz, hz', h2, bodyPostS, results, Tryd.results78]
theorem catch_idle (p q : Addr) (w : World) :
    CallsD Tryd.prog 78 #[.pointer (some p), .pointer (some q)] .returning w fun e u' w' => e = .returned (.tuple #[]) ∧ u' = .returning ∧ w' = w := by
  refine callsD_of_wpS Tryd.func78 rfl fun c₀ cs hu => ?_
  apply wpS_seq
  apply wpS_region
  simp [wpOpsS, go_sem, recoverD, hu, Tryd.ntmps78, Exit.thenS]
  refine wpS_cond (t := false) (by simp [Act.eval, Array.replicate]) ?_
  simp only [Bool.false_eq_true, if_false]
  refine wpS_of_wp (wp_skip ?_)
  cases c₀
  simp_all [bodyPostS, results, Tryd.results78]
theorem nil_leaf (w : World) : (Instr.typeAssert .nilIface 50 69 false).run Tryd.prog w = .halt (.panic (.iface Tryd.prog.rt.typeAssertionError (.pointer (some ⟨w.heap.size, 0, none⟩)))) (w.alloc (.cells #[typeHandle Tryd.prog 50, .pointer none, typeHandle Tryd.prog 69, .string ⟨#[]⟩] 131)) := by kernel_rfl
theorem nil_single (w : World) : (Instr.typeAssert .nilIface 50 78 false).run Tryd.prog w = .halt (.panic (.iface Tryd.prog.rt.typeAssertionError (.pointer (some ⟨w.heap.size, 0, none⟩)))) (w.alloc (.cells #[typeHandle Tryd.prog 50, .pointer none, typeHandle Tryd.prog 78, .string ⟨#[]⟩] 131)) := by kernel_rfl
theorem nil_double (w : World) : (Instr.typeAssert .nilIface 50 81 false).run Tryd.prog w = .halt (.panic (.iface Tryd.prog.rt.typeAssertionError (.pointer (some ⟨w.heap.size, 0, none⟩)))) (w.alloc (.cells #[typeHandle Tryd.prog 50, .pointer none, typeHandle Tryd.prog 81, .string ⟨#[]⟩] 131)) := by kernel_rfl
theorem nil_triple (w : World) : (Instr.typeAssert .nilIface 50 83 false).run Tryd.prog w = .halt (.panic (.iface Tryd.prog.rt.typeAssertionError (.pointer (some ⟨w.heap.size, 0, none⟩)))) (w.alloc (.cells #[typeHandle Tryd.prog 50, .pointer none, typeHandle Tryd.prog 83, .string ⟨#[]⟩] 131)) := by kernel_rfl
theorem nil_many (w : World) : (Instr.typeAssert .nilIface 50 85 false).run Tryd.prog w = .halt (.panic (.iface Tryd.prog.rt.typeAssertionError (.pointer (some ⟨w.heap.size, 0, none⟩)))) (w.alloc (.cells #[typeHandle Tryd.prog 50, .pointer none, typeHandle Tryd.prog 85, .string ⟨#[]⟩] 131)) := by kernel_rfl
theorem nil_no_double (w : World) : (Instr.typeAssert .nilIface 50 81 true).run Tryd.prog w = .ok (.tuple #[doubleZ, .bool false]) w := by kernel_rfl
set_option maxRecDepth 20000 in
set_option maxHeartbeats 1000000 in
theorem ladder_nil (w : World) : Calls Tryd.prog 79 #[.nilIface] w fun e w' => (∃ u pv, e = .panicked [{ v := .iface u pv, recovered := false }]) ∧ Below w.heap.size w w' := by
  have n1 := nil_no_double
  have n2 := nil_many
  generalize Tryd.prog.rt.typeAssertionError = U at n2
  generalize typeHandle Tryd.prog 50 = T0 at n2
  generalize typeHandle Tryd.prog 85 = T1 at n2
  go_enter Tryd.func79, Tryd.ntmps79
  go_wp2_with fail
  exact ⟨rfl, ⟨_, _, rfl⟩, ((Below.refl _ _).alloc (Nat.le_refl _) _).alloc (by simp) _⟩
set_option maxRecDepth 20000 in
set_option maxHeartbeats 1000000 in
theorem partsAs_nil (k : Int) (w : World) : Calls Tryd.prog 53 #[.nilIface, .int .i64 k] w fun e w' => e = .returned (.tuple #[.slice none 0 0, .bool false]) ∧ Below w.heap.size w w' := by
  have hmf : ∀ (fn : Fn) (first cap : Array Value) (w : World), (Instr.makeFunc fn first cap).run Tryd.prog w = .ok (.func fn first cap) w := fun _ _ _ _ => rfl
  have n0 := nil_leaf
  have n1 := nil_single
  have n2 := nil_double
  have n3 := nil_triple
  generalize Tryd.prog.rt.typeAssertionError = U at n0 n1 n2 n3
  generalize typeHandle Tryd.prog 50 = T0 at n0 n1 n2 n3
  generalize typeHandle Tryd.prog 69 = T1 at n0
  generalize typeHandle Tryd.prog 78 = T2 at n1
  generalize typeHandle Tryd.prog 81 = T3 at n2
  generalize typeHandle Tryd.prog 83 = T4 at n3
  have HL := hid2 ladder_nil
  go_enter_defers Tryd.func53, Tryd.ntmps53
  go_wp2_with fail
  all_goals first
    | (refine leaves_cons (f := 78) (args := #[.pointer (some ⟨w.heap.size, 0, none⟩), .pointer (some ⟨w.heap.size + 1, 0, none⟩)]) (by simp) (by simp [go_sem]) ?_
       refine (catch_p ⟨w.heap.size, 0, none⟩ ⟨w.heap.size + 1, 0, none⟩ (.slice none 0 0) (.bool false) _ _ [] _ (by simp) (by simp [go_sem]) (by simp [go_sem]) (by simp [go_sem]) (by simp [go_sem])).mono ?_
       rintro e u' w'' ⟨rfl, rfl, rfl⟩
       simp [Leaves, settle, results, Tryd.results53, go_sem]
       exact ((((Below.refl _ _).alloc (Nat.le_refl _) _).alloc (by simp) _).alloc (by simp; omega) _))
    | skip
  obtain ⟨X0, X1, XB⟩ := two_boxes w 22 4 [.slice none 0 0] [.bool false]
  refine Calls.mono (HL.out _) ?_
  rintro e w1 ⟨⟨u, pv, rfl⟩, b1⟩
  have Y0 := X0.next b1
  have Y1 := X1.next b1
  have B1 := below_on XB b1 XB.size
  have c0 := Y0.cell 0 _ rfl
  have c1 := Y1.cell 0 _ rfl
  have f0 := Y0.free 0 (by simp)
  have f1 := Y1.free 0 (by simp)
  have Z0 := (Y0.set 0 (by simp) (.slice none 0 0)).other (q := w.heap.size + 1) (j := 0) (v := .bool false) (by omega)
  have Z1 := (Y1.other (q := w.heap.size) (j := 0) (v := .slice none 0 0) (by omega)).set 0 (by simp) (.bool false)
  have z0 : ((w1.setCell ⟨w.heap.size, 0, none⟩ (.slice none 0 0)).setCell ⟨w.heap.size + 1, 0, none⟩ (.bool false)).cell? ⟨w.heap.size, 0, none⟩ = some (.slice none 0 0) := Z0.cell 0 _ rfl
  have z1 : ((w1.setCell ⟨w.heap.size, 0, none⟩ (.slice none 0 0)).setCell ⟨w.heap.size + 1, 0, none⟩ (.bool false)).cell? ⟨w.heap.size + 1, 0, none⟩ = some (.bool false) := Z1.cell 0 _ rfl
  refine leaves_cons (f := 78) (args := #[.pointer (some ⟨w.heap.size, 0, none⟩), .pointer (some ⟨w.heap.size + 1, 0, none⟩)]) (by simp) (by simp [go_sem]) ?_
  refine (catch_p ⟨w.heap.size, 0, none⟩ ⟨w.heap.size + 1, 0, none⟩ (.slice none 0 0) (.bool false) _ _ [] _ (by simp) c0 f0 c1 f1).mono ?_
  rintro e u' w'' ⟨rfl, rfl, rfl⟩
  simp [Leaves, settle, results, Tryd.results53, go_sem, z0, z1]
  exact (B1.setCell (Nat.le_refl _) _).setCell (Nat.le_succ _) _
end Go.Proofs.YtdikeicnefgjcaaDoor
