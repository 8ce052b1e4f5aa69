/- The library's errors.As at a missing number's error: the reason is found. -/
import Derived.Test.YtpkknifbocfeaaaGreatDoorMgB
import Derived.LaidEql
import Derived.Stop.Asserts
import Derived.RowKitTokens
namespace Go.Proofs.YtpkknifbocfeaaaGreatDoor
open Go.RowKit Go.Extern.Stop Go.Stop Go.Extern

theorem Box.onO {b : World} {g : Nat} {vs : List Value} {ob : Obj} (h : Box b g vs) : Box (b.alloc ob) g vs := h.next ((Below.refl _ _).alloc (Nat.le_refl _) _)
theorem rl_valueOfP (t : Addr) (w : World) : (ReflectliteValue.unpack (.iface 192 (.pointer (some t)))).run Tryz.prog w
    = .ok (.agg #[.pointer (some ⟨5, 192, none⟩), .pointer (some ⟨w.heap.size, 0, none⟩), .int .u64 150]) (w.alloc (.cells #[.pointer (some t)] 192)) := by kernel_rfl
theorem rl_typeP (a : Addr) (w : World) : (ReflectliteValue.methodAny (ReflectliteValue.valueError "reflectlite.Value.Type" 0) (fun t _ _ _ => ReflectliteType.toType t) #[.agg #[.pointer (some ⟨5, 192, none⟩), .pointer (some a), .int .u64 150]]).run Tryz.prog w
    = .ok (.iface 279 (.agg #[.pointer (some ⟨5, 192, none⟩)])) w := by kernel_rfl
theorem rl_methodKind (h : Value) (w : World) : (Go.method 435 279 (.agg #[h]) "Kind").run Tryz.prog w = .ok (295, h) w := by kernel_rfl
theorem rl_kindP (w : World) : ((ReflectliteType.abiMethod fun t => Functor.map (fun a : Nat => Value.int IntKind.u8 (a : Int)) (Rtype.kind t)) #[.pointer (some ⟨5, 192, none⟩)]).run Tryz.prog w = .ok (.int .u8 22) w := by kernel_rfl
theorem rl_kindF (w : World) : ((ReflectliteType.abiMethod fun t => Functor.map (fun a : Nat => Value.int IntKind.u8 (a : Int)) (Rtype.kind t)) #[.pointer (some ⟨5, 190, none⟩)]).run Tryz.prog w = .ok (.int .u8 25) w := by kernel_rfl
theorem rl_partsP (a : Addr) (w : World) : (ReflectliteValue.parts (.agg #[.pointer (some ⟨5, 192, none⟩), .pointer (some a), .int .u64 150])).run Tryz.prog w = .ok (some (192, a, 150)) w := by kernel_rfl
theorem rl_isNilP (a p : Addr) (W : World) (ha : W.cell? a = some (.pointer (some p))) :
    (ReflectliteValue.method (ReflectliteValue.valueError "reflectlite.Value.IsNil" 0) ReflectliteValue.isNil #[.agg #[.pointer (some ⟨5, 192, none⟩), .pointer (some a), .int .u64 150]]).run Tryz.prog W = .ok (.bool false) W := by
  show (Bind.bind (ReflectliteValue.parts _) _).run Tryz.prog W = _
  simp only [Sem.run_bind, Array.getLit, List.getElem_toArray, List.getElem_cons_zero, rl_partsP, Result.andThen]
  simp [ReflectliteValue.isNil, loadVar, isAgg, underlying, Tryz.underlying192, ha, Result.andThen]
theorem rl_methodElem (h : Value) (w : World) : (Go.method 435 279 (.agg #[h]) "Elem").run Tryz.prog w = .ok (305, .agg #[h]) w := by kernel_rfl
theorem rl_methodImplements (h : Value) (w : World) : (Go.method 435 279 (.agg #[h]) "Implements").run Tryz.prog w = .ok (306, .agg #[h]) w := by kernel_rfl
theorem rl_methodAssignableTo (h : Value) (w : World) : (Go.method 435 279 (.agg #[h]) "AssignableTo").run Tryz.prog w = .ok (303, .agg #[h]) w := by kernel_rfl
theorem rl_elemP (w : World) : (ReflectliteType.method ReflectliteType.elem #[.agg #[.pointer (some ⟨5, 192, none⟩)]]).run Tryz.prog w = .ok (.iface 279 (.agg #[.pointer (some ⟨5, 190, none⟩)])) w := by kernel_rfl
theorem rl_implementsF (w : World) : (ReflectliteType.relation "Implements" ReflectliteType.implements_ #[.agg #[.pointer (some ⟨5, 190, none⟩)], .iface 279 (.agg #[.pointer (some ⟨5, 132, none⟩)])]).run Tryz.prog w = .ok (.bool true) w := by kernel_rfl
theorem rl_typeOfF (v : Value) (w : World) : (ReflectliteType.typeOf #[.iface 190 v]).run Tryz.prog w = .ok (.iface 279 (.agg #[.pointer (some ⟨5, 190, none⟩)])) w := by kernel_rfl
theorem rl_assignableF (w : World) : (ReflectliteType.relation "AssignableTo" ReflectliteType.assignableTo #[.agg #[.pointer (some ⟨5, 190, none⟩)], .iface 279 (.agg #[.pointer (some ⟨5, 190, none⟩)])]).run Tryz.prog w = .ok (.bool true) w := by kernel_rfl
theorem rl_valueOfF (x : Int) (w : World) : (ReflectliteValue.unpack (.iface 190 (.agg #[.int .i64 x]))).run Tryz.prog w
    = .ok (.agg #[.pointer (some ⟨5, 190, none⟩), .pointer (some ⟨w.heap.size, 0, none⟩), .int .u64 153]) (w.alloc (.cells #[.int .i64 x] 190)) := by kernel_rfl
theorem rl_elemOfP (w : World) : (Rtype.elem? 192).run Tryz.prog w = .ok (some 190) w := by kernel_rfl
theorem rl_mkF (p : Addr) (w : World) : (ReflectliteValue.mk 190 p ReflectliteValue.flagAddr).run Tryz.prog w = .ok (.agg #[.pointer (some ⟨5, 190, none⟩), .pointer (some p), .int .u64 409]) w := by kernel_rfl
theorem rl_elemVP (a p : Addr) (W : World) (ha : W.cell? a = some (.pointer (some p))) :
    (ReflectliteValue.method (ReflectliteValue.valueError "reflectlite.Value.Elem" 0) ReflectliteValue.elem #[.agg #[.pointer (some ⟨5, 192, none⟩), .pointer (some a), .int .u64 150]]).run Tryz.prog W
      = .ok (.agg #[.pointer (some ⟨5, 190, none⟩), .pointer (some p), .int .u64 409]) W := by
  show (Bind.bind (ReflectliteValue.parts _) _).run Tryz.prog W = _
  simp only [Sem.run_bind, Array.getLit, List.getElem_toArray, List.getElem_cons_zero, rl_partsP, Result.andThen]
  simp [ReflectliteValue.elem, loadVar, isAgg, underlying, Tryz.underlying192, ha, Result.andThen, rl_elemOfP, rl_mkF]
theorem rl_partsFa (a : Addr) (w : World) : (ReflectliteValue.parts (.agg #[.pointer (some ⟨5, 190, none⟩), .pointer (some a), .int .u64 409])).run Tryz.prog w = .ok (some (190, a, 409)) w := by kernel_rfl
theorem rl_partsF (a : Addr) (w : World) : (ReflectliteValue.parts (.agg #[.pointer (some ⟨5, 190, none⟩), .pointer (some a), .int .u64 153])).run Tryz.prog w = .ok (some (190, a, 153)) w := by kernel_rfl
theorem rl_directF (w : World) : (Rtype.directlyAssignable 190 190).run Tryz.prog w = .ok true w := by kernel_rfl
theorem rl_loadF (b : Nat) (x : Value) (W : World) (h0 : W.cell? ⟨b, 0, none⟩ = some x) : (loadVar 190 ⟨b, 0, none⟩).run Tryz.prog W = .ok (.agg #[x]) W := by
  have hs : ∀ w : World, (sizeOf 190).run Tryz.prog w = .ok 1 w := fun w => by kernel_rfl
  have hg : ∀ w : World, (isAgg 190).run Tryz.prog w = .ok true w := fun w => by kernel_rfl
  simp [loadVar, hg, hs, Result.andThen, go_sem, h0]
theorem rl_storeF (t : Nat) (x : Int) (u : Value) (W : World) (h0 : W.cell? ⟨t, 0, none⟩ = some u) (f0 : W.frozen? ⟨t, 0, none⟩ = false) :
    (storeVar 190 ⟨t, 0, none⟩ (.agg #[.int .i64 x])).run Tryz.prog W = .ok () (W.setCell ⟨t, 0, none⟩ (.int .i64 x)) := by
  have s0 := run_store Tryz.prog W ⟨t, 0, none⟩ (.int .i64 x) .plain (by rfl)
  simp [h0, f0] at s0
  simp [storeVar, Value.cells, storeCells, Addr.add, Result.andThen]
  rw [s0]
theorem rl_setF (t b : Nat) (x : Int) (u : Value) (W : World) (b0 : W.cell? ⟨b, 0, none⟩ = some (.int .i64 x)) (h0 : W.cell? ⟨t, 0, none⟩ = some u) (f0 : W.frozen? ⟨t, 0, none⟩ = false) :
    (ReflectliteValue.set #[.agg #[.pointer (some ⟨5, 190, none⟩), .pointer (some ⟨t, 0, none⟩), .int .u64 409], .agg #[.pointer (some ⟨5, 190, none⟩), .pointer (some ⟨b, 0, none⟩), .int .u64 153]]).run Tryz.prog W
      = .ok (.tuple #[]) (W.setCell ⟨t, 0, none⟩ (.int .i64 x)) := by
  have l := rl_loadF b _ W b0
  have st := rl_storeF t x u W h0 f0
  show (Bind.bind (ReflectliteValue.parts _) _).run Tryz.prog W = _
  simp only [Sem.run_bind, Array.getLit, List.getElem_toArray, List.getElem_cons_zero, List.getElem_cons_succ, rl_partsFa, rl_partsF, Result.andThen]
  simp [ReflectliteValue.flagAddr, l, Result.andThen, rl_directF, st]
set_option maxHeartbeats 1000000 in
set_option maxRecDepth 20000 in
theorem as_c (gb a : Nat) (x : Int) (u : Value) (w : World) (ha : w.cell? ⟨a, 0, none⟩ = some (.pointer (some ⟨gb, 0, none⟩))) (hG : Box w gb [u]) :
    Calls Tryz.prog 225 #[.iface 190 (.agg #[.int .i64 x]), .iface 192 (.pointer (some ⟨gb, 0, none⟩)), .agg #[.pointer (some ⟨5, 192, none⟩), .pointer (some ⟨a, 0, none⟩), .int .u64 150], .iface 279 (.agg #[.pointer (some ⟨5, 190, none⟩)])] w fun e w' =>
      e = .returned (.bool true) ∧ ∃ o1 o2, w' = ((w.alloc o1).alloc o2).setCell ⟨gb, 0, none⟩ (.int .i64 x) := by
  have e90 := @run_callFunc_extern Tryz.prog 222 _ (fun args => ReflectliteValue.unpack (args.getD 0 (.tuple #[]))) Tryz.func222 (by kernel_rfl) (by kernel_rfl) (by kernel_rfl) (by kernel_rfl)
  have e116 := @run_callFunc_extern Tryz.prog 261 _ ReflectliteType.typeOf Tryz.func261 (by kernel_rfl) (by kernel_rfl) (by kernel_rfl) (by kernel_rfl)
  have e228 := @run_callFunc_extern Tryz.prog 303 _ (ReflectliteType.relation "AssignableTo" ReflectliteType.assignableTo) Tryz.func303 (by kernel_rfl) (by kernel_rfl) (by kernel_rfl) (by kernel_rfl)
  have e117 := @run_callFunc_extern Tryz.prog 262 _ (ReflectliteValue.method (ReflectliteValue.valueError "reflectlite.Value.Elem" 0) ReflectliteValue.elem) Tryz.func262 (by kernel_rfl) (by kernel_rfl) (by kernel_rfl) (by kernel_rfl)
  have e118 := @run_callFunc_extern Tryz.prog 263 _ ReflectliteValue.set Tryz.func263 (by kernel_rfl) (by kernel_rfl) (by kernel_rfl) (by kernel_rfl)
  have tO := rl_typeOfF
  have mA := rl_methodAssignableTo
  have aF := rl_assignableF
  have vF := rl_valueOfF
  have la := World.block_lt_of_cell? w _ ha
  have el := rl_elemVP ⟨a, 0, none⟩ ⟨gb, 0, none⟩ (w.alloc (.cells #[.pointer (some ⟨5, 192, none⟩), .pointer (some ⟨a, 0, none⟩), .int .u64 150] 246)) ((World.cell?_alloc_lt _ _ _ la).trans ha)
  have st := rl_setF gb (w.heap.size + 1) x u ((w.alloc (.cells #[.pointer (some ⟨5, 192, none⟩), .pointer (some ⟨a, 0, none⟩), .int .u64 150] 246)).alloc (.cells #[.int .i64 x] 190)) (by simp [go_sem])
    (hG.onO.onO.cell 0 _ rfl) (hG.onO.onO.free 0 (by simp))
  clear hG
  go_enter Tryz.func225, Tryz.ntmps225
  go_wp2
  refine wp_loop_rounds 1 ?_
  rw [rounds_succ]
  go_wp2
  go_ret
  exact ⟨rfl, _, _, rfl⟩
set_option maxHeartbeats 1000000 in
set_option maxRecDepth 20000 in
/-- errors.As finds the fault. -/
theorem As_c (gb : Nat) (x : Int) (u : Value) (w : World) (hg : w.cell? ⟨1, 0, none⟩ = some (.iface 279 (.agg #[.pointer (some ⟨5, 132, none⟩)]))) (hG : Box w gb [u]) :
    Calls Tryz.prog 167 #[.iface 190 (.agg #[.int .i64 x]), .iface 192 (.pointer (some ⟨gb, 0, none⟩))] w fun e w' =>
      e = .returned (.bool true) ∧ ∃ W, Below w.heap.size w W ∧ w' = W.setCell ⟨gb, 0, none⟩ (.int .i64 x) := by
  have e90 := @run_callFunc_extern Tryz.prog 222 _ (fun args => ReflectliteValue.unpack (args.getD 0 (.tuple #[]))) Tryz.func222 (by kernel_rfl) (by kernel_rfl) (by kernel_rfl) (by kernel_rfl)
  have e91 := @run_callFunc_extern Tryz.prog 223 _ (ReflectliteValue.methodAny (ReflectliteValue.valueError "reflectlite.Value.Type" 0) (fun t _ _ _ => ReflectliteType.toType t)) Tryz.func223 (by kernel_rfl) (by kernel_rfl) (by kernel_rfl) (by kernel_rfl)
  have e92 := @run_callFunc_extern Tryz.prog 224 _ (ReflectliteValue.method (ReflectliteValue.valueError "reflectlite.Value.IsNil" 0) ReflectliteValue.isNil) Tryz.func224 (by kernel_rfl) (by kernel_rfl) (by kernel_rfl) (by kernel_rfl)
  have e220 := @run_callFunc_extern Tryz.prog 295 _ (ReflectliteType.abiMethod fun t => do pure (.int .u8 (← Rtype.kind t))) Tryz.func295 (by kernel_rfl) (by kernel_rfl) (by kernel_rfl) (by kernel_rfl)
  have e230 := @run_callFunc_extern Tryz.prog 305 _ (ReflectliteType.method ReflectliteType.elem) Tryz.func305 (by kernel_rfl) (by kernel_rfl) (by kernel_rfl) (by kernel_rfl)
  have e231 := @run_callFunc_extern Tryz.prog 306 _ (ReflectliteType.relation "Implements" ReflectliteType.implements_) Tryz.func306 (by kernel_rfl) (by kernel_rfl) (by kernel_rfl) (by kernel_rfl)
  have v1 := rl_valueOfP
  have v2 := rl_typeP
  have mK := rl_methodKind
  have mE := rl_methodElem
  have mI := rl_methodImplements
  have kP := rl_kindP
  have kF := rl_kindF
  have eP := rl_elemP
  have iF := rl_implementsF
  obtain ⟨W2, hW2⟩ : ∃ W2, W2 = (w.alloc (.cells #[.pointer (some ⟨gb, 0, none⟩)] 192)).alloc (.cells #[.pointer (some ⟨5, 192, none⟩), .pointer (some ⟨w.heap.size, 0, none⟩), .int .u64 150] 246) := ⟨_, rfl⟩
  have hp2 : W2.cell? ⟨w.heap.size, 0, none⟩ = some (.pointer (some ⟨gb, 0, none⟩)) := by rw [hW2]; simp [go_sem]
  have n8 := rl_isNilP ⟨w.heap.size, 0, none⟩ ⟨gb, 0, none⟩ W2 hp2
  have hl0 := World.block_lt_of_cell? w _ hg
  have hg2 : W2.cell? ⟨1, 0, none⟩ = some (.iface 279 (.agg #[.pointer (some ⟨5, 132, none⟩)])) := by
    rw [hW2, World.cell?_alloc_lt _ _ _ (Nat.lt_of_lt_of_le hl0 (by simp)), World.cell?_alloc_lt _ _ _ hl0]
    exact hg
  have HB : Hid (Below w.heap.size w W2) := by rw [hW2]; exact ((Below.refl _ _).alloc (Nat.le_refl _) _).alloc (by simp) _
  have HA := chid (as_c gb w.heap.size x u W2 hp2 (by rw [hW2]; exact hG.onO.onO))
  rw [hW2] at n8 hg2 HA HB
  clear hG hp2 hW2 hg
  go_enter Tryz.func167, Tryz.ntmps167
  go_wp2_with fail
  refine Calls.mono HA.out ?_
  rintro e w1 ⟨rfl, o1, o2, rfl⟩
  go_wp2_with fail
  go_ret
  exact ⟨rfl, _, (HB.out.alloc HB.out.size _).alloc (by have := HB.out.size; simp; simp at this; omega) _, rfl⟩
end Go.Proofs.YtpkknifbocfeaaaGreatDoor
