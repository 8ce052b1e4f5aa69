import Derived.Test.YtbddbnjhmdbkbaaGreatDoorCaMgC
import Derived.Test.YtbddbnjhmdbkbaaGreatDoorCaMgF
import Derived.Test.YtbddbnjhmdbkbaaGreatDoorCaMgB
import Derived.LaidEql
import Derived.Stop.Asserts
import Derived.RowKitTokens
section
namespace Go.Proofs.YtbddbnjhmdbkbaaGreatDoor
open Go.RowKit

/-- An Env: the replicas; of each window the reason and the number; of each schedule whether it holds. -/
structure EnvP where
  rep : Int
  wins : List (Int × Int)
  crons : List Bool
abbrev Rs := Int × Int
/-- A number, or none for a reason. -/
abbrev noR (r : Int) : Rs := (0, r)
abbrev okR (n : Int) : Rs := (n, 0)
def ofOneR (f : Int → Int) (a : Rs) : Rs := if a.2 = 0 then okR (f a.1) else noR a.2
def ofTwoR (f : Int → Int → Rs) (a b : Rs) : Rs := if a.2 = 0 then (if b.2 = 0 then f a.1 b.1 else noR b.2) else noR a.2
abbrev b2i (b : Bool) : Int := if b = true then 1 else 0
def uF (k : Nat) (a : Int) : Int := if k = 8 then held (-a) else if k = 9 then 1 - a else if k = 10 then held a.natAbs else if k = 11 then held (-((-a) / 1000000) * 1000000) else held (a / 1000000 * 1000000)
def bF (k : Nat) (a b : Int) : Int := if k = 14 then held (a + b) else if k = 15 then held (a - b) else if k = 16 then held (a * b / 1000000) else if k = 18 then b2i (decide (a < b)) else if k = 19 then b2i (decide (a ≤ b)) else if k = 20 then b2i (decide (a = b)) else if k = 21 then b2i (decide (b < a)) else if k = 22 then b2i (decide (b ≤ a)) else if k = 23 then min a b else max a b
def divR (a b : Int) : Rs := if b = 0 then noR 2 else okR (held (fl (a * 1000000) b))
def countF (a : Int) : Int := held (-((-a) / 1000000) * 1000000) / 1000000
/-- Where a ladder goes on: the first bound above v, from i on; f steps are looked at. -/
def ladI (ps : List Co) (v : Int) (L : Nat) : Nat → Nat → Nat
  | 0, i => i
  | f + 1, i => if i + 1 < L then (if v < (ps.getD i co0).n then i + 1 else ladI ps v L f (i + 2)) else L - 1
/-- What the core c comes to, its parts coming to rs. -/
def workF (E : EnvP) (k : Nat) (c : Co) (rs : List Rs) : Rs :=
  if k = 1 ∨ k = 2 then okR c.n
  else if k = 3 then okR (held (E.rep * 1000000))
  else if k = 4 then (if (E.wins.getD c.n.toNat (0, 0)).1 = 0 then okR (E.wins.getD c.n.toNat (0, 0)).2 else noR (E.wins.getD c.n.toNat (0, 0)).1)
  else if k = 5 then okR (b2i (E.crons.getD c.n.toNat false))
  else if k = 6 then noR c.n
  else if k = 7 then rs.getD 0 (0, 0)
  else if 8 ≤ k ∧ k ≤ 12 then ofOneR (uF k) (rs.getD 0 (0, 0))
  else if k = 13 then ofOneR (fun a => held (a * c.n / c.m)) (rs.getD 0 (0, 0))
  else if k = 17 then ofTwoR divR (rs.getD 0 (0, 0)) (rs.getD 1 (0, 0))
  else if 14 ≤ k ∧ k ≤ 24 then ofTwoR (fun a b => okR (bF k a b)) (rs.getD 0 (0, 0)) (rs.getD 1 (0, 0))
  else if k = 25 then (if (rs.getD 0 (0, 0)).2 = 0 ∧ (rs.getD 0 (0, 0)).1 ≠ 0 then rs.getD 1 (0, 0) else noR (rs.getD 0 (0, 0)).2)
  else if k = 26 then (if (rs.getD 0 (0, 0)).2 = 0 ∧ (rs.getD 0 (0, 0)).1 ≠ 1 then rs.getD 1 (0, 0) else rs.getD 0 (0, 0))
  else if k = 27 then (if (rs.getD 0 (0, 0)).2 = 0 then rs.getD 0 (0, 0) else rs.getD 1 (0, 0))
  else if k = 28 then (if (rs.getD 0 (0, 0)).2 = 0 then (if (rs.getD 0 (0, 0)).1 = 1 then rs.getD 1 (0, 0) else rs.getD 2 (0, 0)) else noR (rs.getD 0 (0, 0)).2)
  else if k = 29 then noR 4
  else if k = 30 then ofOneR countF (rs.getD 0 (0, 0))
  else if k = 31 then ofOneR (fun a => held (E.rep + countF a)) (rs.getD 0 (0, 0))
  else (if (rs.getD 0 (0, 0)).2 = 0 then rs.getD (ladI c.parts (rs.getD 0 (0, 0)).1 c.parts.length c.parts.length 1) (0, 0) else noR (rs.getD 0 (0, 0)).2)
def telV (E : EnvP) : Co → Rs
  | ⟨k, n, m, ps⟩ => workF E k.toNat ⟨k, n, m, ps⟩ (ps.map (telV E))
theorem telV_eq (E : EnvP) (c : Co) : telV E c = workF E c.op.toNat c (c.parts.map (telV E)) := by
  cases c
  rw [telV]
/-- Formed where there are so many windows and schedules. -/
abbrev srt (E : EnvP) (c : Co) : Int := csort ladF E.wins.length E.crons.length 256 c
end Go.Proofs.YtbddbnjhmdbkbaaGreatDoor
end
section
namespace Go.Proofs.YtbddbnjhmdbkbaaGreatDoor
open Go.RowKit Go.Extern.Stop Go.Stop Go.Extern

theorem Box.onO {b : World} {g : Nat} {vs : List Value} {ob : Obj} (h : Box b g vs) : Box (b.alloc ob) g vs := h.next ((Below.refl _ _).alloc (Nat.le_refl _) _)
theorem rl_valueOfP (t : Addr) (w : World) : (ReflectliteValue.unpack (.iface 240 (.pointer (some t)))).run Tryz.prog w
    = .ok (.agg #[.pointer (some ⟨6, 240, none⟩), .pointer (some ⟨w.heap.size, 0, none⟩), .int .u64 150]) (w.alloc (.cells #[.pointer (some t)] 240)) := by kernel_rfl
theorem rl_typeP (a : Addr) (w : World) : (ReflectliteValue.methodAny (ReflectliteValue.valueError "reflectlite.Value.Type" 0) (fun t _ _ _ => ReflectliteType.toType t) #[.agg #[.pointer (some ⟨6, 240, none⟩), .pointer (some a), .int .u64 150]]).run Tryz.prog w
    = .ok (.iface 300 (.agg #[.pointer (some ⟨6, 240, none⟩)])) w := by kernel_rfl
theorem rl_methodKind (h : Value) (w : World) : (Go.method 448 300 (.agg #[h]) "Kind").run Tryz.prog w = .ok (304, h) w := by kernel_rfl
theorem rl_kindP (w : World) : ((ReflectliteType.abiMethod fun t => Functor.map (fun a : Nat => Value.int IntKind.u8 (a : Int)) (Rtype.kind t)) #[.pointer (some ⟨6, 240, none⟩)]).run Tryz.prog w = .ok (.int .u8 22) w := by kernel_rfl
theorem rl_kindF (w : World) : ((ReflectliteType.abiMethod fun t => Functor.map (fun a : Nat => Value.int IntKind.u8 (a : Int)) (Rtype.kind t)) #[.pointer (some ⟨6, 238, none⟩)]).run Tryz.prog w = .ok (.int .u8 25) w := by kernel_rfl
theorem rl_partsP (a : Addr) (w : World) : (ReflectliteValue.parts (.agg #[.pointer (some ⟨6, 240, none⟩), .pointer (some a), .int .u64 150])).run Tryz.prog w = .ok (some (240, a, 150)) w := by kernel_rfl
theorem rl_isNilP (a p : Addr) (W : World) (ha : W.cell? a = some (.pointer (some p))) :
    (ReflectliteValue.method (ReflectliteValue.valueError "reflectlite.Value.IsNil" 0) ReflectliteValue.isNil #[.agg #[.pointer (some ⟨6, 240, none⟩), .pointer (some a), .int .u64 150]]).run Tryz.prog W = .ok (.bool false) W := by
  show (Bind.bind (ReflectliteValue.parts _) _).run Tryz.prog W = _
  simp only [Sem.run_bind, Array.getLit, List.getElem_toArray, List.getElem_cons_zero, rl_partsP, Result.andThen]
  simp [ReflectliteValue.isNil, loadVar, isAgg, underlying, Tryz.underlying240, ha, Result.andThen]
theorem rl_methodElem (h : Value) (w : World) : (Go.method 448 300 (.agg #[h]) "Elem").run Tryz.prog w = .ok (314, .agg #[h]) w := by kernel_rfl
theorem rl_methodImplements (h : Value) (w : World) : (Go.method 448 300 (.agg #[h]) "Implements").run Tryz.prog w = .ok (315, .agg #[h]) w := by kernel_rfl
theorem rl_methodAssignableTo (h : Value) (w : World) : (Go.method 448 300 (.agg #[h]) "AssignableTo").run Tryz.prog w = .ok (312, .agg #[h]) w := by kernel_rfl
theorem rl_elemP (w : World) : (ReflectliteType.method ReflectliteType.elem #[.agg #[.pointer (some ⟨6, 240, none⟩)]]).run Tryz.prog w = .ok (.iface 300 (.agg #[.pointer (some ⟨6, 238, none⟩)])) w := by kernel_rfl
theorem rl_implementsF (w : World) : (ReflectliteType.relation "Implements" ReflectliteType.implements_ #[.agg #[.pointer (some ⟨6, 238, none⟩)], .iface 300 (.agg #[.pointer (some ⟨6, 174, none⟩)])]).run Tryz.prog w = .ok (.bool true) w := by kernel_rfl
theorem rl_typeOfF (v : Value) (w : World) : (ReflectliteType.typeOf #[.iface 238 v]).run Tryz.prog w = .ok (.iface 300 (.agg #[.pointer (some ⟨6, 238, none⟩)])) w := by kernel_rfl
theorem rl_assignableF (w : World) : (ReflectliteType.relation "AssignableTo" ReflectliteType.assignableTo #[.agg #[.pointer (some ⟨6, 238, none⟩)], .iface 300 (.agg #[.pointer (some ⟨6, 238, none⟩)])]).run Tryz.prog w = .ok (.bool true) w := by kernel_rfl
theorem rl_valueOfF (x : Int) (w : World) : (ReflectliteValue.unpack (.iface 238 (.agg #[.int .i64 x]))).run Tryz.prog w
    = .ok (.agg #[.pointer (some ⟨6, 238, none⟩), .pointer (some ⟨w.heap.size, 0, none⟩), .int .u64 153]) (w.alloc (.cells #[.int .i64 x] 238)) := by kernel_rfl
theorem rl_elemOfP (w : World) : (Rtype.elem? 240).run Tryz.prog w = .ok (some 238) w := by kernel_rfl
theorem rl_mkF (p : Addr) (w : World) : (ReflectliteValue.mk 238 p ReflectliteValue.flagAddr).run Tryz.prog w = .ok (.agg #[.pointer (some ⟨6, 238, none⟩), .pointer (some p), .int .u64 409]) w := by kernel_rfl
theorem rl_elemVP (a p : Addr) (W : World) (ha : W.cell? a = some (.pointer (some p))) :
    (ReflectliteValue.method (ReflectliteValue.valueError "reflectlite.Value.Elem" 0) ReflectliteValue.elem #[.agg #[.pointer (some ⟨6, 240, none⟩), .pointer (some a), .int .u64 150]]).run Tryz.prog W
      = .ok (.agg #[.pointer (some ⟨6, 238, none⟩), .pointer (some p), .int .u64 409]) W := by
  show (Bind.bind (ReflectliteValue.parts _) _).run Tryz.prog W = _
  simp only [Sem.run_bind, Array.getLit, List.getElem_toArray, List.getElem_cons_zero, rl_partsP, Result.andThen]
  simp [ReflectliteValue.elem, loadVar, isAgg, underlying, Tryz.underlying240, ha, Result.andThen, rl_elemOfP, rl_mkF]
theorem rl_partsFa (a : Addr) (w : World) : (ReflectliteValue.parts (.agg #[.pointer (some ⟨6, 238, none⟩), .pointer (some a), .int .u64 409])).run Tryz.prog w = .ok (some (238, a, 409)) w := by kernel_rfl
theorem rl_partsF (a : Addr) (w : World) : (ReflectliteValue.parts (.agg #[.pointer (some ⟨6, 238, none⟩), .pointer (some a), .int .u64 153])).run Tryz.prog w = .ok (some (238, a, 153)) w := by kernel_rfl
theorem rl_directF (w : World) : (Rtype.directlyAssignable 238 238).run Tryz.prog w = .ok true w := by kernel_rfl
theorem rl_loadF (b : Nat) (x : Value) (W : World) (h0 : W.cell? ⟨b, 0, none⟩ = some x) : (loadVar 238 ⟨b, 0, none⟩).run Tryz.prog W = .ok (.agg #[x]) W := by
  have hs : ∀ w : World, (sizeOf 238).run Tryz.prog w = .ok 1 w := fun w => by kernel_rfl
  have hg : ∀ w : World, (isAgg 238).run Tryz.prog w = .ok true w := fun w => by kernel_rfl
  simp [loadVar, hg, hs, Result.andThen, go_sem, h0]
theorem rl_storeF (t : Nat) (x : Int) (u : Value) (W : World) (h0 : W.cell? ⟨t, 0, none⟩ = some u) (f0 : W.frozen? ⟨t, 0, none⟩ = false) :
    (storeVar 238 ⟨t, 0, none⟩ (.agg #[.int .i64 x])).run Tryz.prog W = .ok () (W.setCell ⟨t, 0, none⟩ (.int .i64 x)) := by
  have s0 := run_store Tryz.prog W ⟨t, 0, none⟩ (.int .i64 x) .plain (by rfl)
  simp [h0, f0] at s0
  simp [storeVar, Value.cells, storeCells, Addr.add, Result.andThen]
  rw [s0]
theorem rl_setF (t b : Nat) (x : Int) (u : Value) (W : World) (b0 : W.cell? ⟨b, 0, none⟩ = some (.int .i64 x)) (h0 : W.cell? ⟨t, 0, none⟩ = some u) (f0 : W.frozen? ⟨t, 0, none⟩ = false) :
    (ReflectliteValue.set #[.agg #[.pointer (some ⟨6, 238, none⟩), .pointer (some ⟨t, 0, none⟩), .int .u64 409], .agg #[.pointer (some ⟨6, 238, none⟩), .pointer (some ⟨b, 0, none⟩), .int .u64 153]]).run Tryz.prog W
      = .ok (.tuple #[]) (W.setCell ⟨t, 0, none⟩ (.int .i64 x)) := by
  have l := rl_loadF b _ W b0
  have st := rl_storeF t x u W h0 f0
  show (Bind.bind (ReflectliteValue.parts _) _).run Tryz.prog W = _
  simp only [Sem.run_bind, Array.getLit, List.getElem_toArray, List.getElem_cons_zero, List.getElem_cons_succ, rl_partsFa, rl_partsF, Result.andThen]
  simp [ReflectliteValue.flagAddr, l, Result.andThen, rl_directF, st]
set_option maxHeartbeats 1000000 in
set_option maxRecDepth 20000 in
theorem as_c (gb a : Nat) (x : Int) (u : Value) (w : World) (ha : w.cell? ⟨a, 0, none⟩ = some (.pointer (some ⟨gb, 0, none⟩))) (hG : Box w gb [u]) :
    Calls Tryz.prog 260 #[.iface 238 (.agg #[.int .i64 x]), .iface 240 (.pointer (some ⟨gb, 0, none⟩)), .agg #[.pointer (some ⟨6, 240, none⟩), .pointer (some ⟨a, 0, none⟩), .int .u64 150], .iface 300 (.agg #[.pointer (some ⟨6, 238, none⟩)])] w fun e w' =>
      e = .returned (.bool true) ∧ ∃ o1 o2, w' = ((w.alloc o1).alloc o2).setCell ⟨gb, 0, none⟩ (.int .i64 x) := by
  have e90 := @run_callFunc_extern Tryz.prog 257 _ (fun args => ReflectliteValue.unpack (args.getD 0 (.tuple #[]))) Tryz.func257 (by kernel_rfl) (by kernel_rfl) (by kernel_rfl) (by kernel_rfl)
  have e116 := @run_callFunc_extern Tryz.prog 282 _ ReflectliteType.typeOf Tryz.func282 (by kernel_rfl) (by kernel_rfl) (by kernel_rfl) (by kernel_rfl)
  have e228 := @run_callFunc_extern Tryz.prog 312 _ (ReflectliteType.relation "AssignableTo" ReflectliteType.assignableTo) Tryz.func312 (by kernel_rfl) (by kernel_rfl) (by kernel_rfl) (by kernel_rfl)
  have e117 := @run_callFunc_extern Tryz.prog 283 _ (ReflectliteValue.method (ReflectliteValue.valueError "reflectlite.Value.Elem" 0) ReflectliteValue.elem) Tryz.func283 (by kernel_rfl) (by kernel_rfl) (by kernel_rfl) (by kernel_rfl)
  have e118 := @run_callFunc_extern Tryz.prog 284 _ ReflectliteValue.set Tryz.func284 (by kernel_rfl) (by kernel_rfl) (by kernel_rfl) (by kernel_rfl)
  have tO := rl_typeOfF
  have mA := rl_methodAssignableTo
  have aF := rl_assignableF
  have vF := rl_valueOfF
  have la := World.block_lt_of_cell? w _ ha
  have el := rl_elemVP ⟨a, 0, none⟩ ⟨gb, 0, none⟩ (w.alloc (.cells #[.pointer (some ⟨6, 240, none⟩), .pointer (some ⟨a, 0, none⟩), .int .u64 150] 275)) ((World.cell?_alloc_lt _ _ _ la).trans ha)
  have st := rl_setF gb (w.heap.size + 1) x u ((w.alloc (.cells #[.pointer (some ⟨6, 240, none⟩), .pointer (some ⟨a, 0, none⟩), .int .u64 150] 275)).alloc (.cells #[.int .i64 x] 238)) (by simp [go_sem])
    (hG.onO.onO.cell 0 _ rfl) (hG.onO.onO.free 0 (by simp))
  clear hG
  go_enter Tryz.func260, Tryz.ntmps260
  go_wp2
  refine wp_loop_rounds 1 ?_
  rw [rounds_succ]
  go_wp2
  go_ret
  exact ⟨rfl, _, _, rfl⟩
set_option maxHeartbeats 1000000 in
set_option maxRecDepth 20000 in
/-- errors.As finds the fault. -/
theorem As_c (gb : Nat) (x : Int) (u : Value) (w : World) (hg : w.cell? ⟨2, 0, none⟩ = some (.iface 300 (.agg #[.pointer (some ⟨6, 174, none⟩)]))) (hG : Box w gb [u]) :
    Calls Tryz.prog 200 #[.iface 238 (.agg #[.int .i64 x]), .iface 240 (.pointer (some ⟨gb, 0, none⟩))] w fun e w' =>
      e = .returned (.bool true) ∧ ∃ W, Below w.heap.size w W ∧ w' = W.setCell ⟨gb, 0, none⟩ (.int .i64 x) := by
  have e90 := @run_callFunc_extern Tryz.prog 257 _ (fun args => ReflectliteValue.unpack (args.getD 0 (.tuple #[]))) Tryz.func257 (by kernel_rfl) (by kernel_rfl) (by kernel_rfl) (by kernel_rfl)
  have e91 := @run_callFunc_extern Tryz.prog 258 _ (ReflectliteValue.methodAny (ReflectliteValue.valueError "reflectlite.Value.Type" 0) (fun t _ _ _ => ReflectliteType.toType t)) Tryz.func258 (by kernel_rfl) (by kernel_rfl) (by kernel_rfl) (by kernel_rfl)
  have e92 := @run_callFunc_extern Tryz.prog 259 _ (ReflectliteValue.method (ReflectliteValue.valueError "reflectlite.Value.IsNil" 0) ReflectliteValue.isNil) Tryz.func259 (by kernel_rfl) (by kernel_rfl) (by kernel_rfl) (by kernel_rfl)
  have e220 := @run_callFunc_extern Tryz.prog 304 _ (ReflectliteType.abiMethod fun t => do pure (.int .u8 (← Rtype.kind t))) Tryz.func304 (by kernel_rfl) (by kernel_rfl) (by kernel_rfl) (by kernel_rfl)
  have e230 := @run_callFunc_extern Tryz.prog 314 _ (ReflectliteType.method ReflectliteType.elem) Tryz.func314 (by kernel_rfl) (by kernel_rfl) (by kernel_rfl) (by kernel_rfl)
  have e231 := @run_callFunc_extern Tryz.prog 315 _ (ReflectliteType.relation "Implements" ReflectliteType.implements_) Tryz.func315 (by kernel_rfl) (by kernel_rfl) (by kernel_rfl) (by kernel_rfl)
  have v1 := rl_valueOfP
  have v2 := rl_typeP
  have mK := rl_methodKind
  have mE := rl_methodElem
  have mI := rl_methodImplements
  have kP := rl_kindP
  have kF := rl_kindF
  have eP := rl_elemP
  have iF := rl_implementsF
  obtain ⟨W2, hW2⟩ : ∃ W2, W2 = (w.alloc (.cells #[.pointer (some ⟨gb, 0, none⟩)] 240)).alloc (.cells #[.pointer (some ⟨6, 240, none⟩), .pointer (some ⟨w.heap.size, 0, none⟩), .int .u64 150] 275) := ⟨_, rfl⟩
  have hp2 : W2.cell? ⟨w.heap.size, 0, none⟩ = some (.pointer (some ⟨gb, 0, none⟩)) := by rw [hW2]; simp [go_sem]
  have n8 := rl_isNilP ⟨w.heap.size, 0, none⟩ ⟨gb, 0, none⟩ W2 hp2
  have hl0 := World.block_lt_of_cell? w _ hg
  have hg2 : W2.cell? ⟨2, 0, none⟩ = some (.iface 300 (.agg #[.pointer (some ⟨6, 174, none⟩)])) := by
    rw [hW2, World.cell?_alloc_lt _ _ _ (Nat.lt_of_lt_of_le hl0 (by simp)), World.cell?_alloc_lt _ _ _ hl0]
    exact hg
  have HB : Hid (Below w.heap.size w W2) := by rw [hW2]; exact ((Below.refl _ _).alloc (Nat.le_refl _) _).alloc (by simp) _
  have HA := chid (as_c gb w.heap.size x u W2 hp2 (by rw [hW2]; exact hG.onO.onO))
  rw [hW2] at n8 hg2 HA HB
  clear hG hp2 hW2 hg
  go_enter Tryz.func200, Tryz.ntmps200
  go_wp2_with fail
  refine Calls.mono HA.out ?_
  rintro e w1 ⟨rfl, o1, o2, rfl⟩
  go_wp2_with fail
  go_ret
  exact ⟨rfl, _, (HB.out.alloc HB.out.size _).alloc (by have := HB.out.size; simp; simp at this; omega) _, rfl⟩
end Go.Proofs.YtbddbnjhmdbkbaaGreatDoor
end
section
namespace Go.Proofs.YtbddbnjhmdbkbaaGreatDoor
open Go.RowKit

/-- The error that tells the reason r; none, if r is 0. -/
def errV (r : Int) : Value := if r = 0 then .nilIface else .iface 238 (.agg #[.int .i64 r])
theorem errV_0 : errV 0 = .nilIface := if_pos rfl
theorem errV_n {r : Int} (h : r ≠ 0) : errV r = .iface 238 (.agg #[.int .i64 r]) := if_neg h
abbrev resV (x : Rs) : Value := .tuple #[.int .i64 x.1, errV x.2]
/-- Results in a slice. -/
def WinsAt (w : World) (v : Value) (l : List (Int × Int)) : Prop := ∃ ad cap, v = .slice ad l.length cap ∧ (l = [] ∨ ∃ b off, ad = some ⟨b, off, none⟩ ∧ b < w.heap.size ∧ ∀ i, i < l.length → w.cell? ⟨b, off + i * 2, none⟩ = some (.int .i64 (l.getD i (0, 0)).1) ∧ w.cell? ⟨b, off + i * 2 + 1, none⟩ = some (.int .i64 (l.getD i (0, 0)).2))
/-- Truths in a slice. -/
def CronsAt (w : World) (v : Value) (l : List Bool) : Prop := ∃ ad cap, v = .slice ad l.length cap ∧ (l = [] ∨ ∃ b off, ad = some ⟨b, off, none⟩ ∧ b < w.heap.size ∧ ∀ i, i < l.length → w.cell? ⟨b, off + i, none⟩ = some (.bool (l.getD i false)))
theorem WinsAt.next {w w' : World} {v : Value} {l : List (Int × Int)} (h : WinsAt w v l) (k : Below w.heap.size w w') : WinsAt w' v l := by
  obtain ⟨ad, cap, rfl, h | ⟨b, off, rfl, hb, hc⟩⟩ := h
  · exact ⟨ad, cap, rfl, .inl h⟩
  · exact ⟨_, cap, rfl, .inr ⟨b, off, rfl, Nat.lt_of_lt_of_le hb k.size, fun i hi => ⟨(k.cell (p := ⟨b, _, none⟩) hb).trans (hc i hi).1, (k.cell (p := ⟨b, _, none⟩) hb).trans (hc i hi).2⟩⟩⟩
theorem CronsAt.next {w w' : World} {v : Value} {l : List Bool} (h : CronsAt w v l) (k : Below w.heap.size w w') : CronsAt w' v l := by
  obtain ⟨ad, cap, rfl, h | ⟨b, off, rfl, hb, hc⟩⟩ := h
  · exact ⟨ad, cap, rfl, .inl h⟩
  · exact ⟨_, cap, rfl, .inr ⟨b, off, rfl, Nat.lt_of_lt_of_le hb k.size, fun i hi => (k.cell (p := ⟨b, _, none⟩) hb).trans (hc i hi)⟩⟩
/-- What Go may hold of an Env. -/
structure EnvOk (E : EnvP) : Prop where
  rep : C64 E.rep
  wins : ∀ i, C64 (E.wins.getD i (0, 0)).1 ∧ C64 (E.wins.getD i (0, 0)).2
  wl : E.wins.length ≤ 9223372036854775807
  cl : E.crons.length ≤ 9223372036854775807
/-- The handle of the library's errors. -/
abbrev GlE (w : World) : Prop := w.cell? ⟨2, 0, none⟩ = some (.iface 300 (.agg #[.pointer (some ⟨6, 174, none⟩)]))
theorem GlE.next {w w' : World} (h : GlE w) (k : Below w.heap.size w w') : GlE w' := (k.cell (p := ⟨_, 0, none⟩) (World.block_lt_of_cell? w _ h)).trans h
/-- The teller lies at tb, its rows at b. -/
structure TlAt (w : World) (tb b : Nat) (E : EnvP) : Prop where
  ok : EnvOk E
  bx : ∃ v1 v2, Box w tb [.slice (some ⟨b, 0, none⟩) 33 33, .int .i64 E.rep, v1, v2] ∧ WinsAt w v1 E.wins ∧ CronsAt w v2 E.crons
  rows : RowsAt w b
  gl : GlE w
theorem TlAt.next {w w' : World} {tb b : Nat} {E : EnvP} (h : TlAt w tb b E) (k : Below w.heap.size w w') : TlAt w' tb b E := by
  obtain ⟨v1, v2, h1, h2, h3⟩ := h.bx
  exact ⟨h.ok, ⟨v1, v2, h1.next k, h2.next k, h3.next k⟩, h.rows.next k, GlE.next h.gl k⟩
theorem TlAt.cell0 {w : World} {tb b : Nat} {E : EnvP} (h : TlAt w tb b E) : w.cell? ⟨tb, 0, none⟩ = some (.slice (some ⟨b, 0, none⟩) 33 33) ∧ w.cell? ⟨tb, 1, none⟩ = some (.int .i64 E.rep) ∧ tb < w.heap.size := by
  obtain ⟨v1, v2, h1, -, -⟩ := h.bx
  exact ⟨h1.cell 0 _ rfl, h1.cell 1 _ rfl, h1.lt⟩
/-- tell says what the core t comes to. -/
def TeC (E : EnvP) (t : Co) : Prop := ∀ (v : Value) (tb b : Nat) (w : World), CSits w t v → TlAt w tb b E → Calls Tryz.prog 199 #[.pointer (some ⟨tb, 0, none⟩), coV t v] w fun e w' => e = .returned (resV (telV E t)) ∧ Below w.heap.size w w'
/-- The work of the row k says it. -/
def WkC (E : EnvP) (k : Nat) (t : Co) : Prop := ∀ (v : Value) (tb b : Nat) (w : World) (f : Nat) (q : Array Value), CSits w t v → TlAt w tb b E → WoF w k (.func (.func f) #[] q) → Calls Tryz.prog f (#[.pointer (some ⟨tb, 0, none⟩), coV t v] ++ q) w fun e w' => e = .returned (resV (telV E t)) ∧ Below w.heap.size w w'
theorem ent_work {w : World} {k f : Nat} {q : Array Value} (h1 : 1 ≤ k) (h2 : k ≤ 32) (h : WoF w k (.func (.func f) #[] q)) : Ent f := by
  have hw : ∀ k, 1 ≤ k → k ≤ 32 → (woT.getD k (0, 0)).1 = 0 → Ent (woT.getD k (0, 0)).2 := by
    apply op_cases (p := fun k => (woT.getD k (0, 0)).1 = 0 → Ent (woT.getD k (0, 0)).2) <;> (intro h args W; first | kernel_rfl | (exact absurd h (by decide)))
  unfold WoF at h
  split at h
  · next hm =>
    cases h
    exact hw k h1 h2 hm
  · obtain ⟨p, e, _⟩ := h
    cases e
    intro args W
    kernel_rfl
  · obtain ⟨p, e, _⟩ := h
    cases e
    intro args W
    kernel_rfl
set_option maxHeartbeats 4000000 in
set_option maxRecDepth 20000 in
theorem ctell_step (E : EnvP) (t : Co) (k : Nat) (hk1 : 1 ≤ k) (hk2 : k ≤ 32) (hop : t.op = (k : Int)) (HW : WkC E k t) : TeC E t := by
  intro v tb b w hs ht
  obtain ⟨op, tn, tm, ps⟩ := t
  obtain rfl : op = (k : Int) := hop
  obtain ⟨fs, fw, g1, g2, g3, g4, g5⟩ := ht.rows.row k hk1 hk2
  obtain ⟨f1, q1, rfl⟩ := g4.shape
  obtain ⟨f2, q2, rfl⟩ := g5.shape
  have hE := ent_work hk1 hk2 g5
  unfold Ent at hE
  obtain ⟨s0, -, sl⟩ := ht.cell0
  have hbl := ht.rows.lt
  have A : ∀ o, Below w.heap.size w (w.alloc o) := fun o => (Below.refl _ _).alloc (Nat.le_refl _) _
  have HC := chid (fun W (hW : Below w.heap.size w W) => HW v tb b W f2 q2 (hs.next hW) (ht.next hW) (g5.next hW))
  obtain ⟨ad, cap, rfl, -, -⟩ := hs.parts.shape
  have HA := chid A
  have hi3 : (k : Int) < 33 := by omega
  generalize telV E _ = R at *
  generalize ps.length = N at *
  clear HW hs ht g4 g5 A
  have X0 := Box.new w (coL ⟨k, tn, tm, ps⟩ (.slice ad N cap)) 30
  have ka := HA.out (.cells (coL ⟨k, tn, tm, ps⟩ (.slice ad N cap)).toArray 30)
  have t0 := (ka.cell (p := ⟨tb, 0, none⟩) sl).trans s0
  have t3 := (ka.cell (p := ⟨b, k * 3 + 2, none⟩) hbl).trans g3
  have c0 := X0.cell 0 _ rfl
  have c1 := X0.cell 1 _ rfl
  have c2 := X0.cell 2 _ rfl
  have c3 := X0.cell 3 _ rfl
  have x0 := X0.lt
  have k0 : b < (w.alloc (.cells (coL ⟨k, tn, tm, ps⟩ (.slice ad N cap)).toArray 30)).heap.size := Nat.lt_of_lt_of_le hbl ka.size
  have k1 : tb < (w.alloc (.cells (coL ⟨k, tn, tm, ps⟩ (.slice ad N cap)).toArray 30)).heap.size := Nat.lt_of_lt_of_le sl ka.size
  have HKa := chid ka
  clear s0 g1 g2 g3 X0 ka HA
  go_enter Tryz.func199, Tryz.ntmps199
  go_wp2_with fail
  generalize hW0 : w.alloc _ = w0 at *
  clear hW0
  go_region_held3 (fun w' => w'.cell? ⟨tb, 0, none⟩ = some (.slice (some ⟨b, 0, none⟩) 33 33) ∧ (w'.cell? ⟨w.heap.size, 0, none⟩ = some (.int .i64 (k : Int)) ∧ w'.cell? ⟨w.heap.size, 1, none⟩ = some (.int .i64 tn) ∧ w'.cell? ⟨w.heap.size, 2, none⟩ = some (.int .i64 tm) ∧ w'.cell? ⟨w.heap.size, 3, none⟩ = some (.slice ad N cap)) ∧ w'.cell? ⟨b, k * 3 + 2, none⟩ = some (.func (.func f2) #[] q2)) (simp [go_sem, *]) (first | (refine Calls.mono (HC.out _ (by exact cdrewN HKa.out _)) ?_; rintro e w1 ⟨rfl, B1⟩; have g0 := fun p v hp hv => (B1.cell (p := p) hp).trans (hv : w0.cell? p = some v); replace t0 := g0 _ _ k1 t0; replace t3 := g0 _ _ k0 t3; replace c0 := g0 _ _ x0 c0; replace c1 := g0 _ _ x0 c1; replace c2 := g0 _ _ x0 c2; replace c3 := g0 _ _ x0 c3; clear g0))
  have HB1 := chid (cbelow_on HKa.out (a := w0) (b := w1) ⟨B1.os, B1.tape, B1.output, B1.size, B1.block⟩ HKa.out.size)
  clear t0 t3 c0 c1 c2 c3 B1
  go_wp2_with fail
  go_ret2
  exact ⟨rfl, HB1.out⟩
end Go.Proofs.YtbddbnjhmdbkbaaGreatDoor
end
