import Derived.Test.YtecdfnpbcabdnaaGreatDoorMgF
import Derived.LaidEql
import Derived.Stop.Asserts
import Derived.RowKitTokens
import Derived.Defers
import Derived.Recover
section
namespace Go.Proofs.YtecdfnpbcabdnaaGreatDoor
open Go.RowKit Go.Extern.Stop Go.Stop Go.Extern
theorem rl_valueOfP (t:Addr)(w:World):(ReflectliteValue.unpack (.iface 79 (.pointer (some t)))).run Tryz.prog w
 = .ok (.agg #[.pointer (some ⟨9,79,none⟩),.pointer (some ⟨w.heap.size,0,none⟩),.int .u64 150]) (w.alloc (.cells #[.pointer (some t)] 79)):=by kernel_rfl
theorem rl_typeP (a:Addr)(w:World):(ReflectliteValue.methodAny (ReflectliteValue.valueError "reflectlite.Value.Type" 0) (fun t _ _ _=>ReflectliteType.toType t) #[.agg #[.pointer (some ⟨9,79,none⟩),.pointer (some a),.int .u64 150]]).run Tryz.prog w
 = .ok (.iface 133 (.agg #[.pointer (some ⟨9,79,none⟩)])) w:=by kernel_rfl
theorem rl_methodKind (h:Value)(w:World):(Go.method 355 133 (.agg #[h]) "Kind").run Tryz.prog w=.ok (205,h) w:=by kernel_rfl
theorem rl_kindP (w:World):((ReflectliteType.abiMethod fun t=>Functor.map (fun a:Nat=>Value.int IntKind.u8 (a:Int)) (Rtype.kind t)) #[.pointer (some ⟨9,79,none⟩)]).run Tryz.prog w=.ok (.int .u8 22) w:=by kernel_rfl
theorem rl_kindF (w:World):((ReflectliteType.abiMethod fun t=>Functor.map (fun a:Nat=>Value.int IntKind.u8 (a:Int)) (Rtype.kind t)) #[.pointer (some ⟨9,74,none⟩)]).run Tryz.prog w=.ok (.int .u8 25) w:=by kernel_rfl
theorem rl_partsP (a:Addr)(w:World):(ReflectliteValue.parts (.agg #[.pointer (some ⟨9,79,none⟩),.pointer (some a),.int .u64 150])).run Tryz.prog w=.ok (some (79,a,150)) w:=by kernel_rfl
theorem rl_isNilP (a p:Addr)(W:World)(ha:W.cell? a=some (.pointer (some p))):
 (ReflectliteValue.method (ReflectliteValue.valueError "reflectlite.Value.IsNil" 0) ReflectliteValue.isNil #[.agg #[.pointer (some ⟨9,79,none⟩),.pointer (some a),.int .u64 150]]).run Tryz.prog W=.ok (.bool false) W:=by
 show (Bind.bind (ReflectliteValue.parts _) _).run Tryz.prog W=_
 simp only[Sem.run_bind,Array.getLit,List.getElem_toArray,List.getElem_cons_zero,rl_partsP,Result.andThen]
 simp[ReflectliteValue.isNil,loadVar,isAgg,underlying,Tryz.underlying79,ha,Result.andThen]
theorem rl_methodElem (h:Value)(w:World):(Go.method 355 133 (.agg #[h]) "Elem").run Tryz.prog w=.ok (215,.agg #[h]) w:=by kernel_rfl
theorem rl_methodImplements (h:Value)(w:World):(Go.method 355 133 (.agg #[h]) "Implements").run Tryz.prog w=.ok (216,.agg #[h]) w:=by kernel_rfl
theorem rl_methodAssignableTo (h:Value)(w:World):(Go.method 355 133 (.agg #[h]) "AssignableTo").run Tryz.prog w=.ok (213,.agg #[h]) w:=by kernel_rfl
theorem rl_elemP (w:World):(ReflectliteType.method ReflectliteType.elem #[.agg #[.pointer (some ⟨9,79,none⟩)]]).run Tryz.prog w=.ok (.iface 133 (.agg #[.pointer (some ⟨9,74,none⟩)])) w:=by kernel_rfl
theorem rl_implementsF (w:World):(ReflectliteType.relation "Implements" ReflectliteType.implements_ #[.agg #[.pointer (some ⟨9,74,none⟩)],.iface 133 (.agg #[.pointer (some ⟨9,76,none⟩)])]).run Tryz.prog w=.ok (.bool true) w:=by kernel_rfl
theorem rl_typeOfF (v:Value)(w:World):(ReflectliteType.typeOf #[.iface 74 v]).run Tryz.prog w=.ok (.iface 133 (.agg #[.pointer (some ⟨9,74,none⟩)])) w:=by kernel_rfl
theorem rl_assignableF (w:World):(ReflectliteType.relation "AssignableTo" ReflectliteType.assignableTo #[.agg #[.pointer (some ⟨9,74,none⟩)],.iface 133 (.agg #[.pointer (some ⟨9,74,none⟩)])]).run Tryz.prog w=.ok (.bool true) w:=by kernel_rfl
theorem rl_valueOfF (x y:Int)(w:World):(ReflectliteValue.unpack (.iface 74 (.agg #[.int .i64 x,.int .i64 y]))).run Tryz.prog w
 = .ok (.agg #[.pointer (some ⟨9,74,none⟩),.pointer (some ⟨w.heap.size,0,none⟩),.int .u64 153]) (w.alloc (.cells #[.int .i64 x,.int .i64 y] 74)):=by kernel_rfl
theorem rl_elemOfP (w:World):(Rtype.elem? 79).run Tryz.prog w=.ok (some 74) w:=by kernel_rfl
theorem rl_mkF (p:Addr)(w:World):(ReflectliteValue.mk 74 p ReflectliteValue.flagAddr).run Tryz.prog w=.ok (.agg #[.pointer (some ⟨9,74,none⟩),.pointer (some p),.int .u64 409]) w:=by kernel_rfl
theorem rl_elemVP (a p:Addr)(W:World)(ha:W.cell? a=some (.pointer (some p))):
 (ReflectliteValue.method (ReflectliteValue.valueError "reflectlite.Value.Elem" 0) ReflectliteValue.elem #[.agg #[.pointer (some ⟨9,79,none⟩),.pointer (some a),.int .u64 150]]).run Tryz.prog W
   = .ok (.agg #[.pointer (some ⟨9,74,none⟩),.pointer (some p),.int .u64 409]) W:=by
 show (Bind.bind (ReflectliteValue.parts _) _).run Tryz.prog W=_
 simp only[Sem.run_bind,Array.getLit,List.getElem_toArray,List.getElem_cons_zero,rl_partsP,Result.andThen]
 simp[ReflectliteValue.elem,loadVar,isAgg,underlying,Tryz.underlying79,ha,Result.andThen,rl_elemOfP,rl_mkF]
theorem rl_partsFa (a:Addr)(w:World):(ReflectliteValue.parts (.agg #[.pointer (some ⟨9,74,none⟩),.pointer (some a),.int .u64 409])).run Tryz.prog w=.ok (some (74,a,409)) w:=by kernel_rfl
theorem rl_partsF (a:Addr)(w:World):(ReflectliteValue.parts (.agg #[.pointer (some ⟨9,74,none⟩),.pointer (some a),.int .u64 153])).run Tryz.prog w=.ok (some (74,a,153)) w:=by kernel_rfl
theorem rl_directF (w:World):(Rtype.directlyAssignable 74 74).run Tryz.prog w=.ok true w:=by kernel_rfl
theorem rl_loadF (b:Nat)(x y:Value)(W:World)(h0:W.cell? ⟨b,0,none⟩=some x)(h1:W.cell? ⟨b,1,none⟩=some y):(loadVar 74 ⟨b,0,none⟩).run Tryz.prog W=.ok (.agg #[x,y]) W:=by
 have hs:∀ w:World,(sizeOf 74).run Tryz.prog w=.ok 2 w:=fun w=>by kernel_rfl
 have hg:∀ w:World,(isAgg 74).run Tryz.prog w=.ok true w:=fun w=>by kernel_rfl
 simp[loadVar,hg,hs,Result.andThen,go_sem,h0,h1]
theorem rl_storeF (t:Nat)(x y:Int)(u v:Value)(W:World)(h0:W.cell? ⟨t,0,none⟩=some u)(h1:W.cell? ⟨t,1,none⟩=some v)(f0:W.frozen? ⟨t,0,none⟩=false)(f1:W.frozen? ⟨t,1,none⟩=false):
 (storeVar 74 ⟨t,0,none⟩ (.agg #[.int .i64 x,.int .i64 y])).run Tryz.prog W=.ok () ((W.setCell ⟨t,0,none⟩ (.int .i64 x)).setCell ⟨t,1,none⟩ (.int .i64 y)):=by
 have h2:(W.setCell ⟨t,0,none⟩ (.int .i64 x)).cell? ⟨t,1,none⟩=some v:=(World.cell?_setCell_other _ _ _ _ (by simp)).trans h1
 have f2:(W.setCell ⟨t,0,none⟩ (.int .i64 x)).frozen? ⟨t,1,none⟩=false:=(World.frozen?_setCell _ _ _ _).trans f1
 have s0:=run_store Tryz.prog W ⟨t,0,none⟩ (.int .i64 x) .plain (by rfl)
 have s1:=run_store Tryz.prog (W.setCell ⟨t,0,none⟩ (.int .i64 x)) ⟨t,1,none⟩ (.int .i64 y) .plain (by rfl)
 simp[h0,f0] at s0
 simp[h2,f2] at s1
 simp[storeVar,Value.cells,storeCells,Addr.add,Result.andThen]
 rw[s0]
 exact s1
theorem rl_setF (t b:Nat)(x y:Int)(u v:Value)(W:World)(b0:W.cell? ⟨b,0,none⟩=some (.int .i64 x))(b1:W.cell? ⟨b,1,none⟩=some (.int .i64 y))(h0:W.cell? ⟨t,0,none⟩=some u)(h1:W.cell? ⟨t,1,none⟩=some v)(f0:W.frozen? ⟨t,0,none⟩=false)(f1:W.frozen? ⟨t,1,none⟩=false):
 (ReflectliteValue.set #[.agg #[.pointer (some ⟨9,74,none⟩),.pointer (some ⟨t,0,none⟩),.int .u64 409],.agg #[.pointer (some ⟨9,74,none⟩),.pointer (some ⟨b,0,none⟩),.int .u64 153]]).run Tryz.prog W
   = .ok (.tuple #[]) ((W.setCell ⟨t,0,none⟩ (.int .i64 x)).setCell ⟨t,1,none⟩ (.int .i64 y)):=by
 have l:=rl_loadF b _ _ W b0 b1
 have st:=rl_storeF t x y u v W h0 h1 f0 f1
 show (Bind.bind (ReflectliteValue.parts _) _).run Tryz.prog W=_
 simp only[Sem.run_bind,Array.getLit,List.getElem_toArray,List.getElem_cons_zero,List.getElem_cons_succ,rl_partsFa,rl_partsF,Result.andThen]
 simp[ReflectliteValue.flagAddr,l,Result.andThen,rl_directF,st]
set_option maxHeartbeats 1000000 in
set_option maxRecDepth 20000 in
theorem as_c (gb a:Nat)(x y:Int)(u v:Value)(w:World)(ha:w.cell? ⟨a,0,none⟩=some (.pointer (some ⟨gb,0,none⟩)))(hG:Box w gb [u,v]):
 Calls Tryz.prog 73 #[.iface 74 (.agg #[.int .i64 x,.int .i64 y]),.iface 79 (.pointer (some ⟨gb,0,none⟩)),.agg #[.pointer (some ⟨9,79,none⟩),.pointer (some ⟨a,0,none⟩),.int .u64 150],.iface 133 (.agg #[.pointer (some ⟨9,74,none⟩)])] w fun e w'=>
  e=.returned (.bool true)/\∃ o1 o2,w'=(((w.alloc o1).alloc o2).setCell ⟨gb,0,none⟩ (.int .i64 x)).setCell ⟨gb,1,none⟩ (.int .i64 y):=by
 have e90:=@run_callFunc_extern Tryz.prog 70 _ (fun args=>ReflectliteValue.unpack (args.getD 0 (.tuple #[]))) Tryz.func70 (by kernel_rfl) (by kernel_rfl) (by kernel_rfl) (by kernel_rfl)
 have e116:=@run_callFunc_extern Tryz.prog 99 _ ReflectliteType.typeOf Tryz.func99 (by kernel_rfl) (by kernel_rfl) (by kernel_rfl) (by kernel_rfl)
 have e228:=@run_callFunc_extern Tryz.prog 213 _ (ReflectliteType.relation "AssignableTo" ReflectliteType.assignableTo) Tryz.func213 (by kernel_rfl) (by kernel_rfl) (by kernel_rfl) (by kernel_rfl)
 have e117:=@run_callFunc_extern Tryz.prog 100 _ (ReflectliteValue.method (ReflectliteValue.valueError "reflectlite.Value.Elem" 0) ReflectliteValue.elem) Tryz.func100 (by kernel_rfl) (by kernel_rfl) (by kernel_rfl) (by kernel_rfl)
 have e118:=@run_callFunc_extern Tryz.prog 101 _ ReflectliteValue.set Tryz.func101 (by kernel_rfl) (by kernel_rfl) (by kernel_rfl) (by kernel_rfl)
 have tO:=rl_typeOfF
 have mA:=rl_methodAssignableTo
 have aF:=rl_assignableF
 have vF:=rl_valueOfF
 have la:=World.block_lt_of_cell? w _ ha
 have el:=rl_elemVP ⟨a,0,none⟩ ⟨gb,0,none⟩ (w.alloc (.cells #[.pointer (some ⟨9,79,none⟩),.pointer (some ⟨a,0,none⟩),.int .u64 150] 103)) ((World.cell?_alloc_lt _ _ _ la).trans ha)
 have st:=rl_setF gb (w.heap.size+1) x y u v ((w.alloc (.cells #[.pointer (some ⟨9,79,none⟩),.pointer (some ⟨a,0,none⟩),.int .u64 150] 103)).alloc (.cells #[.int .i64 x,.int .i64 y] 74)) (by simp[go_sem]) (by simp[go_sem])
  (hG.onO.onO.cell 0 _ rfl) (hG.onO.onO.cell 1 _ rfl) (hG.onO.onO.free 0 (by simp)) (hG.onO.onO.free 1 (by simp))
 clear hG
 go_enter Tryz.func73,Tryz.ntmps73
 go_wp2
 refine wp_loop_rounds 1 ?_
 rw[rounds_succ]
 go_wp2
 go_ret
 exact⟨rfl,_,_,rfl⟩
set_option maxHeartbeats 1000000 in
set_option maxRecDepth 20000 in
theorem As_c (gb:Nat)(x y:Int)(u v:Value)(w:World)(hg:w.cell? ⟨0,0,none⟩=some (.iface 133 (.agg #[.pointer (some ⟨9,76,none⟩)])))(hG:Box w gb [u,v]):
 Calls Tryz.prog 44 #[.iface 74 (.agg #[.int .i64 x,.int .i64 y]),.iface 79 (.pointer (some ⟨gb,0,none⟩))] w fun e w'=>
  e=.returned (.bool true)/\∃ W,Below w.heap.size w W/\w'=(W.setCell ⟨gb,0,none⟩ (.int .i64 x)).setCell ⟨gb,1,none⟩ (.int .i64 y):=by
 have e90:=@run_callFunc_extern Tryz.prog 70 _ (fun args=>ReflectliteValue.unpack (args.getD 0 (.tuple #[]))) Tryz.func70 (by kernel_rfl) (by kernel_rfl) (by kernel_rfl) (by kernel_rfl)
 have e91:=@run_callFunc_extern Tryz.prog 71 _ (ReflectliteValue.methodAny (ReflectliteValue.valueError "reflectlite.Value.Type" 0) (fun t _ _ _=>ReflectliteType.toType t)) Tryz.func71 (by kernel_rfl) (by kernel_rfl) (by kernel_rfl) (by kernel_rfl)
 have e92:=@run_callFunc_extern Tryz.prog 72 _ (ReflectliteValue.method (ReflectliteValue.valueError "reflectlite.Value.IsNil" 0) ReflectliteValue.isNil) Tryz.func72 (by kernel_rfl) (by kernel_rfl) (by kernel_rfl) (by kernel_rfl)
 have e220:=@run_callFunc_extern Tryz.prog 205 _ (ReflectliteType.abiMethod fun t=>do pure (.int .u8 (<-Rtype.kind t))) Tryz.func205 (by kernel_rfl) (by kernel_rfl) (by kernel_rfl) (by kernel_rfl)
 have e230:=@run_callFunc_extern Tryz.prog 215 _ (ReflectliteType.method ReflectliteType.elem) Tryz.func215 (by kernel_rfl) (by kernel_rfl) (by kernel_rfl) (by kernel_rfl)
 have e231:=@run_callFunc_extern Tryz.prog 216 _ (ReflectliteType.relation "Implements" ReflectliteType.implements_) Tryz.func216 (by kernel_rfl) (by kernel_rfl) (by kernel_rfl) (by kernel_rfl)
 have v1:=rl_valueOfP
 have v2:=rl_typeP
 have mK:=rl_methodKind
 have mE:=rl_methodElem
 have mI:=rl_methodImplements
 have kP:=rl_kindP
 have kF:=rl_kindF
 have eP:=rl_elemP
 have iF:=rl_implementsF
 obtain⟨W2,hW2⟩:∃ W2,W2=(w.alloc (.cells #[.pointer (some ⟨gb,0,none⟩)] 79)).alloc (.cells #[.pointer (some ⟨9,79,none⟩),.pointer (some ⟨w.heap.size,0,none⟩),.int .u64 150] 103):=⟨_,rfl⟩
 have hp2:W2.cell? ⟨w.heap.size,0,none⟩=some (.pointer (some ⟨gb,0,none⟩)):=by rw[hW2];simp[go_sem]
 have n8:=rl_isNilP ⟨w.heap.size,0,none⟩ ⟨gb,0,none⟩ W2 hp2
 have hl0:=World.block_lt_of_cell? w _ hg
 have hg2:W2.cell? ⟨0,0,none⟩=some (.iface 133 (.agg #[.pointer (some ⟨9,76,none⟩)])):=by
  rw[hW2,World.cell?_alloc_lt _ _ _ (by simp),World.cell?_alloc_lt _ _ _ hl0]
  exact hg
 have HB:Hid (Below w.heap.size w W2):=by rw[hW2];exact((Below.refl _ _).alloc (Nat.le_refl _) _).alloc (by simp) _
 have HA:=hid2 (as_c gb w.heap.size x y u v W2 hp2 (by rw[hW2];exact hG.onO.onO))
 rw[hW2] at n8 hg2 HA HB
 clear hG hp2 hW2 hg
 go_enter Tryz.func44,Tryz.ntmps44
 go_wp2_with fail
 refine Calls.mono HA.out ?_
 rintro e w1 ⟨rfl,o1,o2,rfl⟩
 go_wp2_with fail
 go_ret
 exact⟨rfl,_,(HB.out.alloc HB.out.size _).alloc (by have:=HB.out.size;simp;simp at this;omega) _,rfl⟩
end Go.Proofs.YtecdfnpbcabdnaaGreatDoor
end
section
namespace Go.Proofs.YtecdfnpbcabdnaaGreatDoor
open Go.RowKit Go.Lib
abbrev ErrT (w:World):Prop:=w.cell? ⟨0,0,none⟩=some (.iface 133 (.agg #[.pointer (some ⟨9,76,none⟩)]))
theorem assert_err (v:Value)(w:World):(Instr.typeAssert (.iface 74 v) 20 76 true).run Tryz.prog w=.ok (.tuple #[.iface 74 v,.bool true]) w:=by kernel_rfl
set_option maxHeartbeats 1000000 in
set_option maxRecDepth 20000 in
theorem catchT_p (p q:Nat)(x y:Value)(f:Flt)(older:List PanicEntry)(w:World)(hp:Box w p [x])(hq:Box w q [y])(hne:p≠q)(hg:ErrT w):
 CallsD Tryz.prog 60 #[.pointer (some ⟨p,0,none⟩),.pointer (some ⟨q,0,none⟩)] (.panicking (fltE f::older)) w fun e u' w'=>
  e=.returned (.tuple #[])/\u'=.panicking ({v:=.iface 74 (fltV f),recovered:=true}::older)/\∃ W,Below w.heap.size w W/\w'=(W.setCell ⟨p,0,none⟩ (.int .i64 (f.1:Nat))).setCell ⟨q,0,none⟩ (.int .i64 f.2):=by
 have ta:=assert_err
 refine callsD_of_wpS Tryz.func60 rfl fun c₀ cs hu=>?_
 apply wpS_seq
 apply wpS_region
 simp[wpOpsS,go_sem,recoverD,hu,Tryz.ntmps60,Exit.thenS]
 obtain⟨Q,hQ1,hQ2⟩:∃ Q:Exit->Act->World->Prop,Hid (∀ (a':Act) W,a'.defers=[]->Below w.heap.size w W->Q .normal a' ((W.setCell ⟨p,0,none⟩ (.int .i64 (f.1:Nat))).setCell ⟨q,0,none⟩ (.int .i64 f.2)))/\Hid (∀ e a' w',Q e a' w'->e=.normal/\a'.defers=[]/\∃ W,Below w.heap.size w W/\w'=(W.setCell ⟨p,0,none⟩ (.int .i64 (f.1:Nat))).setCell ⟨q,0,none⟩ (.int .i64 f.2)):=
  ⟨fun e a' w'=>e=.normal/\a'.defers=[]/\∃ W,Below w.heap.size w W/\w'=(W.setCell ⟨p,0,none⟩ (.int .i64 (f.1:Nat))).setCell ⟨q,0,none⟩ (.int .i64 f.2),fun a' W hd hW=>⟨rfl,hd,W,hW,rfl⟩,fun e a' w' h=>h⟩
 refine wpS_of_wp (wp_mono (Q:=Q) ?_ ?_)
 ·have HA:=hid2 (As_c w.heap.size (f.1:Nat) f.2 (.int .i64 0) (.int .i64 1) (w.alloc (.cells #[.int .i64 0,.int .i64 1] 74)) ((World.cell?_alloc_lt _ _ _ (World.block_lt_of_cell? w _ hg)).trans hg) (Box.new w [.int .i64 0,.int .i64 1] 74))
  clear hQ2 hu hg
  have ea:(#[.pointer (some ⟨p,0,none⟩),.pointer (some ⟨q,0,none⟩)]++((Array.replicate 21 undef).setIfInBounds 4 (.iface 74 (fltV f))).setIfInBounds 0 (.iface 74 (fltV f)):Array Value)=#[.pointer (some ⟨p,0,none⟩),.pointer (some ⟨q,0,none⟩),.iface 74 (fltV f),undef,undef,undef,.iface 74 (fltV f),undef,undef,undef,undef,undef,undef,undef,undef,undef,undef,undef,undef,undef,undef,undef,undef]:=by kernel_rfl
  rw[ea]
  clear ea
  simp only[fltV]
  go_wp2_with fail
  refine Calls.mono HA.out ?_
  rintro e w1 ⟨rfl,W,hW,rfl⟩
  have bW:Below w.heap.size w W:=below_on ((Below.refl _ _).alloc (Nat.le_refl _) _) hW (by simp)
  have P1:=(hp.onO.next hW)
  have Q1:=(hq.onO.next hW)
  have G1:=((Box.new w [.int .i64 0,.int .i64 1] 74).next hW)
  have hpl:=hp.lt
  have hql:=hq.lt
  have G2:=(G1.set 0 (by simp) (.int .i64 (f.1:Nat))).set 1 (by simp) (.int .i64 f.2)
  have P2:=(P1.other (q:=w.heap.size) (j:=0) (v:=.int .i64 (f.1:Nat)) (by omega)).other (q:=w.heap.size) (j:=1) (v:=.int .i64 f.2) (by omega)
  have Q2:=(Q1.other (q:=w.heap.size) (j:=0) (v:=.int .i64 (f.1:Nat)) (by omega)).other (q:=w.heap.size) (j:=1) (v:=.int .i64 f.2) (by omega)
  have bF:Hid (Below w.heap.size w ((W.setCell ⟨w.heap.size,0,none⟩ (.int .i64 (f.1:Nat))).setCell ⟨w.heap.size,1,none⟩ (.int .i64 f.2))):=(bW.setCell (Nat.le_refl _) _).setCell (Nat.le_refl _) _
  clear P1 Q1 G1 bW hW HA hp hq
  generalize (W.setCell ⟨w.heap.size,0,none⟩ (.int .i64 (f.1:Nat))).setCell ⟨w.heap.size,1,none⟩ (.int .i64 f.2)=W2 at *
  have g0:=G2.cell 0 _ rfl
  have g1:=G2.cell 1 _ rfl
  have p0:=P2.cell 0 _ rfl
  have pf:=P2.free 0 (by simp)
  have pl:=P2.lt
  have q0:=Q2.cell 0 _ rfl
  have qf:=Q2.free 0 (by simp)
  have ql:=Q2.lt
  have gl:=G2.lt
  clear G2 P2 Q2
  go_wp2_with fail
  exact hQ1.out _ _ rfl bF.out
 ·rintro e a' w' hh
  obtain⟨rfl,hd,W,hW,rfl⟩:=hQ2.out _ _ _ hh
  simp[bodyPostS,results,Tryz.results60]
  exact⟨hd,W,hW,rfl⟩
theorem catchT_idle (p q:Addr)(w:World):
 CallsD Tryz.prog 60 #[.pointer (some p),.pointer (some q)] .returning w fun e u' w'=>e=.returned (.tuple #[])/\u'=.returning/\w'=w:=by
 refine callsD_of_wpS Tryz.func60 rfl fun c₀ cs hu=>?_
 apply wpS_seq
 apply wpS_region
 simp[wpOpsS,go_sem,recoverD,hu,Tryz.ntmps60,Exit.thenS]
 obtain⟨Q,hQ1,hQ2⟩:∃ Q:Exit->Act->World->Prop,Hid (∀ (a':Act),a'.defers=[]->Q .ret a' w)/\Hid (∀ e a' w',Q e a' w'->e=.ret/\a'.defers=[]/\w'=w):=
  ⟨fun e a' w'=>e=.ret/\a'.defers=[]/\w'=w,fun a' hd=>⟨rfl,hd,rfl⟩,fun e a' w' h=>h⟩
 refine wpS_of_wp (wp_mono (Q:=Q) ?_ ?_)
 ·clear hQ2
  have ea:(#[.pointer (some p),.pointer (some q)]++((Array.replicate 21 undef).setIfInBounds 4 .nilIface).setIfInBounds 0 .nilIface:Array Value)=#[.pointer (some p),.pointer (some q),.nilIface,undef,undef,undef,.nilIface,undef,undef,undef,undef,undef,undef,undef,undef,undef,undef,undef,undef,undef,undef,undef,undef]:=by kernel_rfl
  rw[ea]
  clear ea hu
  go_wp2_with fail
  exact hQ1.out _ rfl
 ·rintro e a' w' hh
  obtain⟨rfl,hd,rfl⟩:=hQ2.out _ _ _ hh
  cases c₀
  simp_all[bodyPostS,results,Tryz.results60]
def WhP (z B:Nat)(w:World)(rb:Nat)(pe:Except Flt Tm)(e:Ending)(w':World):Prop:=
 Turn [rb] w w'/\match pe with
  | .ok t=>∃ u,e=.returned (tmV t u)/\SitB B z w' t u
  | .error f=>e=.panicked [fltE f]
theorem end_err {c:Int}{L:List Tk}{w w':World}{e:Ending}{f:Flt}(hx:(endP c ((),L):Except Flt Unit)=.error f)(h:EndQ w c L e w'):e=.panicked [fltE f]/\Below w.heap.size w w':=by
 unfold EndQ at h
 rw[hx] at h
 exact⟨h.2,h.1⟩
theorem end_ok {c:Int}{L:List Tk}{w w':World}{e:Ending}{y:Unit}(hx:(endP c ((),L):Except Flt Unit)=.ok y)(h:EndQ w c L e w'):e=.returned (.tuple #[])/\Below w.heap.size w w':=by
 unfold EndQ at h
 rw[hx] at h
 exact⟨h.2,h.1⟩
theorem endP_of {α : Type}{c:Int}{y : α × List Tk}:endP c y=bnd (endP c ((),y.2):Except Flt Unit) fun _=>.ok y.1:=by
 unfold endP
 cases nxt c y.2 with
 | error f=>rfl
 | ok t=>
   simp only[bnd_ok]
   split<;>rfl
set_option maxHeartbeats 1000000 in
set_option maxRecDepth 20000 in
theorem wholeT1_c {z rb tb lb:Nat}{c:Int}{L:List Tk}{o:Nat}{fn:Nat}{p:Ps}(hfn:fn=21)(HP:ExC z rb tb lb c o fn p)(fb rv:Nat)(w:World)(hf:w.cell? ⟨fb,0,none⟩=some (.func (.func fn) #[] #[]))(hv:w.cell? ⟨rv,0,none⟩=some (.pointer (some ⟨rb,0,none⟩)))(hfv:fb≠rb/\rv≠rb)(hr:Rea z w rb tb lb c L o):
 Calls Tryz.prog 36 #[.pointer (some ⟨fb,0,none⟩),.pointer (some ⟨rv,0,none⟩)] w (WhP z w.heap.size w rb (bnd (p L) (endP c))):=by
 subst hfn
 obtain⟨pr,hpr⟩:∃ pr,Hid (pr=bnd (p L) (endP c)):=⟨_,rfl⟩
 rw[<-hpr.out]
 have hE:Hid (∀ f w',pr=.error f->Turn [rb] w w'->WhP z w.heap.size w rb pr (.panicked [fltE f]) w'):=fun f w' h ht=>by subst h;exact⟨ht,rfl⟩
 have hO:Hid (∀ t w' v u,pr=.ok t->Turn [rb] w w'->v=tmV t u->SitB w.heap.size z w' t u->WhP z w.heap.size w rb pr (.returned v) w'):=fun t w' v u h ht hv hs=>by subst h;exact⟨ht,u,by rw[hv],hs⟩
 generalize WhP z w.heap.size w rb pr=Post at *
 have hL:=hr.lts
 have hne:w.heap.size∉[rb]:=by simp;omega
 have lf:=World.block_lt_of_cell? w _ hf
 have lv:=World.block_lt_of_cell? w _ hv
 have Z0:=Box.new w zs6 33
 have T0:=tnO (ob:=.cells (zs6).toArray 33) (Turn.refl [rb] w)
 have r0:=hr.onO (ob:=.cells (zs6).toArray 33)
 have zsz:w.heap.size<(w.alloc (.cells (zs6).toArray 33)).heap.size:=by simp
 have hv0:(w.alloc (.cells (zs6).toArray 33)).cell? ⟨rv,0,none⟩=some (.pointer (some ⟨rb,0,none⟩)):=(World.cell?_alloc_lt _ _ _ lv).trans hv
 go_enter Tryz.func36,Tryz.ntmps36
 go_wp2_with fail
 clear hr
 generalize hW0:w.alloc _=w0 at *
 clear hW0
 refine Calls.mono (HP _ _ r0) ?_
 intro e w1 h1
 rcases hy:p L with f | y
 ·obtain⟨rfl,t1⟩:=Out.of_err hy h1
  go_wp2_with fail
  exact⟨rfl,hE.out _ _ (by rw[hpr.out,hy];rfl) (tn T0 t1)⟩
 obtain⟨t1,_,rfl,⟨u1,rfl,S1⟩,r1⟩:=Out.of_ok hy h1
 obtain⟨av,cv,hu,-,-⟩:=S1.parts.shape
 subst hu
 have hpr1:Hid (pr=bnd (endP c ((),y.2):Except Flt Unit) fun _=>.ok y.1):=by show _=_;rw[hpr.out,hy,bnd_ok];exact endP_of
 have T1:=tn T0 t1
 have Z1:=Z0.turn t1 hne
 have hv1:=(turn_cell t1 (World.block_lt_of_cell? w0 _ hv0) (by simp;exact hfv.2)).trans hv0
 have s1:=t1.size
 clear h1 t1 Z0 T0 r0 hv0 hf hv
 generalize hnn:y.1.parts.length=nn at *
 simp only[tmV]
 have lv1:=World.block_lt_of_cell? w1 _ hv1
 go_wp2_with fail
 have T2:=tnO (ob:=.cells (tmL y.1 (.slice av nn cv)).toArray 33) T1
 have r2:=r1.onO (ob:=.cells (tmL y.1 (.slice av nn cv)).toArray 33)
 have Z2:=Z1.onO (ob:=.cells (tmL y.1 (.slice av nn cv)).toArray 33)
 have L2:=Box.new w1 (tmL y.1 (.slice av nn cv)) 33
 have S2:=hid2 (SitB.turn (S:=[]) S1 (Turn.of_below ((Below.refl _ w1).alloc (Nat.le_refl _) (.cells (tmL y.1 (.slice av nn cv)).toArray 33))) (by simp))
 have s2:=World.size_alloc w1 (.cells (tmL y.1 (.slice av nn cv)).toArray 33)
 clear S1 T1 r1 Z1
 generalize hW2:w1.alloc _=w2 at *
 clear hW2
 refine Calls.mono (end_c _ r2) ?_
 intro e w3 h3
 rcases hz:(endP c ((),y.2):Except Flt Unit) with f | q
 ·obtain⟨rfl,b3⟩:=end_err hz h3
  go_wp2_with fail
  exact⟨rfl,hE.out _ _ (by rw[hpr1.out,hz];rfl) (T2.andBelow b3)⟩
 obtain⟨rfl,b3⟩:=end_ok hz h3
 obtain⟨p0,p1,p2,p3,p4,p5,q0,q1,q2,q3,q4,q5⟩:=(Z2.next b3).six
 obtain⟨x0,x1,x2,x3,x4,x5,y0,y1,y2,y3,y4,y5⟩:=(L2.next b3).six
 have pl:=(Z2.next b3).lt
 have xl:=(L2.next b3).lt
 have T3:=T2.andBelow b3
 have S3:=hid2 (SitB.turn (S:=[]) S2.out (Turn.of_below b3) (by simp))
 have hg:w1.heap.size≠w.heap.size:=by omega
 clear Z2 L2 b3 h3 T2 r2 S2
 go_wp2_with fail
 refine bodyPost_ret (v:=tmV y.1 (.slice av nn cv)) (by simp[results,Tryz.results36,go_sem, *]) rfl (hO.out y.1 _ _ (.slice av nn cv) (by rw[hpr1.out,hz];rfl) ?_ rfl ?_)
 ·exact T3.trans (turn_six _ _ _ _ _ _ _ _) (fun i hi=>.inr (by simp at hi;omega))
 ·exact SitB.lower (SitB.turn S3.out (turn_six _ _ _ _ _ _ _ _) (by simp;omega)) (by omega)
def CaP (z B:Nat)(w:World)(rb:Nat)(pe:Except Flt Tm)(e:Ending)(w':World):Prop:=
 Turn [rb] w w'/\match pe with
  | .ok t=>∃ u,e=.returned (.tuple #[tmV t u,.int .i64 0,.int .i64 0])/\SitB B z w' t u
  | .error f=>e=.returned (.tuple #[.agg (zs6).toArray,.int .i64 (f.1:Nat),.int .i64 f.2])
set_option maxHeartbeats 2000000 in
set_option maxRecDepth 20000 in
theorem caughtT_c {z rb:Nat}(pe:Except Flt Tm)(fb rv:Nat)(w:World)(hg:ErrT w)(hlr:rb<w.heap.size)
 (C:∀ W,Below w.heap.size w W->Calls Tryz.prog 36 #[.pointer (some ⟨fb,0,none⟩),.pointer (some ⟨rv,0,none⟩)] W (WhP z W.heap.size W rb pe)) (h0:rb≠0) :
 Calls Tryz.prog 35 #[.func (.func 36) #[] #[.pointer (some ⟨fb,0,none⟩),.pointer (some ⟨rv,0,none⟩)]] w (CaP z w.heap.size w rb pe):=by
 have hmf:∀ (fn:Fn) (first cap:Array Value) (w:World),(Instr.makeFunc fn first cap).run Tryz.prog w=.ok (.func fn first cap) w:=fun _ _ _ _=>rfl
 obtain⟨X0,X1,X2,XB⟩:=three_boxes w 33 3 26 zs6 [.int .i64 0] [.int .i64 0]
 have HC:=hid2 (C _ XB)
 have lg:0<w.heap.size:=World.block_lt_of_cell? w _ hg
 have hB3:(((w.alloc (.cells (zs6).toArray 33)).alloc (.cells ([Value.int .i64 0]).toArray 3)).alloc (.cells ([Value.int .i64 0]).toArray 26)).heap.size=w.heap.size+1+1+1:=by simp
 rcases pe with f | t
 ·have hP:Hid (∀ w',Turn [rb] w w'->CaP z w.heap.size w rb (.error f) (.returned (.tuple #[.agg (zs6).toArray,.int .i64 (f.1:Nat),.int .i64 f.2])) w'):=fun w' ht=>⟨ht,rfl⟩
  generalize CaP z w.heap.size w rb (.error f)=Post at *
  go_enter_defers Tryz.func35,Tryz.ntmps35
  go_wp2_with fail
  refine Calls.mono HC.out ?_
  rintro e w1 ⟨t1,rfl⟩
  have hne0:w.heap.size∉[rb]:=by simp;omega
  have hne1:w.heap.size+1∉[rb]:=by simp;omega
  have hne2:w.heap.size+1+1∉[rb]:=by simp;omega
  have Y0:=X0.turn t1 hne0
  have Y1:=X1.turn t1 hne1
  have Y2:=X2.turn t1 hne2
  have hg1:ErrT w1:=(turn_cell t1 (Nat.lt_of_lt_of_le lg XB.size) (by simp;omega)).trans ((XB.cell (p:=⟨0,0,none⟩) lg).trans hg)
  have T1:=(Turn.of_below (S:=[rb]) XB).trans t1 (fun i hi=>.inl hi)
  refine leaves_cons (f:=60) (args:=#[.pointer (some ⟨w.heap.size+1,0,none⟩),.pointer (some ⟨w.heap.size+1+1,0,none⟩)]) (by simp) (by simp[go_sem]) ?_
  refine(catchT_p (w.heap.size+1) (w.heap.size+1+1) (.int .i64 0) (.int .i64 0) f [] w1 Y1 Y2 (by omega) hg1).mono ?_
  rintro e u' w'' ⟨rfl,rfl,W,hW,rfl⟩
  have Z0:=((Y0.next hW).other (q:=w.heap.size+1) (j:=0) (v:=.int .i64 (f.1:Nat)) (by omega)).other (q:=w.heap.size+1+1) (j:=0) (v:=.int .i64 f.2) (by omega)
  have Z1:=((Y1.next hW).set 0 (by simp) (.int .i64 (f.1:Nat))).other (q:=w.heap.size+1+1) (j:=0) (v:=.int .i64 f.2) (by omega)
  have Z2:=((Y2.next hW).other (q:=w.heap.size+1) (j:=0) (v:=.int .i64 (f.1:Nat)) (by omega)).set 0 (by simp) (.int .i64 f.2)
  have T2:Turn [rb] w ((W.setCell ⟨w.heap.size+1,0,none⟩ (.int .i64 (f.1:Nat))).setCell ⟨w.heap.size+1+1,0,none⟩ (.int .i64 f.2)):=((T1.andBelow hW).andSet _ _ (.inr (by simp))).andSet _ _ (.inr (by simp;omega))
  have HF:=hP.out _ T2
  generalize (W.setCell ⟨w.heap.size+1,0,none⟩ (.int .i64 (f.1:Nat))).setCell ⟨w.heap.size+1+1,0,none⟩ (.int .i64 f.2)=WF at *
  obtain⟨a0,a1,a2,a3,a4,a5,_⟩:=Z0.six
  have b0:=Z1.cell 0 _ rfl
  have c0:=Z2.cell 0 _ rfl
  have HFF:=hid2 HF
  clear HF
  simp[Leaves,settle,results,Tryz.results35,go_sem, *]
  exact HFF.out
 ·have hP:Hid (∀ w' u,Turn [rb] w w'->SitB w.heap.size z w' t u->CaP z w.heap.size w rb (.ok t) (.returned (.tuple #[tmV t u,.int .i64 0,.int .i64 0])) w'):=fun w' u ht hs=>⟨ht,u,rfl,hs⟩
  generalize CaP z w.heap.size w rb (.ok t)=Post at *
  go_enter_defers Tryz.func35,Tryz.ntmps35
  go_wp2_with fail
  refine Calls.mono HC.out ?_
  rintro e w1 ⟨t1,u,rfl,S1⟩
  have hne0:w.heap.size∉[rb]:=by simp;omega
  have hne1:w.heap.size+1∉[rb]:=by simp;omega
  have hne2:w.heap.size+1+1∉[rb]:=by simp;omega
  have Y0:=X0.turn t1 hne0
  have Y1:=X1.turn t1 hne1
  have Y2:=X2.turn t1 hne2
  have T1:=(Turn.of_below (S:=[rb]) XB).trans t1 (fun i hi=>.inl hi)
  obtain⟨a0,a1,a2,a3,a4,a5,b0,b1,b2,b3,b4,b5⟩:=Y0.six
  have c0:=Y1.cell 0 _ rfl
  have d0:=Y1.free 0 (by simp)
  have e0:=Y2.cell 0 _ rfl
  have g0:=Y2.free 0 (by simp)
  have l0:=Y0.lt
  have l1:=Y1.lt
  have l2:=Y2.lt
  obtain⟨av,cv,hu,-,-⟩:=S1.parts.shape
  subst hu
  have HS:=hid2 S1
  generalize hnn:t.parts.length=nn at *
  simp only[tmV]
  rw[hB3] at HS
  clear S1 X0 X1 X2 XB HC t1 C hB3
  go_wp2_with fail
  refine leaves_cons (f:=60) (args:=#[.pointer (some ⟨w.heap.size+1,0,none⟩),.pointer (some ⟨w.heap.size+1+1,0,none⟩)]) (by simp) (by simp[go_sem]) ?_
  refine(catchT_idle ⟨w.heap.size+1,0,none⟩ ⟨w.heap.size+1+1,0,none⟩ _).mono ?_
  rintro e u' w'' ⟨rfl,rfl,rfl⟩
  have T6:=T1.trans (turn_six w1 w.heap.size (.int .i64 t.kind) (.string t.text) (.int .i64 t.n) (.int .i64 t.m) (.int .i64 t.pl) (.slice av nn cv)) (fun i hi=>.inr (by simp at hi;omega))
  have T8:=(T6.andSet ⟨w.heap.size+1,0,none⟩ (.int .i64 0) (.inr (by simp))).andSet ⟨w.heap.size+1+1,0,none⟩ (.int .i64 0) (.inr (by simp;omega))
  have S6:=SitB.turn HS.out (turn_six w1 w.heap.size (.int .i64 t.kind) (.string t.text) (.int .i64 t.n) (.int .i64 t.m) (.int .i64 t.pl) (.slice av nn cv)) (by simp;omega)
  have S8:=SitB.turn (SitB.turn S6 (turn_set _ (w.heap.size+1) 0 (.int .i64 0)) (by simp)) (turn_set _ (w.heap.size+1+1) 0 (.int .i64 0)) (by simp)
  have Z0:=((Y0.put_six (.int .i64 t.kind) (.string t.text) (.int .i64 t.n) (.int .i64 t.m) (.int .i64 t.pl) (.slice av nn cv)).other (q:=w.heap.size+1) (j:=0) (v:=.int .i64 0) (by omega)).other (q:=w.heap.size+1+1) (j:=0) (v:=.int .i64 0) (by omega)
  have Z1:=((Y1.turn (turn_six w1 w.heap.size (.int .i64 t.kind) (.string t.text) (.int .i64 t.n) (.int .i64 t.m) (.int .i64 t.pl) (.slice av nn cv)) (by simp)).set 0 (by simp) (.int .i64 0)).other (q:=w.heap.size+1+1) (j:=0) (v:=.int .i64 0) (by omega)
  have Z2:=((Y2.turn (turn_six w1 w.heap.size (.int .i64 t.kind) (.string t.text) (.int .i64 t.n) (.int .i64 t.m) (.int .i64 t.pl) (.slice av nn cv)) (by simp;omega)).other (q:=w.heap.size+1) (j:=0) (v:=.int .i64 0) (by omega)).set 0 (by simp) (.int .i64 0)
  have HF:=hid2 (hP.out _ _ T8 (SitB.lower S8 (by omega)))
  clear T6 T8 S6 S8 Y0 Y1 Y2 T1 HS hP a0 a1 a2 a3 a4 a5 b0 b1 b2 b3 b4 b5 c0 d0 e0 g0 l0 l1 l2
  simp only[tmV] at HF
  generalize ((((((((w1.setCell _ _).setCell _ _).setCell _ _).setCell _ _).setCell _ _).setCell _ _).setCell _ _).setCell _ _)=WF at *
  obtain⟨a0,a1,a2,a3,a4,a5,_⟩:=Z0.six
  have b0:=Z1.cell 0 _ rfl
  have c0:=Z2.cell 0 _ rfl
  clear Z0 Z1 Z2
  simp[Leaves,settle,results,Tryz.results35,go_sem, *]
  exact HF.out
end Go.Proofs.YtecdfnpbcabdnaaGreatDoor
end
