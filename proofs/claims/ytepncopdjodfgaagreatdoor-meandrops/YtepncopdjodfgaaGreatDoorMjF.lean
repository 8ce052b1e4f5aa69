import Derived.Test.YtepncopdjodfgaaGreatDoorMhZ
import Derived.Test.YtepncopdjodfgaaGreatDoorMgO
import Derived.Test.YtepncopdjodfgaaGreatDoorMjA
import Derived.Lib.LaidTab
import Derived.LaidMore
import Derived.Test.YtepncopdjodfgaaGreatDoorCards
import Derived.Test.YtepncopdjodfgaaGreatDoorTie
import Derived.Test.YtepncopdjodfgaaGreatDoorMjD
import Derived.WalkKit
import Derived.ProofKit
import Derived.OpenShut
import Derived.Below
import Derived.Carry
import Derived.SevenTiedAt
import Derived.SizedLaws
import Derived.ChangeMaps5
section
namespace Go.Proofs.YtepncopdjodfgaaGreatDoor
open Go.ChangeShapes Go.WideShapes Go.RowKit Go.Deep Go.ChangeMaps
set_option maxRecDepth 20000
theorem cLens17:Tryz.prog.cellsOf 293=12:=by kernel_rfl
theorem lens_rows17:(Rows.laid_capstan_civil_lengths:DataW Unit)=Lib.tabData .i64 lens:=by kernel_rfl
theorem gLens17:Tryz.prog.globalNamed "capstan/civil.lengths" = some 2:=by kernel_rfl
theorem tLens17:(Tryz.prog.globals[2]?).map (·.type)=some 293:=by kernel_rfl
theorem len_of_laid17 {W:World}(hh:laidMetH Tryz.prog laid17T W):LenAt W:=by
 obtain⟨ps,⟨g',t',cs,fuel,p,q,hg',ht',hvar,hd,_,_⟩,_⟩:=(laid17_split hh).1
 obtain rfl:=Option.some.inj (gLens17.symm.trans hg')
 obtain rfl:=Option.some.inj (tLens17.symm.trans ht')
 rw[lens_rows17] at hd
 have hc:=Lib.cells_of_tab Tryz.underlying293 Tryz.underlying3 ce_int cLens17 hd
 have hc:cs.toList=lenCells:=hc
 have hcell:=fun i=>World.var?_cell hg' hvar i
 refine⟨fun j v hv=>?_,?_⟩
 ·rw[Nat.zero_add,hcell j,<-Array.getElem?_toList,hc]
  exact hv
 ·have h0:W.cell? ⟨2,0,none⟩=some (.int .i64 31):=by rw[hcell 0,<-Array.getElem?_toList,hc];rfl
  exact World.block_lt_of_cell? _ _ h0
section
variable {H:Type} {enc:TypeId×Value->H} {W:World} {base:Nat} {sp:Nat->Bool} {held:Bool}
theorem ce_two:Tryz.prog.cellsOf 34=2:=by kernel_rfl
theorem open_twoarg {r:Reach}{b0:Nat}{v:Value}{d:DataW H}{ps:List MemPlace}(hval:Value.okWide Tryz.prog W r b0 34 v)(hd:DataW.Trod enc Tryz.prog W base sp held 34 v d ps):∃ a b:Int,v=.agg #[.int .i64 a,.int .i64 b]/\C64 a/\C64 b:=by
 simp only[Value.okWide,Tryz.underlying34] at hval
 obtain⟨cs,rfl,_⟩:=hval
 obtain⟨fuel,hf⟩:=hd
 obtain⟨c⟩:=cs
 simp only[Value.cells] at hf
 obtain⟨xs,m,rfl,hx1,hl,hlen,hf⟩:=DataW.trod_array Tryz.underlying34 hf
 rw[ce_two] at hl
 obtain⟨v0,v1,rfl⟩:=list_two c hl
 obtain⟨z0,z1,rfl⟩:=list_two xs hlen
 have f0:DataW.trod enc Tryz.prog W base sp held m 2 (([v0,v1].drop (0*Tryz.prog.cellsOf 2)).take (Tryz.prog.cellsOf 2))=[z0,z1][0]?:=hf 0 (by decide)
 have f1:DataW.trod enc Tryz.prog W base sp held m 2 (([v0,v1].drop (1*Tryz.prog.cellsOf 2)).take (Tryz.prog.cellsOf 2))=[z0,z1][1]?:=hf 1 (by decide)
 simp only[ce_int64,Nat.mul_one,List.drop_zero,List.take_succ_cons,List.take_zero,List.drop_succ_cons,List.getElem?_cons_zero,List.getElem?_cons_succ] at f0 f1
 obtain⟨a0,e0,-,w0⟩:=DataW.trod_int Tryz.underlying2 f0
 obtain⟨a1,e1,-,w1⟩:=DataW.trod_int Tryz.underlying2 f1
 simp only[List.cons.injEq,and_true] at e0 e1
 exact⟨a0,a1,by rw[e0,e1],in64 w0,in64 w1⟩
end
end Go.Proofs.YtepncopdjodfgaaGreatDoor
end
section
namespace Go.Proofs.YtepncopdjodfgaaGreatDoor.meanDrops
open Go.ChangeShapes Go.WideShapes Go.ChangeAt Go.WideMaps Go.WideElems Go.ChangeMaps Go.RowKit
set_option maxRecDepth 100000
theorem own:ownKnob Tryz.prog.godebug=none:=by kernel_rfl
theorem laidOut:laidOutB Tryz.prog=true:=by kernel_rfl
theorem reads (os:Os){H:Type}(enc:TypeId×Value->H):∃ places,DataW.whole enc Tryz.prog (({ World.laidAll Tryz.prog os laid17D with heap:=(World.laidAll Tryz.prog os laid17D).heap.modify 1 setT}:World).forCall (fun _ _=>0) ⟨#[],#[.agg #[.slice none 0 0,.int .i64 0,.int .i64 0,.int .i64 0,.int .i64 0,.int .i64 0,.slice none 0 0,.slice none 0 0,.int .i64 0,.slice none 0 0,.int .i64 0,.int .i64 0,.int .i64 0,.slice none 0 0],.slice none 0 0,.agg #[.int .i64 0,.int .i64 0]],[]⟩).memory Tryz.f5.params.toList Rows.meanDropsSpec.vars false #[Value.agg #[.slice none 0 0,.int .i64 0,.int .i64 0,.int .i64 0,.int .i64 0,.int .i64 0,.slice none 0 0,.slice none 0 0,.int .i64 0,.slice none 0 0,.int .i64 0,.int .i64 0,.int .i64 0,.slice none 0 0],.slice none 0 0,.agg #[.int .i64 0,.int .i64 0]].toList 8=some ([.agg [.nil,.agg [.lit (.int .i64 0),.lit (.int .i64 0),.lit (.int .i64 0),.lit (.int .i64 0),.lit (.int .i64 0)],.nil,.nil,.lit (.int .i64 0),.nil,.agg [.lit (.int .i64 0),.lit (.int .i64 0),.lit (.int .i64 0),.nil]],.nil,.agg [.lit (.int .i64 0),.lit (.int .i64 0)]],[],places):=
 ⟨[],by kernel_rfl⟩
theorem lifted (os:Os)(started:os.Started)(H:Type)(enc:TypeId×Value->H)(F:Stop.Interp):
 ReturnsInHanded {} Tryz.checked os 5 .any ((OpenSpec.ofChange Rows.meanDropsSpec).preRow enc Tryz.prog Tryz.f5 Rows.meanDropsRow.domain false Rows.meanDropsRow.laid) (((OpenSpec.ofChange Rows.meanDropsSpec).at F).post enc Tryz.prog Tryz.f5 false true false false):=by
 obtain⟨places,hx⟩:=reads os enc
 refine returnsInHanded_of_row (C:=Tryz.checked) (s:=(OpenSpec.ofChange Rows.meanDropsSpec)) own started (by kernel_rfl) Tryz.func5
  (witness_laid (enc:=enc) (C:=Tryz.checked) ({ World.laidAll Tryz.prog os laid17D with heap:=(World.laidAll Tryz.prog os laid17D).heap.modify 1 setT}:World) #[.agg #[.slice none 0 0,.int .i64 0,.int .i64 0,.int .i64 0,.int .i64 0,.int .i64 0,.slice none 0 0,.slice none 0 0,.int .i64 0,.slice none 0 0,.int .i64 0,.int .i64 0,.int .i64 0,.slice none 0 0],.slice none 0 0,.agg #[.int .i64 0,.int .i64 0]] (laid17_os os) (World.shaped_of_ZipB (by kernel_rfl) (by kernel_rfl)) (by kernel_rfl)
    (OpenSpec.preRow_of_cond 8 hx (by kernel_rfl) (fun k hk=>by cases hk) (by kernel_rfl) (laid17_met os _))) ?_
 intro W base args ds gs before hval0 hW _ hcond hsz hL _ _
 have hval:∀ (j:Nat) t v,Tryz.f5.params[j]? = some t->args[j]? = some v->Value.okWide Tryz.prog W .any base t v:=hval0
 have hW':=hW
 obtain⟨p,q,hA0,hV,rfl,hfz,hnd⟩:=hW
 have hA:DataW.TrodAll enc Tryz.prog W 0 (fun _=>true) true Tryz.f5.params.toList args.toList ds p:=hA0
 rw[Tryz.params5] at hA hval
 obtain⟨v0,vs0,d0,ds0,p0,q0,hargs,rfl,rfl,h0,r0⟩:=trodAll_cons hA
 obtain⟨v1,vs1,d1,ds1,p1,q1,rfl,rfl,rfl,h1,r1⟩:=trodAll_cons r0
 obtain⟨v2,vs2,d2,ds2,p2,q2,rfl,rfl,rfl,h2,r2⟩:=trodAll_cons r1
 obtain⟨rfl,rfl,rfl⟩:=trodAll_nil r2
 obtain rfl:args=#[v0,v1,v2]:=by cases args;simp_all
 obtain⟨rfl,rfl⟩:=trodVars_none hV
 have k0:=h0
 have lt0:∀ x∈p0,x.block<W.heap.size:=by obtain⟨m,hm⟩:=k0;exact DataW.trod_lt m _ _ _ hm
 obtain⟨t0,u0,rfl,s0⟩:=open_planarg (hval 0 32 v0 rfl rfl) h0
 have z0:=plan_size h0 s0 (fun x hx=>by have:=List.all_eq_true.1 hsz _ (DataW.weights_mem_each (ts:=Tryz.f5.params.toList++_) (j:=0) (t:=32) (by rw[Tryz.params5];rfl) rfl x hx);simpa using this)
 have k1:=h1
 have lt1:∀ x∈p1,x.block<W.heap.size:=by obtain⟨m,hm⟩:=k1;exact DataW.trod_lt m _ _ _ hm
 obtain⟨l,s1,o1,z1⟩:=open_evsarg (hval 1 33 v1 rfl rfl) h1 (fun x hx=>by have:=List.all_eq_true.1 hsz _ (DataW.weights_mem_each (ts:=Tryz.f5.params.toList++_) (j:=1) (t:=33) (by rw[Tryz.params5];rfl) rfl x hx);simpa using this)
 have k2:=h2
 have lt2:∀ x∈p2,x.block<W.heap.size:=by obtain⟨m,hm⟩:=k2;exact DataW.trod_lt m _ _ _ hm
 obtain⟨t,rep,rfl,c2,c3⟩:=open_twoarg (hval 2 34 v2 rfl rfl) h2
 clear hA0 hval0
 simp only[List.append_nil] at hW'
 refine(meanDrops_c t0 u0 l v1 t rep W s0 z0 s1 o1 z1 c2 c3 (fld_of_laid17 hL) (len_of_laid17 hL) (gle_of_laid17 hL)).mono fun e W' ⟨he,hb⟩=>?_
 subst he
 exact⟨_,rfl,_,_,_,[],_,[],hW',trodAll_mk1 (shut_bool Tryz.underlying4 _),(trodAll_cons_mk (Below.trod laidOut (by kernel_rfl) (of_decide_eq_true (by kernel_rfl)) k0 hb lt0) (trodAll_cons_mk (Below.trod laidOut (by kernel_rfl) (of_decide_eq_true (by kernel_rfl)) k1 hb lt1) (trodAll_cons_mk (Below.trod laidOut (by kernel_rfl) (of_decide_eq_true (by kernel_rfl)) k2 hb lt2) trodAll_mk0))),rfl,hb.frame _,fun h=>by cases h⟩
end Go.Proofs.YtepncopdjodfgaaGreatDoor.meanDrops
end
