import Derived.Test.YtbgomckkockemaaGreatDoorMhZ
import Derived.Test.YtbgomckkockemaaGreatDoorMgO
import Derived.Test.YtbgomckkockemaaGreatDoorMjA
import Derived.Lib.LaidTab
import Derived.LaidMore
namespace Go.Proofs.YtbgomckkockemaaGreatDoor
open Go.ChangeShapes Go.WideShapes Go.RowKit Go.Deep Go.ChangeMaps
set_option maxRecDepth 20000
theorem cLens17:Tryz.prog.cellsOf 308=12:=by kernel_rfl
theorem lens_rows17:(Rows.laid_capstan_civil_lengths:DataW Unit)=Lib.tabData .i64 lens:=by kernel_rfl
theorem gLens17:Tryz.prog.globalNamed "capstan/civil.lengths" = some 2:=by kernel_rfl
theorem tLens17:(Tryz.prog.globals[2]?).map (·.type)=some 308:=by kernel_rfl
theorem len_of_laid17 {W:World}(hh:laidMetH Tryz.prog laid17T W):LenAt W:=by
 obtain⟨ps,⟨g',t',cs,fuel,p,q,hg',ht',hvar,hd,_,_⟩,_⟩:=(laid17_split hh).1
 obtain rfl:=Option.some.inj (gLens17.symm.trans hg')
 obtain rfl:=Option.some.inj (tLens17.symm.trans ht')
 rw[lens_rows17] at hd
 have hc:=Lib.cells_of_tab Tryz.underlying308 Tryz.underlying3 ce_int cLens17 hd
 have hc:cs.toList=lenCells:=hc
 have hcell:=fun i=>World.var?_cell hg' hvar i
 refine⟨fun j v hv=>?_,?_⟩
 ·rw[Nat.zero_add,hcell j,<-Array.getElem?_toList,hc]
  exact hv
 ·have h0:W.cell? ⟨2,0,none⟩=some (.int .i64 31):=by rw[hcell 0,<-Array.getElem?_toList,hc];rfl
  exact World.block_lt_of_cell? _ _ h0
section
variable {H:Type} {enc:TypeId×Value->H} {W:World} {base:Nat} {sp:Nat->Bool} {held:Bool}
theorem ce_two:Tryz.prog.cellsOf 34=2:=by kernel_rfl
theorem open_twoarg {r:Reach}{b0:Nat}{v:Value}{d:DataW H}{ps:List MemPlace}(hval:Value.okWide Tryz.prog W r b0 34 v)(hd:DataW.Trod enc Tryz.prog W base sp held 34 v d ps):∃ a b:Int,v=.agg #[.int .i64 a,.int .i64 b]/\C64 a/\C64 b:=by
 simp only[Value.okWide,Tryz.underlying34] at hval
 obtain⟨cs,rfl,_⟩:=hval
 obtain⟨fuel,hf⟩:=hd
 obtain⟨c⟩:=cs
 simp only[Value.cells] at hf
 obtain⟨xs,m,rfl,hx1,hl,hlen,hf⟩:=DataW.trod_array Tryz.underlying34 hf
 rw[ce_two] at hl
 obtain⟨v0,v1,rfl⟩:=list_two c hl
 obtain⟨z0,z1,rfl⟩:=list_two xs hlen
 have f0:DataW.trod enc Tryz.prog W base sp held m 2 (([v0,v1].drop (0*Tryz.prog.cellsOf 2)).take (Tryz.prog.cellsOf 2))=[z0,z1][0]?:=hf 0 (by decide)
 have f1:DataW.trod enc Tryz.prog W base sp held m 2 (([v0,v1].drop (1*Tryz.prog.cellsOf 2)).take (Tryz.prog.cellsOf 2))=[z0,z1][1]?:=hf 1 (by decide)
 simp only[ce_int64,Nat.mul_one,List.drop_zero,List.take_succ_cons,List.take_zero,List.drop_succ_cons,List.getElem?_cons_zero,List.getElem?_cons_succ] at f0 f1
 obtain⟨a0,e0,-,w0⟩:=DataW.trod_int Tryz.underlying2 f0
 obtain⟨a1,e1,-,w1⟩:=DataW.trod_int Tryz.underlying2 f1
 simp only[List.cons.injEq,and_true] at e0 e1
 exact⟨a0,a1,by rw[e0,e1],in64 w0,in64 w1⟩
end
section
variable {H:Type} {enc:TypeId×Value->H} {W:World} {base:Nat} {sp:Nat->Bool} {held:Bool}
theorem ce_bothev:Tryz.prog.cellsOf 51=2:=by kernel_rfl
theorem ce_evs:Tryz.prog.cellsOf 33=1:=by kernel_rfl
theorem open_bothev {r:Reach}{b0:Nat}{v:Value}{d:DataW H}{ps:List MemPlace}(hval:Value.okWide Tryz.prog W r b0 51 v)(hd:DataW.Trod enc Tryz.prog W base sp held 51 v d ps)
 (hw:∀ x,x∈DataW.weights Tryz.prog 51 d->x<=reachBytes):∃ (u0 u:Value) (O l:List EvP),v=.agg #[u0,u]/\(EvsAt W u0 O/\(∀ e,e∈O->EvOk e)/\O.length*32<=140737488355328)/\(EvsAt W u l/\(∀ e,e∈l->EvOk e)/\l.length*32<=140737488355328):=by
 simp only[Value.okWide,Tryz.underlying51] at hval
 obtain⟨cs,rfl,_⟩:=hval
 obtain⟨fuel,hf⟩:=hd
 obtain⟨c⟩:=cs
 simp only[Value.cells] at hf
 obtain⟨xs,m,rfl,hx1,hl,hlen,hf⟩:=DataW.trod_array Tryz.underlying51 hf
 rw[ce_bothev] at hl
 obtain⟨v0,v1,rfl⟩:=list_two c hl
 obtain⟨z0,z1,rfl⟩:=list_two xs hlen
 have f0:DataW.trod enc Tryz.prog W base sp held m 33 (([v0,v1].drop (0*Tryz.prog.cellsOf 33)).take (Tryz.prog.cellsOf 33))=[z0,z1][0]?:=hf 0 (by decide)
 have f1:DataW.trod enc Tryz.prog W base sp held m 33 (([v0,v1].drop (1*Tryz.prog.cellsOf 33)).take (Tryz.prog.cellsOf 33))=[z0,z1][1]?:=hf 1 (by decide)
 simp only[ce_evs,Nat.mul_one,List.drop_zero,List.take_succ_cons,List.take_zero,List.drop_succ_cons,List.getElem?_cons_zero,List.getElem?_cons_succ] at f0 f1
 obtain⟨l0,p1,p2⟩:=open_rows (τ:=33) (e:=54) ev0 EvOk ev0_ok evtL 4 (by decide) Tryz.underlying33 cd_evt (fun _=>rfl) one_evt f0
 obtain⟨l1,q1,q2⟩:=open_rows (τ:=33) (e:=54) ev0 EvOk ev0_ok evtL 4 (by decide) Tryz.underlying33 cd_evt (fun _=>rfl) one_evt f1
 have hd':d=.agg [z0.1,z1.1]:=(Prod.mk.inj hx1).1
 subst hd'
 have p3:=wt_rows Tryz.underlying33 f0 (fun x hx=>hw x (by simp[DataW.weights,DataW.weightsAll,Tryz.underlying51,hx])) p2
 have q3:=wt_rows Tryz.underlying33 f1 (fun x hx=>hw x (by simp[DataW.weights,DataW.weightsAll,Tryz.underlying51,hx])) q2
 rw[by_evt] at p3 q3
 exact⟨v0,v1,l0,l1,rfl,⟨p2,p1,p3⟩,⟨q2,q1,q3⟩⟩
end
end Go.Proofs.YtbgomckkockemaaGreatDoor
