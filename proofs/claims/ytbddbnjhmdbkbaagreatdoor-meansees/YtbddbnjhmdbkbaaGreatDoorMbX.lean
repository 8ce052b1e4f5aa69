import Derived.Test.YtbddbnjhmdbkbaaGreatDoorMhZ
import Derived.Test.YtbddbnjhmdbkbaaGreatDoorMgO
import Derived.Test.YtbddbnjhmdbkbaaGreatDoorMjA
import Derived.Lib.LaidTab
import Derived.LaidMore
namespace Go.Proofs.YtbddbnjhmdbkbaaGreatDoor
open Go.ChangeShapes Go.WideShapes Go.RowKit Go.Deep Go.ChangeMaps
set_option maxRecDepth 20000
theorem c0r:Tryz.prog.cellsOf 298=12:=by kernel_rfl
theorem a9M:(Rows.laid_capstan_civil_lengths:DataW Unit)=Lib.tabData .i64 c4x:=by kernel_rfl
theorem b9S:Tryz.prog.globalNamed "capstan/civil.lengths" = some 3:=by kernel_rfl
theorem b8M:(Tryz.prog.globals[3]?).map (·.type)=some 298:=by kernel_rfl
theorem a7n {W:World}(hh:laidMetH Tryz.prog a5v W):a4P W:=by
 obtain⟨ps,⟨g',t',cs,fuel,p,q,hg',ht',hvar,hd,_,_⟩,_⟩:=(a2o hh).1
 obtain rfl:=Option.some.inj (b9S.symm.trans hg')
 obtain rfl:=Option.some.inj (b8M.symm.trans ht')
 rw[a9M] at hd
 have hc:=Lib.cells_of_tab Tryz.underlying298 Tryz.underlying3 a8Q c0r hd
 have hc:cs.toList=a4X:=hc
 have hcell:=fun i=>World.var?_cell hg' hvar i
 refine⟨fun j v hv=>?_,?_⟩
 ·rw[Nat.zero_add,hcell j,<-Array.getElem?_toList,hc]
  exact hv
 ·have h0:W.cell? ⟨3,0,none⟩=some (.int .i64 31):=by rw[hcell 0,<-Array.getElem?_toList,hc];rfl
  exact World.block_lt_of_cell? _ _ h0
section
variable {H:Type} {enc:TypeId×Value->H} {W:World} {base:Nat} {sp:Nat->Bool} {held:Bool}
theorem c1K:Tryz.prog.cellsOf 34=2:=by kernel_rfl
theorem a9z {r:Reach}{b0:Nat}{v:Value}{d:DataW H}{ps:List MemPlace}(hval:Value.okWide Tryz.prog W r b0 34 v)(hd:DataW.Trod enc Tryz.prog W base sp held 34 v d ps):∃ a b:Int,v=.agg #[.int .i64 a,.int .i64 b]/\C64 a/\C64 b:=by
 simp only[Value.okWide,Tryz.underlying34] at hval
 obtain⟨cs,rfl,_⟩:=hval
 obtain⟨fuel,hf⟩:=hd
 obtain⟨c⟩:=cs
 simp only[Value.cells] at hf
 obtain⟨xs,m,rfl,hx1,hl,hlen,hf⟩:=DataW.trod_array Tryz.underlying34 hf
 rw[c1K] at hl
 obtain⟨v0,v1,rfl⟩:=a7l c hl
 obtain⟨z0,z1,rfl⟩:=a7l xs hlen
 have f0:DataW.trod enc Tryz.prog W base sp held m 2 (([v0,v1].drop (0*Tryz.prog.cellsOf 2)).take (Tryz.prog.cellsOf 2))=[z0,z1][0]?:=hf 0 (by decide)
 have f1:DataW.trod enc Tryz.prog W base sp held m 2 (([v0,v1].drop (1*Tryz.prog.cellsOf 2)).take (Tryz.prog.cellsOf 2))=[z0,z1][1]?:=hf 1 (by decide)
 simp only[a4i,Nat.mul_one,List.drop_zero,List.take_succ_cons,List.take_zero,List.drop_succ_cons,List.getElem?_cons_zero,List.getElem?_cons_succ] at f0 f1
 obtain⟨a0,e0,-,w0⟩:=DataW.trod_int Tryz.underlying2 f0
 obtain⟨a1,e1,-,w1⟩:=DataW.trod_int Tryz.underlying2 f1
 simp only[List.cons.injEq,and_true] at e0 e1
 exact⟨a0,a1,by rw[e0,e1],a7s w0,a7s w1⟩
end
end Go.Proofs.YtbddbnjhmdbkbaaGreatDoor
