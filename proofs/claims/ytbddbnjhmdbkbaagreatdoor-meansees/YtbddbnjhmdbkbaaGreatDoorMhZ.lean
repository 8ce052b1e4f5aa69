import Derived.Test.YtbddbnjhmdbkbaaGreatDoorRows
import Derived.Test.YtbddbnjhmdbkbaaGreatDoorMhY
import Derived.Test.YtbddbnjhmdbkbaaGreatDoorMgW
import Derived.Lib.LaidTab
import Derived.OpenShut
import Derived.LaidMore
import Derived.Lay
import Derived.MakeChecks
import Derived.LaidHandle
import Derived.LaidLaws
import Derived.Deep.DeepHandedRow
import Derived.Test.YtbddbnjhmdbkbaaGreatDoorMgO
import Derived.Test.YtbddbnjhmdbkbaaGreatDoorMgK
import Derived.Test.YtbddbnjhmdbkbaaGreatDoorMhP
section
namespace Go.Proofs.YtbddbnjhmdbkbaaGreatDoor
open Go.RowKit Go.ChangeShapes Go.WideShapes
abbrev b9A:List (String×DataW Unit):=[("errors.errorType",Rows.laid_errors_errorType),("capstan/cron.fields",Rows.laid_capstan_cron_fields)]
abbrev c1y:List (String×DataW Unit):=[("capstan/cron.fields",Rows.laid_capstan_cron_fields)]
theorem b1Y {W:World}(h:laidMetH Tryz.prog b9A W):laidMet Tryz.prog c1y W/\handlesMet Tryz.prog [("errors.errorType",Rows.laid_errors_errorType)] W:=h
theorem c4J:Tryz.prog.globalNamed "errors.errorType" = some 2:=by kernel_rfl
theorem c3G:(Tryz.prog.cutTypes.find? (·.1 == "internal/reflectlite.rtype")).map (·.2)=some 300:=by kernel_rfl
theorem c0a:Tryz.prog.types.size=348:=by kernel_rfl
theorem c1G:((List.range 348).filter fun t=>Tryz.prog.rowNamed t [101,114,114,111,114])=[174]:=by kernel_rfl
theorem a9S {W:World}(hh:laidMetH Tryz.prog b9A W):GlE W:=by
 obtain⟨name,u,ty,e1,e2,e3,e4,e5⟩:=(b1Y hh).2 _ (List.mem_singleton.2 rfl)
 have en:name=[101,114,114,111,114]:=(Option.some.inj e1).symm
 subst en
 obtain rfl:=Option.some.inj (c3G.symm.trans e2)
 have hm:ty∈(List.range 348).filter fun t=>Tryz.prog.rowNamed t [101,114,114,111,114]:=List.mem_filter.2 ⟨List.mem_range.2 (by rw[<-c0a];exact e3),e4⟩
 rw[c1G] at hm
 obtain rfl:=List.mem_singleton.1 hm
 have hh2:typeHandle Tryz.prog 174=.pointer (some ⟨6,174,none⟩):=by kernel_rfl
 rw[hh2] at e5
 simpa using World.var?_cell c4J e5 0
theorem a7Y {H:Type}{enc:TypeId×Value->H}{C:Checked}{os:Os}{f:FuncId}{fn:Func}{s:OpenSpec}{conds:List PathCond}{apart:Bool}{laid:List (String×DataW Unit)}(w0:World)(args:Array Value)(hos:w0.os=os)
 (hsh:(w0.forCall (fun _ _=>0) ⟨#[],args,[]⟩).Shaped C.prog)
 (hok:Input.okWideB C.prog (w0.forCall (fun _ _=>0) ⟨#[],args,[]⟩) f ⟨#[],args,[]⟩=true)
 (hrow:s.preRow enc C.prog fn conds apart laid (w0.forCall (fun _ _=>0) ⟨#[],args,[]⟩).memory args) :
 ∃ (w:World) (tape:Tape) (i:Input),w.os=os/\(w.forCall tape i).Shaped C.prog/\i.vars=[]/\Input.okWide C.prog (w.forCall tape i) .any w.heap.size f i /\
  s.preRow enc C.prog fn conds apart laid (w.forCall tape i).memory i.args/\({}:Assume).holds C.prog (lone (Frame.enter C.prog f i.args .normal) [] (w.forCall tape i)):=
 ⟨w0,fun _ _=>0,⟨#[],args,[]⟩,hos,hsh,(Input.okWide_of_okWideB (base:=0) hok).1,(Input.okWide_of_okWideB hok).2,hrow,by
   simp only[Assume.holds]
   exact⟨by simp,by simp,fun _=>Modest.zero,by simp,by simp⟩⟩
def c2g:Obj->Obj
 | .cells _ t frozen=>.cells #[.iface 300 (.agg #[.pointer (some ⟨6,174,none⟩)])] t frozen
 | o=>o
theorem c4L:Tryz.prog.cellsOf 3=1:=by kernel_rfl
theorem c4M:Tryz.prog.cellsOf 193=2:=by kernel_rfl
theorem c3K:Tryz.prog.cellsOf 194=10:=by kernel_rfl
theorem c3c {α : Type}:∀ (c:List α),c.length=5->∃ v0 v1 v2 v3 v4,c=[v0,v1,v2,v3,v4]
 | [v0,v1,v2,v3,v4],_=>⟨v0,v1,v2,v3,v4,rfl⟩
theorem c1v {α : Type}:∀ (c:List α),c.length=10->∃ v0 v1 v2 v3 v4 v5 v6 v7 v8 v9,c=[v0,v1,v2,v3,v4,v5,v6,v7,v8,v9]
 | [v0,v1,v2,v3,v4,v5,v6,v7,v8,v9],_=>⟨v0,v1,v2,v3,v4,v5,v6,v7,v8,v9,rfl⟩
theorem c4H:Tryz.prog.globalNamed "capstan/cron.fields" = some 1:=by kernel_rfl
theorem c4j:(Tryz.prog.globals[1]?).map (·.type)=some 194:=by kernel_rfl
theorem a3e {H:Type}{enc:TypeId×Value->H}{W:World}{base:Nat}{sp:Nat->Bool}{held:Bool}{fuel:Nat}{v0 v1:Value}{a b:Int}{q:List MemPlace}(h:DataW.trod enc Tryz.prog W base sp held fuel 193 [v0,v1]=some (.agg [.lit (.int .i64 a),.lit (.int .i64 b)],q)):v0=.int .i64 a/\v1=.int .i64 b:=by
 obtain⟨y0,y1,n,hx,hl,h0,h1⟩:=trod_struct2 Tryz.underlying193 h
 have f0:DataW.trod enc Tryz.prog W base sp held n 3 (([v0,v1].drop 0).take (Tryz.prog.cellsOf 3))=some y0:=h0
 have f1:DataW.trod enc Tryz.prog W base sp held n 3 (([v0,v1].drop 1).take (Tryz.prog.cellsOf 3))=some y1:=h1
 simp only[c4L,List.drop_zero,List.take_succ_cons,List.take_zero,List.drop_succ_cons] at f0 f1
 obtain⟨a0,e0,rfl,w0⟩:=DataW.trod_int Tryz.underlying3 f0
 obtain⟨a1,e1,rfl,w1⟩:=DataW.trod_int Tryz.underlying3 f1
 simp only[List.cons.injEq,and_true] at e0 e1
 simp only[Prod.mk.injEq,DataW.agg.injEq,List.cons.injEq,DataW.lit.injEq,Lit.int.injEq,and_true,true_and] at hx
 obtain⟨⟨rfl,rfl⟩,_⟩:=hx
 exact⟨e0,e1⟩
set_option maxRecDepth 10000 in
theorem a9U {W:World}{rest:List (String×DataW Unit)}(h:laidMet Tryz.prog (("capstan/cron.fields",Rows.laid_capstan_cron_fields)::rest) W):a2M W:=by
 obtain⟨ps,⟨g',t',cs,fuel,p,q,hg',ht',hvar,hd,_,_⟩,_⟩:=h
 obtain rfl:=Option.some.inj (c4H.symm.trans hg')
 obtain rfl:=Option.some.inj (c4j.symm.trans ht')
 obtain⟨xs,m,rfl,hx,hl,hlen,hel⟩:=DataW.trod_array Tryz.underlying194 hd
 rw[c3K] at hl
 have hc:cs.toList=a7x:=by
  generalize cs.toList=c at *
  obtain⟨v0,v1,v2,v3,v4,v5,v6,v7,v8,v9,rfl⟩:=c1v c hl
  obtain⟨z0,z1,z2,z3,z4,rfl⟩:=c3c xs hlen
  have f0:=hel 0 (by decide)
  have f1:=hel 1 (by decide)
  have f2:=hel 2 (by decide)
  have f3:=hel 3 (by decide)
  have f4:=hel 4 (by decide)
  simp only[c4M,Nat.zero_mul,Nat.one_mul,Nat.reduceMul,List.drop_zero,List.take_succ_cons,List.take_zero,List.drop_succ_cons,List.getElem?_cons_zero,List.getElem?_cons_succ] at f0 f1 f2 f3 f4
  obtain⟨d0,p0⟩:=z0
  obtain⟨d1,p1⟩:=z1
  obtain⟨d2,p2⟩:=z2
  obtain⟨d3,p3⟩:=z3
  obtain⟨d4,p4⟩:=z4
  have hx1:=congrArg Prod.fst hx
  simp only[Rows.laid_capstan_cron_fields,List.map_cons,List.map_nil,DataW.agg.injEq,List.cons.injEq,and_true] at hx1
  obtain⟨rfl,rfl,rfl,rfl,rfl⟩:=hx1
  obtain⟨rfl,rfl⟩:=a3e f0
  obtain⟨rfl,rfl⟩:=a3e f1
  obtain⟨rfl,rfl⟩:=a3e f2
  obtain⟨rfl,rfl⟩:=a3e f3
  obtain⟨rfl,rfl⟩:=a3e f4
  rfl
 have hcell:=fun i=>World.var?_cell hg' hvar i
 refine⟨fun j v hv=>?_,?_⟩
 ·rw[Nat.zero_add,hcell j,<-Array.getElem?_toList,hc]
  exact hv
 ·have h0:W.cell? ⟨1,0,none⟩=some (.int .i64 0):=by rw[hcell 0,<-Array.getElem?_toList,hc];rfl
  exact World.block_lt_of_cell? _ _ h0
end Go.Proofs.YtbddbnjhmdbkbaaGreatDoor
end
section
namespace Go.Proofs.YtbddbnjhmdbkbaaGreatDoor
open Go.ChangeShapes Go.WideShapes Go.RowKit Go.Deep Go.ChangeMaps
section
variable {H:Type} {enc:TypeId×Value->H} {W:World} {base:Nat} {sp:Nat->Bool} {held:Bool}
theorem b7L {e:TypeId}:∀ {l:List (DataW H)} {d:DataW H},d∈l->∀ n∈d.weights Tryz.prog e,n∈DataW.weightsAll Tryz.prog e l
 | x::l,d,h,n,hn=>by
   rw[DataW.weightsAll]
   rcases List.mem_cons.1 h with rfl | h
   ·exact List.mem_append_left _ hn
   ·exact List.mem_append_right _ (b7L h n hn)
theorem b5u {fuel:Nat}{t e:TypeId}{ad:Option Addr}{n cap:Nat}{x:DataW H×List MemPlace}(hu:Tryz.prog.underlying t=some (.slice e))(hf:DataW.trod enc Tryz.prog W base sp held fuel t [.slice ad n cap]=some x)
 (hw:∀ y,y∈DataW.weights Tryz.prog t x.1->y<=reachBytes) (hn:0<n):∃ a m,ad=some a/\m<fuel/\n*Tryz.prog.bytesOf e<=140737488355328/\∀ i,i<n->∃ cs z,W.cells? base (a.add (i*Tryz.prog.cellsOf e)) (Tryz.prog.cellsOf e)=some cs/\DataW.trod enc Tryz.prog W base sp held m e cs=some z/\∀ y,y∈DataW.weights Tryz.prog e z.1->y<=reachBytes:=by
 rcases DataW.trod_slice hu hf with ⟨h5,_⟩ | ⟨a,len,cap2,elems,rest,m,hmn,h5,hx5,hb5,hl5,hm5,hlen5,hel5,_,_⟩
 ·simp only[List.cons.injEq,and_true,Value.slice.injEq] at h5
  omega
 ·simp only[List.cons.injEq,and_true,Value.slice.injEq] at h5
  obtain⟨rfl,rfl,rfl⟩:=h5
  have hz:x.1=.slice (elems.map (·.1)) (rest.map (·.1)):=congrArg Prod.fst hx5
  have hws:DataW.weights Tryz.prog t x.1=((elems.map (·.1)).length+(rest.map (·.1)).length)*Tryz.prog.bytesOf e::(DataW.weightsAll Tryz.prog e (elems.map (·.1))++DataW.weightsAll Tryz.prog e (rest.map (·.1))):=by
   rw[hz]
   conv=>lhs;unfold DataW.weights
   rw[hu]
  rw[hws] at hw
  have h1:=hw _ List.mem_cons_self
  have h2:=reachBytes_lt
  simp only[List.length_map] at h1
  refine⟨a,m,rfl,by omega,?_,fun i hi=>?_⟩
  ·have h3:n*Tryz.prog.bytesOf e<=(elems.length+rest.length)*Tryz.prog.bytesOf e:=Nat.mul_le_mul_right _ (by omega)
   omega
  ·have key:=hel5 i hi
   rw[List.getElem?_eq_getElem (by omega)] at key
   obtain⟨cs',g1,g2⟩:=Option.bind_eq_some_iff.1 key
   exact⟨cs',_,g1,g2,fun y hy=>hw y (List.mem_cons_of_mem _ (List.mem_append_left _ (b7L (List.mem_map_of_mem (List.getElem_mem _)) y hy)))⟩
theorem b8w {fuel:Nat}{t e:TypeId}{v:Value}{n k:Nat}{cs:Nat->List Value}{x:DataW H×List MemPlace}(hu:Tryz.prog.underlying t=some (.slice e))(hf:DataW.trod enc Tryz.prog W base sp held fuel t [v]=some x)(hw:∀ y,y∈DataW.weights Tryz.prog t x.1->y<=reachBytes)(hs:a0Q W v n k cs):n*Tryz.prog.bytesOf e<=140737488355328:=by
 obtain⟨ad,cap,rfl,-,-,-⟩:=hs
 rcases Nat.eq_zero_or_pos n with h0 | h0
 ·rw[h0];omega
 ·obtain⟨a,m,-,-,h,-⟩:=b5u hu hf hw h0
  exact h
set_option maxRecDepth 10000 in
end
end Go.Proofs.YtbddbnjhmdbkbaaGreatDoor
end
section
namespace Go.Proofs.YtbddbnjhmdbkbaaGreatDoor
open Go.ChangeShapes Go.WideShapes Go.RowKit Go.Deep Go.ChangeMaps
set_option maxRecDepth 100000
abbrev a5v:List (String×DataW Unit):=[("capstan/civil.lengths",Rows.laid_capstan_civil_lengths),("errors.errorType",Rows.laid_errors_errorType),("capstan/cron.fields",Rows.laid_capstan_cron_fields)]
abbrev a2v:List (String×DataW Unit):=[("capstan/civil.lengths",Rows.laid_capstan_civil_lengths),("capstan/cron.fields",Rows.laid_capstan_cron_fields)]
theorem a2o {W:World}(h:laidMetH Tryz.prog a5v W):laidMet Tryz.prog a2v W/\handlesMet Tryz.prog [("errors.errorType",Rows.laid_errors_errorType)] W:=h
theorem a7w {W:World}(hh:laidMetH Tryz.prog a5v W):a2M W:=by
 obtain⟨ps,⟨g',t',cs,fuel,p,q,-,-,-,-,hr,rfl⟩,hn,hm⟩:=(a2o hh).1
 exact a9U (rest:=[]) ⟨q,hr,(List.nodup_append.1 hn).2.1,fun b off h=>hm b off (List.mem_append_right _ h)⟩
theorem a7u {W:World}(hh:laidMetH Tryz.prog a5v W):GlE W:=by
 obtain⟨ps,⟨g',t',cs,fuel,p,q,-,-,-,-,hr,rfl⟩,hn,hm⟩:=(a2o hh).1
 have h2:laidMet Tryz.prog c1y W:=⟨q,hr,(List.nodup_append.1 hn).2.1,fun b off h=>hm b off (List.mem_append_right _ h)⟩
 exact a9S (show laidMetH Tryz.prog b9A W from ⟨h2,(a2o hh).2⟩)
theorem b3N (os:Os):({ World.laidAll Tryz.prog os a2v with heap:=(World.laidAll Tryz.prog os a2v).heap.modify 2 c2g}:World).os=os:=by
 exact World.laidAll_os Tryz.prog os a2v
theorem b1Z (os:Os)(args:Array Value):laidMetH Tryz.prog a5v (({ World.laidAll Tryz.prog os a2v with heap:=(World.laidAll Tryz.prog os a2v).heap.modify 2 c2g}:World).forCall (fun _ _=>0) ⟨#[],args,[]⟩).memory:=
 laidMetH_of_parts (laidMet_of_run' 8 (by kernel_rfl) (by kernel_rfl)) (by kernel_rfl)
theorem b8h:Tryz.prog.cellsOf 69=4:=by kernel_rfl
theorem c1N:Tryz.prog.bytesOf 69=32:=by kernel_rfl
section
variable {H:Type} {enc:TypeId×Value->H} {W:World} {base:Nat} {sp:Nat->Bool} {held:Bool}
theorem b9l (fuel:Nat)(cs:List Value)(x:DataW H×List MemPlace)(hf:DataW.trod enc Tryz.prog W base sp held fuel 69 cs=some x):∃ a:EvP,cs=a3O a/\b0j a:=by
 obtain⟨xs,m,rfl,hx1,hl,hlen,hf⟩:=DataW.trod_struct Tryz.underlying69 hf
 rw[b8h] at hl
 obtain⟨v0,v1,v2,v3,rfl⟩:=a2F cs hl
 obtain⟨z0,z1,z2,z3,rfl⟩:=a2F xs hlen
 have f0:DataW.trod enc Tryz.prog W base sp held m 3 (([v0,v1,v2,v3].drop 0).take (Tryz.prog.cellsOf 3))=[z0,z1,z2,z3][0]?:=hf 0 _ rfl
 have f1:DataW.trod enc Tryz.prog W base sp held m 3 (([v0,v1,v2,v3].drop 1).take (Tryz.prog.cellsOf 3))=[z0,z1,z2,z3][1]?:=hf 1 _ rfl
 have f2:DataW.trod enc Tryz.prog W base sp held m 2 (([v0,v1,v2,v3].drop 2).take (Tryz.prog.cellsOf 2))=[z0,z1,z2,z3][2]?:=hf 2 _ rfl
 have f3:DataW.trod enc Tryz.prog W base sp held m 2 (([v0,v1,v2,v3].drop 3).take (Tryz.prog.cellsOf 2))=[z0,z1,z2,z3][3]?:=hf 3 _ rfl
 simp only[a8Q,a4i,List.drop_zero,List.take_succ_cons,List.take_zero,List.drop_succ_cons,List.getElem?_cons_zero,List.getElem?_cons_succ] at f0 f1 f2 f3
 obtain⟨a0,e0,-,w0⟩:=DataW.trod_int Tryz.underlying3 f0
 obtain⟨a1,e1,-,w1⟩:=DataW.trod_int Tryz.underlying3 f1
 obtain⟨a2,e2,-,w2⟩:=DataW.trod_int Tryz.underlying2 f2
 obtain⟨a3,e3,-,w3⟩:=DataW.trod_int Tryz.underlying2 f3
 simp only[List.cons.injEq,and_true] at e0 e1 e2 e3
 exact⟨⟨a0,a1,a2,a3⟩,by rw[e0,e1,e2,e3],⟨a7s w0,a7s w1,a7s w2,a7s w3⟩⟩
theorem a9A {r:Reach}{b0:Nat}{v:Value}{d:DataW H}{ps:List MemPlace}(hval:Value.okWide Tryz.prog W r b0 33 v)(hd:DataW.Trod enc Tryz.prog W base sp held 33 v d ps)
 (hw:∀ x,x∈DataW.weights Tryz.prog 33 d->x<=reachBytes):∃ l:List EvP,a4A W v l/\(∀ e,e∈l->b0j e)/\l.length*32<=140737488355328:=by
 have hv1:v.cells.toList=[v]:=by
  cases v with
  | agg cs=>simp only[Value.okWide,Cell.okWide,Tryz.underlying33] at hval;unfold Cell.ok at hval;simp[Tryz.underlying33] at hval
  | _=>rfl
 obtain⟨fuel,hf⟩:=hd
 rw[hv1] at hf
 obtain⟨l,h1,h2⟩:=a3a (τ:=33) (e:=69) ev0 b0j c1F a3O 4 (by decide) Tryz.underlying33 b8h (fun _=>rfl) b9l hf
 have h3:=b8w Tryz.underlying33 hf hw h2
 rw[c1N] at h3
 exact⟨l,h2,h1,h3⟩
end
end Go.Proofs.YtbddbnjhmdbkbaaGreatDoor
end
