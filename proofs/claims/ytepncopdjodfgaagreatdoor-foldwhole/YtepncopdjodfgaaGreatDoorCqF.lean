import Derived.Test.YtepncopdjodfgaaGreatDoorRows
import Derived.Test.YtepncopdjodfgaaGreatDoorMhY
import Derived.Lay
import Derived.MakeChecks
import Derived.LaidHandle
import Derived.LaidLaws
import Derived.Deep.DeepHandedRow
namespace Go.Proofs.YtepncopdjodfgaaGreatDoor
open Go.RowKit Go.ChangeShapes Go.WideShapes
abbrev laidT:List (String×DataW Unit):=[("errors.errorType",Rows.laid_errors_errorType)]
abbrev laidD:List (String×DataW Unit):=[]
theorem laid_split {W:World}(h:laidMetH Tryz.prog laidT W):laidMet Tryz.prog laidD W/\handlesMet Tryz.prog [("errors.errorType",Rows.laid_errors_errorType)] W:=h
theorem et_g:Tryz.prog.globalNamed "errors.errorType" = some 1:=by kernel_rfl
theorem et_rt:(Tryz.prog.cutTypes.find? (·.1 == "internal/reflectlite.rtype")).map (·.2)=some 295:=by kernel_rfl
theorem et_size:Tryz.prog.types.size=344:=by kernel_rfl
theorem et_row:((List.range 344).filter fun t=>Tryz.prog.rowNamed t [101,114,114,111,114])=[182]:=by kernel_rfl
theorem gle_of_laid {W:World}(hh:laidMetH Tryz.prog laidT W):GlE W:=by
 obtain⟨name,u,ty,e1,e2,e3,e4,e5⟩:=(laid_split hh).2 _ (List.mem_singleton.2 rfl)
 have en:name=[101,114,114,111,114]:=(Option.some.inj e1).symm
 subst en
 obtain rfl:=Option.some.inj (et_rt.symm.trans e2)
 have hm:ty∈(List.range 344).filter fun t=>Tryz.prog.rowNamed t [101,114,114,111,114]:=List.mem_filter.2 ⟨List.mem_range.2 (by rw[<-et_size];exact e3),e4⟩
 rw[et_row] at hm
 obtain rfl:=List.mem_singleton.1 hm
 have hh2:typeHandle Tryz.prog 182=.pointer (some ⟨5,182,none⟩):=by kernel_rfl
 rw[hh2] at e5
 simpa using World.var?_cell et_g e5 0
theorem witness_laid {H:Type}{enc:TypeId×Value->H}{C:Checked}{os:Os}{f:FuncId}{fn:Func}{s:OpenSpec}{conds:List PathCond}{apart:Bool}{laid:List (String×DataW Unit)}(w0:World)(args:Array Value)(hos:w0.os=os)
 (hsh:(w0.forCall (fun _ _=>0) ⟨#[],args,[]⟩).Shaped C.prog)
 (hok:Input.okWideB C.prog (w0.forCall (fun _ _=>0) ⟨#[],args,[]⟩) f ⟨#[],args,[]⟩=true)
 (hrow:s.preRow enc C.prog fn conds apart laid (w0.forCall (fun _ _=>0) ⟨#[],args,[]⟩).memory args) :
 ∃ (w:World) (tape:Tape) (i:Input),w.os=os/\(w.forCall tape i).Shaped C.prog/\i.vars=[]/\Input.okWide C.prog (w.forCall tape i) .any w.heap.size f i /\
  s.preRow enc C.prog fn conds apart laid (w.forCall tape i).memory i.args/\({}:Assume).holds C.prog (lone (Frame.enter C.prog f i.args .normal) [] (w.forCall tape i)):=
 ⟨w0,fun _ _=>0,⟨#[],args,[]⟩,hos,hsh,(Input.okWide_of_okWideB (base:=0) hok).1,(Input.okWide_of_okWideB hok).2,hrow,by
   simp only[Assume.holds]
   exact⟨by simp,by simp,fun _=>Modest.zero,by simp,by simp⟩⟩
def setT:Obj->Obj
 | .cells _ t frozen=>.cells #[.iface 295 (.agg #[.pointer (some ⟨5,182,none⟩)])] t frozen
 | o=>o
set_option maxRecDepth 100000 in
theorem laidW_os (os:Os):({ World.laidAll Tryz.prog os laidD with heap:=(World.laidAll Tryz.prog os laidD).heap.modify 1 setT}:World).os=os:=by
 exact World.laidAll_os Tryz.prog os laidD
theorem laid_met (os:Os)(args:Array Value):laidMetH Tryz.prog laidT (({ World.laidAll Tryz.prog os laidD with heap:=(World.laidAll Tryz.prog os laidD).heap.modify 1 setT}:World).forCall (fun _ _=>0) ⟨#[],args,[]⟩).memory:=
 laidMetH_of_parts (laidMet_of_run' 8 (by kernel_rfl) (by kernel_rfl)) (by kernel_rfl)
end Go.Proofs.YtepncopdjodfgaaGreatDoor
