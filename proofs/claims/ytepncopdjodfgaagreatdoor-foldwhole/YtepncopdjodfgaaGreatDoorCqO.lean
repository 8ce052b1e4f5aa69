import Derived.Test.YtepncopdjodfgaaGreatDoorMgG
import Derived.OpenShut
import Derived.ChangeSlices
import Derived.ChangeMaps5
import Derived.Deep.Slices
namespace Go.Proofs.YtepncopdjodfgaaGreatDoor
open Go.ChangeShapes Go.WideShapes Go.RowKit Go.Deep Go.ChangeMaps
theorem in64 {n:Int}(h:(Lit.int .i64 n).wf=true):C64 n:=by have:=bounds_i64 h;exact⟨by omega,by omega⟩
section
variable {H:Type} {enc:TypeId×Value->H} {W:World} {base:Nat} {sp:Nat->Bool} {held:Bool}
theorem ce_int:Tryz.prog.cellsOf 3=1:=by kernel_rfl
theorem ce_int64:Tryz.prog.cellsOf 2=1:=by kernel_rfl
theorem ce_cores:Tryz.prog.cellsOf 28=1:=by kernel_rfl
theorem ce_core:Tryz.prog.cellsOf 30=4:=by kernel_rfl
theorem list_four {α : Type}:∀ (c:List α),c.length=4->∃ v0 v1 v2 v3,c=[v0,v1,v2,v3]
 | [v0,v1,v2,v3],_=>⟨v0,v1,v2,v3,rfl⟩
theorem list_two {α : Type}:∀ (c:List α),c.length=2->∃ v0 v1,c=[v0,v1]
 | [v0,v1],_=>⟨v0,v1,rfl⟩
theorem list_three {α : Type}:∀ (c:List α),c.length=3->∃ v0 v1 v2,c=[v0,v1,v2]
 | [v0,v1,v2],_=>⟨v0,v1,v2,rfl⟩
theorem cells_at {w:World}{base b off k n:Nat}{cs:List Value}(h:w.cells? base ((⟨b,off,none⟩:Addr).add k) n=some cs):∀ j,j<n->w.cell? ⟨b,off+k+j,none⟩=cs[j]?:=by
 intro j hj
 have:=(World.cells?_some h).2.2 j hj
 rwa [add_add,add_plain,<-Nat.add_assoc] at this
theorem cells_first {w:World}{base b off n:Nat}{spot:Option Nat}{cs:List Value}(h:w.cells? base ((⟨b,off,spot⟩:Addr).add 0) n=some cs)(hn:0<n):spot=none/\b<w.heap.size:=by
 obtain⟨_,hl,hc⟩:=World.cells?_some h
 have h0:=hc 0 hn
 have h1:w.cell? ⟨b,off,spot⟩=some cs[0]:=by rw[<-List.getElem?_eq_getElem (by omega)];simpa[Addr.add] using h0
 exact⟨by simpa using World.cell?_spot h1,World.block_lt_of_cell? w _ h1⟩
set_option maxRecDepth 10000 in
theorem open_core:∀ (fuel:Nat) (cs:List Value) (x:DataW H×List MemPlace),DataW.trod enc Tryz.prog W base sp held fuel 30 cs=some x->∃ (t:Co) (u:Value),cs=coL t u/\CSits W t u:=by
 intro fuel
 induction fuel using Nat.strongRecOn with
 | ind fuel ih=>
   intro cs x hf
   obtain⟨xs,m,rfl,hx1,hl,hlen,hf⟩:=DataW.trod_struct Tryz.underlying30 hf
   rw[ce_core] at hl
   obtain⟨v0,v1,v2,v3,rfl⟩:=list_four cs hl
   obtain⟨z0,z1,z2,z3,rfl⟩:=list_four xs hlen
   have f0:DataW.trod enc Tryz.prog W base sp held m 3 (([v0,v1,v2,v3].drop 0).take (Tryz.prog.cellsOf 3))=[z0,z1,z2,z3][0]?:=hf 0 _ rfl
   have f1:DataW.trod enc Tryz.prog W base sp held m 2 (([v0,v1,v2,v3].drop 1).take (Tryz.prog.cellsOf 2))=[z0,z1,z2,z3][1]?:=hf 1 _ rfl
   have f2:DataW.trod enc Tryz.prog W base sp held m 2 (([v0,v1,v2,v3].drop 2).take (Tryz.prog.cellsOf 2))=[z0,z1,z2,z3][2]?:=hf 2 _ rfl
   have f3:DataW.trod enc Tryz.prog W base sp held m 28 (([v0,v1,v2,v3].drop 3).take (Tryz.prog.cellsOf 28))=[z0,z1,z2,z3][3]?:=hf 3 _ rfl
   simp only[ce_int,ce_int64,ce_cores,List.drop_zero,List.take_succ_cons,List.take_zero,List.drop_succ_cons,List.getElem?_cons_zero,List.getElem?_cons_succ] at f0 f1 f2 f3
   obtain⟨a0,e0,-,w0⟩:=DataW.trod_int Tryz.underlying3 f0
   obtain⟨a1,e1,-,w1⟩:=DataW.trod_int Tryz.underlying2 f1
   obtain⟨a2,e2,-,w2⟩:=DataW.trod_int Tryz.underlying2 f2
   simp only[List.cons.injEq,and_true] at e0 e1 e2
   have fin:∀ (ps:List Co),CAt W v3 ps->∃ (t:Co) (u:Value),[v0,v1,v2,v3]=coL t u/\CSits W t u:=fun ps hp=>
    ⟨⟨a0,a1,a2,ps⟩,v3,by rw[e0,e1,e2],csits_iff.2 ⟨⟨in64 w0,in64 w1,in64 w2⟩,hp⟩⟩
   rcases DataW.trod_slice Tryz.underlying28 f3 with ⟨h5,_⟩ | ⟨a,len,cap,elems,rest,n,hmn,h5,hx5,hb5,hl5,hm5,hlen5,hel5,_,_⟩
   ·simp only[List.cons.injEq,and_true] at h5
    exact fin [] ⟨none,0,by rw[h5];rfl,Nat.le_refl _,by decide,.inl rfl⟩
   ·simp only[List.cons.injEq,and_true] at h5
    by_cases h0:len=0
    ·exact fin [] ⟨some a,cap,by rw[h5,h0];rfl,by simp,hm5,.inl rfl⟩
    have each:∀ i,∃ tu:Co×Value,i<len->∃ cs',W.cells? base (a.add (i*4)) 4=some cs'/\cs'=coL tu.1 tu.2/\CSits W tu.1 tu.2:=by
     intro i
     by_cases hi:i<len
     ·have key:=hel5 i hi
      rw[ce_core,List.getElem?_eq_getElem (by omega)] at key
      obtain⟨cs',g1,g2⟩:=Option.bind_eq_some_iff.1 key
      obtain⟨t,u,g3,g4⟩:=ih n (by omega) cs' _ g2
      exact⟨(t,u),fun _=>⟨cs',g1,g3,g4⟩⟩
     ·exact⟨(⟨0,0,0,[]⟩,.nilIface),fun h=>absurd h hi⟩
    obtain⟨b,off,spot⟩:=a
    obtain⟨rfl,hbl⟩:spot=none/\b<W.heap.size:=by
     obtain⟨cs',g1,_⟩:=(each 0).choose_spec (by omega)
     exact cells_first (by simpa using g1) (by decide)
    refine fin ((List.range len).map fun i=>(each i).choose.1) ⟨_,cap,by rw[h5];simp,by simp;omega,hm5,.inr ⟨b,off,rfl,hbl,fun i hi=>?_⟩⟩
    have hi':i<len:=by simpa using hi
    obtain⟨cs',g1,g3,g4⟩:=(each i).choose_spec hi'
    refine⟨(each i).choose.2,?_,by simpa using g4⟩
    have hc:=cells_at g1
    rw[g3] at hc
    simp only[List.getElem_map,List.getElem_range]
    exact⟨by simpa using hc 0 (by decide),by simpa using hc 1 (by decide),by simpa using hc 2 (by decide),by simpa using hc 3 (by decide)⟩
set_option maxRecDepth 10000 in
theorem open_corearg {r:Reach}{b0:Nat}{v:Value}{d:DataW H}{ps:List MemPlace}(hval:Value.okWide Tryz.prog W r b0 30 v)(hd:DataW.Trod enc Tryz.prog W base sp held 30 v d ps):∃ (t:Co) (u:Value),v=coV t u/\CSits W t u:=by
 simp only[Value.okWide,Tryz.underlying30] at hval
 obtain⟨cs,rfl,_⟩:=hval
 obtain⟨fuel,hf⟩:=hd
 obtain⟨c⟩:=cs
 simp only[Value.cells] at hf
 obtain⟨t,u,e,hs⟩:=open_core fuel _ _ hf
 exact⟨t,u,by rw[e],hs⟩
theorem ce_results:Tryz.prog.cellsOf 37=1:=by kernel_rfl
theorem ce_bools:Tryz.prog.cellsOf 38=1:=by kernel_rfl
theorem ce_result:Tryz.prog.cellsOf 72=2:=by kernel_rfl
theorem ce_bool:Tryz.prog.cellsOf 4=1:=by kernel_rfl
theorem ce_reason:Tryz.prog.cellsOf 46=1:=by kernel_rfl
theorem ce_env:Tryz.prog.cellsOf 40=3:=by kernel_rfl
theorem open_result {fuel:Nat}{cs:List Value}{x:DataW H×List MemPlace}(hf:DataW.trod enc Tryz.prog W base sp held fuel 72 cs=some x):∃ a b,cs=[.int .i64 a,.int .i64 b]/\C64 a/\C64 b:=by
 obtain⟨xs,m,rfl,hx1,hl,hlen,hf⟩:=DataW.trod_struct Tryz.underlying72 hf
 rw[ce_result] at hl
 obtain⟨v0,v1,rfl⟩:=list_two cs hl
 obtain⟨z0,z1,rfl⟩:=list_two xs hlen
 have f0:DataW.trod enc Tryz.prog W base sp held m 46 (([v0,v1].drop 0).take (Tryz.prog.cellsOf 46))=[z0,z1][0]?:=hf 0 _ rfl
 have f1:DataW.trod enc Tryz.prog W base sp held m 2 (([v0,v1].drop 1).take (Tryz.prog.cellsOf 2))=[z0,z1][1]?:=hf 1 _ rfl
 simp only[ce_reason,ce_int64,List.drop_zero,List.take_succ_cons,List.take_zero,List.drop_succ_cons,List.getElem?_cons_zero,List.getElem?_cons_succ] at f0 f1
 obtain⟨a0,e0,-,w0⟩:=DataW.trod_int Tryz.underlying46 f0
 obtain⟨a1,e1,-,w1⟩:=DataW.trod_int Tryz.underlying2 f1
 simp only[List.cons.injEq,and_true] at e0 e1
 exact⟨a0,a1,by rw[e0,e1],in64 w0,in64 w1⟩
theorem open_wins {fuel:Nat}{v:Value}{x:DataW H×List MemPlace}(hf:DataW.trod enc Tryz.prog W base sp held fuel 37 [v]=some x):∃ l,WinsAt W v l/\(∀ i,C64 (l.getD i (0,0)).1/\C64 (l.getD i (0,0)).2)/\l.length<=9223372036854775807:=by
 have nil:∀ i,C64 (([]:List (Int×Int)).getD i (0,0)).1/\C64 (([]:List (Int×Int)).getD i (0,0)).2:=fun i=>by simpa using And.intro zero_64 zero_64
 rcases DataW.trod_slice Tryz.underlying37 hf with ⟨h5,_⟩ | ⟨a,len,cap,elems,rest,n,hmn,h5,hx5,hb5,hl5,hm5,hlen5,hel5,_,_⟩
 ·simp only[List.cons.injEq,and_true] at h5
  exact⟨[],⟨none,0,by rw[h5];rfl,.inl rfl⟩,nil,by decide⟩
 ·simp only[List.cons.injEq,and_true] at h5
  by_cases h0:len=0
  ·exact⟨[],⟨some a,cap,by rw[h5,h0];rfl,.inl rfl⟩,nil,by decide⟩
  have each:∀ i,∃ p:Int×Int,C64 p.1/\C64 p.2/\(i<len->W.cells? base (a.add (i*2)) 2=some [.int .i64 p.1,.int .i64 p.2]):=by
   intro i
   by_cases hi:i<len
   ·have key:=hel5 i hi
    rw[ce_result,List.getElem?_eq_getElem (by omega)] at key
    obtain⟨cs',g1,g2⟩:=Option.bind_eq_some_iff.1 key
    obtain⟨p,q,rfl,hp,hq⟩:=open_result g2
    exact⟨(p,q),hp,hq,fun _=>g1⟩
   ·exact⟨(0,0),zero_64,zero_64,fun h=>absurd h hi⟩
  obtain⟨b,off,spot⟩:=a
  obtain⟨rfl,hbl⟩:spot=none/\b<W.heap.size:=cells_first (by simpa using (each 0).choose_spec.2.2 (by omega)) (by decide)
  have gl:∀ i,i<len->((List.range len).map fun i=>(each i).choose).getD i (0,0)=(each i).choose:=fun i hi=>by simp[List.getD,hi]
  refine⟨(List.range len).map fun i=>(each i).choose,⟨_,cap,by rw[h5];simp,.inr ⟨b,off,rfl,hbl,fun i hi=>?_⟩⟩,fun i=>?_,by have:maxLen=9223372036854775807:=rfl;simp;omega⟩
  ·have hi':i<len:=by simpa using hi
   have hc:=cells_at ((each i).choose_spec.2.2 hi')
   rw[gl i hi']
   exact⟨by simpa using hc 0 (by decide),by simpa using hc 1 (by decide)⟩
  ·by_cases hi:i<len
   ·rw[gl i hi];exact⟨(each i).choose_spec.1,(each i).choose_spec.2.1⟩
   ·have e:((List.range len).map fun i=>(each i).choose).getD i (0,0)=(0,0):=by simp[List.getD,List.getElem?_eq_none (show ((List.range len).map fun i=>(each i).choose).length<=i by simp;omega)]
    rw[e];exact⟨zero_64,zero_64⟩
theorem open_crons {fuel:Nat}{v:Value}{x:DataW H×List MemPlace}(hf:DataW.trod enc Tryz.prog W base sp held fuel 38 [v]=some x):∃ l,CronsAt W v l/\l.length<=9223372036854775807:=by
 rcases DataW.trod_slice Tryz.underlying38 hf with ⟨h5,_⟩ | ⟨a,len,cap,elems,rest,n,hmn,h5,hx5,hb5,hl5,hm5,hlen5,hel5,_,_⟩
 ·simp only[List.cons.injEq,and_true] at h5
  exact⟨[],⟨none,0,by rw[h5];rfl,.inl rfl⟩,by decide⟩
 ·simp only[List.cons.injEq,and_true] at h5
  by_cases h0:len=0
  ·exact⟨[],⟨some a,cap,by rw[h5,h0];rfl,.inl rfl⟩,by decide⟩
  have each:∀ i,∃ p:Bool,i<len->W.cells? base (a.add (i*1)) 1=some [.bool p]:=by
   intro i
   by_cases hi:i<len
   ·have key:=hel5 i hi
    rw[ce_bool,List.getElem?_eq_getElem (by omega)] at key
    obtain⟨cs',g1,g2⟩:=Option.bind_eq_some_iff.1 key
    obtain⟨p,e0,-⟩:=DataW.trod_bool Tryz.underlying4 g2
    exact⟨p,fun _=>by rw[g1,e0]⟩
   ·exact⟨false,fun h=>absurd h hi⟩
  obtain⟨b,off,spot⟩:=a
  obtain⟨rfl,hbl⟩:spot=none/\b<W.heap.size:=cells_first (by simpa using (each 0).choose_spec (by omega)) (by decide)
  refine⟨(List.range len).map fun i=>(each i).choose,⟨_,cap,by rw[h5];simp,.inr ⟨b,off,rfl,hbl,fun i hi=>?_⟩⟩,by have:maxLen=9223372036854775807:=rfl;simp;omega⟩
  have hi':i<len:=by simpa using hi
  have hc:=cells_at ((each i).choose_spec hi')
  have gl:((List.range len).map fun i=>(each i).choose).getD i false=(each i).choose:=by simp[List.getD,hi']
  rw[gl]
  simpa using hc 0 (by decide)
set_option maxRecDepth 10000 in
theorem open_envarg {r:Reach}{b0:Nat}{v:Value}{d:DataW H}{ps:List MemPlace}(hval:Value.okWide Tryz.prog W r b0 40 v)(hd:DataW.Trod enc Tryz.prog W base sp held 40 v d ps):∃ (E:EnvP) (v1 v2:Value),v=envV E v1 v2/\EnvAt W E v1 v2:=by
 simp only[Value.okWide,Tryz.underlying40] at hval
 obtain⟨cs,rfl,_⟩:=hval
 obtain⟨fuel,hf⟩:=hd
 obtain⟨c⟩:=cs
 simp only[Value.cells] at hf
 obtain⟨xs,m,rfl,hx1,hl,hlen,hf⟩:=DataW.trod_struct Tryz.underlying40 hf
 rw[ce_env] at hl
 obtain⟨v0,v1,v2,rfl⟩:=list_three c hl
 obtain⟨z0,z1,z2,rfl⟩:=list_three xs hlen
 have f0:DataW.trod enc Tryz.prog W base sp held m 2 (([v0,v1,v2].drop 0).take (Tryz.prog.cellsOf 2))=[z0,z1,z2][0]?:=hf 0 _ rfl
 have f1:DataW.trod enc Tryz.prog W base sp held m 37 (([v0,v1,v2].drop 1).take (Tryz.prog.cellsOf 37))=[z0,z1,z2][1]?:=hf 1 _ rfl
 have f2:DataW.trod enc Tryz.prog W base sp held m 38 (([v0,v1,v2].drop 2).take (Tryz.prog.cellsOf 38))=[z0,z1,z2][2]?:=hf 2 _ rfl
 simp only[ce_int64,ce_results,ce_bools,List.drop_zero,List.take_succ_cons,List.take_zero,List.drop_succ_cons,List.getElem?_cons_zero,List.getElem?_cons_succ] at f0 f1 f2
 obtain⟨a0,e0,-,w0⟩:=DataW.trod_int Tryz.underlying2 f0
 simp only[List.cons.injEq,and_true] at e0
 obtain⟨l1,g1,g2,g3⟩:=open_wins f1
 obtain⟨l2,g4,g5⟩:=open_crons f2
 exact⟨⟨a0,l1,l2⟩,v1,v2,by rw[e0],⟨⟨in64 w0,g2,g3,g5⟩,g1,g4⟩⟩
end
end Go.Proofs.YtepncopdjodfgaaGreatDoor
