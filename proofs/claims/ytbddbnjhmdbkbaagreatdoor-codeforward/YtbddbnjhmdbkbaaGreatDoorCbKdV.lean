import Derived.Test.YtbddbnjhmdbkbaaGreatDoorCbKdT
import Derived.Test.YtbddbnjhmdbkbaaGreatDoorCbMgK
import Derived.Test.YtbddbnjhmdbkbaaGreatDoorCbMhL
import Derived.Test.YtbddbnjhmdbkbaaGreatDoorCbFrP
import Derived.Laws.IdiomCopy
import Derived.Deep.WholeRow
namespace Go.Proofs.YtbddbnjhmdbkbaaGreatDoor
open Go.RowKit
structure PgP where
 met:Int
 ru:RuP
 K:List Int
 wins:List WiP
 crons:List Cr
 loc:Int
 h:Int
 C:List Ins
structure PgV where
 k:Value
 wi:Value
 cr:Value
 c:Value
def pg0:PgP:=⟨0,⟨0,0,0,0,0⟩,[],[],[],0,0,[]⟩
abbrev pgL (g:PgP)(v:PgV):List Value:=[.int .i64 g.met,.int .i64 g.ru.mn,.int .i64 g.ru.mx,.int .i64 g.ru.st,.int .i64 g.ru.up,.int .i64 g.ru.dn,v.k,v.wi,v.cr,.int .i64 g.loc,.int .i64 g.h,v.c]
abbrev pgV (g:PgP)(v:PgV):Value:=.agg (pgL g v).toArray
structure a4o (w:World)(lo:Nat)(g:PgP)(v:PgV):Prop where
 k:w.ownsRow lo 2 1 v.k g.K.length (flK g.K)
 wi:w.ownsRow lo 63 4 v.wi g.wins.length (a0Z (fun i=>wiL (g.wins.getD i wi0)) g.wins.length)
 cr:w.ownsRow lo 66 5 v.cr g.crons.length (a0Z (fun i=>crL (g.crons.getD i cr0)) g.crons.length)
 c:w.ownsRow lo 61 2 v.c g.C.length (flI g.C)
def a0C (p:PlP):PgP:=⟨p.mets.length,p.ru,(a1g p.gs p.fin []).2,p.wins,p.crons,p.loc,(a1B p:Nat),(a1g p.gs p.fin []).1⟩
def a1j (g:PgP):Bool:=decide (16384<g.C.length)||decide (16384<g.K.length)||decide (4096<g.h)
def a1y (q:Co->Co->Bool)(p:PlP):PgP×Int:=if a0O q p=false then (pg0,1) else if a1j (a0C p)=true then (pg0,14) else (a0C p,0)
theorem a3f (w:World)(lo:Nat):a4o w lo pg0 ⟨.slice none 0 0,.slice none 0 0,.slice none 0 0,.slice none 0 0⟩:=
 ⟨World.ownsRow_nil _ _ _ _,World.ownsRow_nil _ _ _ _,World.ownsRow_nil _ _ _ _,World.ownsRow_nil _ _ _ _⟩
set_option maxHeartbeats 2000000 in
set_option maxRecDepth 20000 in
theorem a3C (g:PgP)(v:PgV)(w:World)(lo:Nat)(h:a4o w lo g v):
 Calls Tryz.prog 38 #[pgV g v] w fun e w'=>e=.returned (.bool (a1j g))/\Below w.heap.size w w':=by
 obtain⟨ak,ck,e1⟩:=a0k h.k
 obtain⟨aw,cw,e2⟩:=a0k h.wi
 obtain⟨ar,cr,e3⟩:=a0k h.cr
 obtain⟨ac,cc,e4⟩:=a0k h.c
 obtain⟨vk,vw,vr,vc⟩:=v
 simp only at e1 e2 e3 e4
 subst e1 e2 e3 e4
 obtain⟨Y0,YB⟩:=a0D w 55 (pgL g ⟨.slice ak g.K.length ck,.slice aw g.wins.length cw,.slice ar g.crons.length cr,.slice ac g.C.length cc⟩)
 have HB:=a0a YB
 have x6:=Y0.cell 6 _ rfl
 have x10:=Y0.cell 10 _ rfl
 have x11:=Y0.cell 11 _ rfl
 have xl:=Y0.lt
 clear Y0 YB h
 by_cases q1:16384<g.C.length
 ·have r:a1j g=true:=by unfold a1j;simp[q1]
  rw[r]
  have q1':(16384:Int)<(g.C.length:Int):=by omega
  clear q1
  go_enter Tryz.func38,Tryz.ntmps38
  go_wp2_with fail
  go_ret
  exact⟨rfl,HB.out⟩
 ·have q1':¬(16384:Int)<(g.C.length:Int):=by omega
  by_cases q2:16384<g.K.length
  ·have r:a1j g=true:=by unfold a1j;simp[q2]
   rw[r]
   have q2':(16384:Int)<(g.K.length:Int):=by omega
   clear q1 q2
   go_enter Tryz.func38,Tryz.ntmps38
   go_wp2_with fail
   go_ret
   exact⟨rfl,HB.out⟩
  ·have q2':¬(16384:Int)<(g.K.length:Int):=by omega
   have r:a1j g=decide (4096<g.h):=by unfold a1j;simp[q1,q2]
   rw[r]
   clear q1 q2
   go_enter Tryz.func38,Tryz.ntmps38
   go_wp2_with fail
   go_ret
   exact⟨rfl,HB.out⟩
theorem a0L (w:World)(g:Nat)(v0 v1 v2 v3 v4 v5 v6 v7 v8 v9 v10 v11:Value):a0E [g] w ((((((((((((w.setCell ⟨g,0,none⟩ v0).setCell ⟨g,1,none⟩ v1).setCell ⟨g,2,none⟩ v2).setCell ⟨g,3,none⟩ v3).setCell ⟨g,4,none⟩ v4).setCell ⟨g,5,none⟩ v5).setCell ⟨g,6,none⟩ v6).setCell ⟨g,7,none⟩ v7).setCell ⟨g,8,none⟩ v8).setCell ⟨g,9,none⟩ v9).setCell ⟨g,10,none⟩ v10).setCell ⟨g,11,none⟩ v11):=
 a0x (a0x (a0x (a0x (a0x (a0x (a0x (a0x (a0x (a0x (a0x (a0l w g 0 v0) (a0l _ g 1 v1)) (a0l _ g 2 v2)) (a0l _ g 3 v3)) (a0l _ g 4 v4)) (a0l _ g 5 v5)) (a0l _ g 6 v6)) (a0l _ g 7 v7)) (a0l _ g 8 v8)) (a0l _ g 9 v9)) (a0l _ g 10 v10)) (a0l _ g 11 v11)
theorem a0Y {w a b:World}{g:Nat}(h:Below w.heap.size w a)(t:a0E [g] a b)(hg:w.heap.size<=g):Below w.heap.size w b:=h.trans (t.below (fun k hk=>by rw[List.mem_singleton.1 hk];exact hg) h.size)
theorem a4o.keep {w w':World}{lo:Nat}{g:PgP}{v:PgV}(h:a4o w lo g v)(hk:∀ b,lo<=b->b<w.heap.size->w'.heap[b]? = w.heap[b]?):a4o w' lo g v:=
 ⟨a0i h.k hk,a0i h.wi hk,a0i h.cr hk,a0i h.c hk⟩
theorem a4o.low {w:World}{lo lo':Nat}{g:PgP}{v:PgV}(h:a4o w lo g v)(hl:lo'<=lo):a4o w lo' g v:=⟨a1n lo' h.k hl,a1n lo' h.wi hl,a1n lo' h.cr hl,a1n lo' h.c hl⟩
theorem a9R (w:World):Bd (w.alloc (.cells #[.slice none 0 0,.slice none 0 0] 88)) w.heap.size [] [] (.slice none 0 0) (.slice none 0 0):=
 ⟨Box.new w [.slice none 0 0,.slice none 0 0] 88,World.ownsRow_nil _ _ _ _,World.ownsRow_nil _ _ _ _⟩
abbrev zcL:List Value:=[.int .i64 0,.int .i64 0,.int .i64 0,.int .i64 0,.int .i64 0,.int .i64 0,.slice none 0 0,.slice none 0 0,.slice none 0 0,.int .i64 0,.int .i64 0,.slice none 0 0]
structure a1J (w:World)(lo mb:Nat):Prop where
 box:Box w mb [.int .i64 0,.int .i64 0,.int .i64 0,.int .i64 0,.int .i64 0,.int .i64 0,.slice none 0 0,.slice none 0 0,.slice none 0 0,.int .i64 0,.int .i64 0,.slice none 0 0]
 ty:∃ cur,w.heap[mb]? = some (.cells cur 55 (0,0))
 ge:lo<=mb
theorem a1J.next {w w':World}{lo mb:Nat}(h:a1J w lo mb)(k:Below w.heap.size w w'):a1J w' lo mb:=
 ⟨h.box.next k,by obtain⟨cur,e⟩:=h.ty;exact⟨cur,(k.block mb h.box.lt).trans e⟩,h.ge⟩
theorem a1J.new {w:World}{lo:Nat}(h:lo<=w.heap.size):a1J (w.alloc (.cells #[.int .i64 0,.int .i64 0,.int .i64 0,.int .i64 0,.int .i64 0,.int .i64 0,.slice none 0 0,.slice none 0 0,.slice none 0 0,.int .i64 0,.int .i64 0,.slice none 0 0] 55)) lo w.heap.size:=
 ⟨Box.new w [.int .i64 0,.int .i64 0,.int .i64 0,.int .i64 0,.int .i64 0,.int .i64 0,.slice none 0 0,.slice none 0 0,.slice none 0 0,.int .i64 0,.int .i64 0,.slice none 0 0] 55,⟨_,a7F w _⟩,h⟩
theorem a1t (g:Nat):∀ (vs:List Value) (i:Nat) (w:World) (l:List Value),Box w g l->i+vs.length=l.length->Box (w.setCells g i vs) g (l.take i++vs)/\a0E [g] w (w.setCells g i vs)
 | [],i,w,l,h,hl=>by
   simp only[List.length_nil,Nat.add_zero] at hl
   rw[List.append_nil,hl,List.take_length]
   exact⟨h,a0E.refl _ _⟩
 | v::r,i,w,l,h,hl=>by
   simp only[List.length_cons] at hl
   have h1:=h.set i (by omega) v
   obtain⟨b1,t1⟩:=a1t g r (i+1) (w.setCell ⟨g,i,none⟩ v) (l.set i v) h1 (by rw[List.length_set];omega)
   have e:(l.set i v).take (i+1)++r=l.take i++v::r:=by
    rw[List.take_succ_eq_append_getElem (by rw[List.length_set];omega),List.take_set_of_le (ZC _),List.getElem_set_self,List.append_assoc]
    rfl
   rw[e] at b1
   exact⟨b1,a0x (a0l w g i v) t1⟩
theorem a1h {w w':World}{lo k n g:Nat}{e:TypeId}{v:Value}{xs:List Value}(h:w.ownsRow lo e k v n xs)(ht:∃ cur,w.heap[g]? = some (.cells cur 55 (0,0)))(hne:e≠55)(t:a0E [g] w w'):w'.ownsRow lo e k v n xs:=
 a0z h (fun b hb=>t.block b (h.lt b hb).2 (fun hm=>by
  have hbg:=List.mem_singleton.1 hm
  subst hbg
  obtain⟨_,cur,e1⟩:=a1U h hb
  obtain⟨cur',e2⟩:=ht
  rw[e1] at e2
  exact hne (by injection (Option.some.inj e2))))
theorem a2m {w:World}{lo mb:Nat}(h:a1J w lo mb)(X:Array Value)(hs:X.size=12)(h1:∀ v,v∈X.toList->v.oneCell'=true):
 (storeCells ⟨mb,0,none⟩ X.toList 0).run Tryz.prog w=.ok () (w.setCells mb 0 X.toList):=by
 have hl:X.toList.length=12:=by rw[Array.length_toList];exact hs
 refine run_storeCells_cells mb 0 X.toList 0 w (fun j hj=>?_) (fun j hj=>?_) h1
 ·rw[show 0+0+j=j by omega,h.box.cell j _ (List.getElem?_eq_getElem (show j<zcL.length by rw[hl] at hj;exact hj))]
  rfl
 ·rw[show 0+0+j=j by omega]
  exact h.box.free j (by rw[hl] at hj;exact hj)
theorem a4s (w:World)(X:Array Value)(hs:X.size=12)(h1:∀ v,v∈X.toList->v.oneCell'=true):
 (storeCells ⟨w.heap.size,0,none⟩ X.toList 0).run Tryz.prog (w.alloc (.cells #[.int .i64 0,.int .i64 0,.int .i64 0,.int .i64 0,.int .i64 0,.int .i64 0,.slice none 0 0,.slice none 0 0,.slice none 0 0,.int .i64 0,.int .i64 0,.slice none 0 0] 55))=.ok () (w.alloc (.cells X 55)):=
 run_storeCells_new w _ _ X (by rw[hs];kernel_rfl) (by rw[hs];rfl) (Array.all_eq_true_iff_forall_mem.2 (fun v hv=>h1 v (by simpa using hv)))
theorem a1G {ops:Array Oper}{o:Oper}{a:Act}{w:World}{K:Act->World->Prop}{Q:Exit->Act->World->Prop}{E:Prop}(hgd:o.guard=none){f:Nat}{args:Array Value}{R:Value->World->Prop}
 (hc:Calls Tryz.prog f args w fun e w'=>∃ u,e=.returned u/\R u w') (he:(execOp a.eval o).run Tryz.prog w=.ok (.enter f args) w) (hK:∀ u w',R u w'->K (a.put o.dst u) w') :
 if Region.wanted o (yielded ops a.tmps)=true then Oper.wp Tryz.prog o a w K Q else E:=by
 have hwd:Region.wanted o (yielded ops a.tmps)=true:=by simp[Region.wanted,hgd]
 rw[if_pos hwd]
 unfold Oper.wp
 rw[he,Oper.upon_enter]
 refine hc.mono fun e w' h=>?_
 obtain⟨u,rfl,h1⟩:=h
 exact hK u w' h1
theorem a0t (w:World)(o:Obj):Below w.heap.size w (w.alloc o):=(ZE _ _).alloc (ZC _) _
theorem a7p (p:PlP):(a1O p).length=gN p.gs+a0b p.fin:=by unfold a1O gN a0b;rw[List.length_append]
end Go.Proofs.YtbddbnjhmdbkbaaGreatDoor
