import Derived.Test.YtecdfnpbcabdnaaGreatDoorMgW
import Derived.Test.YtecdfnpbcabdnaaGreatDoorMgU
import Derived.Deep.WholeRow
import Derived.Laws.CopyOwn
import Derived.Test.YtecdfnpbcabdnaaGreatDoorMgF
import Derived.Laws.Tables
section
namespace Go.Proofs.YtecdfnpbcabdnaaGreatDoor
open Go.RowKit
abbrev itC (i:It)(vx vy:Value):List Value:=[.int .i64 i.kind,.string i.name,.string i.unit,.int .i64 i.a,.int .i64 i.b,.int .i64 i.c,.int .i64 i.x.kind,.string i.x.text,.int .i64 i.x.n,.int .i64 i.x.m,.int .i64 i.x.pl,vx,.int .i64 i.y.kind,.string i.y.text,.int .i64 i.y.n,.int .i64 i.y.m,.int .i64 i.y.pl,vy,.int .i64 i.pl]
abbrev itA (i:It)(vx vy:Value):Value:=.agg #[.int .i64 i.kind,.string i.name,.string i.unit,.int .i64 i.a,.int .i64 i.b,.int .i64 i.c,.int .i64 i.x.kind,.string i.x.text,.int .i64 i.x.n,.int .i64 i.x.m,.int .i64 i.x.pl,vx,.int .i64 i.y.kind,.string i.y.text,.int .i64 i.y.n,.int .i64 i.y.m,.int .i64 i.y.pl,vy,.int .i64 i.pl]
structure ItAt (z:Nat)(w:World)(i:It)(vx vy:Value):Prop where
 sx:Sits z w i.x vx
 sy:Sits z w i.y vy
 nm:i.name.size<=z
 un:i.unit.size<=z
theorem ItAt.next {z:Nat}{w w':World}{i:It}{vx vy:Value}(h:ItAt z w i vx vy)(hb:Below w.heap.size w w'):ItAt z w' i vx vy:=⟨h.sx.next hb,h.sy.next hb,h.nm,h.un⟩
def IAt (z:Nat)(w:World)(v:Value)(l:List It):Prop:=∃ ad cap,v=.slice ad l.length cap/\l.length<=cap/\cap<=9223372036854775807 /\
 (l.length=0\/∃ b off,ad=some ⟨b,off,none⟩/\b<w.heap.size/\∀ i (h:i<l.length),∃ vx vy,(∀ q u,(itC l[i] vx vy)[q]? = some u->w.cell? ⟨b,off+i*19+q,none⟩=some u)/\ItAt z w l[i] vx vy)
theorem IAt.shape {z:Nat}{w:World}{v:Value}{l:List It}(h:IAt z w v l):∃ ad cap,v=.slice ad l.length cap/\l.length<=cap/\cap<=9223372036854775807:=by
 obtain⟨ad,cap,hv,h1,h2,_⟩:=h
 exact⟨ad,cap,hv,h1,h2⟩
theorem IAt.next {z:Nat}{w w':World}{v:Value}{l:List It}(h:IAt z w v l)(hb:Below w.heap.size w w'):IAt z w' v l:=by
 obtain⟨ad,cap,hv,h1,h2,hp⟩:=h
 refine⟨ad,cap,hv,h1,h2,?_⟩
 rcases hp with hp | ⟨b,off,ha,hlt,hp⟩
 ·exact .inl hp
 ·refine .inr ⟨b,off,ha,Nat.lt_of_lt_of_le hlt hb.size,fun i hi=>?_⟩
  obtain⟨vx,vy,hc,hi2⟩:=hp i hi
  exact⟨vx,vy,fun q u hu=>(hb.cell (p:=⟨b,off+i*19+q,none⟩) hlt).trans (hc q u hu),hi2.next hb⟩
theorem IAt.open {z:Nat}{w:World}{v:Value}{l:List It}(h:IAt z w v l)(hn:0<l.length):∃ b off cap,v=.slice (some ⟨b,off,none⟩) l.length cap/\l.length<=cap/\cap<=9223372036854775807/\b<w.heap.size /\
 ∀ i (h:i<l.length),∃ vx vy,(∀ q u,(itC l[i] vx vy)[q]? = some u->w.cell? ⟨b,off+i*19+q,none⟩=some u)/\ItAt z w l[i] vx vy:=by
 obtain⟨ad,cap,hv,hl,hc,hp⟩:=h
 rcases hp with hp | ⟨b,off,rfl,hlt,hp⟩
 ·omega
 ·exact⟨b,off,cap,hv,hl,hc,hlt,hp⟩
theorem ld_at {w:World}{b o:Nat}{L:List Value}{X:Array Value}(h:∀ q u,L[q]? = some u->w.cell? ⟨b,o+q,none⟩=some u)(hX:X=L.toArray){n:Nat}(hn:n=L.length):(loadCellsFrom ⟨b,o,none⟩ 0 n #[]).run Tryz.prog w=.ok X w:=by
 subst hn hX
 have:=run_loadCells_list (P:=Tryz.prog) w ⟨b,o,none⟩ L (fun j v hv=>by
  have hadd:(⟨b,o,none⟩:Addr).add j=⟨b,o+j,none⟩:=by unfold Addr.add;split<;>simp_all
  rw[hadd]
  exact h j v hv)
 simpa[loadCells] using this
def zeroI:Array Value:=#[.int .i64 0,.string ⟨#[]⟩,.string ⟨#[]⟩,.int .i64 0,.int .i64 0,.int .i64 0,.int .i64 0,.string ⟨#[]⟩,.int .i64 0,.int .i64 0,.int .i64 0,.slice none 0 0,.int .i64 0,.string ⟨#[]⟩,.int .i64 0,.int .i64 0,.int .i64 0,.slice none 0 0,.int .i64 0]
theorem info_it:(Tryz.prog.info? 53).map (fun i=>(i.zero,i.size))=some (some (.agg zeroI),19):=by kernel_rfl
theorem st_it (w:World){X:Array Value}(hs:X.size=19)(h1:X.all (·.oneCell')=true):(storeCells ⟨w.heap.size,0,none⟩ X.toList 0).run Tryz.prog (w.alloc (.cells zeroI 53))=.ok () (w.alloc (.cells X 53)):=
 run_storeCells_new (P:=Tryz.prog) w 53 zeroI X (by rw[hs];exact(zero_of_info info_it).2) (by rw[hs];rfl) h1
theorem itC_one {z:Nat}{w:World}{i:It}{vx vy:Value}(h:ItAt z w i vx vy):(itC i vx vy).toArray.all (·.oneCell')=true:=by
 obtain⟨a1,c1,rfl,-,-⟩:=h.sx.parts.shape
 obtain⟨a2,c2,rfl,-,-⟩:=h.sy.parts.shape
 kernel_rfl
end Go.Proofs.YtecdfnpbcabdnaaGreatDoor
end
section
namespace Go.Proofs.YtecdfnpbcabdnaaGreatDoor
open Go.RowKit Go.Lib
def putRow (w:World)(g:Nat):Nat->List Value->World
 | _,[]=>w
 | i,v::r=>putRow (w.setCell ⟨g,i,none⟩ v) g (i+1) r
theorem putRow_turn (g:Nat):∀ (vs:List Value) (i:Nat) (w:World),Turn [g] w (putRow w g i vs)
 | [],_,w=>Turn.refl _ w
 | v::r,i,w=>turn_one (turn_set w g i v) (putRow_turn g r (i+1) _)
theorem putRow_box (g:Nat):∀ (vs:List Value) (i:Nat) (w:World) (L:List Value),Box w g L->i+vs.length=L.length->Box (putRow w g i vs) g (L.take i++vs)
 | [],i,w,L,h,hl=>by
   have:L.take i++[]=L:=by rw[List.append_nil,List.take_of_length_le (by simp at hl;omega)]
   rw[this]
   exact h
 | v::r,i,w,L,h,hl=>by
   have hi:i<L.length:=by simp at hl;omega
   have h1:=putRow_box g r (i+1) _ _ (h.set i hi v) (by simp at hl ⊢;omega)
   have h2:(L.set i v).take (i+1)++r=L.take i++v::r:=by
    rw[List.take_succ_eq_append_getElem (by simpa using hi),List.take_set_of_le (Nat.le_refl _)]
    simp
   rw[h2] at h1
   exact h1
theorem putRow_whole {w:World}{g:Nat}{L X:List Value}(h:Box w g L)(hl:X.length=L.length):Box (putRow w g 0 X) g X:=by
 have:=putRow_box g X 0 w L h (by omega)
 simpa using this
theorem st_at (g:Nat):∀ (vs:List Value) (i:Nat) (w:World) (L:List Value),Box w g L->i+vs.length<=L.length->(∀ v∈vs,v.oneCell'=true)->(storeCells ⟨g,0,none⟩ vs i).run Tryz.prog w=.ok () (putRow w g i vs)
 | [],_,w,_,_,_,_=>rfl
 | v::r,i,w,L,h,hl,h1=>by
   have hi:i<L.length:=by simp at hl;omega
   have hadd:(⟨g,0,none⟩:Addr).add i=⟨g,i,none⟩:=by unfold Addr.add;split<;>simp_all
   have hst:(store ((⟨g,0,none⟩:Addr).add i) v).run Tryz.prog w=.ok () (w.setCell ⟨g,i,none⟩ v):=by
    rw[hadd,run_store Tryz.prog w _ v _ (h1 v (by simp)),h.cell i _ (List.getElem?_eq_getElem hi)]
    simp[h.free i hi]
   have ih:=st_at g r (i+1) (w.setCell ⟨g,i,none⟩ v) _ (h.set i hi v) (by simp at hl ⊢;omega) (fun x hx=>h1 x (by simp[hx]))
   simp only[storeCells,Sem.run_bind,hst,Result.andThen_ok,ih]
   rfl
theorem ld_row {w:World}{g:Nat}{L:List Value}{X:Array Value}(h:Box w g L)(hX:X.toList=L){n:Nat}(hn:n=L.length):(loadCellsFrom ⟨g,0,none⟩ 0 n #[]).run Tryz.prog w=.ok X w:=by
 subst hn
 subst hX
 have:=run_loadCells_list (P:=Tryz.prog) w ⟨g,0,none⟩ X.toList (fun j v hv=>by
  have hadd:(⟨g,0,none⟩:Addr).add j=⟨g,j,none⟩:=by unfold Addr.add;split<;>simp_all
  rw[hadd]
  exact h.cell j v hv)
 simpa[loadCells] using this
abbrev zs19:List Value:=[.int .i64 0,.string ⟨#[]⟩,.string ⟨#[]⟩,.int .i64 0,.int .i64 0,.int .i64 0,.int .i64 0,.string ⟨#[]⟩,.int .i64 0,.int .i64 0,.int .i64 0,.slice none 0 0,.int .i64 0,.string ⟨#[]⟩,.int .i64 0,.int .i64 0,.int .i64 0,.slice none 0 0,.int .i64 0]
structure ItB (B z:Nat)(w:World)(i:It)(vx vy:Value):Prop where
 sx:SitB B z w i.x vx
 sy:SitB B z w i.y vy
 nm:i.name.size<=z
 un:i.unit.size<=z
abbrev VIt (B z:Nat):It->Value->World->Prop:=fun i v w'=>∃ vx vy,v=itA i vx vy/\ItB B z w' i vx vy
theorem turn_six_at (w:World)(g k:Nat)(v0 v1 v2 v3 v4 v5:Value):Turn [g] w ((((((w.setCell ⟨g,k,none⟩ v0).setCell ⟨g,k+1,none⟩ v1).setCell ⟨g,k+2,none⟩ v2).setCell ⟨g,k+3,none⟩ v3).setCell ⟨g,k+4,none⟩ v4).setCell ⟨g,k+5,none⟩ v5):=
 turn_one (turn_one (turn_one (turn_one (turn_one (turn_set _ _ _ _) (turn_set _ _ _ _)) (turn_set _ _ _ _)) (turn_set _ _ _ _)) (turn_set _ _ _ _)) (turn_set _ _ _ _)
theorem Box.six_at {w:World}{g:Nat}{L:List Value}(h:Box w g L)(k:Nat)(hk:k+5<L.length)(v0 v1 v2 v3 v4 v5:Value):Box ((((((w.setCell ⟨g,k,none⟩ v0).setCell ⟨g,k+1,none⟩ v1).setCell ⟨g,k+2,none⟩ v2).setCell ⟨g,k+3,none⟩ v3).setCell ⟨g,k+4,none⟩ v4).setCell ⟨g,k+5,none⟩ v5) g ((((((L.set k v0).set (k+1) v1).set (k+2) v2).set (k+3) v3).set (k+4) v4).set (k+5) v5):=
 (((((h.set k (by omega) v0).set (k+1) (by simp;omega) v1).set (k+2) (by simp;omega) v2).set (k+3) (by simp;omega) v3).set (k+4) (by simp;omega) v4).set (k+5) (by simp;omega) v5
theorem Box.cells_at {w:World}{g:Nat}{L:List Value}(h:Box w g L)(k:Nat)(v0 v1 v2 v3 v4 v5:Value)(h0:L[k]? = some v0)(h1:L[k+1]? = some v1)(h2:L[k+2]? = some v2)(h3:L[k+3]? = some v3)(h4:L[k+4]? = some v4)(h5:L[k+5]? = some v5):
 w.cell? ⟨g,k,none⟩=some v0/\w.cell? ⟨g,k+1,none⟩=some v1/\w.cell? ⟨g,k+2,none⟩=some v2/\w.cell? ⟨g,k+3,none⟩=some v3/\w.cell? ⟨g,k+4,none⟩=some v4/\w.cell? ⟨g,k+5,none⟩=some v5/\w.frozen? ⟨g,k,none⟩=false/\w.frozen? ⟨g,k+1,none⟩=false/\w.frozen? ⟨g,k+2,none⟩=false/\w.frozen? ⟨g,k+3,none⟩=false/\w.frozen? ⟨g,k+4,none⟩=false/\w.frozen? ⟨g,k+5,none⟩=false:=by
 have hl:∀ i v,L[i]? = some v->i<L.length:=fun i v hv=>(List.getElem?_eq_some_iff.1 hv).1
 exact⟨h.cell _ _ h0,h.cell _ _ h1,h.cell _ _ h2,h.cell _ _ h3,h.cell _ _ h4,h.cell _ _ h5,h.free _ (hl _ _ h0),h.free _ (hl _ _ h1),h.free _ (hl _ _ h2),h.free _ (hl _ _ h3),h.free _ (hl _ _ h4),h.free _ (hl _ _ h5)⟩
theorem nil_sits {Q:Nat->Prop}(z:Nat)(w:World):SitQ Q z w nilM (.slice none 0 0):=sitb_leaf ⟨zero64,zero64,zero64,zero64,Nat.zero_le _⟩ rfl
abbrev it0 (k a:Int):It:=⟨k,⟨#[]⟩,⟨#[]⟩,0,0,0,⟨0,⟨#[]⟩,0,0,0,[]⟩,⟨0,⟨#[]⟩,0,0,0,[]⟩,a⟩
theorem build_it (k a:Int)(w:World):(Instr.build 53 #[(0,.int .i64 k),(8,.int .i64 a)]).run Tryz.prog w=.ok (.agg (itC (it0 k a) (.slice none 0 0) (.slice none 0 0)).toArray) w:=
 run_build w _ _ _ (by kernel_rfl)
theorem wpList_it {ops:Array Oper}{rest:List Oper}{o:Oper}{a:Act}{Q:Exit->Act->World->Prop}{w:World}(hgd:o.guard=none)(x y:Operand)(ho:o.op=.build 53 #[(0,x),(8,y)])(k p:Int)(hx:a.eval x=.int .i64 k)(hy:a.eval y=.int .i64 p)
 (X:Array Value) (hX:X=(itC (it0 k p) (.slice none 0 0) (.slice none 0 0)).toArray) (h:wpList Tryz.prog ops Q rest (a.put o.dst (.agg X)) w):wpList Tryz.prog ops Q (o::rest) a w:=by
 refine wpList_plain hgd fun K hK=>?_
 subst hX
 unfold Oper.wp execOp
 have hb:=build_it k p w
 simp only[ho,Sem.run_bind,List.map_toArray,List.map_cons,List.map_nil,hx,hy,hb,Result.andThen_ok]
 exact hK _ _ h
structure PaG (B g z:Nat)(W:World)(v:Value)(ts:List (Tm×Value)):Prop where
 own:W.ownsRow B 33 6 v ts.length (flQ ts)
 ng:v.ownBlock≠some g
 sit:∀ p,p∈ts->SitQ (fun b=>(B<=b/\b≠g)/\v.ownBlock≠some b) z W p.1 p.2
theorem PaG.turn {S:List Nat}{B g z:Nat}{w w':World}{v:Value}{ts:List (Tm×Value)}(h:PaG B g z w v ts)(k:Turn S w w')(hS:∀ i∈S,i<B\/i=g):PaG B g z w' v ts:=by
 refine⟨?_,h.ng,fun p hp=>SitQ.keep k.size (fun b hb hq=>⟨hq,fun _=>turn_cell k hb (fun hm=>by
  rcases hS b hm with h1 | h1
  ·have:=hq.1.1;omega
  ·exact hq.1.2 h1)⟩) _ _ (h.sit p hp)⟩
 have hn:=h.ng
 have hl:=h.own.lt
 obtain⟨h1,h2⟩:=h.own
 refine⟨h1,?_⟩
 rcases h2 with h2 | ⟨g',cap,cur,rfl,h3,h4,h5,h6,h7,h8⟩
 ·exact .inl h2
 ·refine .inr ⟨g',cap,cur,rfl,h3,(k.block g' (Array.getElem?_eq_some_iff.1 h4).1 (fun hm=>?_)).trans h4,h5,h6,h7,h8⟩
  rcases hS g' hm with h9 | h9
  ·have:=(hl g' rfl).1;omega
  ·exact hn (by rw[<-h9];rfl)
theorem PaG.val {B g z:Nat}{w:World}{v:Value}{ts:List (Tm×Value)}(h:PaG B g z w v ts):∃ a n,v=.slice a ts.length n:=own_val h.own
theorem PaG.blk {B g z:Nat}{w:World}{v:Value}{ts:List (Tm×Value)}(h:PaG B g z w v ts)(q:Nat)(hq:v.ownBlock=some q):B<=q/\q<w.heap.size:=h.own.lt q hq
theorem PaG.sits {B g z:Nat}{w:World}{v:Value}{ts:List (Tm×Value)}{t:Tm}(h:PaG B g z w v ts)(hf:Fit z t)(hp:t.parts=ts.map Prod.fst):SitB B z w t v:=
 PaO.sits (ts:=ts) ⟨h.own,fun p hp=>(h.sit p hp).weak (fun _ _ hq=>⟨hq.1.1,hq.2⟩)⟩ hf hp
theorem PaG.grows {B g z:Nat}{w w':World}{v v':Value}{ts qs:List (Tm×Value)}(h:PaG B g z w v ts)(hg0:g<w.heap.size)(hq:∀ p,p∈qs->SitQ (fun b=>(B<=b/\b≠g)/\v.ownBlock≠some b) z w p.1 p.2)(ob:Obj)
 (ho:w'.ownsRow B 33 6 v' (ts.length+qs.length) (flQ ts++flQ qs)) (hg:(w.alloc ob).grownBy w' v.ownBlock) (hb:v'.ownBlock=v.ownBlock\/v'.ownBlock=some (w.alloc ob).heap.size):PaG B g z w' v' (ts++qs):=by
 have hsz:=hg.size
 simp only[World.size_alloc] at hsz hb
 refine⟨by rw[flQ_append,List.length_append];exact ho,?_,fun p hp=>?_⟩
 ·rcases hb with h3 | h3
  ·rw[h3];exact h.ng
  ·rw[h3];intro he;cases he;omega
 have hs:SitQ (fun b=>(B<=b/\b≠g)/\v.ownBlock≠some b) z w p.1 p.2:=by
  rcases List.mem_append.1 hp with h1 | h1
  ·exact h.sit p h1
  ·exact hq p h1
 have k1:∀ b,b<w.heap.size->v.ownBlock≠some b->v'.ownBlock≠some b:=fun b h1 h2=>by
  rcases hb with h3 | h3
  ·rw[h3];exact h2
  ·rw[h3];intro he;cases he;omega
 have k2:∀ b,b<w.heap.size->v.ownBlock≠some b->∀ j,w'.cell? ⟨b,j,none⟩=w.cell? ⟨b,j,none⟩:=fun b h1 h2 j=>by
  have h3:=hg.block b (by simp;omega) (fun he=>h2 he.symm)
  have h4:=World.cell?_of_block (a:=⟨b,j,none⟩) h3
  rw[h4]
  exact World.cell?_alloc_lt _ _ _ h1
 exact SitQ.keep (by omega) (fun b h1 h2=>⟨⟨h2.1,k1 b h1 h2.2⟩,k2 b h1 h2.2⟩) _ _ hs
theorem own_turnG {w w0 w':World}{v:Value}{ob:Obj}(hw0:w0=w.alloc ob)(hg:w0.grownBy w' v.ownBlock)(S:List Nat)(hS:∀ q,v.ownBlock=some q->q∈S):Turn S w w':=by
 subst hw0
 refine⟨hg.os.trans rfl,hg.tape.trans rfl,hg.output.trans rfl,by have:=hg.size;simp at this;omega,fun i hi hn=>?_⟩
 have h3:=hg.block i (by simp;omega) (fun he=>hn (hS i he.symm))
 rw[h3]
 show (w.heap.push ob)[i]? = w.heap[i]?
 rw[Array.getElem?_push,if_neg (by omega)]
theorem step_append_tg {ops:Array Oper}{o:Oper}{a:Act}{w:World}{K:Act->World->Prop}{Q:Exit->Act->World->Prop}{E:Prop}{z:Nat}(w0:World)(B g:Nat)(hgd:o.guard=none)(s x:Operand)
 (hop:o.op=Op.call {callee:=Callee.builtin Builtin.append,args:=#[s,x],argTypes:=#[31,31]}) (v:Value) (ts qs:List (Tm×Value)) (hw:w=w0.alloc (.cells (flQ qs).toArray 33)) (hs:a.eval s=v) (h:PaG B g z w0 v ts)
 (hg0:g<w0.heap.size) (hq:∀ p,p∈qs->SitQ (fun b=>(B<=b/\b≠g)/\v.ownBlock≠some b) z w0 p.1 p.2) (hl:ts.length+qs.length<=1000000000) (hB:B<=w0.heap.size)
 (hx:a.eval x=.slice (some ⟨w0.heap.size,0,none⟩) qs.length qs.length)
 (hK:∀ a' c' w' k,PaG B g z w' (.slice a' (ts.length+qs.length) c') (ts++qs)->B<=k->k≠g->Turn [k] w0 w'->K (a.put o.dst (.slice a' (ts.length+qs.length) c')) w') :
 if Region.wanted o (yielded ops a.tmps)=true then Oper.wp Tryz.prog o a w K Q else E:=by
 have hwd:Region.wanted o (yielded ops a.tmps)=true:=by simp[Region.wanted,hgd]
 rw[if_pos hwd]
 subst hw
 obtain⟨i0,hi,hz0,hz1,hz2⟩:=info_parts info_tm
 obtain⟨v',w',hrun,ho,hg,_,hb⟩:=run_append_own_at (P:=Tryz.prog) (w0.alloc (.cells (flQ qs).toArray 33)) B 31 o.type 33 i0 _ 6 72 Tryz.underlying31 hi hz0 hz1 hz2 rfl (by decide) v ts.length (flQ ts) (h.own.alloc _) ⟨w0.heap.size,0,none⟩ qs.length qs.length (flQ qs) (flQ_len qs)
  (fun j u hj=>by
    have hadd:(⟨w0.heap.size,0,none⟩:Addr).add j=⟨w0.heap.size,j,none⟩:=by unfold Addr.add;split<;>simp_all
    rw[hadd]
    exact(Box.new w0 (flQ qs) 33).cell j u hj)
  (flQ_one qs (fun p hp=>(hq p hp).oneCell)) (by unfold maxLen;omega) (by omega) (by simp;omega)
 obtain⟨a',c',rfl⟩:=own_val ho
 unfold Oper.wp
 simp[execOp,hop,resolve,invoke,builtin,hs,hx,hrun,Result.andThen]
 obtain⟨k,hk1,hk2,hk3⟩:∃ k,B<=k/\k≠g/\∀ q,v.ownBlock=some q->q∈[k]:=by
  rcases hv:v.ownBlock with _ | q
  ·exact⟨w0.heap.size,hB,by omega,fun q hq=>by cases hq⟩
  ·exact⟨q,(h.own.lt q hv).1,fun he=>h.ng (by rw[hv,he]),fun q' hq'=>by cases hq';simp⟩
 exact hK a' c' w' k (h.grows hg0 hq _ ho hg hb) hk1 hk2 (own_turnG rfl hg [k] hk3)
def AcC (z rb tb lb:Nat)(c:Int)(o N fn:Nat)(p:Ps):Prop:=∀ L,L.length<=N->∀ w,Rea z w rb tb lb c L o->Calls Tryz.prog fn #[.pointer (some ⟨rb,0,none⟩)] w (Out (VTm w.heap.size z) z w rb tb lb c o (p L))
structure InA (z rb tb lb:Nat)(c:Int)(o N:Nat)(X:Option Ps):Prop where
 no:X=none->o=64
 yes:∀ E,X=some E->o≠64/\AcC z rb tb lb c (o+1) N 53 E/\Dec E
structure LaS (z:Nat)(w W:World)(rb tb lb:Nat)(c:Int)(o g:Nat)(a:Nat)(Lr:List Tk)(v:Value)(ts:List (Tm×Value)):Prop where
 rs:Box W w.heap.size zs6
 lt:Box W g [.int .i64 36,.string ⟨#[]⟩,.int .i64 0,.int .i64 0,.int .i64 (a:Nat),v]
 pa:PaG (w.heap.size+1) g z W v ts
 re:Rea z W rb tb lb c Lr o
 tn:Turn [rb] w W
 gg:w.heap.size<g
 hr:rb<w.heap.size/\tb<w.heap.size/\lb<w.heap.size
theorem LaS.turn {z:Nat}{w W W':World}{rb tb lb:Nat}{c:Int}{o o' g a:Nat}{Lr Lq:List Tk}{v:Value}{ts:List (Tm×Value)}(h:LaS z w W rb tb lb c o g a Lr v ts)(k:Turn [rb] W W')(r:Rea z W' rb tb lb c Lq o'):LaS z w W' rb tb lb c o' g a Lq v ts:=by
 have h1:=h.gg
 have h2:=h.hr
 exact⟨h.rs.turn k (by simp;omega),h.lt.turn k (by simp;omega),h.pa.turn k (by simp;omega),r,Go.Proofs.YtecdfnpbcabdnaaGreatDoor.tn h.tn k,h.gg,h.hr⟩
theorem LaS.next {z:Nat}{w W W':World}{rb tb lb:Nat}{c:Int}{o g a:Nat}{Lr:List Tk}{v:Value}{ts:List (Tm×Value)}(h:LaS z w W rb tb lb c o g a Lr v ts)(k:Below W.heap.size W W'):LaS z w W' rb tb lb c o g a Lr v ts:=
 h.turn (Turn.of_below k) (h.re.next k)
theorem LaS.added {z:Nat}{w W W':World}{rb tb lb:Nat}{c:Int}{o g a k:Nat}{Lr:List Tk}{v v':Value}{ts us:List (Tm×Value)}(h:LaS z w W rb tb lb c o g a Lr v ts)(p:PaG (w.heap.size+1) g z W' v' us)(hk:w.heap.size+1<=k)(hkg:k≠g)(t:Turn [k] W W'):LaS z w (W'.setCell ⟨g,5,none⟩ v') rb tb lb c o g a Lr v' us:=by
 have h1:=h.gg
 have h2:=h.hr
 have hs:=t.size
 refine⟨(h.rs.turn t (by simp;omega)).other (by omega),(h.lt.turn t (by simp;omega)).set 5 (by simp) v',p.turn (turn_set W' g 5 v') (by simp),(h.re.turn1 t (by omega)).turn1 (turn_set W' g 5 v') (by omega),?_,h1,h2⟩
 exact(h.tn.trans t (fun i hi=>.inr (by simp at hi;omega))).andSet _ _ (.inr (by show w.heap.size<=g;omega))
theorem rungs_succ (c:Int)(A:Ps)(f:Nat)(ps:List Tm)(L:List Tk):rungs c A (f+1) ps L=bnd (mayS c k_else L) fun b=>
 if b.1=true then bnd (mustS c k_col b.2) fun a=>bnd (A a.2) fun y=>closeP c k_rb (ps++[y.1],y.2)
 else bnd (boundP c b.2) fun x=>bnd (mustS c k_col x.2) fun a=>bnd (A a.2) fun y=>bnd (mustS c k_com y.2) fun d=>rungs c A f (ps++[x.1,y.1]) d.2:=rfl
theorem sit_apartG {B C g z:Nat}{w:World}{v:Value}{t:Tm}{u:Value}(h:SitB C z w t u)(hB:B<=C)(hg:g<C)(hv:∀ q,v.ownBlock=some q->q<C):SitQ (fun b=>(B<=b/\b≠g)/\v.ownBlock≠some b) z w t u:=
 h.weak (fun b _ hq=>⟨⟨Nat.le_trans hB hq,by have:C<=b:=hq;omega⟩,fun he=>by have:=hv b he;have:C<=b:=hq;omega⟩)
end Go.Proofs.YtecdfnpbcabdnaaGreatDoor
end
