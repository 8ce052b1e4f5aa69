import Derived.Test.YtbddbnjhmdbkbaaGreatDoorMaC
import Derived.Test.YtbddbnjhmdbkbaaGreatDoorMhS
import Derived.OrdersHeld
import Derived.Deep.AppendLies
import Derived.Deep.RegionHeld
import Derived.RangeFuncNested
import Derived.RangeFuncCalls
import Derived.Test.YtbddbnjhmdbkbaaGreatDoorMhP
import Derived.Test.YtbddbnjhmdbkbaaGreatDoorMhM
import Derived.Maps.OwnIn
section
namespace Go.Proofs.YtbddbnjhmdbkbaaGreatDoor
open Go.RowKit
def a1d (l:List EvP)(j:Nat):List Pr:=(l.filter (fun e=>decide (e.kind=1/\e.id=(j:Int)))).map (fun e=>(e.time,e.val))
theorem a3T (l:List EvP)(e:EvP)(j:Nat):a1d (l++[e]) j=if e.kind=1/\e.id=(j:Int) then a1d l j++[(e.time,e.val)] else a1d l j:=by
 unfold a1d
 rw[List.filter_append]
 by_cases h:e.kind=1/\e.id=(j:Int)
 ·rw[if_pos h];simp[List.filter,h]
 ·rw[if_neg h];simp[List.filter,h]
theorem a6Q (l:List EvP)(j:Nat):(a1d l j).length<=l.length:=by unfold a1d;rw[List.length_map];exact List.length_filter_le _ _
def flS (l:List Pr):List Value:=(l.map smL).flatten
theorem b0L (l:List Pr)(x:Pr):flS (l++[x])=flS l++smL x:=by simp[flS]
theorem b8c:∀ (xs:List Pr) (i:Nat) (hi:i<xs.length) (j:Nat) (u:Value),(smL xs[i])[j]? = some u->(flS xs)[i*2+j]? = some u
 | x::r,0,_,j,u,h=>by
   have hj:j<2:=by have:=(List.getElem?_eq_some_iff.1 h).1;simpa using this
   simp only[flS,List.map_cons,List.flatten_cons,Nat.zero_mul,Nat.zero_add]
   rw[List.getElem?_append_left (by simpa using hj)]
   exact h
 | x::r,i+1,hi,j,u,h=>by
   have:=b8c r i (by simpa using hi) j u (by simpa using h)
   simp only[flS,List.map_cons,List.flatten_cons] at this ⊢
   rw[List.getElem?_append_right (by simp;omega)]
   have e:(i+1)*2+j-(smL x).length=i*2+j:=by simp;omega
   rw[e]
   exact this
theorem a6e {w:World}{B:Nat}{u:Value}{l:List Pr}(h:w.ownsRow B 78 2 u l.length (flS l)):a5N w u l:=by
 obtain⟨h1,⟨h2,h3⟩ | ⟨g,cap,cur,h2,h3,h4,h5,h6,h7,h8⟩⟩:=h
 ·exact⟨none,0,by rw[h2,h3],by omega,by omega,.inl h3⟩
 ·have BX:Box w g (flS l):=(Box.ofBlock h4).part (by rw[<-h8];exact List.take_prefix _ _)
  refine⟨_,cap,h2,h5,h6,.inr ⟨g,0,rfl,BX.lt,fun i hi j x hx=>?_⟩⟩
  have hg:l.getD i (0,0)=l[i]:=by simp[List.getD,hi]
  have:=BX.cell (i*2+j) x (b8c l i hi j x (by rw[<-hg];exact hx))
  simpa using this
structure a7V (n0 S M:Nat)(f:Nat->List Pr)(us:Nat->Value)(W:World):Prop where
 row:W.ownsRow n0 76 1 (.slice (some ⟨S,0,none⟩) M M) M ((List.range M).map us)
 own:∀ j,j<M->W.ownsRow n0 78 2 (us j) (f j).length (flS (f j))
 ap:∀ i j r,i<M->j<M->i≠j->(us i).ownBlock=some r->(us j).ownBlock≠some r
theorem a7V.kept {n0 S M:Nat}{f:Nat->List Pr}{us:Nat->Value}{W W':World}{row:Option Nat}(h:a7V n0 S M f us W)(hg:W.grownBy W' row)(hr:∀ r cs t fr,row=some r->W.heap[r]? = some (Obj.cells cs t fr)->t≠76/\t≠78):a7V n0 S M f us W':=
 ⟨a2a h.row hg (fun r e hb=>by obtain⟨-,cur,q⟩:=a0t h.row hb;exact(hr r _ _ _ e q).1 rfl),fun j hj=>a2a (h.own j hj) hg (fun r e hb=>by obtain⟨-,cur,q⟩:=a0t (h.own j hj) hb;exact(hr r _ _ _ e q).2 rfl),h.ap⟩
theorem b5J {β : Type}(B n0 S M:Nat)(f : β -> Nat->List Pr):a4K B (fun (s : β) W=>∃ us,a7V n0 S M (f s) us W):=fun s W W' row ⟨us,h⟩ hg hr=>⟨us,h.kept hg (fun r cs t fr e q=>by
 obtain⟨-,o,h1,h2⟩:=hr r e
 rw[q] at h1
 cases h1
 rcases h2 with h2 | ⟨v,h2⟩
 ·cases h2
 ·simp only[Obj.cells.injEq] at h2
  obtain⟨-,rfl,-⟩:=h2
  exact⟨by decide,by decide⟩)⟩
theorem a7V.more {n0 S M:Nat}{f f':Nat->List Pr}{us:Nat->Value}{W W2:World}(h:a7V n0 S M f us W)(j:Nat)(hj:j<M)(x:Pr)(v':Value)
 (ho:W2.ownsRow n0 78 2 v' ((f j).length+1) (flS (f j)++smL x)) (hg:W.grownBy W2 (us j).ownBlock) (hb:v'.ownBlock=(us j).ownBlock\/v'.ownBlock=some W.heap.size) (h1:f' j=f j++[x]) (h2:∀ i,i≠j->f' i=f i) :
 a7V n0 S M f' (fun i=>if i=j then v' else us i) (W2.setCell ⟨S,j,none⟩ v'):=by
 have r2:W2.ownsRow n0 76 1 (.slice (some ⟨S,0,none⟩) M M) M ((List.range M).map us):=a2a h.row hg (fun r e hb=>by
  obtain⟨-,c1,q1⟩:=a0t h.row hb
  obtain⟨-,c2,q2⟩:=a0t (h.own j hj) e
  rw[q1] at q2
  simp only[Option.some.injEq,Obj.cells.injEq] at q2
  exact absurd q2.2.1 (by decide))
 obtain⟨-,cS,qS⟩:=a0t r2 rfl
 have gS:=grownBy_setCell' W2 S v'
 have nS:∀ {v:Value} {n:Nat} {xs:List Value},W2.ownsRow n0 78 2 v n xs->v.ownBlock≠some S:=fun hv e=>by
  obtain⟨-,c2,q2⟩:=a0t hv e
  rw[qS] at q2
  simp only[Option.some.injEq,Obj.cells.injEq] at q2
  exact absurd q2.2.1 (by decide)
 have st:=(r2.stored j v').1
 have gj:W2.grownBy (W2.setCell ⟨S,j,none⟩ v') (some S):=(r2.stored j v').2
 have lm:((List.range M).map us).set j v'=(List.range M).map (fun i=>if i=j then v' else us i):=by
  apply List.ext_getElem
  ·simp
  ·intro i hi hi2
   simp only[List.getElem_set,List.getElem_map,List.getElem_range]
   by_cases e:j=i
   ·rw[if_pos e,if_pos e.symm]
   ·rw[if_neg e,if_neg (fun e2=>e e2.symm)]
 refine⟨by rw[<-lm];exact st,fun i hi=>?_,fun i k r hi hk hik=>?_⟩
 ·by_cases e:i=j
  ·subst e
   simp only[if_true]
   rw[h1,b0L,List.length_append]
   exact a2a ho gj (fun r e hb=>by cases e;exact nS ho hb)
  ·simp only[if_neg e]
   rw[h2 i e]
   have o2:W2.ownsRow n0 78 2 (us i) (f i).length (flS (f i)):=a2a (h.own i hi) hg (fun r e2 hb=>h.ap j i r hj hi (fun q=>e q.symm) e2 hb)
   exact a2a o2 gj (fun r e hb=>by cases e;exact nS o2 hb)
 ·have hlt:∀ q r,q<M->(us q).ownBlock=some r->r<W.heap.size:=fun q r hq hr=>((h.own q hq).lt r hr).2
  by_cases e:i=j
  ·subst e
   have e2:¬ k=i:=fun q=>hik q.symm
   simp only[if_true,if_neg e2]
   intro hr hk2
   rcases hb with hb | hb
   ·rw[hb] at hr;exact h.ap i k r hi hk hik hr hk2
   ·rw[hb] at hr;cases hr;exact absurd (hlt k _ hk hk2) (Nat.lt_irrefl _)
  ·simp only[if_neg e]
   by_cases e2:k=j
   ·subst e2
    simp only[if_true]
    intro hr hk2
    rcases hb with hb | hb
    ·rw[hb] at hk2;exact h.ap i k r hi hk hik hr hk2
    ·rw[hb] at hk2;cases hk2;exact absurd (hlt i _ hi hr) (Nat.lt_irrefl _)
   ·simp only[if_neg e2]
    exact h.ap i k r hi hk hik
theorem a7V.lists {n0 S M:Nat}{f:Nat->List Pr}{us:Nat->Value}{W:World}(h:a7V n0 S M f us W):c1Y W (.slice (some ⟨S,0,none⟩) M M) M f:=by
 refine⟨us,?_,fun i hi=>a6e (h.own i hi)⟩
 have e0:∀ l:List Nat,l.map us=(l.map fun i=>[us i]).flatten:=fun l=>by
  induction l with
  | nil=>rfl
  | cons x r ih=>simp[ih]
 have e:(List.range M).map us=a1t (fun i=>[us i]) M:=e0 _
 have:=h.row
 rw[e] at this
 exact a3E (fun _=>rfl) this
def a8w (P:Program)(o:Oper):Prop:=(∀ c,o.op≠.defer c)/\∀ a w row args w',(execOp a o).run P w≠.ok (.row row args) w'
theorem b8G {lp n:Nat}{P:Program}{o:Oper}{a:Act}{next next':Act->World->Prop}{Q:Exit->Act->World->Prop}(hn:∀ a w,next a w->next' a w)(r:Result Next)(hr:∀ row args w',r≠.ok (.row row args) w')(h:o.upon P a next Q r):o.uponIn (Fence.wide.inRound lp) n P a next' Q r:=by
 match r,hr,h with
 | .ok (.value v) w',_,h=>exact hn _ _ h
 | .ok .skip w',_,h=>exact hn _ _ h
 | .ok (.defer d) w',_,h=>exact hn _ _ h
 | .ok (.enter f args) w',_,h=>
   refine⟨(fun hd=>by cases hd),CallsIn.inRound lp (callsIn_wide.2 (ZE h ?_))⟩
   intro e w2 h2
   cases e with
   | returned v=>exact hn _ _ h2
   | panicked c=>exact h2
   | outgrown=>exact h2
 | .ok (.row row args) w',hr,_=>exact absurd rfl (hr row args w')
 | .halt (.panic v) w',_,h=>exact h
theorem b0A {lp n:Nat}{P:Program}{ops:Array Oper}{Q:Exit->Act->World->Prop}(hp:∀ (i:Nat) o,ops[i]? = some o->a8w P o)(hQ:¬ LetsOut Q):∀ (l:List Nat) (a:Act) (w:World),wpOps P ops Q l a w->wpOpsIn (Fence.wide.inRound lp) n P ops Q l a w
 | [],_,_,h=>h
 | i::rest,a,w,h=>by
   unfold wpOps at h
   unfold wpOpsIn
   cases ho:ops[i]? with
   | none=>rw[ho] at h;exact b0A hp hQ rest a w h
   | some o=>
     rw[ho] at h
     dsimp only at h ⊢
     obtain⟨h1,h2⟩:=hp i o ho
     by_cases hw:Region.wanted o (yielded ops a.tmps)=true
     ·rw[if_pos hw] at h ⊢
      rcases h with h | ⟨-,h⟩
      ·refine⟨fun _ _=>trivial,?_⟩
       rw[Oper.semAt_eq _ _ _ h1]
       exact b8G (fun a w=>b0A hp hQ rest a w) _ (fun row args w'=>h2 _ _ row args w') h
      ·exact absurd h hQ
     ·rw[if_neg hw] at h ⊢
      exact⟨fun _ _=>trivial,b0A hp hQ rest _ w h⟩
theorem b9n {P:Program}{w w':World}(s:Sem Value):∀ row args,(do let x <-s;pure (Next.value x):Sem Next).run P w≠.ok (.row row args) w':=by
 intro row args h
 rw[Sem.run_bind] at h
 cases hs:s.run P w<;>rw[hs] at h<;>simp[Result.andThen,Sem.run_pure] at h
theorem b9o {P:Program}{w w':World}(s:Sem Unit):∀ row args,(do s;pure Next.skip:Sem Next).run P w≠.ok (.row row args) w':=by
 intro row args h
 rw[Sem.run_bind] at h
 cases hs:s.run P w<;>rw[hs] at h<;>simp[Result.andThen,Sem.run_pure] at h
theorem b9g {P:Program}{o:Oper}(hd:∀ c,o.op≠.defer c)(h:∀ a,∃ s:Sem Value,execOp a o=(do let x <-s;pure (Next.value x))):a8w P o:=
 ⟨hd,fun a w row args w'=>by obtain⟨s,e⟩:=h a;rw[e];exact b9n s row args⟩
theorem b9h {P:Program}{o:Oper}(hd:∀ c,o.op≠.defer c)(h:∀ a,∃ s:Sem Unit,execOp a o=(do s;pure Next.skip)):a8w P o:=
 ⟨hd,fun a w row args w'=>by obtain⟨s,e⟩:=h a;rw[e];exact b9o s row args⟩
theorem a8v {P:Program}{o:Oper}(s x:Operand)(t:TypeId)(ho:o.op=.call {callee:=.builtin .append,args:=#[s,x],argTypes:=#[t,t]}):a8w P o:=by
 refine⟨fun c h=>(by rw[ho] at h;cases h),fun a w row args w' h=>?_⟩
 simp only[execOp,ho,resolve,invoke,builtin,Sem.run_bind,Sem.run_pure,Result.andThen_ok,List.map_toArray,List.map_cons,List.map_nil] at h
 cases hr:Sem.run P (Builtin.append_ #[t,t] o.type #[a s,a x]) w<;>rw[hr] at h<;>simp[Result.andThen] at h
theorem b3k {lp n:Nat}{P:Program}{id:Nat}{ops:Array Oper}{Q:Exit->Act->World->Prop}{a:Act}{w:World}(S:World->Prop)(hm:P.follows .mixedOrders=true)(hp:∀ o,o∈ops.toList->a8w P o)(hQ:¬ LetsOut Q)
 (h:wpAnyH P .any ops Q S ops.size (Array.replicate ops.size false) a w.drew):(Code.region id ops true).wpIn (Fence.wide.inRound lp) n P Q a w:=
 wpIn_region_draw fun t=>by
  simp only[Region.schedule,hm,Bool.true_or,if_true]
  exact b0A (fun i o ho=>hp o (by rw[<-Array.getElem?_toList] at ho;exact List.mem_of_getElem? ho)) hQ _ _ _ (wpAny_sound ops.size t _ a _ (wpAny_of_held _ _ _ _ h))
end Go.Proofs.YtbddbnjhmdbkbaaGreatDoor
end
section
namespace Go.Proofs.YtbddbnjhmdbkbaaGreatDoor
open Go.RowKit Go.Shelf
attribute [local go_sem] Oper.semAt_some
theorem b9v {F:Fence}{n:Nat}{P:Program}(w:World){ops:Array Oper}{rest:List Oper}{o:Oper}{a:Act}{Q:Exit->Act->World->Prop}
 (hg:o.guard=none) (l c:Operand) (t:TypeId) (hop:o.op=Op.makeSlice t l c)
 (base:Nat) (e:TypeId) (i:TypeInfo) (z:Value) (size:Nat) (h1:P.underlying t=some (.slice e)) (h2:P.info? e=some i) (h3:i.zero=some z) (h4:i.size=size)
 (kl kc:IntKind) (L C:Int) (m:Nat) (hl:a.eval l=.int kl L) (hc:a.eval c=.int kc C) (hL:L=(m:Int)) (hC:C=(m:Int)) (b2:i.bytes*m<=281474976710656) (b3:m<=maxLen) (b4:base<=w.heap.size)
 (hK:∀ w',w'.ownsRow base e size (.slice (some ⟨w.heap.size,0,none⟩) m m) m (madeCells z.cells (m*size)).toList->w.grownBy w' none->wpListIn F n P ops Q rest (a.put o.dst (.slice (some ⟨w.heap.size,0,none⟩) m m)) w') :
 wpListIn F n P ops Q (o::rest) a w:=by
 refine wpListIn_plain hg fun K hK'=>?_
 obtain⟨w',hrun,r1,r2⟩:=run_make_full (P:=P) w base t e i z size h1 h2 h3 h4 kl kc m b2 b3 b4
 subst hL
 subst hC
 unfold Oper.wpIn
 refine⟨by simp[Oper.about,hop],?_⟩
 rw[Oper.semAt_plain F _ _ (by rw[hop];intro c hc';cases hc')]
 simp[execOp,hop,hl,hc,hrun,Result.andThen]
 exact hK' _ _ (hK w' r1 r2)
theorem a9I (n:Nat):(madeCells #[Value.slice none 0 0] n).toList=(List.range n).map (fun _=>Value.slice none 0 0):=by
 apply List.ext_getElem?
 intro i
 by_cases hi:i<n
 ·simp[madeCells,hi,Nat.mod_one]
 ·rw[List.getElem?_eq_none (by simp[size_madeCells];omega),List.getElem?_eq_none (by simp;omega)]
theorem b9F:(Tryz.prog.info? 76).map (fun i=>(i.zero,i.size,i.bytes))=some (some (.slice none 0 0),1,24):=by kernel_rfl
theorem b6F:∃ i,Tryz.prog.info? 76=some i/\i.zero=some (.slice none 0 0)/\i.size=1/\i.bytes=24:=by
 have h:=b9F
 cases hi:Tryz.prog.info? 76 with
 | none=>rw[hi] at h;cases h
 | some i=>
   rw[hi] at h
   simp only[Option.map_some,Option.some.injEq,Prod.mk.injEq] at h
   exact⟨i,rfl,h.1,h.2.1,h.2.2⟩
theorem b9G:(Tryz.prog.info? 78).map (fun i=>(i.zero,i.size,i.bytes))=some (some (.agg #[.int .i64 0,.int .i64 0]),2,16):=by kernel_rfl
theorem b0I:∃ i,Tryz.prog.info? 78=some i/\i.zero=some (.agg #[.int .i64 0,.int .i64 0])/\i.size=2/\i.bytes=16:=by
 have h:=b9G
 cases hi:Tryz.prog.info? 78 with
 | none=>rw[hi] at h;cases h
 | some i=>
   rw[hi] at h
   simp only[Option.map_some,Option.some.injEq,Prod.mk.injEq] at h
   exact⟨i,rfl,h.1,h.2.1,h.2.2⟩
theorem b5K {W W':World}{n0 M:Nat}(h:W'.ownsRow n0 76 1 (.slice (some ⟨W.heap.size,0,none⟩) M M) M (madeCells #[Value.slice none 0 0] M).toList):a7V n0 W.heap.size M (a1d []) (fun _=>.slice none 0 0) W':=by
 rw[a9I] at h
 exact⟨h,fun j _=>World.ownsRow_nil _ _ _ _,fun i j r _ _ _ e=>by cases e⟩
theorem a8u {β : Type}(B:Nat)(φ : β -> Prop):a4K B (fun (s : β) (_:World)=>φ s):=fun _ _ _ _ hs _ _=>hs
theorem b4P {β : Type}(B b:Nat)(t:TypeId)(v:Value)(ht:t≠2):a4K B (fun (_ : β) W=>Boxed W b t v):=a2d B b (fun _=>#[v]) t ht
abbrev a8K:Array Value:=#[.int .i64 0,.slice none 0 0,.slice none 0 0]
def c3S (w:World)(W4:World)(S bs M:Nat)(M' t:Int)(pre:List (KEv M'))(W:World):Prop:=
 (∃ us,a7V (w.heap.size+4) S M (a1d (pre.map (·.1))) us W)/\(Boxed W bs 72 (.slice (some ⟨S,0,none⟩) M M)/\(W.heap[w.heap.size+2]? = some (Obj.cells a8K 40 (0,0))/\(W.heap[w.heap.size+3]? = some (Obj.cells #[.int .i64 0] 41 (0,0))/\(Below (w.heap.size+2) W4 W/\∀ x,x∈pre->x.1.time<=t))))
def c4e (w:World)(W4:World)(M' t:Int)(c:Code)(pre:List (KEv M'))(W:World):Prop:=
 W.heap[w.heap.size+2]? = some (Obj.cells a8K 40 (0,0))/\(W.heap[w.heap.size+3]? = some (Obj.cells #[.int .i64 32] 41 (0,0))/\(Below (w.heap.size+2) W4 W/\(c=.ret/\∃ x,x∈pre/\t<x.1.time)))
theorem b6W (w W4:World)(S bs M:Nat)(M' t:Int)(h:w.heap.size+2<=W4.heap.size):a4K W4.heap.size (c3S w W4 S bs M M' t):=
 a4K.and (b5J _ _ _ _ (fun pre:List (KEv M')=>a1d (pre.map (·.1)))) (a4K.and (b4P _ _ _ _ (by decide)) (a4K.and (a2d _ _ (fun _=>a8K) _ (by decide)) (a4K.and (a2d _ _ (fun _=>#[.int .i64 0]) _ (by decide)) (a4K.and (a6C h h) (a8u _ _)))))
theorem b6V (w W4:World)(M' t:Int)(c:Code)(h:w.heap.size+2<=W4.heap.size):a4K W4.heap.size (c4e w W4 M' t c):=
 a4K.and (a2d _ _ (fun _=>a8K) _ (by decide)) (a4K.and (a2d _ _ (fun _=>#[.int .i64 32]) _ (by decide)) (a4K.and (a6C h h) (a8u _ _)))
theorem b2a {n0:Nat}(W:World):a3i n0 W W.drew:=⟨(ZD _ _).drew,fun _ _ _ _ hk _=>hk⟩
theorem a8g {n0 S M:Nat}{f:Nat->List Pr}{us:Nat->Value}{W:World}(h:a7V n0 S M f us W):a7V n0 S M f us W.drew:=⟨h.row.drew,fun j hj=>(h.own j hj).drew,h.ap⟩
theorem a1B {n0 S M ji:Nat}{f:Nat->List Pr}{us:Nat->Value}{W w6:World}(h:a7V n0 S M f us W)(hj:ji<M)(hg:W.grownBy w6 (us ji).ownBlock){b:Nat}{cs:Array Value}{t:TypeId}{fr:Nat×Nat}(hb:W.heap[b]? = some (Obj.cells cs t fr))(ht:t≠78):w6.heap[b]? = some (Obj.cells cs t fr):=
 (hg.block b (Array.getElem?_eq_some_iff.1 hb).1 (fun e=>by
   obtain⟨-,cur,q⟩:=a0t (h.own ji hj) e.symm
   rw[hb] at q
   simp only[Option.some.injEq,Obj.cells.injEq] at q
   exact ht q.2.1)).trans hb
theorem a8m {n0 S M ji:Nat}{f:Nat->List Pr}{us:Nat->Value}{W w6:World}(h:a7V n0 S M f us W)(hj:ji<M)(hg:W.grownBy w6 (us ji).ownBlock):w6.cell? ⟨S,ji,none⟩=some (us ji)/\w6.frozen? ⟨S,ji,none⟩=false/\S<w6.heap.size:=by
 have r2:w6.ownsRow n0 76 1 (.slice (some ⟨S,0,none⟩) M M) M ((List.range M).map us):=a2a h.row hg (fun r e hb=>by
  obtain⟨-,c1,q1⟩:=a0t h.row hb
  obtain⟨-,c2,q2⟩:=a0t (h.own ji hj) e
  rw[q1] at q2
  simp only[Option.some.injEq,Obj.cells.injEq] at q2
  exact absurd q2.2.1 (by decide))
 refine⟨?_,r2.frozenAt ji,(r2.lt S rfl).2⟩
 rw[r2.cellAt ji (by omega)]
 simp[hj]
theorem a8T {w w':World}{g:Nat}{xs:List Value}(h:Box w g xs)(e:w'.heap[g]? = w.heap[g]?)(hs:w.heap.size<=w'.heap.size):Box w' g xs:=
 ⟨fun i v hv=>(World.cell?_of_block (a:=⟨g,i,none⟩) e).trans (h.cell i v hv),fun i hi=>(World.frozen?_of_block (a:=⟨g,i,none⟩) e).trans (h.free i hi),ZA h.lt hs⟩
theorem a1h {W:World}{S j b:Nat}{v:Value}{o:Obj}(hb:W.heap[b]? = some o)(h:b≠S):(W.setCell ⟨S,j,none⟩ v).heap[b]? = some o:=by
 have t:=a0h.set (S:=[S]) W ⟨S,j,none⟩ v (by simp)
 exact(t.block b (Array.getElem?_eq_some_iff.1 hb).1 (by simpa using h)).trans hb
theorem a8J {w W4 W w6:World}{S bs M ji:Nat}{M' t et ev:Int}{pre:List (KEv M')}{x:KEv M'}{us:Nat->Value}{o:Obj}{v':Value}(hxk:x.1.kind=1)(hxi:x.1.id=(ji:Int))(hxt:x.1.time=et)(hxv:x.1.val=ev)(htm:et<=t)
 (hSM:a7V (w.heap.size+4) S M (a1d (pre.map (·.1))) us W) (hbs:Boxed W bs 72 (.slice (some ⟨S,0,none⟩) M M)) (h2:W.heap[w.heap.size+2]? = some (Obj.cells a8K 40 (0,0))) (h3:W.heap[w.heap.size+3]? = some (Obj.cells #[.int .i64 0] 41 (0,0))) (hB:Below (w.heap.size+2) W4 W) (hall:∀ x,x∈pre->x.1.time<=t) (hj:ji<M)
 (ho:w6.ownsRow (w.heap.size+4) 78 2 v' ((a1d (pre.map (·.1)) ji).length+1) (flS (a1d (pre.map (·.1)) ji)++smL (et,ev))) (hg:((W.alloc o).drew).grownBy w6 (us ji).ownBlock) (hb:v'.ownBlock=(us ji).ownBlock\/v'.ownBlock=some ((W.alloc o).drew).heap.size) :
 KeepsOthers W (w6.setCell ⟨S,ji,none⟩ v')/\a3i w.heap.size W (w6.setCell ⟨S,ji,none⟩ v')/\c3S w W4 S bs M M' t (pre++[x]) (w6.setCell ⟨S,ji,none⟩ v'):=by
 have SM5:=a8g (hSM.kept (World.grownBy_alloc W o none) (fun r cs t fr e=>by cases e))
 have hl3:=(Array.getElem?_eq_some_iff.1 h3).1
 have A:∀ {b:Nat} {o':Obj},W.heap[b]? = some o'->((W.alloc o).drew).heap[b]? = some o':=fun hb=>(Below.heap_alloc W o _ (Array.getElem?_eq_some_iff.1 hb).1).trans hb
 obtain⟨hS0',cS,qS⟩:=a0t SM5.row (r:=S) rfl
 have hS0:w.heap.size+4<=S:=hS0'
 have qS6:=a1B SM5 hj hg qS (by decide)
 have hsz:w.heap.size<=W.heap.size:=by omega
 have KT1:a3i w.heap.size W w6:=((a5x o hsz).trans (b2a _)).trans (a5w hg (by simp;omega) (fun r e=>by
  obtain⟨q1,cur,q2⟩:=a0t (SM5.own ji hj) e
  exact⟨by omega,cur,_,_,q2,by decide,by decide⟩))
 have KT2:a3i w.heap.size w6 (w6.setCell ⟨S,ji,none⟩ v'):=a5w (row:=some S) ⟨rfl,rfl,rfl,(a0h.set (S:=[S]) w6 ⟨S,ji,none⟩ v' (by simp)).size,fun k hk hn=>(a0h.set (S:=[S]) w6 ⟨S,ji,none⟩ v' (by simp)).block k hk (fun e=>hn (by have:=List.mem_singleton.1 e;rw[this]))⟩ (ZC hsz KT1.1.size) (fun r e=>by cases e;exact⟨by omega,_,_,_,qS6,by decide,by decide⟩)
 have B6:Below (w.heap.size+2) W (w6.setCell ⟨S,ji,none⟩ v'):=by
  have b1:Below (w.heap.size+2) W ((W.alloc o).drew):=((ZD _ _).alloc (by omega) o).drew
  have b2:Below (w.heap.size+2) ((W.alloc o).drew) w6:=⟨hg.os,hg.tape,hg.output,hg.size,fun k hk=>hg.block k (by simp;omega) (fun e=>by have:=(a0t (SM5.own ji hj) e.symm).1;omega)⟩
  exact(b1.trans b2).setCell (p:=⟨S,ji,none⟩) (by show w.heap.size+2<=S;omega) v'
 refine⟨(((KeepsOthers.alloc W o).trans (KeepsOthers.drew _)).trans (KeepsOthers.of_grownBy hg (fun j o' e ho'=>by
  obtain⟨-,cur,q⟩:=a0t (SM5.own ji hj) e
  rw[q] at ho'
  cases ho'
  rfl))).trans (KeepsOthers.setCell _ _ _),KT1.trans KT2,⟨_,a7V.more SM5 ji hj (et,ev) v' ho hg hb (f':=a1d ((pre++[x]).map (·.1))) ?_ ?_⟩,a1h (a1B SM5 hj hg (A hbs) (by decide)) (fun e=>?_),a1h (a1B SM5 hj hg (A h2) (by decide)) (by omega),a1h (a1B SM5 hj hg (A h3) (by decide)) (by omega),hB.trans B6,fun y hy=>?_⟩
 ·rw[List.map_append]
  show a1d (pre.map (·.1)++[x.1]) ji=_
  rw[a3T,if_pos ⟨hxk,hxi⟩,hxt,hxv]
 ·intro i hi
  rw[List.map_append]
  show a1d (pre.map (·.1)++[x.1]) i=_
  rw[a3T,if_neg (fun h=>hi (by have:=h.2;rw[hxi] at this;omega))]
 ·have q:=A hbs
  rw[e,qS] at q
  simp only[Option.some.injEq,Obj.cells.injEq] at q
  exact absurd q.2.1 (by decide)
 ·rcases List.mem_append.1 hy with h | h
  ·exact hall y h
  ·have:=List.mem_singleton.1 h
   subst this
   omega
theorem a6v (w:World)(t0 t1 t2 t3:TypeId)(x0 x1 x2 x3:List Value):
 Box ((((w.alloc (.cells x0.toArray t0)).alloc (.cells x1.toArray t1)).alloc (.cells x2.toArray t2)).alloc (.cells x3.toArray t3)) w.heap.size x0 /\
 ((((w.alloc (.cells x0.toArray t0)).alloc (.cells x1.toArray t1)).alloc (.cells x2.toArray t2)).alloc (.cells x3.toArray t3)).heap[w.heap.size+1]? = some (Obj.cells x1.toArray t1 (0,0)) /\
 ((((w.alloc (.cells x0.toArray t0)).alloc (.cells x1.toArray t1)).alloc (.cells x2.toArray t2)).alloc (.cells x3.toArray t3)).heap[w.heap.size+2]? = some (Obj.cells x2.toArray t2 (0,0)) /\
 ((((w.alloc (.cells x0.toArray t0)).alloc (.cells x1.toArray t1)).alloc (.cells x2.toArray t2)).alloc (.cells x3.toArray t3)).heap[w.heap.size+3]? = some (Obj.cells x3.toArray t3 (0,0)) /\
 Below w.heap.size w ((((w.alloc (.cells x0.toArray t0)).alloc (.cells x1.toArray t1)).alloc (.cells x2.toArray t2)).alloc (.cells x3.toArray t3)) /\
 ((((w.alloc (.cells x0.toArray t0)).alloc (.cells x1.toArray t1)).alloc (.cells x2.toArray t2)).alloc (.cells x3.toArray t3)).heap.size=w.heap.size+4:=by
 have n1:=World.alloc_heap_new (w.alloc (.cells x0.toArray t0)) (.cells x1.toArray t1)
 have n2:=World.alloc_heap_new ((w.alloc (.cells x0.toArray t0)).alloc (.cells x1.toArray t1)) (.cells x2.toArray t2)
 have n3:=World.alloc_heap_new (((w.alloc (.cells x0.toArray t0)).alloc (.cells x1.toArray t1)).alloc (.cells x2.toArray t2)) (.cells x3.toArray t3)
 simp only[World.size_alloc] at n1 n2 n3
 have b1:=fun o=>(ZD (w.alloc (.cells x0.toArray t0)).heap.size (w.alloc (.cells x0.toArray t0))).alloc (ZB _) o
 refine⟨(((Box.new w x0 t0).next (b1 _)).next ((ZD _ _).alloc (ZB _) _)).next ((ZD _ _).alloc (ZB _) _),?_,?_,n3,((((ZD _ _).alloc (ZB _) _).alloc (by simp) _).alloc (by simp;omega) _).alloc (by simp;omega) _,by simp⟩
 ·exact(Below.heap_alloc _ _ _ (by simp)).trans ((Below.heap_alloc _ _ _ (by simp)).trans n1)
 ·exact(Below.heap_alloc _ _ _ (by simp)).trans n2
end Go.Proofs.YtbddbnjhmdbkbaaGreatDoor
end
section
namespace Go.Proofs.YtbddbnjhmdbkbaaGreatDoor
open Go.RowKit
theorem a2O (M:Int):∀ (l:List EvP) (c:Int),(a8e M c l).Pairwise (fun x y=>x.time<=y.time)/\∀ x,x∈a8e M c l->c<=x.time
 | [],c=>⟨List.Pairwise.nil,fun x hx=>by cases hx⟩
 | e::r,c=>by
   rw[a8e]
   by_cases h:a3y M c e=true
   ·rw[if_pos h]
    obtain⟨h1,h2⟩:=a2O M r e.time
    have hc:c<=e.time:=by unfold a3y at h;simp at h;omega
    refine⟨List.pairwise_cons.2 ⟨h2,h1⟩,fun x hx=>?_⟩
    rcases List.mem_cons.1 hx with rfl | hx
    ·exact hc
    ·have:=h2 x hx;omega
   ·rw[if_neg h]
    exact a2O M r c
theorem a5g {M t:Int}{l:List EvP}(hok:∀ e,e∈l->b0j e)(ht:∀ x,x∈a1y M l->x.time<=t)(j:Nat):Ups t (a1d (a1y M l) j):=by
 refine⟨?_,fun x hx=>?_⟩
 ·unfold a1d
  rw[List.pairwise_map]
  exact((a2O M l a8B).1.sublist List.filter_sublist).imp (fun h=>h)
 ·unfold a1d at hx
  obtain⟨e,he,rfl⟩:=List.mem_map.1 hx
  have hm:=(List.mem_filter.1 he).1
  have ho:=hok e (a4S M l a8B e hm).1
  have h1:=ho.time
  have h2:=ho.val
  unfold C64 at h1 h2
  exact⟨ht e hm,⟨by show _<=e.time;omega,by show e.time<_;omega⟩,⟨by show _<=e.val;omega,by show e.val<_;omega⟩⟩
theorem a3Q {q:Co->Co->Bool}{p:PlP}(h:a0s q p=true)(hw:∀ x,x∈p.wins->c2k x):∀ x,x∈p.wins->TOk p.mets.length x:=by
 intro x hx
 unfold a0s at h
 simp only[Bool.and_eq_true] at h
 have h1:=h.1.1.2
 unfold a3z at h1
 simp only[Bool.and_eq_true] at h1
 have h2:=List.all_eq_true.1 h1.1 x hx
 unfold wiB at h2
 simp only[Bool.and_eq_true] at h2
 have h3:=(hw x hx).p
 unfold C64 at h3
 have hr:=h2.1
 unfold a2B at hr
 simp only[decide_eq_true_eq] at hr
 exact⟨hr,of_decide_eq_true h2.2,⟨by omega,by omega⟩⟩
theorem a0J {q:Co->Co->Bool}{p:PlP}(h:a0s q p=true):p.mets.length<=64/\p.wins.length<=256/\p.crons.length<=256:=by
 unfold a0s at h
 simp only[Bool.and_eq_true] at h
 have h1:=h.1.1.1.1.1
 unfold a2T at h1
 have h2:=of_decide_eq_true h1
 exact⟨h2.1,h2.2.1,h2.2.2.1⟩
def a1v (q:Co->Co->Bool)(p:PlP)(l:List EvP)(t rep:Int)(nm:Cr->Bool):a0z×Int:=
 if a0s q p=false then (⟨0,[],[]⟩,1)
 else if ∃ x,x∈a1y p.mets.length l/\t<x.time then (⟨0,[],[]⟩,32)
 else (⟨rep,p.wins.map (a1D (a1d (a1y p.mets.length l)) t),p.crons.map nm⟩,0)
theorem b8B {w:World}{B:Nat}{u:Value}(wins:List WiP)(g:WiP->Int×Int)(h:w.ownsRow B 84 2 u wins.length (a1t (fun i=>rsL (g (wins.getD i wi0))) wins.length)):a4J w u (wins.map g):=by
 obtain⟨ad,cap,hv,-,-,hp⟩:=a3E (k:=2) (cs:=fun i=>rsL (g (wins.getD i wi0))) (fun _=>rfl) h
 refine⟨ad,cap,by rw[hv,List.length_map],?_⟩
 rcases hp with hp | ⟨b,off,ha,hl,hc⟩
 ·exact .inl (by rw[List.eq_nil_of_length_eq_zero hp];rfl)
 ·refine .inr ⟨b,off,ha,hl,fun i hi=>?_⟩
  have hi':i<wins.length:=by simpa using hi
  have e:(wins.map g).getD i (0,0)=g (wins.getD i wi0):=by simp[List.getD,hi']
  rw[e]
  exact⟨by simpa using hc i hi' 0 _ rfl,hc i hi' 1 _ rfl⟩
theorem b7e {w:World}{B:Nat}{u:Value}(crons:List Cr)(g:Cr->Bool)(h:w.ownsRow B 4 1 u crons.length (a1t (fun i=>[.bool (g (crons.getD i cr0))]) crons.length)):a3j w u (crons.map g):=by
 obtain⟨ad,cap,hv,-,-,hp⟩:=a3E (k:=1) (cs:=fun i=>[Value.bool (g (crons.getD i cr0))]) (fun _=>rfl) h
 refine⟨ad,cap,by rw[hv,List.length_map],?_⟩
 rcases hp with hp | ⟨b,off,ha,hl,hc⟩
 ·exact .inl (by rw[List.eq_nil_of_length_eq_zero hp];rfl)
 ·refine .inr ⟨b,off,ha,hl,fun i hi=>?_⟩
  have hi':i<crons.length:=by simpa using hi
  have e:(crons.map g).getD i false=g (crons.getD i cr0):=by simp[List.getD,hi']
  rw[e]
  simpa using hc i hi' 0 _ rfl
theorem b9K {x:Int}(h:a1n x):C64 x:=by unfold a1n at h;unfold C64;omega
theorem b8H {agg per:Int}{V:List Int}(h:∀ x,x∈V->a1n x)(hl:V.length<=4096):C64 (a0A agg per V).1/\C64 (a0A agg per V).2:=by
 have z:C64 (0:Int):=a0r
 have hh:∀ b,C64 ((kept b V).headD 0):=fun b=>by
  cases hk:kept b V with
  | nil=>exact z
  | cons y r=>exact b9K (h y (a7q (h:=b) (by rw[hk];simp)))
 unfold a0A
 by_cases h1:agg=1
 ·rw[if_pos h1]
  by_cases h2 : -9223372036854775808<=V.sum/\V.sum<9223372036854775808
  ·rw[if_pos h2];exact⟨z,by unfold C64;omega⟩
  ·rw[if_neg h2];exact⟨by unfold C64;decide,z⟩
 rw[if_neg h1]
 by_cases h5:agg=5
 ·rw[if_pos h5];exact⟨z,by show C64 ((V.length:Int)*1000000);unfold C64;omega⟩
 rw[if_neg h5]
 by_cases hn:V=[]
 ·rw[if_pos hn];exact⟨by unfold C64;decide,z⟩
 rw[if_neg hn]
 by_cases h2:agg=2
 ·rw[if_pos h2];exact⟨z,b9K (a9G h hn)⟩
 rw[if_neg h2]
 by_cases h3:agg=3
 ·rw[if_pos h3];exact⟨z,hh _⟩
 rw[if_neg h3]
 by_cases h4:agg=4
 ·rw[if_pos h4];exact⟨z,hh _⟩
 rw[if_neg h4]
 refine⟨z,?_⟩
 show C64 (((a4D V)[a1u per V.length-1]?).getD 0)
 cases hk:(a4D V)[a1u per V.length-1]? with
 | none=>exact z
 | some y=>exact b9K (h y ((a1Y V).mem_iff.1 (List.mem_of_getElem? hk)))
theorem a5B {span t:Int}{L:List Pr}{x:Pr}(h:x∈a0F span t L):x∈L:=(List.dropWhile_sublist _).mem h
theorem b2G {span:Int}{L:List Pr}{s:Pr}(hL:L.length<=4096):(∀ x,x∈a1e (a0F span s.1 L) s->x∈L\/x=s)/\(a1e (a0F span s.1 L) s).length<=4096:=by
 have hf:(a0F span s.1 L).length<=4096:=ZC (List.dropWhile_sublist _).length_le hL
 refine⟨fun x hx=>?_,b1J hf⟩
 unfold a1e at hx
 by_cases h:(a0F span s.1 L).length=4096
 ·rw[if_pos h] at hx
  rcases List.mem_append.1 hx with hx | hx
  ·exact .inl (a5B (List.mem_of_mem_tail hx))
  ·exact .inr (List.mem_singleton.1 hx)
 ·rw[if_neg h] at hx
  rcases List.mem_append.1 hx with hx | hx
  ·exact .inl (a5B hx)
  ·exact .inr (List.mem_singleton.1 hx)
theorem a5Z {span:Int}:∀ (X L:List Pr),L.length<=4096->(∀ x,x∈X.foldl (fun L s=>a1e (a0F span s.1 L) s) L->x∈L\/x∈X)/\(X.foldl (fun L s=>a1e (a0F span s.1 L) s) L).length<=4096
 | [],L,h=>⟨fun x hx=>.inl hx,h⟩
 | s::X,L,h=>by
   obtain⟨h1,h2⟩:=b2G (span:=span) (s:=s) h
   obtain⟨h3,h4⟩:=a5Z (span:=span) X _ h2
   refine⟨fun x hx=>?_,h4⟩
   rcases h3 x hx with h5 | h5
   ·rcases h1 x h5 with h6 | h6
    ·exact .inl h6
    ·exact .inr (by rw[h6];simp)
   ·exact .inr (by simp[h5])
theorem b2K {span:Int}(X:List Pr):(∀ x,x∈a3C span X->x∈X)/\(a3C span X).length<=4096:=by
 obtain⟨h1,h2⟩:=a5Z (span:=span) X [] (by simp)
 exact⟨fun x hx=>by rcases h1 x hx with h | h;cases h;exact h,h2⟩
theorem b8I {f:Nat->List Pr}{t:Int}{x:WiP}(h:∀ j y,y∈f j->a1n y.2):C64 (a1D f t x).1/\C64 (a1D f t x).2:=by
 obtain⟨h1,h2⟩:=b2K (span:=x.s) (b5p (f x.m.toNat))
 refine b8H (fun y hy=>?_) ?_
 ·unfold a0Z at hy
  obtain⟨e,he,rfl⟩:=List.mem_map.1 hy
  exact h _ e (List.mem_of_mem_drop (h1 e (a5B he)))
 ·unfold a0Z
  rw[List.length_map]
  exact ZC (List.dropWhile_sublist _).length_le h2
theorem a7F {w:World}{B B':Nat}{p:PlP}{f:Nat->List Pr}{t rep:Int}{nm:Cr->Bool}{u1 u2:Value}(hrep:C64 rep)(hw:p.wins.length<=256)(hc:p.crons.length<=256)(hf:∀ j y,y∈f j->a1n y.2)(h1:w.ownsRow B 84 2 u1 p.wins.length (a1t (fun i=>rsL (a1D f t (p.wins.getD i wi0))) p.wins.length))(h2:w.ownsRow B' 4 1 u2 p.crons.length (a1t (fun i=>[.bool (nm (p.crons.getD i cr0))]) p.crons.length)):a3v w ⟨rep,p.wins.map (a1D f t),p.crons.map nm⟩ u1 u2:=by
 refine⟨⟨hrep,fun i=>?_,by simp;omega,by simp;omega⟩,b8B _ _ h1,b7e _ _ h2⟩
 show C64 ((p.wins.map (a1D f t)).getD i (0,0)).1/\C64 ((p.wins.map (a1D f t)).getD i (0,0)).2
 by_cases hi:i<p.wins.length
 ·have e:(p.wins.map (a1D f t)).getD i (0,0)=a1D f t p.wins[i]:=by simp[List.getD,hi]
  rw[e]
  exact b8I hf
 ·have e:(p.wins.map (a1D f t)).getD i (0,0)=(0,0):=by simp[List.getD,hi]
  rw[e]
  exact⟨a0r,a0r⟩
end Go.Proofs.YtbddbnjhmdbkbaaGreatDoor
end
