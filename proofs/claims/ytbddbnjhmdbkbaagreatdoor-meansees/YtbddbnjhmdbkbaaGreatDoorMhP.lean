import Derived.Test.YtbddbnjhmdbkbaaGreatDoorMgP
import Derived.Test.YtbddbnjhmdbkbaaGreatDoorMgK
import Derived.RangeFuncBox
import Derived.RangeFuncWrites
import Derived.RangeFuncNested
import Derived.RangeFuncBound
import Derived.RangeFuncCalls
import Derived.RangeFuncLeaves
import Derived.Shelf.Abstract
import Derived.WalkKit
import Derived.OwnWalkIn
import Derived.TacticsInMore
import Derived.LoopNIn
import Derived.LoopIn
import Derived.Maps.AppendAt
section
namespace Go.Proofs.YtbddbnjhmdbkbaaGreatDoor
open Go.RowKit
structure EvP where
 kind:Int
 id:Int
 val:Int
 time:Int
def ev0:EvP:=⟨0,0,0,0⟩
structure b0j (e:EvP):Prop where
 kind:C64 e.kind
 id:C64 e.id
 val:C64 e.val
 time:C64 e.time
theorem c1F:b0j ev0:=by constructor<;>(show C64 0;unfold C64;decide)
abbrev a3O (e:EvP):List Value:=[.int .i64 e.kind,.int .i64 e.id,.int .i64 e.val,.int .i64 e.time]
abbrev b8e (e:EvP):Value:=.agg (a3O e).toArray
def a1K (M:Int)(e:EvP):Bool:=if e.kind=1 then decide (0<=e.id/\e.id<M) else decide (e.kind=2)
def a3y (M c:Int)(e:EvP):Bool:=a1K M e && !decide (e.time<c)
def a8e (M:Int):Int->List EvP->List EvP
 | _,[]=>[]
 | c,e::r=>if a3y M c e=true then e::a8e M e.time r else a8e M c r
def a8B:Int:=-9223372036854775808
def a1y (M:Int)(l:List EvP):List EvP:=a8e M a8B l
def b4F (M:Int):Int->List EvP->Int
 | c,[]=>c
 | c,e::r=>if a3y M c e=true then b4F M e.time r else b4F M c r
theorem b0r (M c:Int)(a b:List EvP):a8e M c (a++b)=a8e M c a++a8e M (b4F M c a) b:=by
 induction a generalizing c with
 | nil=>rfl
 | cons e r ih=>
   simp only[List.cons_append,a8e,b4F]
   by_cases h:a3y M c e=true
   ·rw[if_pos h,if_pos h,if_pos h,ih];rfl
   ·rw[if_neg h,if_neg h,if_neg h,ih]
theorem b7h (M c:Int)(a b:List EvP):b4F M c (a++b)=b4F M (b4F M c a) b:=by
 induction a generalizing c with
 | nil=>rfl
 | cons e r ih=>
   simp only[List.cons_append,b4F]
   by_cases h:a3y M c e=true
   ·rw[if_pos h,if_pos h,ih]
   ·rw[if_neg h,if_neg h,ih]
theorem a4S (M:Int):∀ (l:List EvP) (c:Int) (e:EvP),e∈a8e M c l->e∈l/\a1K M e=true
 | [],c,e,h=>by cases h
 | x::r,c,e,h=>by
   rw[a8e] at h
   by_cases hk:a3y M c x=true
   ·rw[if_pos hk] at h
    rcases List.mem_cons.1 h with rfl | h
    ·exact⟨by simp,by unfold a3y at hk;simp at hk;exact hk.1⟩
    ·have:=a4S M r _ e h;exact⟨by simp[this.1],this.2⟩
   ·rw[if_neg hk] at h
    have:=a4S M r _ e h;exact⟨by simp[this.1],this.2⟩
theorem a4T (M:Int):∀ (l:List EvP) (c:Int),(a8e M c l).length<=l.length
 | [],c=>ZB _
 | x::r,c=>by
   rw[a8e]
   by_cases hk:a3y M c x=true
   ·rw[if_pos hk];have:=a4T M r x.time;simp only[List.length_cons];omega
   ·rw[if_neg hk];have:=a4T M r c;simp only[List.length_cons];omega
def a4m (M:Int)(l:List EvP)(k:Nat):List EvP:=a8e M a8B (l.take k)
def a5H (M:Int)(l:List EvP)(k:Nat):Int:=b4F M a8B (l.take k)
theorem a8d (M:Int)(l:List EvP)(k:Nat)(hk:k<l.length):a4m M l (k+1)=if a3y M (a5H M l k) l[k]=true then a4m M l k++[l[k]] else a4m M l k:=by
 unfold a4m a5H
 rw[List.take_succ_eq_append_getElem hk,b0r]
 simp only[a8e]
 by_cases h:a3y M (b4F M a8B (l.take k)) l[k]=true
 ·rw[if_pos h,if_pos h]
 ·rw[if_neg h,if_neg h,List.append_nil]
theorem a8N (M:Int)(l:List EvP)(k:Nat)(hk:k<l.length):a5H M l (k+1)=if a3y M (a5H M l k) l[k]=true then l[k].time else a5H M l k:=by
 unfold a5H
 rw[List.take_succ_eq_append_getElem hk,b7h]
 simp only[b4F]
theorem b0q (M:Int)(l:List EvP):a4m M l l.length=a1y M l:=by unfold a4m a1y;rw[List.take_length]
theorem b5F (M:Int)(l:List EvP)(k:Nat):∃ r,a1y M l=a4m M l k++r:=⟨a8e M (a5H M l k) (l.drop k),by unfold a1y a4m a5H;rw[<-b0r,List.take_append_drop]⟩
theorem b0p (M:Int)(l:List EvP)(k:Nat):(a4m M l k).length<=k:=ZC (a4T _ _ _) (by rw[List.length_take];omega)
end Go.Proofs.YtbddbnjhmdbkbaaGreatDoor
end
section
namespace Go.Proofs.YtbddbnjhmdbkbaaGreatDoor
open Go.RowKit Go.Shelf
set_option maxHeartbeats 1000000 in
theorem b9C (e:EvP)(M:Int)(w:World):Calls Tryz.prog 86 #[b8e e,.int .i64 M] w fun r w'=>r=.returned (.bool (a1K M e))/\Below w.heap.size w w':=by
 have X0:=Box.new w (a3O e) 69
 have B0:=a0a ((ZD w.heap.size w).alloc (ZB _) (.cells (a3O e).toArray 69))
 obtain⟨x0,x1⟩:=Box.c2 X0
 have xl:=X0.lt
 have HR:=a0a (show a1K M e=if e.kind=1 then decide (0<=e.id/\e.id<M) else decide (e.kind=2) from rfl)
 generalize a1K M e=R at *
 obtain⟨k,i,v,t⟩:=e
 dsimp only at *
 by_cases h1:k=1
 ·subst h1
  have HR2:=a0a (show R=decide (0<=i/\i<M) by rw[HR.out];simp)
  clear HR X0
  by_cases h2:0<=i
  ·by_cases h3:i<M
   ·have hr:Hid (R=true):=a0a (by rw[HR2.out];exact decide_eq_true ⟨h2,h3⟩)
    go_enter Tryz.func86,Tryz.ntmps86
    go_wp2_with fail
    go_ret
    exact⟨by rw[hr.out];rfl,B0.out⟩
   ·have hr:Hid (R=false):=a0a (by rw[HR2.out];exact decide_eq_false (fun h=>h3 h.2))
    go_enter Tryz.func86,Tryz.ntmps86
    go_wp2_with fail
    go_ret
    exact⟨by rw[hr.out];rfl,B0.out⟩
  ·have hr:Hid (R=false):=a0a (by rw[HR2.out];exact decide_eq_false (fun h=>h2 h.1))
   go_enter Tryz.func86,Tryz.ntmps86
   go_wp2_with fail
   go_ret
   exact⟨by rw[hr.out];rfl,B0.out⟩
 ·have k1:(k==1)=false:=by simpa using h1
  by_cases h2:k=2
  ·subst h2
   have hr:Hid (R=true):=a0a (by rw[HR.out];rfl)
   clear HR X0
   go_enter Tryz.func86,Tryz.ntmps86
   go_wp2_with fail
   go_ret
   exact⟨by rw[hr.out];rfl,B0.out⟩
  ·have k2:(k==2)=false:=by simpa using h2
   have hr:Hid (R=false):=a0a (by rw[HR.out,if_neg h1];exact decide_eq_false h2)
   clear HR X0
   go_enter Tryz.func86,Tryz.ntmps86
   go_wp2_with fail
   go_ret
   exact⟨by rw[hr.out];rfl,B0.out⟩
theorem a6A {w w':World}{B:Nat}{t:TypeId}{v:Value}(h:Boxed w B t v)(hb:Below w.heap.size w w'):Boxed w' B t v:=(hb.block B h.lt).trans h
theorem a1L {S:List Nat}{w w1 w2:World}(h:a0h S w w1)(b:Below w1.heap.size w1 w2):a0h S w w2:=⟨b.os.trans h.os,b.tape.trans h.tape,b.output.trans h.output,ZC h.size b.size,fun k hk hn=>(b.block k (ZA hk h.size)).trans (h.block k hk hn)⟩
theorem b4R {w:World}{B:Nat}{t:TypeId}{v:Value}(h:Boxed w B t v)(u:Value):Boxed (w.setCell ⟨B,0,none⟩ u) B t u:=h.set u
abbrev c0Y (cm cc:Nat):Value:=.func (.func 85) #[] #[.pointer (some ⟨cm,0,none⟩),.pointer (some ⟨cc,0,none⟩)]
set_option maxHeartbeats 1000000 in
theorem b8K (M:Int)(w:World):Calls Tryz.prog 49 #[.int .i64 M] w fun r w'=>∃ cm cc,r=.returned (c0Y cm cc)/\w.heap.size<=cm/\w.heap.size<=cc/\Boxed w' cm 3 (.int .i64 M)/\Boxed w' cc 2 (.int .i64 a8B)/\Below w.heap.size w w':=by
 go_enter Tryz.func49,Tryz.ntmps49
 go_wp2_with fail
 go_ret
 refine⟨w.heap.size,w.heap.size+1,rfl,ZB _,by omega,(Boxed.new w _ _).alloc _,?_,((ZD _ _).alloc (ZB _) _).alloc (by simp) _⟩
 have:=Boxed.new (w.alloc (.cells #[.int .i64 M] 3)) 2 (.int .i64 a8B)
 rwa [World.size_alloc] at this
set_option maxHeartbeats 1000000 in
theorem b8J (M c:Int)(e:EvP)(cm cc:Nat)(w:World)(hm:Boxed w cm 3 (.int .i64 M))(hc:Boxed w cc 2 (.int .i64 c)):
 Calls Tryz.prog 85 #[b8e e,.pointer (some ⟨cm,0,none⟩),.pointer (some ⟨cc,0,none⟩)] w fun r w'=>r=.returned (.bool (a3y M c e))/\Boxed w' cc 2 (.int .i64 (if a3y M c e=true then e.time else c))/\a0h [cc] w w':=by
 have X0:=Box.new w (a3O e) 69
 have m0:=(hm.alloc (.cells (a3O e).toArray 69)).cell
 have ml:=(hm.alloc (.cells (a3O e).toArray 69)).lt
 have hcw:=hc.lt
 have HC:=a0a (hc.alloc (.cells (a3O e).toArray 69))
 have HT:Hid (a0h [cc] w (w.alloc (.cells (a3O e).toArray 69))):=a0h.of_below ((ZD w.heap.size w).alloc (ZB _) _)
 have HX:=a0a X0
 have HK:=a0a (fun W=>b9C e M W)
 have HR:=a0a (show a3y M c e=(a1K M e && !decide (e.time<c)) from rfl)
 obtain⟨T',hT'⟩:∃ T',Hid (T'=if a3y M c e=true then e.time else c):=⟨_,rfl⟩
 rw[<-hT'.out]
 generalize a3y M c e=R at *
 generalize a1K M e=K at *
 clear hm hc X0
 obtain⟨x0,x1,x2,x3⟩:=Box.c4 HX.out
 have xl:=HX.out.lt
 go_enter Tryz.func85,Tryz.ntmps85
 go_wp2_with fail
 refine ZE (HK.out _) ?_
 rintro r w1 ⟨rfl,b⟩
 replace HC:=a0a (a6A HC.out b)
 replace HX:=kn HX b
 replace HT:=a0a (a1L HT.out b)
 clear x0 x1 x2 x3 xl m0 ml b
 cases K with
 | false=>
   have hr:Hid (R=false):=a0a (by rw[HR.out];rfl)
   go_wp2_with fail
   go_ret
   exact⟨by rw[hr.out];rfl,by rw[hT'.out,hr.out];exact HC.out,HT.out⟩
 | true=>
   have x3:=HX.out.cell 3 _ rfl
   have xl:=HX.out.lt
   have c0:=HC.out.cell
   have cf:=HC.out.frozen
   have cl:=HC.out.lt
   by_cases ht:e.time<c
   ·have hr:Hid (R=false):=a0a (by rw[HR.out,decide_eq_true ht];rfl)
    go_wp2_with fail
    go_ret
    exact⟨by rw[hr.out];rfl,by rw[hT'.out,hr.out];exact HC.out,HT.out⟩
   ·have hr:Hid (R=true):=a0a (by rw[HR.out,decide_eq_false ht];rfl)
    go_wp2_with fail
    go_ret
    exact⟨by rw[hr.out];rfl,by rw[hT'.out,hr.out];exact b4R HC.out _,a0X HT.out (a0h.set w1 _ _ (by simp))⟩
end Go.Proofs.YtbddbnjhmdbkbaaGreatDoor
end
section
namespace Go.Proofs.YtbddbnjhmdbkbaaGreatDoor
open Go.RowKit
def b8v (o:Obj):Prop:=∃ v,o=.cells #[v] 2 (0,0)
def AbC {β : Type}(B:Nat)(J : β -> World->Prop):Prop:=
 ∀ s W W' row,J s W->W.grownBy W' row->(∀ r,row=some r->B<=r/\∃ o:Obj,W.heap[r]? = some o/\b8v o)->J s W'
def a4K {β : Type}(B:Nat)(I : β -> World->Prop):Prop:=
 ∀ s W W' row,I s W->W.grownBy W' row->(∀ r,row=some r->B<=r/\∃ o:Obj,W.heap[r]? = some o/\(o.isCells=false\/b8v o))->I s W'
theorem a4K.put {β : Type}{B:Nat}{I : β -> World->Prop}(h:a4K B I){s : β}{W:World}{l:Nat}{o:Obj}(o':Obj)(hs:I s W)(hB:B<=l)(hl:W.heap[l]? = some o)(ho:o.isCells=false):I s (W.putObj l o'):=
 h s W _ (some l) hs (grownBy_putObj' W l o') (fun r e=>by cases e;exact⟨hB,o,hl,.inl ho⟩)
theorem a4K.new {β : Type}{B:Nat}{I : β -> World->Prop}(h:a4K B I){s : β}{W:World}(o:Obj)(hs:I s W):I s (W.alloc o):=
 h s W _ none hs (World.grownBy_alloc W o none) (fun r e=>by cases e)
theorem a4K.and {β : Type}{B:Nat}{I I' : β -> World->Prop}(h:a4K B I)(h':a4K B I'):a4K B (fun s W=>I s W/\I' s W):=fun s W W' row hs hg hr=>⟨h s W W' row hs.1 hg hr,h' s W W' row hs.2 hg hr⟩
theorem b8v.cells {o:Obj}(h:b8v o):o.isCells=true:=by obtain⟨v,rfl⟩:=h;rfl
def c3Z {α : Type}(F:Fence)(n:Nat)(P:Program)(g:Nat)(lb:Array Value)(encs : α -> Array Value)(Kp:World->World->Prop)(S Sp:List α -> Prop)(N:Nat)(w:World):Prop:=
 ∀ (l:Nat) (J Jx:List α -> World->Prop) (W:World),Below w.heap.size w W->AbC W.heap.size J->AbC W.heap.size Jx ->
  (∀ pre x W1,J pre W1->pre.length<N->YieldAt F (n-1) P l (encs x) W1 fun e W'=>(e=.returned (.bool true)/\J (pre++[x]) W'/\Kp W1 W')\/(e=.returned (.bool false)/\Jx (pre++[x]) W')) ->
  J [] W->CallsIn F n P g (#[.func (.yield l) #[] #[]]++lb) W fun e W'=>(∃ v,e=.returned v)/\((∃ xs,S xs/\J xs W')\/(∃ pre,Sp pre/\Jx pre W'))
theorem b5H {W W':World}{row:Option Nat}{k:Nat}{o:Obj}(hg:W.grownBy W' row)(hr:∀ r,row=some r->∃ o:Obj,W.heap[r]? = some o/\b8v o)(hk:W.heap[k]? = some o)(ho:o.isCells=false):W'.heap[k]? = some o:=
 (hg.block k (Array.getElem?_eq_some_iff.1 hk).1 (fun e=>by
   obtain⟨o',h1,h2⟩:=hr k e.symm
   rw[hk] at h1
   cases h1
   rw[h2.cells] at ho
   cases ho)).trans hk
theorem a9l {F:Fence}{n:Nat}{P:Program}{α : Type}{g:Operand}{ps:Array Tmp}{assign body:Code}{Q:Exit->Act->World->Prop}{a:Act}{w:World}
 (hro:F.round=none) (h1:1<=n) {gf:Nat} {lb:Array Value} (hg:a.eval g=.func (.func gf) #[] lb) (hFg:F.fn gf) (eg:∀ args w,(callFunc gf args).run P w=.ok (.enter gf args) w)
 {encs : α -> Array Value} {Kp:World->World->Prop} {S Sp:List α -> Prop} {N:Nat} {w0:World} (hseq:c3Z F (n-1) P gf lb encs Kp S Sp N w0)
 (hKt:∀ {A B C:World},Kp A B->Kp B C->Kp A C) (hKb:∀ (W:World) (l:Nat) (o o':Obj),w.heap.size<=l->W.heap[l]? = some o->o.isCells=false->Kp W (W.putObj l o')) (hb0:Below w0.heap.size w0 w) (hps:∀ x,(encs x).size=ps.size)
 (I:List α -> World->Prop) (Ix:Code->List α -> World->Prop) (hI:a4K w.heap.size I) (hIx:∀ c,a4K w.heap.size (Ix c)) (h0:I [] w) (Ax : α -> Act->World->Prop) (hAx:∀ x,a4K w.heap.size (Ax x))
 (hassign:∀ (l:Nat) (pre:List α) (x : α) (W:World) (K:Act->World->Prop),I pre W->(∀ a' W',KeepsFrom w.heap.size W W'->Kp W W'->I pre W'->Ax x a' W'->K a' W') ->
   assign.wpIn (F.inRound l) (n-1-1) P (Exit.then K (fun _ _ _=>False)) {tmps:=(ps.zip (encs x)).foldl (fun t (p,v)=>t.setIfInBounds p v) a.tmps,defers:=[]} W)
 (hbody:∀ (l:Nat) (pre:List α) (x : α) (a':Act) (W:World),I pre W->Ax x a' W->pre.length<N->body.wpIn (F.inRound l) (n-1-1) P (ownPostG w.heap.size Kp I Ix (pre++[x]) W) a' W)
 (hdone:∀ (D:Nat) (xs:List α) (W:World),w.heap.size<=D->S xs->I xs W->W.heap[D]? = some (.deferred (some []))->Q .normal {a with defers:={target:=.collected D,args:=#[]}::a.defers} W)
 (hstop:∀ (D:Nat) (c:Code) (pre:List α) (W:World),w.heap.size<=D->Sp pre->Ix c pre W->W.heap[D]? = some (.deferred (some []))->c.wpIn F n P Q {a with defers:={target:=.collected D,args:=#[]}::a.defers} W) :
 (Code.rangeFunc g ps assign body).wpIn F n P Q a w:=by
 refine wpIn_rangeFunc fun fn hfn=>?_
 rw[hro]
 let rc:LoopState->Option Code->Loop:=fun st pe=>{state:=st,pending:=pe,fn,tmps:=a.tmps,params:=ps,assign,body,defers:=w.heap.size}
 obtain⟨W1,hW1⟩:∃ W1,(w.alloc (.deferred (some []))).alloc (.loop (rc .ready none))=W1:=⟨_,rfl⟩
 have z1:W1.heap.size=w.heap.size+1+1:=by rw[<-hW1];simp
 have e1:W1.heap[w.heap.size+1]? = some (.loop (rc .ready none)):=by
  rw[<-hW1]
  simpa using World.alloc_heap_new (w.alloc (.deferred (some []))) (.loop (rc .ready none))
 have e2:W1.heap[w.heap.size]? = some (.deferred (some [])):=by
  rw[<-hW1]
  exact(Below.heap_alloc _ _ _ (by simp)).trans (World.alloc_heap_new w _)
 have hb1:Below w0.heap.size w0 W1:=by
  rw[<-hW1]
  exact hb0.trans ((((ZD _ w).alloc (ZB _) _).alloc (by simp) _).mono hb0.size)
 have i1:I [] W1:=by rw[<-hW1];exact hI.new _ (hI.new _ h0)
 have low:∀ {A:World} {row:Option Nat},(∀ r,row=some r->W1.heap.size<=r/\∃ o:Obj,A.heap[r]? = some o/\b8v o)->∀ r,row=some r->w.heap.size<=r/\∃ o:Obj,A.heap[r]? = some o/\(o.isCells=false\/b8v o):=fun hr r e=>by
  obtain⟨q1,o,q2,q3⟩:=hr r e
  exact⟨by omega,o,q2,.inr q3⟩
 refine⟨w.heap.size+1,[{target:=.collected w.heap.size,args:=#[]}],W1,{target:=.fn (.func gf) lb,args:=#[.func (.yield (w.heap.size+1)) #[] #[]]},W1,gf,
  #[.func (.yield (w.heap.size+1)) #[] #[]]++lb,W1,?_,?_,?_,?_,fun _=>h1,?_⟩
 ·rw[<-hW1];exact run_enterLoop_outer _ _ _ _ _
 ·simp only[resolve,hg];simp[go_sem]
 ·intro f' hf';simp[Target.leads] at hf';subst hf';exact hFg
 ·simp[invoke,go_sem,eg]
 refine(hseq (w.heap.size+1)
  (fun pre W=>I pre W/\W.heap[w.heap.size+1]? = some (.loop (rc .ready none))/\W.heap[w.heap.size]? = some (.deferred (some [])))
  (fun pre W=>∃ c,Ix c pre W/\W.heap[w.heap.size+1]? = some (.loop (rc .done (some c)))/\W.heap[w.heap.size]? = some (.deferred (some []))) W1 hb1
  (fun s A B row hs hgr hr=>⟨hI s A B row hs.1 hgr (low hr),b5H hgr (fun r e=>(hr r e).2) hs.2.1 rfl,b5H hgr (fun r e=>(hr r e).2) hs.2.2 rfl⟩)
  (fun s A B row ⟨c,q1,q2,q3⟩ hgr hr=>⟨c,hIx c s A B row q1 hgr (low hr),b5H hgr (fun r e=>(hr r e).2) q2 rfl,b5H hgr (fun r e=>(hr r e).2) q3 rfl⟩)
  ?_ ⟨i1,e1,e2⟩).mono ?_
 ·rintro pre x W0 ⟨hi0,hl0,hk0⟩ hlen
  refine⟨fn,_,assign,body,run_yield (P:=P) (args:=encs x) hl0 (hps x),roundIn_of_wpIn hfn (hassign _ pre x W0 _ hi0 (fun a' W kf kp hi hax=>?_))⟩
  have hl:=kf.same _ _ (by omega) hl0 rfl
  have hk:=kf.same _ _ (ZB _) hk0 rfl
  have lt:=(Array.getElem?_eq_some_iff.1 hl).1
  refine⟨_,run_beginRound hl rfl,?_⟩
  obtain⟨V,hV⟩:∃ V,W.putObj (w.heap.size+1) (.loop {rc .ready none with state:=.busy})=V:=⟨_,rfl⟩
  have v1:V.heap[w.heap.size+1]? = some (.loop {rc .ready none with state:=.busy}):=by rw[<-hV];exact World.putObj_heap_same lt
  have v2:V.heap[w.heap.size]? = some (.deferred (some [])):=by rw[<-hV];exact(World.putObj_heap_other (by omega)).trans hk
  have v3:Kp W0 V:=by rw[<-hV];exact hKt kp (hKb _ _ _ _ (by omega) hl rfl)
  have v4:I pre V:=by rw[<-hV];exact hI.put _ hi (by omega) hl rfl
  have v5:Ax x a' V:=by rw[<-hV];exact(hAx x).put _ hax (by omega) hl rfl
  show Code.wpIn _ _ _ _ _ _ (W.putObj (w.heap.size+1) (.loop {rc .ready none with state:=.busy}))
  rw[hV]
  have fin:∀ (jump:Option Code) (W3:World),KeepsFrom w.heap.size V W3 ->
   W3.heap[w.heap.size+1]? = some (.loop {rc .ready none with state:=.busy})/\(Instr.endRound (w.heap.size+1) jump).run P W3=.ok (.bool jump.isNone) (W3.putObj (w.heap.size+1) (.loop (rc (if jump.isNone then .ready else .done) jump))) /\
   (W3.putObj (w.heap.size+1) (.loop (rc (if jump.isNone then .ready else .done) jump))).heap[w.heap.size+1]? = some (.loop (rc (if jump.isNone then .ready else .done) jump)) /\
   (W3.putObj (w.heap.size+1) (.loop (rc (if jump.isNone then .ready else .done) jump))).heap[w.heap.size]? = some (.deferred (some [])):=fun jump W3 k3=>by
   have q:=k3.same _ _ (by omega) v1 rfl
   exact⟨q,run_endRound (P:=P) jump q,World.putObj_heap_same (Array.getElem?_eq_some_iff.1 q).1,(World.putObj_heap_other (by omega)).trans (k3.same _ _ (ZB _) v2 rfl)⟩
  refine wpIn_mono (hbody _ pre x a' V v4 v5 hlen) ?_
  rintro e a3 W3 hp
  cases e with
  | normal=>
    obtain⟨q1,q2,q3⟩:=hp
    obtain⟨r1,r2,r3,r4⟩:=fin none W3 q1
    exact⟨_,_,r2,.inl ⟨rfl,⟨hI.put _ q3 (by omega) r1 rfl,r3,r4⟩,hKt (hKt v3 q2) (hKb _ _ _ _ (by omega) r1 rfl)⟩⟩
  | ret=>
    obtain⟨q1,q3⟩:=hp
    obtain⟨r1,r2,r3,r4⟩:=fin (some .ret) W3 q1
    exact⟨_,_,r2,.inr ⟨rfl,.ret,(hIx _).put _ q3 (by omega) r1 rfl,r3,r4⟩⟩
  | exit id=>
    obtain⟨q1,q3⟩:=hp
    obtain⟨r1,r2,r3,r4⟩:=fin (some (.exit id)) W3 q1
    exact⟨_,_,r2,.inr ⟨rfl,.exit id,(hIx _).put _ q3 (by omega) r1 rfl,r3,r4⟩⟩
  | goto t=>
    obtain⟨q1,q3⟩:=hp
    obtain⟨r1,r2,r3,r4⟩:=fin (some (.goto t)) W3 q1
    exact⟨_,_,r2,.inr ⟨rfl,.goto t,(hIx _).put _ q3 (by omega) r1 rfl,r3,r4⟩⟩
  | panic ch=>exact hp.elim
  | outgrown=>exact hp.elim
 ·rintro e W2 ⟨⟨v,rfl⟩,⟨xs,hS,hi,hl,hk⟩ | ⟨pre,hSp,c,hi,hl,hk⟩⟩
  ·exact⟨none,_,run_endLoop (P:=P) hl (by simp[rc]),hdone _ xs _ (ZB _) hS (hI.put _ hi (by omega) hl rfl) ((World.putObj_heap_other (by omega)).trans hk)⟩
  ·exact⟨some c,_,run_endLoop (P:=P) hl (by simp[rc]),hstop _ c pre _ (ZB _) hSp ((hIx c).put _ hi (by omega) hl rfl) ((World.putObj_heap_other (by omega)).trans hk)⟩
end Go.Proofs.YtbddbnjhmdbkbaaGreatDoor
end
section
namespace Go.Proofs.YtbddbnjhmdbkbaaGreatDoor
open Go.RowKit Go.Shelf
attribute [local go_sem] Oper.semAt_some
def a4A (w:World)(v:Value)(l:List EvP):Prop:=a0Q w v l.length 4 (fun i=>a3O (l.getD i ev0))
def a3i (n0:Nat)(W W':World):Prop:=Below n0 W W'/\∀ (k:Nat) (cs:Array Value) (t:TypeId) (fr:Nat×Nat),W.heap[k]? = some (Obj.cells cs t fr)->t=3\/t=2->W'.heap[k]? = some (Obj.cells cs t fr)
theorem a3i.trans {n0:Nat}{A B C:World}(h:a3i n0 A B)(k:a3i n0 B C):a3i n0 A C:=⟨h.1.trans k.1,fun i cs t fr hi ht=>k.2 i cs t fr (h.2 i cs t fr hi ht) ht⟩
theorem a3i.put {n0:Nat}{w:World}(hn:n0<=w.heap.size)(W:World)(l:Nat)(o o':Obj)(hl:w.heap.size<=l)(h:W.heap[l]? = some o)(ho:o.isCells=false):a3i n0 W (W.putObj l o'):=by
 have g:=grownBy_putObj' W l o'
 refine⟨⟨g.os,g.tape,g.output,g.size,fun k hk=>g.block k (by have:=(Array.getElem?_eq_some_iff.1 h).1;omega) (fun e=>by cases e;omega)⟩,fun k cs t fr hk _=>?_⟩
 refine(g.block k (Array.getElem?_eq_some_iff.1 hk).1 (fun e=>?_)).trans hk
 cases e
 rw[hk] at h
 cases h
 cases ho
theorem a3i.boxed {n0:Nat}{A B:World}(h:a3i n0 A B){b:Nat}{t:TypeId}{v:Value}(hb:Boxed A b t v)(ht:t=3\/t=2):Boxed B b t v:=h.2 b _ _ _ hb ht
abbrev KEv (M:Int):={e:EvP // b0j e/\a1K M e=true}
abbrev b7T (bm bl:Nat):Value:=.func (.func 48) #[] #[.pointer (some ⟨bm,0,none⟩),.pointer (some ⟨bl,0,none⟩)]
set_option maxHeartbeats 1000000 in
theorem b8L (M:Int)(v:Value)(w:World)(hv:∃ ad n cap,v=.slice ad n cap):Calls Tryz.prog 26 #[.int .i64 M,v] w fun r w'=>∃ bm bl,r=.returned (b7T bm bl)/\w.heap.size<=bm/\w.heap.size<=bl/\Boxed w' bm 3 (.int .i64 M)/\Boxed w' bl 33 v/\Below w.heap.size w w':=by
 obtain⟨ad,n,cap,rfl⟩:=hv
 go_enter Tryz.func26,Tryz.ntmps26
 go_wp2_with fail
 go_ret
 refine⟨w.heap.size,w.heap.size+1,rfl,ZB _,by omega,(Boxed.new w _ _).alloc _,?_,((ZD _ _).alloc (ZB _) _).alloc (by simp) _⟩
 have:=Boxed.new (w.alloc (.cells #[.int .i64 M] 3)) 33 (.slice ad n cap)
 rwa [World.size_alloc] at this
theorem a6u {c:Nat}{w w':World}(t:a0h [c] w w'):w.grownBy w' (some c):=⟨t.os,t.tape,t.output,t.size,fun k hk hn=>t.block k hk (fun e=>hn (by have:=List.mem_singleton.1 e;rw[this]))⟩
theorem a5z {w w':World}(b:Below w.heap.size w w'):w.grownBy w' none:=⟨b.os,b.tape,b.output,b.size,fun k hk _=>b.block k hk⟩
set_option maxRecDepth 100000 in
set_option maxHeartbeats 2000000 in
theorem a9m (n:Nat)(hn:1<=n)(bm bl:Nat)(M:Int)(l:List EvP)(v:Value)(w1 w:World)(hw:Below w.heap.size w w1)(hm:Boxed w1 bm 3 (.int .i64 M))(hl:Boxed w1 bl 33 v)(hE:a4A w v l)(hok:∀ e,e∈l->b0j e):
 c3Z Fence.wide n Tryz.prog 48 #[.pointer (some ⟨bm,0,none⟩),.pointer (some ⟨bl,0,none⟩)] (fun x:KEv M=>#[b8e x.1]) (a3i w.heap.size) (fun ys=>ys.map (·.1)=a1y M l) (fun pre=>∃ k,k<=l.length/\pre.map (·.1)=a4m M l k) l.length w1:=fun lp J Jx W hW1 hJ hJx hY h0=>by
 obtain⟨ad,cap,rfl,hc1,hc2,hp⟩:=hE
 have m0:=(hW1.cell (p:=⟨bm,0,none⟩) hm.lt).trans hm.cell
 have l0:=(hW1.cell (p:=⟨bl,0,none⟩) hl.lt).trans hl.cell
 have ml:bm<W.heap.size:=ZA hm.lt hW1.size
 have ll:bl<W.heap.size:=ZA hl.lt hW1.size
 have hW:=a0b hw hW1 hw.size
 have HY:=a0a hY
 have HJ:=a0a hJ
 have HJx:=a0a hJx
 have H0:=a0a h0
 have HP:=a0a hp
 have HOk:=a0a hok
 have HW:=a0a hW
 clear hY hJ hJx h0 hp hok hW hW1 hw
 refine callsIn_of_wp Tryz.func48 rfl trivial ?_ rfl
 simp only[Tryz.ntmps48,List.size_toArray,List.length_cons,List.length_nil,Nat.reduceAdd,Nat.reduceSub,Array.replicate_succ,Array.replicate_zero,List.push_toArray,List.append_toArray,List.nil_append,List.cons_append]
 gi_wp2
 refine⟨trivial,?_⟩
 refine CallsIn.mono (callsIn_wide.2 (b8K M W)) ?_
 rintro r W1 ⟨cm,cc,rfl,hcm,hcc,bm1,bc1,b1⟩
 have HB1:=kb HW b1
 have HJ1:=a0a (HJ.out [] W W1 none H0.out (a5z b1) (fun r e=>by cases e))
 replace l0:=(b1.cell (p:=⟨bl,0,none⟩) ll).trans l0
 replace ll:bl<W1.heap.size:=ZA ll b1.size
 have HM1:=a0a bm1
 have HC1:=a0a bc1
 obtain⟨N,hN⟩:∃ N,Hid (N=l.length):=⟨_,rfl⟩
 rw[<-hN.out] at hc1 l0 HP
 clear bm1 bc1 b1 m0 ml H0
 gi_wp2
 gi_loopw [11] (fun i wr=>∃ (k:Nat) (pre:List (KEv M)),k<=N/\i=.int .i64 (k:Nat)/\Hid (pre.map (·.1)=a4m M l k)/\Hid (J pre wr)/\Hid (Boxed wr cm 3 (.int .i64 M))/\Hid (Boxed wr cc 2 (.int .i64 (a5H M l k)))/\Hid (Below w.heap.size w wr)) (fun i _=>N-(intOf i).toNat)
 case atStart=>exact⟨0,[],Nat.zero_le _,rfl,a0a rfl,HJ1,HM1,HC1,HB1⟩
 case round=>
  obtain⟨k,pre,hk,rfl,HPr,HJk,HM,HC,HB⟩:=hrel
  by_cases hlt:k<N
  ·have hl1:k<l.length:=by rw[<-hN.out];exact hlt
   obtain⟨b,off,e,hbl,hx⟩:∃ b off,ad=some ⟨b,off,none⟩/\b<w.heap.size/\∀ i,i<N->∀ j x,(a3O (l.getD i ev0))[j]? = some x->w.cell? ⟨b,off+i*4+j,none⟩=some x:=by
    rcases HP.out with h | h
    ·omega
    ·exact h
   subst e
   have y0:=a0c HB.out (hx k hlt 0 _ rfl)
   have y1:=a0c HB.out (hx k hlt 1 _ rfl)
   have y2:=a0c HB.out (hx k hlt 2 _ rfl)
   have y3:=a0c HB.out (hx k hlt 3 _ rfl)
   rw[Nat.add_zero] at y0
   have lb:b<wr.heap.size:=ZA hbl HB.out.size
   have hgd:l.getD k ev0=l[k]:=by simp[List.getD,hl1]
   rw[hgd] at y0 y1 y2 y3
   have HEk:=a0a (HOk.out l[k] (List.getElem_mem hl1))
   have HTs:=a0a (a8d M l k hl1)
   have HCs:=a0a (a8N M l k hl1)
   have hpl:Hid (pre.length<l.length):=a0a (by have h:=congrArg List.length HPr.out;rw[List.length_map] at h;have:=b0p M l k;omega)
   generalize l[k]=e at *
   have B0:=a0a ((ZD wr.heap.size wr).alloc (ZB _) (.cells (a3O e).toArray 69))
   have X0:=Box.new wr (a3O e) 69
   have HX:=a0a X0
   obtain⟨x0,x1,x2,x3⟩:=Box.c4 X0
   have xl:=X0.lt
   clear hx X0 hgd
   gi_wp2
   refine⟨trivial,?_⟩
   refine CallsIn.mono (callsIn_wide.2 (b8J M (a5H M l k) e cm cc _ (HM.out.alloc _) (HC.out.alloc _))) ?_
   rintro r V1 ⟨rfl,bc,t1⟩
   have hne:cm≠cc:=fun h=>by
    have h1:=HM.out
    have h2:=HC.out
    subst h
    rw[Boxed,show wr.heap[cm]? = _ from h2] at h1
    simp only[Option.some.injEq,Obj.cells.injEq] at h1
    exact absurd h1.2.1 (by decide)
   have HC1':=a0a bc
   have HM1':Hid (Boxed V1 cm 3 (.int .i64 M)):=(t1.block cm (HM.out.alloc _).lt (by simpa using hne)).trans (HM.out.alloc _)
   have HX1:=a0a (HX.out.turn t1 (by have:=HC.out.lt;simp;omega))
   have HJ2:=a0a (HJ.out pre _ V1 (some cc) (HJ.out pre wr _ none HJk.out (World.grownBy_alloc wr _ none) (fun r e=>by cases e)) (a6u t1) (fun r e=>by cases e;exact⟨hcc,_,HC.out.alloc _,_,rfl⟩))
   have HB2:Hid (Below w.heap.size w V1):=by
    have b0:=a0b HB.out B0.out HB.out.size
    have hs:=HW.out.size
    exact a0a ⟨t1.os.trans b0.os,t1.tape.trans b0.tape,t1.output.trans b0.output,ZC b0.size t1.size,fun q hq=>(t1.block q (ZA hq b0.size) (by simp;omega)).trans (b0.block q hq)⟩
   clear x0 x1 x2 x3 xl y0 y1 y2 y3 t1 bc HX B0 HM HC HJk
   obtain⟨x0,x1,x2,x3⟩:=Box.c4 HX1.out
   have xl:=HX1.out.lt
   obtain⟨tk,htk⟩:∃ tk,Hid (tk=a3y M (a5H M l k) e):=⟨_,rfl⟩
   rw[<-htk.out] at HTs HCs HC1' ⊢
   cases tk with
   | false=>
     have HT2:Hid (a4m M l (k+1)=a4m M l k):=a0a (by rw[HTs.out];simp)
     have HC2:Hid (a5H M l (k+1)=a5H M l k):=a0a (by rw[HCs.out];simp)
     have HC3:Hid (Boxed V1 cc 2 (.int .i64 (a5H M l (k+1)))):=by rw[HC2.out];exact a0a (by simpa using HC1'.out)
     gi_wp2
     refine⟨(fun f h=>by cases h),?_⟩
     gi_wp2
     go_roundw
     case rel=>exact⟨k+1,pre,by omega,by simp,a0a (by rw[HT2.out];exact HPr.out),HJ2,HM1',HC3,HB2⟩
     case measure=>simp[intOf];omega
   | true=>
     have HT2:Hid (a4m M l (k+1)=a4m M l k++[e]):=a0a (by rw[HTs.out];simp)
     have HC2:Hid (a5H M l (k+1)=e.time):=a0a (by rw[HCs.out];simp)
     have HC3:Hid (Boxed V1 cc 2 (.int .i64 (a5H M l (k+1)))):=by rw[HC2.out];exact a0a (by simpa using HC1'.out)
     have hkn:a1K M e=true:=by have h:=htk.out;unfold a3y at h;revert h;cases a1K M e<;>simp
     obtain⟨fn,tmps,assign,body,hy,hR⟩:=HY.out pre ⟨e,HEk.out,hkn⟩ V1 HJ2.out hpl.out
     dsimp only at hy
     gi_wp2
     refine hR.mono ?_
     rintro r W3 (⟨rfl,hJ3,hk3⟩ | ⟨rfl,hJx3⟩)
     ·have q1:=a0a (hk3.boxed HM1'.out (.inl rfl))
      have q2:=a0a (hk3.boxed HC3.out (.inr rfl))
      have q3:=a0a (HB2.out.trans hk3.1)
      gi_wp2
      go_roundw
      case rel=>exact⟨k+1,_,by omega,by simp,a0a (by rw[HT2.out,List.map_append,HPr.out];rfl),a0a hJ3,q1,q2,q3⟩
      case measure=>simp[intOf];omega
     ·gi_wp2
      refine bodyPost_ret (results_none rfl _ _ _) rfl ?_
      exact⟨⟨_,rfl⟩,.inr ⟨_,⟨k+1,by omega,by rw[List.map_append,HPr.out,HT2.out];rfl⟩,hJx3⟩⟩
  ·obtain rfl:k=N:=by omega
   gi_wp2
   go_end0
   exact⟨⟨_,rfl⟩,.inl ⟨pre,by rw[HPr.out,hN.out,b0q],HJk.out⟩⟩
end Go.Proofs.YtbddbnjhmdbkbaaGreatDoor
end
