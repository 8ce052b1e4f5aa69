import Derived.Test.YtbgomckkockemaaGreatDoorMjE
import Derived.Test.YtbgomckkockemaaGreatDoorMhE
import Derived.Test.YtbgomckkockemaaGreatDoorMhG
import Derived.Test.YtbgomckkockemaaGreatDoorMhH
import Derived.Test.YtbgomckkockemaaGreatDoorMgF
namespace Go.Proofs.YtbgomckkockemaaGreatDoor
open Go.RowKit
def NewRq (w:World)(room:Nat)(e:Ending)(w':World):Prop:=e=.returned (.tuple #[.pointer (some ⟨w.heap.size,0,none⟩),.int .i64 0])/\Rq w' w.heap.size w.heap.size room []/\Below w.heap.size w w'
theorem rq_new (w:World)(room:Nat)(t:TypeId):Rq (w.alloc (.cells #[.int .i64 (room:Nat),.int .i64 0,.int .i64 0,.slice none 0 0] t)) w.heap.size w.heap.size room []:=
 ⟨0,.slice none 0 0,[],Box.new w [.int .i64 (room:Nat),.int .i64 0,.int .i64 0,.slice none 0 0] t,.inl ⟨rfl,rfl,rfl⟩,by simp,by simp,.inr ⟨rfl,rfl⟩,by simp⟩
theorem qNew_yes (room:Nat)(w:World)(h1:1<=room)(h2:room<=4096):
 Calls Tryz.prog 229 #[.int .i64 (room:Nat)] w (NewRq w room):=by
 have a1:¬(room:Int)<1:=by omega
 have a2:¬(4096:Int)<(room:Int):=by omega
 go_enter Tryz.func229,Tryz.ntmps229
 go_wp2_with fail
 go_ret2
 exact⟨rfl,rq_new w room _,(Below.refl _ _).alloc (Nat.le_refl _) _⟩
theorem qPush_room (b q room:Nat)(L:List Pr)(v:Pr)(w:World)(h:Rq w b q room L)(hr:room<=4096)(hroom:L.length<room):
 Calls Tryz.prog 233 #[.pointer (some ⟨b,0,none⟩),.agg #[.int .i64 v.1,.int .i64 v.2]] w (QLeaves w b q room (L++[v]) pz false):=by
 obtain⟨first,sv,cs,h⟩:=h
 by_cases hl:L.length<cs.length
 ·rcases h.slots with ⟨_,e,_⟩ | ⟨rfl,_⟩
  ·rw[e] at hl;simp at hl
  ·exact qPush_slot b q room first cs L v w h hr hroom hl
 ·exact qPush_grow b q room L v w first sv cs h hr hroom (by have:=h.fits;omega)
theorem qDrop_yes (b q room:Nat)(L:List Pr)(x:Pr)(w:World)(h:Rq w b q room (x::L))(hr:room<=4096):
 Calls Tryz.prog 277 #[.pointer (some ⟨b,0,none⟩)] w (QLeaves w b q room L x true):=
 (qDrop_is b q room L x w h hr).mono fun _ _ ⟨he,⟨first,cs,hi,_⟩,ht⟩=>⟨q,he,⟨first,_,cs,hi⟩,ht,.inl rfl⟩
def newq (n:Nat)(A:List Pr):List Pr:=A.drop (A.length-n)
theorem newq_length (n:Nat)(A:List Pr):(newq n A).length=min A.length n:=by simp[newq];omega
theorem newq_last (n:Nat)(A:List Pr)(v:Pr)(h:1<=n):(newq n (A++[v]))[(newq n (A++[v])).length-1]? = some v:=by
 rw[newq_length,newq,List.getElem?_drop]
 have e:(A++[v]).length-n+(min (A++[v]).length n-1)=A.length:=by simp;omega
 rw[e]
 simp
theorem qPush_few (b q n:Nat)(A:List Pr)(v:Pr)(w:World)(h:Rq w b q n (newq n A))(hn:n<=4096)(hl:A.length<n):
 Calls Tryz.prog 233 #[.pointer (some ⟨b,0,none⟩),.agg #[.int .i64 v.1,.int .i64 v.2]] w (QLeaves w b q n (newq n (A++[v])) pz false):=by
 have e:newq n (A++[v])=newq n A++[v]:=by simp[newq,show A.length-n=0 by omega,show A.length+1-n=0 by omega]
 rw[e]
 exact qPush_room b q n _ v w h hn (by rw[newq_length];omega)
theorem qPush_many (b q n:Nat)(A:List Pr)(x v:Pr)(w:World)(h:Rq w b q n (newq n A))(hn:n<=4096)(h1:1<=n)(hl:n<=A.length)(hx:A[A.length-n]? = some x):
 Calls Tryz.prog 233 #[.pointer (some ⟨b,0,none⟩),.agg #[.int .i64 v.1,.int .i64 v.2]] w (QLeaves w b q n (newq n (A++[v])) x true):=by
 have e:newq n (A++[v])=A.drop (A.length-n+1)++[v]:=by
  unfold newq
  rw[List.drop_append_of_le_length (by simp<;>omega)]
  congr 2
  simp;omega
 have e2:newq n A=x::A.drop (A.length-n+1):=by
  rw[newq,List.drop_eq_getElem_cons (by omega)]
  congr 1
  rw[List.getElem?_eq_getElem (by omega)] at hx
  exact Option.some.inj hx
 have e3:(newq n A).length=n:=by rw[newq_length];omega
 rw[e]
 rw[e2] at h e3
 exact qPush_full b q n x _ v w h hn e3
def vals (L:List Pr):List Int:=L.map Prod.snd
def In64 (x:Int):Prop:=-9223372036854775808<=x/\x<9223372036854775808
theorem sum_bounds {V:List Int}(h:∀ x,x∈V->In64 x): -((V.length:Int)*9223372036854775808)<=V.sum/\V.sum<=(V.length:Int)*9223372036854775807:=by
 induction V with
 | nil=>simp
 | cons x V ih=>
   obtain⟨h1,h2⟩:=h x (by simp)
   obtain⟨h3,h4⟩:=ih (fun y hy=>h y (by simp[hy]))
   simp only[List.sum_cons,List.length_cons]
   omega
def Aux (w:World)(V:List Int)(agg:Int)(sp mp op:Option Addr)(A:List Nat):Prop:=
 (∃ (a:Nat) (lo hi:Int),(agg=1\/agg=2)/\Box w a [.int .u64 lo,.int .u64 hi]/\Rep lo hi V.sum/\sp=some ⟨a,0,none⟩/\mp=none/\op=none/\A=[a]) \/
 (∃ (a c:Nat) (h:Bool),((agg=3/\h=false)\/(agg=4/\h=true))/\Mo w a c h V/\sp=none/\mp=some ⟨a,0,none⟩/\op=none/\A=[a,c]) \/
 (agg=5/\sp=none/\mp=none/\op=none/\A=[]) \/
 (∃ (a c:Nat),agg=6/\Rk w a c (srtN V)/\sp=none/\mp=none/\op=some ⟨a,0,none⟩/\A=[a,c])
theorem Aux.sum {w:World}{V:List Int}{agg:Int}(a:Nat)(lo hi:Int)(ha:agg=1\/agg=2)(hb:Box w a [.int .u64 lo,.int .u64 hi])(hr:Rep lo hi V.sum):Aux w V agg (some ⟨a,0,none⟩) none none [a]:=.inl ⟨a,lo,hi,ha,hb,hr,rfl,rfl,rfl,rfl⟩
theorem Aux.best {w:World}{V:List Int}{agg:Int}(a c:Nat)(h:Bool)(ha:(agg=3/\h=false)\/(agg=4/\h=true))(hm:Mo w a c h V):Aux w V agg none (some ⟨a,0,none⟩) none [a,c]:=.inr (.inl ⟨a,c,h,ha,hm,rfl,rfl,rfl,rfl⟩)
theorem Aux.count {w:World}{V:List Int}{agg:Int}(ha:agg=5):Aux w V agg none none none []:=.inr (.inr (.inl ⟨ha,rfl,rfl,rfl,rfl⟩))
theorem Aux.rank {w:World}{V:List Int}{agg:Int}(a c:Nat)(ha:agg=6)(hk:Rk w a c (srtN V)):Aux w V agg none none (some ⟨a,0,none⟩) [a,c]:=.inr (.inr (.inr ⟨a,c,ha,hk,rfl,rfl,rfl,rfl⟩))
theorem Aux.turn {S:List Nat}{w w':World}{V:List Int}{agg:Int}{sp mp op:Option Addr}{A:List Nat}(h:Aux w V agg sp mp op A)(t:Turn S w w')(hA:∀ i,i∈A->i∉S):Aux w' V agg sp mp op A:=by
 rcases h with ⟨a,lo,hi,ha,hb,hr,rfl,rfl,rfl,rfl⟩ | ⟨a,c,h,ha,hm,rfl,rfl,rfl,rfl⟩ | ⟨ha,rfl,rfl,rfl,rfl⟩ | ⟨a,c,ha,hk,rfl,rfl,rfl,rfl⟩
 ·exact .sum a lo hi ha (hb.turn t (hA a (by simp))) hr
 ·exact .best a c h ha (hm.turn t (hA a (by simp)) (hA c (by simp)))
 ·exact .count ha
 ·exact .rank a c ha (hk.turn t (hA a (by simp)) (hA c (by simp)))
theorem Aux.next {w w':World}{V:List Int}{agg:Int}{sp mp op:Option Addr}{A:List Nat}(h:Aux w V agg sp mp op A)(t:Below w.heap.size w w'):Aux w' V agg sp mp op A:=h.turn (S:=[]) (Turn.of_below t) (by simp)
theorem Aux.lt {w:World}{V:List Int}{agg:Int}{sp mp op:Option Addr}{A:List Nat}(h:Aux w V agg sp mp op A):∀ i,i∈A->i<w.heap.size:=by
 intro i hi
 rcases h with ⟨a,lo,hi',ha,hb,hr,rfl,rfl,rfl,rfl⟩ | ⟨a,c,h,ha,hm,rfl,rfl,rfl,rfl⟩ | ⟨ha,rfl,rfl,rfl,rfl⟩ | ⟨a,c,ha,hk,rfl,rfl,rfl,rfl⟩
 ·simp at hi;subst hi;exact hb.lt
 ·simp at hi;rcases hi with rfl | rfl;(· exact hm.lt);(· exact hm.glt)
 ·simp at hi
 ·simp at hi;rcases hi with rfl | rfl;(· exact hk.lt);(· exact hk.glt)
theorem Aux.agg {w:World}{V:List Int}{agg:Int}{sp mp op:Option Addr}{A:List Nat}(h:Aux w V agg sp mp op A):1<=agg/\agg<=6:=by
 rcases h with ⟨a,lo,hi,ha,hb,hr,rfl,rfl,rfl,rfl⟩ | ⟨a,c,h,ha,hm,rfl,rfl,rfl,rfl⟩ | ⟨ha,rfl,rfl,rfl,rfl⟩ | ⟨a,c,ha,hk,rfl,rfl,rfl,rfl⟩
 ·omega
 ·omega
 ·omega
 ·omega
def Fair (agg span per:Int):Prop:=1<=span/\span<=604800/\(agg=6->1<=per/\per<=100000000)/\In64 per
structure WinIs (w:World)(b r q:Nat)(A:List Nat)(sp mp op:Option Addr)(agg span per ck:Int)(on:Bool)(L:List Pr):Prop where
 box:Box w b [.pointer (some ⟨r,0,none⟩),.int .i64 agg,.int .i64 span,.int .i64 per,.int .i64 ck,.bool on,.pointer sp,.pointer mp,.pointer op]
 ring:Rq w r q 4096 L
 aux:Aux w (vals L) agg sp mp op A
 br:b≠r
 bq:b≠q
 bA:b∉A
 rA:r∉A
 qA:q∉A
 inn:∀ s,s∈L->In64 s.1/\In64 s.2
 fair:Fair agg span per
 now:In64 ck
def Win (w:World)(b:Nat)(F:List Nat)(agg span per ck:Int)(on:Bool)(L:List Pr):Prop:=∃ r q A sp mp op,F=b::r::q::A/\WinIs w b r q A sp mp op agg span per ck on L
theorem WinIs.turn {S:List Nat}{w w':World}{b r q:Nat}{A:List Nat}{sp mp op:Option Addr}{agg span per ck:Int}{on:Bool}{L:List Pr}(h:WinIs w b r q A sp mp op agg span per ck on L)(t:Turn S w w')(hF:∀ i,i∈b::r::q::A->i∉S):WinIs w' b r q A sp mp op agg span per ck on L:=
 ⟨h.box.turn t (hF b (by simp)),h.ring.turn t (hF r (by simp)) (hF q (by simp)),h.aux.turn t (fun i hi=>hF i (by simp[hi])),h.br,h.bq,h.bA,h.rA,h.qA,h.inn,h.fair,h.now⟩
theorem Win.turn {S:List Nat}{w w':World}{b:Nat}{F:List Nat}{agg span per ck:Int}{on:Bool}{L:List Pr}(h:Win w b F agg span per ck on L)(t:Turn S w w')(hF:∀ i,i∈F->i∉S):Win w' b F agg span per ck on L:=by
 obtain⟨r,q,A,sp,mp,op,rfl,h⟩:=h
 exact⟨r,q,A,sp,mp,op,rfl,h.turn t hF⟩
theorem Win.next {w w':World}{b:Nat}{F:List Nat}{agg span per ck:Int}{on:Bool}{L:List Pr}(h:Win w b F agg span per ck on L)(t:Below w.heap.size w w'):Win w' b F agg span per ck on L:=h.turn (S:=[]) (Turn.of_below t) (by simp)
theorem WinIs.lt {w:World}{b r q:Nat}{A:List Nat}{sp mp op:Option Addr}{agg span per ck:Int}{on:Bool}{L:List Pr}(h:WinIs w b r q A sp mp op agg span per ck on L):∀ i,i∈b::r::q::A->i<w.heap.size:=by
 intro i hi
 simp at hi
 rcases hi with rfl | rfl | rfl | hi
 ·exact h.box.lt
 ·exact h.ring.lt
 ·exact h.ring.qlt
 ·exact h.aux.lt i hi
theorem Win.lt {w:World}{b:Nat}{F:List Nat}{agg span per ck:Int}{on:Bool}{L:List Pr}(h:Win w b F agg span per ck on L):∀ i,i∈F->i<w.heap.size:=by
 obtain⟨r,q,A,sp,mp,op,rfl,h⟩:=h
 exact h.lt
theorem Win.len {w:World}{b:Nat}{F:List Nat}{agg span per ck:Int}{on:Bool}{L:List Pr}(h:Win w b F agg span per ck on L):L.length<=4096:=by
 obtain⟨r,q,A,sp,mp,op,rfl,h⟩:=h
 exact h.ring.len
theorem Box.nine {w:World}{g:Nat}{v0 v1 v2 v3 v4 v5 v6 v7 v8:Value}(h:Box w g [v0,v1,v2,v3,v4,v5,v6,v7,v8]):w.cell? ⟨g,0,none⟩=some v0/\w.cell? ⟨g,1,none⟩=some v1/\w.cell? ⟨g,2,none⟩=some v2/\w.cell? ⟨g,3,none⟩=some v3/\w.cell? ⟨g,4,none⟩=some v4/\w.cell? ⟨g,5,none⟩=some v5/\w.cell? ⟨g,6,none⟩=some v6/\w.cell? ⟨g,7,none⟩=some v7/\w.cell? ⟨g,8,none⟩=some v8:=
 ⟨h.cell 0 _ rfl,h.cell 1 _ rfl,h.cell 2 _ rfl,h.cell 3 _ rfl,h.cell 4 _ rfl,h.cell 5 _ rfl,h.cell 6 _ rfl,h.cell 7 _ rfl,h.cell 8 _ rfl⟩
def From (w:World)(F F':List Nat):Prop:=∀ i,i∈F'->i∈F\/w.heap.size<=i
theorem From.refl (w:World)(F:List Nat):From w F F:=fun _ h=>.inl h
theorem From.trans {w w1:World}{F F' F'':List Nat}(h:From w F F')(k:From w1 F' F'')(hs:w.heap.size<=w1.heap.size):From w F F'':=fun i hi=>(k i hi).elim (h i) (fun e=>.inr (by omega))
def Sums8 (w:World)(a:Nat)(n:Int)(e:Ending)(w':World):Prop:=e=.returned (.tuple #[])/\(∃ lo hi,Box w' a [.int .u64 lo,.int .u64 hi]/\Rep lo hi n)/\Turn [a] w w'
theorem sums_of {w w':World}{a:Nat}{n lo hi:Int}{e:Ending}(hb:Box w a [.int .u64 lo,.int .u64 hi])(h:WPuts w a n e w'):Sums8 w a n e w':=by
 obtain⟨lo',hi',w1,rfl,hr,hB,rfl⟩:=h
 have h1:=((hb.next hB).set 0 (by simp) (.int .u64 lo')).set 1 (by simp) (.int .u64 hi')
 exact⟨rfl,⟨lo',hi',by simpa using h1,hr⟩,((Turn.of_below hB).andSet _ _ (.inl (by simp))).andSet _ _ (.inl (by simp))⟩
theorem sAdd (a:Nat)(lo hi n v:Int)(w:World)(hb:Box w a [.int .u64 lo,.int .u64 hi])(hr:Rep lo hi n)(hv:In64 v)(h0 : -170141183460469231731687303715884105728<=n+v)(h1:n+v<170141183460469231731687303715884105728):
 Calls Tryz.prog 283 #[.pointer (some ⟨a,0,none⟩),.int .i64 v] w (Sums8 w a (n+v)):=
 (wAdd_at a lo hi n v hr hv.1 hv.2 h0 h1 w hb.lt hb.two.1 hb.two.2.1 hb.two.2.2.1 hb.two.2.2.2).mono fun _ _ h=>sums_of hb h
theorem sTake (a:Nat)(lo hi n v:Int)(w:World)(hb:Box w a [.int .u64 lo,.int .u64 hi])(hr:Rep lo hi n)(hv:In64 v)(h0 : -170141183460469231731687303715884105728<=n-v)(h1:n-v<170141183460469231731687303715884105728):
 Calls Tryz.prog 280 #[.pointer (some ⟨a,0,none⟩),.int .i64 v] w (Sums8 w a (n-v)):=
 (wTake_at a lo hi n v hr hv.1 hv.2 h0 h1 w hb.lt hb.two.1 hb.two.2.1 hb.two.2.2.1 hb.two.2.2.2).mono fun _ _ h=>sums_of hb h
def Told (w:World)(V:List Int)(agg:Int)(sp mp op:Option Addr)(A:List Nat)(e:Ending)(w':World):Prop:=e=.returned (.tuple #[])/\∃ A',Aux w' V agg sp mp op A'/\Turn A w w'/\From w A A'
set_option maxRecDepth 20000 in
set_option maxHeartbeats 1000000 in
theorem wCome (b:Nat)(v0 v1 v2 v3 v4 v5:Value)(sp mp op:Option Addr)(A:List Nat)(agg v:Int)(V:List Int)(w:World)(hx:Box w b [v0,v1,v2,v3,v4,v5,.pointer sp,.pointer mp,.pointer op])(ha:Aux w V agg sp mp op A)(hbA:b∉A)(hv:In64 v)(hV:∀ x,x∈V->In64 x)(hl:V.length<=4096):
 Calls Tryz.prog 235 #[.pointer (some ⟨b,0,none⟩),.int .i64 v] w (Told w (V++[v]) agg sp mp op A):=by
 have hlt:=hx.lt
 have c6:=hx.cell 6 _ rfl
 have c7:=hx.cell 7 _ rfl
 have c8:=hx.cell 8 _ rfl
 have HX:=hid hx
 clear hx
 rcases ha with ⟨a,lo,hi,h1,hb,hr,rfl,rfl,rfl,rfl⟩ | ⟨a,c,h,h1,hm,rfl,rfl,rfl,rfl⟩ | ⟨h1,rfl,rfl,rfl,rfl⟩ | ⟨a,c,h1,hk,rfl,rfl,rfl,rfl⟩
 ·skip
  obtain⟨s1,s2⟩:=sum_bounds hV
  have hv1:=hv.1
  have hv2:=hv.2
  have HS:=hid (sAdd a lo hi V.sum v w hb hr hv (by omega) (by omega))
  have hba:b∉[a]:=hbA
  clear hb hr hv hV s1 s2 hv1 hv2 hl
  go_enter Tryz.func235,Tryz.ntmps235
  go_wp2_with fail
  refine Calls.mono HS.out ?_
  rintro e w1 ⟨rfl,⟨lo',hi',hb1,hr1⟩,t1⟩
  have hx1:=HX.out.turn t1 hba
  have hlt1:=hx1.lt
  have d7:=hx1.cell 7 _ rfl
  have d8:=hx1.cell 8 _ rfl
  clear c6 c7 c8 hlt
  have HB:=hid hb1
  have HR:=hid hr1
  have HT:=hid t1
  clear hb1 hr1 t1 hx1
  go_wp2_with fail
  refine Calls.mono (mPut_nil v w1) ?_
  rintro e w2 ⟨rfl,rfl⟩
  go_wp2_with fail
  refine Calls.mono (rPut_nil v w1) ?_
  rintro e w2 ⟨rfl,rfl⟩
  go_wp2_with fail
  go_end0
  exact⟨rfl,[a],.sum a lo' hi' h1 HB.out (by simpa[List.sum_append] using HR.out),HT.out,From.refl _ _⟩
 ·skip
  have HS:=hid (mPut a c h V v w hm (by omega))
  have hba:b∉[a,c]:=hbA
  clear hm hv hV hl
  go_enter Tryz.func235,Tryz.ntmps235
  go_wp2_with fail
  refine Calls.mono (wAdd_nil v w) ?_
  rintro e w1 ⟨rfl,rfl⟩
  go_wp2_with fail
  refine Calls.mono HS.out ?_
  rintro e w1 ⟨rfl,c',hm1,t1,hc'⟩
  have hx1:=HX.out.turn t1 hba
  have hlt1:=hx1.lt
  have d8:=hx1.cell 8 _ rfl
  clear c6 c7 c8 hlt
  have HB:=hid hm1
  have HT:=hid t1
  clear hm1 t1 hx1
  go_wp2_with fail
  refine Calls.mono (rPut_nil v w1) ?_
  rintro e w2 ⟨rfl,rfl⟩
  go_wp2_with fail
  go_end0
  exact⟨rfl,[a,c'],.best a c' h h1 HB.out,HT.out,fun i hi=>by simp at hi ⊢;omega⟩
 ·skip
  clear hv hV hl
  go_enter Tryz.func235,Tryz.ntmps235
  go_wp2_with fail
  refine Calls.mono (wAdd_nil v w) ?_
  rintro e w1 ⟨rfl,rfl⟩
  go_wp2_with fail
  refine Calls.mono (mPut_nil v w1) ?_
  rintro e w2 ⟨rfl,rfl⟩
  go_wp2_with fail
  refine Calls.mono (rPut_nil v w1) ?_
  rintro e w2 ⟨rfl,rfl⟩
  go_wp2_with fail
  go_end0
  exact⟨rfl,[],.count h1,Turn.refl _ _,From.refl _ _⟩
 ·skip
  have HS:=hid (rPut a c (srtN V) v w hk (srt_asc V) (by rw[srt_length];omega))
  have hba:b∉[a,c]:=hbA
  clear hk hv hV hl
  go_enter Tryz.func235,Tryz.ntmps235
  go_wp2_with fail
  refine Calls.mono (wAdd_nil v w) ?_
  rintro e w1 ⟨rfl,rfl⟩
  go_wp2_with fail
  refine Calls.mono (mPut_nil v w1) ?_
  rintro e w2 ⟨rfl,rfl⟩
  go_wp2_with fail
  refine Calls.mono HS.out ?_
  rintro e w1 ⟨rfl,c',hm1,t1,hc'⟩
  clear c6 c7 c8 hlt
  have HB:=hid hm1
  have HT:=hid t1
  clear hm1 t1
  go_wp2_with fail
  go_end0
  exact⟨rfl,[a,c'],.rank a c' h1 (by rw[srt_snoc];exact HB.out),HT.out,fun i hi=>by simp at hi ⊢;omega⟩
theorem rem_front (v:Int)(V:List Int):rem v (srtN (v::V))=srtN V:=by
 rw[rem_srt (by simp)]
 simp
set_option maxRecDepth 20000 in
set_option maxHeartbeats 1000000 in
theorem wLeave (b:Nat)(v0 v1 v2 v3 v4 v5:Value)(sp mp op:Option Addr)(A:List Nat)(agg v:Int)(V:List Int)(w:World)(hx:Box w b [v0,v1,v2,v3,v4,v5,.pointer sp,.pointer mp,.pointer op])(ha:Aux w (v::V) agg sp mp op A)(hbA:b∉A)(hv:In64 v)(hV:∀ x,x∈V->In64 x)(hl:V.length<=4096):
 Calls Tryz.prog 234 #[.pointer (some ⟨b,0,none⟩),.int .i64 v] w (Told w V agg sp mp op A):=by
 have hlt:=hx.lt
 have c6:=hx.cell 6 _ rfl
 have c7:=hx.cell 7 _ rfl
 have c8:=hx.cell 8 _ rfl
 have HX:=hid hx
 clear hx
 rcases ha with ⟨a,lo,hi,h1,hb,hr,rfl,rfl,rfl,rfl⟩ | ⟨a,c,h,h1,hm,rfl,rfl,rfl,rfl⟩ | ⟨h1,rfl,rfl,rfl,rfl⟩ | ⟨a,c,h1,hk,rfl,rfl,rfl,rfl⟩
 ·skip
  obtain⟨s1,s2⟩:=sum_bounds hV
  have hv1:=hv.1
  have hv2:=hv.2
  have e1:(v::V).sum-v=V.sum:=by simp only[List.sum_cons];omega
  have hS:=sTake a lo hi (v::V).sum v w hb hr hv (by omega) (by omega)
  rw[e1] at hS
  have HS:=hid hS
  have hba:b∉[a]:=hbA
  clear hb hr hv hV s1 s2 hv1 hv2 hl hS e1
  go_enter Tryz.func234,Tryz.ntmps234
  go_wp2_with fail
  refine Calls.mono HS.out ?_
  rintro e w1 ⟨rfl,⟨lo',hi',hb1,hr1⟩,t1⟩
  have hx1:=HX.out.turn t1 hba
  have hlt1:=hx1.lt
  have d7:=hx1.cell 7 _ rfl
  have d8:=hx1.cell 8 _ rfl
  clear c6 c7 c8 hlt
  have HB:=hid hb1
  have HR:=hid hr1
  have HT:=hid t1
  clear hb1 hr1 t1
  go_wp2_with fail
  refine Calls.mono (mTake_nil w1) ?_
  rintro e w2 ⟨rfl,rfl⟩
  go_wp2_with fail
  refine Calls.mono (rTake_nil v w1) ?_
  rintro e w2 ⟨rfl,hB2⟩
  have H2:=hid hB2
  clear hB2
  go_wp2_with fail
  go_end0
  exact⟨rfl,[a],.sum a lo' hi' h1 (HB.out.next H2.out) HR.out,HT.out.andBelow H2.out,From.refl _ _⟩
 ·skip
  have HS:=hid (mTake_yes a c h v V w hm (by simp;omega))
  have hba:b∉[a,c]:=hbA
  clear hm hv hV hl
  go_enter Tryz.func234,Tryz.ntmps234
  go_wp2_with fail
  refine Calls.mono (wTake_nil v w) ?_
  rintro e w1 ⟨rfl,rfl⟩
  go_wp2_with fail
  refine Calls.mono HS.out ?_
  rintro e w1 ⟨rfl,hm1,t1⟩
  have hx1:=HX.out.turn t1 hba
  have hlt1:=hx1.lt
  have d8:=hx1.cell 8 _ rfl
  clear c6 c7 c8 hlt
  have HB:=hid hm1
  have HT:=hid t1
  clear hm1 t1 hx1
  go_wp2_with fail
  refine Calls.mono (rTake_nil v w1) ?_
  rintro e w2 ⟨rfl,hB2⟩
  have H2:=hid hB2
  clear hB2
  go_wp2_with fail
  go_end0
  exact⟨rfl,[a,c],.best a c h h1 (HB.out.next H2.out),HT.out.andBelow H2.out,From.refl _ _⟩
 ·skip
  clear hv hV hl
  go_enter Tryz.func234,Tryz.ntmps234
  go_wp2_with fail
  refine Calls.mono (wTake_nil v w) ?_
  rintro e w1 ⟨rfl,rfl⟩
  go_wp2_with fail
  refine Calls.mono (mTake_nil w1) ?_
  rintro e w2 ⟨rfl,rfl⟩
  go_wp2_with fail
  refine Calls.mono (rTake_nil v w1) ?_
  rintro e w2 ⟨rfl,hB2⟩
  have H2:=hid hB2
  clear hB2
  go_wp2_with fail
  go_end0
  exact⟨rfl,[],.count h1,Turn.of_below H2.out,From.refl _ _⟩
 ·skip
  have hS:=rTake_yes a c (srtN (v::V)) v w hk (srt_asc _) (by rw[srt_length];simp;omega) ((srt_perm _).mem_iff.2 (by simp))
  rw[rem_front] at hS
  have HS:=hid hS
  have hba:b∉[a,c]:=hbA
  clear hk hv hV hl hS
  go_enter Tryz.func234,Tryz.ntmps234
  go_wp2_with fail
  refine Calls.mono (wTake_nil v w) ?_
  rintro e w1 ⟨rfl,rfl⟩
  go_wp2_with fail
  refine Calls.mono (mTake_nil w1) ?_
  rintro e w2 ⟨rfl,rfl⟩
  go_wp2_with fail
  refine Calls.mono HS.out ?_
  rintro e w1 ⟨rfl,c',hm1,t1,hc'⟩
  clear c6 c7 c8 hlt
  have HB:=hid hm1
  have HT:=hid t1
  clear hm1 t1
  go_wp2_with fail
  go_end0
  exact⟨rfl,[a,c'],.rank a c' h1 HB.out,HT.out,fun i hi=>by simp at hi ⊢;omega⟩
theorem qRoom_nil (w:World):Calls Tryz.prog 275 #[.pointer none] w fun e w'=>e=.returned (.int .i64 0)/\w=w':=by
 go_enter Tryz.func275,Tryz.ntmps275
 go_wp2_with fail
 go_ret
 exact⟨rfl,rfl⟩
set_option maxRecDepth 20000 in
theorem qAt_none (b q room:Nat)(w:World)(h:Rq w b q room []):
 Calls Tryz.prog 306 #[.pointer (some ⟨b,0,none⟩),.int .i64 0] w fun e w'=>e=.returned (.tuple #[pv pz,.bool false])/\Below w.heap.size w w':=by
 have hb2:=two_boxes w 83 83 [.int .i64 0,.int .i64 0] [.int .i64 0,.int .i64 0]
 have hb1:Below w.heap.size w (w.alloc (.cells #[.int .i64 0,.int .i64 0] 83)):=(Below.refl _ _).alloc (Nat.le_refl _) _
 have HR:=hid (h.next hb1)
 have HB:=hid hb2.2.2
 clear h hb2 hb1
 go_enter Tryz.func306,Tryz.ntmps306
 go_wp2_with fail
 refine Calls.mono (qLen _ q room [] _ HR.out) ?_
 rintro e w1 ⟨rfl,rfl⟩
 go_wp2_with fail
 refine bodyPost_ret (v:=.tuple #[pv pz,.bool false]) (by simp[results,Tryz.results306,go_sem,pv,pz]) rfl ⟨rfl,?_⟩
 exact HB.out
def NewSam (w:World)(L:List Pr)(e:Ending)(w':World):Prop:=∃ g,e=.returned (.slice (some ⟨g,0,none⟩) L.length L.length)/\w.heap.size<=g/\Box w' g (prs L)/\Below w.heap.size w w'
def tooOld (span t:Int):List Pr->Bool
 | []=>false
 | s::_=>decide (span<=t-s.1)
def fresh (span t:Int)(L:List Pr):List Pr:=L.dropWhile (fun s=>decide (span<=t-s.1))
theorem held_span {n span:Int}(h1:1<=span)(h2:span<=604800):(span<=held n)↔(span<=n):=by
 unfold held
 split
 ·omega
 ·split<;>omega
set_option maxRecDepth 20000 in
set_option maxHeartbeats 1000000 in
theorem wOld (b r q:Nat)(A:List Nat)(sp mp op:Option Addr)(agg span per ck:Int)(on:Bool)(L:List Pr)(t:Int)(w:World)(h:WinIs w b r q A sp mp op agg span per ck on L)(ht:In64 t):
 Calls Tryz.prog 276 #[.pointer (some ⟨b,0,none⟩),.int .i64 t] w fun e w'=>e=.returned (.bool (tooOld span t L))/\Below w.heap.size w w':=by
 have hlt:=h.box.lt
 have c0:=h.box.cell 0 _ rfl
 have HX:=hid h.box
 have hf:=h.fair
 cases L with
 | nil=>
   have HA:=hid (qAt_none r q 4096 w h.ring)
   clear h
   go_enter Tryz.func276,Tryz.ntmps276
   go_wp2_with fail
   refine Calls.mono HA.out ?_
   rintro e w1 ⟨rfl,hB⟩
   have HB:=hid hB
   clear hB
   simp only[pv,pz]
   go_wp2_with fail
   go_quiet (fail)
   go_wp2_with fail
   go_ret
   exact⟨rfl,below_drewQ (HB.out.alloc HB.out.size _) _⟩
 | cons s M=>
   have HA:=hid (qAt_yes r q 4096 (s::M) 0 s w h.ring (Nat.le_refl _) rfl)
   have hs:=(h.inn s (by simp)).1
   obtain⟨f1,f2,-⟩:=hf
   have hq:tooOld span t (s::M)=decide (span<=held (t-s.1)):=by simp[tooOld,held_span f1 f2]
   rw[hq]
   clear h hq f1 f2
   generalize hd:held (t-s.1)=d
   have HD:=hid hd
   clear hd
   go_enter Tryz.func276,Tryz.ntmps276
   go_wp2_with fail
   refine Calls.mono HA.out ?_
   rintro e w1 ⟨rfl,hB⟩
   have h1:=HX.out.next hB
   simp only[pv]
   have hN:=Box.new w1 [.int .i64 s.1,.int .i64 s.2] 83
   have hB2:Below w1.heap.size w1 (w1.alloc (.cells #[.int .i64 s.1,.int .i64 s.2] 83)):=(Below.refl _ _).alloc (Nat.le_refl _) _
   have d2:=(h1.next hB2).cell 2 _ rfl
   have hlt2:=(h1.next hB2).lt
   have H12:=hid (hB.trans (hB2.mono hB.size))
   have d0:=hN.cell 0 _ rfl
   clear c0 hlt hN hB2 h1 hB
   go_wp2_with fail
   generalize hW:w1.alloc (.cells #[.int .i64 s.1,.int .i64 s.2] 83)=W at *
   generalize w1.heap.size=g at *
   clear hW
   go_region_with (go_at_call 206;refine Calls.mono (Sub_any t s.1 ht.1 ht.2 hs.1 hs.2 _) ?_;rw[HD.out];rintro e w3 ⟨rfl,hb3⟩;have k0:=(hb3.cell (p:=⟨b,2,none⟩) hlt2).trans d2;have k1:=Nat.lt_of_lt_of_le hlt2 hb3.size)
   all_goals go_wp2_with fail
   all_goals (
    go_ret
    exact⟨rfl,H12.out.drew.trans (hb3.mono H12.out.size)⟩)
end Go.Proofs.YtbgomckkockemaaGreatDoor
