import Derived.Test.YtbddbnjhmdbkbaaGreatDoorMjE
import Derived.Test.YtbddbnjhmdbkbaaGreatDoorMhD
import Derived.Test.YtbddbnjhmdbkbaaGreatDoorMhF
import Derived.Test.YtbddbnjhmdbkbaaGreatDoorMhH
import Derived.Test.YtbddbnjhmdbkbaaGreatDoorMgF
namespace Go.Proofs.YtbddbnjhmdbkbaaGreatDoor
open Go.RowKit
def c3Q (w:World)(room:Nat)(e:Ending)(w':World):Prop:=e=.returned (.tuple #[.pointer (some ⟨w.heap.size,0,none⟩),.int .i64 0])/\Rq w' w.heap.size w.heap.size room []/\Below w.heap.size w w'
theorem c1c (w:World)(room:Nat)(t:TypeId):Rq (w.alloc (.cells #[.int .i64 (room:Nat),.int .i64 0,.int .i64 0,.slice none 0 0] t)) w.heap.size w.heap.size room []:=
 ⟨0,.slice none 0 0,[],Box.new w [.int .i64 (room:Nat),.int .i64 0,.int .i64 0,.slice none 0 0] t,.inl ⟨rfl,rfl,rfl⟩,by simp,by simp,.inr ⟨rfl,rfl⟩,by simp⟩
theorem b6h (room:Nat)(w:World)(h1:1<=room)(h2:room<=4096):
 Calls Tryz.prog 180 #[.int .i64 (room:Nat)] w (c3Q w room):=by
 have a1:¬(room:Int)<1:=by omega
 have a2:¬(4096:Int)<(room:Int):=by omega
 go_enter Tryz.func180,Tryz.ntmps180
 go_wp2_with fail
 go_ret2
 exact⟨rfl,c1c w room _,(ZD _ _).alloc (ZB _) _⟩
theorem b1F (b q room:Nat)(L:List Pr)(v:Pr)(w:World)(h:Rq w b q room L)(hr:room<=4096)(hroom:L.length<room):
 Calls Tryz.prog 184 #[.pointer (some ⟨b,0,none⟩),.agg #[.int .i64 v.1,.int .i64 v.2]] w (a4y w b q room (L++[v]) pz false):=by
 obtain⟨first,sv,cs,h⟩:=h
 by_cases hl:L.length<cs.length
 ·rcases h.slots with ⟨_,e,_⟩ | ⟨rfl,_⟩
  ·rw[e] at hl;simp at hl
  ·exact b1E b q room first cs L v w h hr hroom hl
 ·exact b1G b q room L v w first sv cs h hr hroom (by have:=h.fits;omega)
theorem b3q (b q room:Nat)(L:List Pr)(x:Pr)(w:World)(h:Rq w b q room (x::L))(hr:room<=4096):
 Calls Tryz.prog 236 #[.pointer (some ⟨b,0,none⟩)] w (a4y w b q room L x true):=
 (b0x b q room L x w h hr).mono fun _ _ ⟨he,⟨first,cs,hi,_⟩,ht⟩=>⟨q,he,⟨first,_,cs,hi⟩,ht,.inl rfl⟩
def a0Z (L:List Pr):List Int:=L.map Prod.snd
def a1n (x:Int):Prop:=-9223372036854775808<=x/\x<9223372036854775808
theorem a2b {V:List Int}(h:∀ x,x∈V->a1n x): -((V.length:Int)*9223372036854775808)<=V.sum/\V.sum<=(V.length:Int)*9223372036854775807:=by
 induction V with
 | nil=>simp
 | cons x V ih=>
   obtain⟨h1,h2⟩:=h x (by simp)
   obtain⟨h3,h4⟩:=ih (fun y hy=>h y (by simp[hy]))
   simp only[List.sum_cons,List.length_cons]
   omega
def Aux (w:World)(V:List Int)(agg:Int)(sp mp op:Option Addr)(A:List Nat):Prop:=
 (∃ (a:Nat) (lo hi:Int),(agg=1\/agg=2)/\Box w a [.int .u64 lo,.int .u64 hi]/\Rep lo hi V.sum/\sp=some ⟨a,0,none⟩/\mp=none/\op=none/\A=[a]) \/
 (∃ (a c:Nat) (h:Bool),((agg=3/\h=false)\/(agg=4/\h=true))/\Mo w a c h V/\sp=none/\mp=some ⟨a,0,none⟩/\op=none/\A=[a,c]) \/
 (agg=5/\sp=none/\mp=none/\op=none/\A=[]) \/
 (∃ (a c:Nat),agg=6/\Rk w a c (a4D V)/\sp=none/\mp=none/\op=some ⟨a,0,none⟩/\A=[a,c])
theorem Aux.sum {w:World}{V:List Int}{agg:Int}(a:Nat)(lo hi:Int)(ha:agg=1\/agg=2)(hb:Box w a [.int .u64 lo,.int .u64 hi])(hr:Rep lo hi V.sum):Aux w V agg (some ⟨a,0,none⟩) none none [a]:=.inl ⟨a,lo,hi,ha,hb,hr,rfl,rfl,rfl,rfl⟩
theorem Aux.best {w:World}{V:List Int}{agg:Int}(a c:Nat)(h:Bool)(ha:(agg=3/\h=false)\/(agg=4/\h=true))(hm:Mo w a c h V):Aux w V agg none (some ⟨a,0,none⟩) none [a,c]:=.inr (.inl ⟨a,c,h,ha,hm,rfl,rfl,rfl,rfl⟩)
theorem Aux.count {w:World}{V:List Int}{agg:Int}(ha:agg=5):Aux w V agg none none none []:=.inr (.inr (.inl ⟨ha,rfl,rfl,rfl,rfl⟩))
theorem Aux.rank {w:World}{V:List Int}{agg:Int}(a c:Nat)(ha:agg=6)(hk:Rk w a c (a4D V)):Aux w V agg none none (some ⟨a,0,none⟩) [a,c]:=.inr (.inr (.inr ⟨a,c,ha,hk,rfl,rfl,rfl,rfl⟩))
theorem Aux.turn {S:List Nat}{w w':World}{V:List Int}{agg:Int}{sp mp op:Option Addr}{A:List Nat}(h:Aux w V agg sp mp op A)(t:a0h S w w')(hA:∀ i,i∈A->i∉S):Aux w' V agg sp mp op A:=by
 rcases h with ⟨a,lo,hi,ha,hb,hr,rfl,rfl,rfl,rfl⟩ | ⟨a,c,h,ha,hm,rfl,rfl,rfl,rfl⟩ | ⟨ha,rfl,rfl,rfl,rfl⟩ | ⟨a,c,ha,hk,rfl,rfl,rfl,rfl⟩
 ·exact .sum a lo hi ha (hb.turn t (hA a (by simp))) hr
 ·exact .best a c h ha (hm.turn t (hA a (by simp)) (hA c (by simp)))
 ·exact .count ha
 ·exact .rank a c ha (hk.turn t (hA a (by simp)) (hA c (by simp)))
theorem Aux.next {w w':World}{V:List Int}{agg:Int}{sp mp op:Option Addr}{A:List Nat}(h:Aux w V agg sp mp op A)(t:Below w.heap.size w w'):Aux w' V agg sp mp op A:=h.turn (S:=[]) (a0h.of_below t) (by simp)
theorem Aux.lt {w:World}{V:List Int}{agg:Int}{sp mp op:Option Addr}{A:List Nat}(h:Aux w V agg sp mp op A):∀ i,i∈A->i<w.heap.size:=by
 intro i hi
 rcases h with ⟨a,lo,hi',ha,hb,hr,rfl,rfl,rfl,rfl⟩ | ⟨a,c,h,ha,hm,rfl,rfl,rfl,rfl⟩ | ⟨ha,rfl,rfl,rfl,rfl⟩ | ⟨a,c,ha,hk,rfl,rfl,rfl,rfl⟩
 ·simp at hi;subst hi;exact hb.lt
 ·simp at hi;rcases hi with rfl | rfl;(· exact hm.lt);(· exact hm.glt)
 ·simp at hi
 ·simp at hi;rcases hi with rfl | rfl;(· exact hk.lt);(· exact hk.glt)
def c2o (agg span per:Int):Prop:=1<=span/\span<=604800/\(agg=6->1<=per/\per<=100000000)/\a1n per
structure a3M (w:World)(b r q:Nat)(A:List Nat)(sp mp op:Option Addr)(agg span per ck:Int)(on:Bool)(L:List Pr):Prop where
 box:Box w b [.pointer (some ⟨r,0,none⟩),.int .i64 agg,.int .i64 span,.int .i64 per,.int .i64 ck,.bool on,.pointer sp,.pointer mp,.pointer op]
 ring:Rq w r q 4096 L
 aux:Aux w (a0Z L) agg sp mp op A
 br:b≠r
 bq:b≠q
 bA:b∉A
 rA:r∉A
 qA:q∉A
 inn:∀ s,s∈L->a1n s.1/\a1n s.2
 fair:c2o agg span per
 now:a1n ck
def Win (w:World)(b:Nat)(F:List Nat)(agg span per ck:Int)(on:Bool)(L:List Pr):Prop:=∃ r q A sp mp op,F=b::r::q::A/\a3M w b r q A sp mp op agg span per ck on L
theorem a3M.turn {S:List Nat}{w w':World}{b r q:Nat}{A:List Nat}{sp mp op:Option Addr}{agg span per ck:Int}{on:Bool}{L:List Pr}(h:a3M w b r q A sp mp op agg span per ck on L)(t:a0h S w w')(hF:∀ i,i∈b::r::q::A->i∉S):a3M w' b r q A sp mp op agg span per ck on L:=
 ⟨h.box.turn t (hF b (by simp)),h.ring.turn t (hF r (by simp)) (hF q (by simp)),h.aux.turn t (fun i hi=>hF i (by simp[hi])),h.br,h.bq,h.bA,h.rA,h.qA,h.inn,h.fair,h.now⟩
theorem Win.turn {S:List Nat}{w w':World}{b:Nat}{F:List Nat}{agg span per ck:Int}{on:Bool}{L:List Pr}(h:Win w b F agg span per ck on L)(t:a0h S w w')(hF:∀ i,i∈F->i∉S):Win w' b F agg span per ck on L:=by
 obtain⟨r,q,A,sp,mp,op,rfl,h⟩:=h
 exact⟨r,q,A,sp,mp,op,rfl,h.turn t hF⟩
theorem Win.next {w w':World}{b:Nat}{F:List Nat}{agg span per ck:Int}{on:Bool}{L:List Pr}(h:Win w b F agg span per ck on L)(t:Below w.heap.size w w'):Win w' b F agg span per ck on L:=h.turn (S:=[]) (a0h.of_below t) (by simp)
theorem a3M.lt {w:World}{b r q:Nat}{A:List Nat}{sp mp op:Option Addr}{agg span per ck:Int}{on:Bool}{L:List Pr}(h:a3M w b r q A sp mp op agg span per ck on L):∀ i,i∈b::r::q::A->i<w.heap.size:=by
 intro i hi
 simp at hi
 rcases hi with rfl | rfl | rfl | hi
 ·exact h.box.lt
 ·exact h.ring.lt
 ·exact h.ring.qlt
 ·exact h.aux.lt i hi
theorem Win.lt {w:World}{b:Nat}{F:List Nat}{agg span per ck:Int}{on:Bool}{L:List Pr}(h:Win w b F agg span per ck on L):∀ i,i∈F->i<w.heap.size:=by
 obtain⟨r,q,A,sp,mp,op,rfl,h⟩:=h
 exact h.lt
def a5Q (w:World)(F F':List Nat):Prop:=∀ i,i∈F'->i∈F\/w.heap.size<=i
theorem a5Q.refl (w:World)(F:List Nat):a5Q w F F:=fun _ h=>.inl h
theorem a5Q.trans {w w1:World}{F F' F'':List Nat}(h:a5Q w F F')(k:a5Q w1 F' F'')(hs:w.heap.size<=w1.heap.size):a5Q w F F'':=fun i hi=>(k i hi).elim (h i) (fun e=>.inr (by omega))
def c0A (w:World)(a:Nat)(n:Int)(e:Ending)(w':World):Prop:=e=.returned (.tuple #[])/\(∃ lo hi,Box w' a [.int .u64 lo,.int .u64 hi]/\Rep lo hi n)/\a0h [a] w w'
theorem b2S {w w':World}{a:Nat}{n lo hi:Int}{e:Ending}(hb:Box w a [.int .u64 lo,.int .u64 hi])(h:c0z w a n e w'):c0A w a n e w':=by
 obtain⟨lo',hi',w1,rfl,hr,hB,rfl⟩:=h
 have h1:=((hb.next hB).set 0 (by simp) (.int .u64 lo')).set 1 (by simp) (.int .u64 hi')
 exact⟨rfl,⟨lo',hi',by simpa using h1,hr⟩,((a0h.of_below hB).andSet _ _ (.inl (by simp))).andSet _ _ (.inl (by simp))⟩
theorem c4k (a:Nat)(lo hi n v:Int)(w:World)(hb:Box w a [.int .u64 lo,.int .u64 hi])(hr:Rep lo hi n)(hv:a1n v)(h0 : -170141183460469231731687303715884105728<=n+v)(h1:n+v<170141183460469231731687303715884105728):
 Calls Tryz.prog 242 #[.pointer (some ⟨a,0,none⟩),.int .i64 v] w (c0A w a (n+v)):=
 (b8D a lo hi n v hr hv.1 hv.2 h0 h1 w hb.lt hb.two.1 hb.two.2.1 hb.two.2.2.1 hb.two.2.2.2).mono fun _ _ h=>b2S hb h
theorem c2x (a:Nat)(lo hi n v:Int)(w:World)(hb:Box w a [.int .u64 lo,.int .u64 hi])(hr:Rep lo hi n)(hv:a1n v)(h0 : -170141183460469231731687303715884105728<=n-v)(h1:n-v<170141183460469231731687303715884105728):
 Calls Tryz.prog 239 #[.pointer (some ⟨a,0,none⟩),.int .i64 v] w (c0A w a (n-v)):=
 (b5y a lo hi n v hr hv.1 hv.2 h0 h1 w hb.lt hb.two.1 hb.two.2.1 hb.two.2.2.1 hb.two.2.2.2).mono fun _ _ h=>b2S hb h
def c3Y (w:World)(V:List Int)(agg:Int)(sp mp op:Option Addr)(A:List Nat)(e:Ending)(w':World):Prop:=e=.returned (.tuple #[])/\∃ A',Aux w' V agg sp mp op A'/\a0h A w w'/\a5Q w A A'
set_option maxRecDepth 20000 in
set_option maxHeartbeats 1000000 in
theorem c0W (b:Nat)(v0 v1 v2 v3 v4 v5:Value)(sp mp op:Option Addr)(A:List Nat)(agg v:Int)(V:List Int)(w:World)(hx:Box w b [v0,v1,v2,v3,v4,v5,.pointer sp,.pointer mp,.pointer op])(ha:Aux w V agg sp mp op A)(hbA:b∉A)(hv:a1n v)(hV:∀ x,x∈V->a1n x)(hl:V.length<=4096):
 Calls Tryz.prog 186 #[.pointer (some ⟨b,0,none⟩),.int .i64 v] w (c3Y w (V++[v]) agg sp mp op A):=by
 have hlt:=hx.lt
 have c6:=hx.cell 6 _ rfl
 have c7:=hx.cell 7 _ rfl
 have c8:=hx.cell 8 _ rfl
 have HX:=hid hx
 clear hx
 rcases ha with ⟨a,lo,hi,h1,hb,hr,rfl,rfl,rfl,rfl⟩ | ⟨a,c,h,h1,hm,rfl,rfl,rfl,rfl⟩ | ⟨h1,rfl,rfl,rfl,rfl⟩ | ⟨a,c,h1,hk,rfl,rfl,rfl,rfl⟩
 ·skip
  obtain⟨s1,s2⟩:=a2b hV
  have hv1:=hv.1
  have hv2:=hv.2
  have HS:=hid (c4k a lo hi V.sum v w hb hr hv (by omega) (by omega))
  have hba:b∉[a]:=hbA
  clear hb hr hv hV s1 s2 hv1 hv2 hl
  go_enter Tryz.func186,Tryz.ntmps186
  go_wp2_with fail
  refine ZE HS.out ?_
  rintro e w1 ⟨rfl,⟨lo',hi',hb1,hr1⟩,t1⟩
  have hx1:=HX.out.turn t1 hba
  have hlt1:=hx1.lt
  have d7:=hx1.cell 7 _ rfl
  have d8:=hx1.cell 8 _ rfl
  clear c6 c7 c8 hlt
  have HB:=hid hb1
  have HR:=hid hr1
  have HT:=hid t1
  clear hb1 hr1 t1 hx1
  go_wp2_with fail
  refine ZE (a7i v w1) ?_
  rintro e w2 ⟨rfl,rfl⟩
  go_wp2_with fail
  refine ZE (a6X v w1) ?_
  rintro e w2 ⟨rfl,rfl⟩
  go_wp2_with fail
  go_end0
  exact⟨rfl,[a],.sum a lo' hi' h1 HB.out (by simpa[List.sum_append] using HR.out),HT.out,a5Q.refl _ _⟩
 ·skip
  have HS:=hid (c4w a c h V v w hm (by omega))
  have hba:b∉[a,c]:=hbA
  clear hm hv hV hl
  go_enter Tryz.func186,Tryz.ntmps186
  go_wp2_with fail
  refine ZE (a6K v w) ?_
  rintro e w1 ⟨rfl,rfl⟩
  go_wp2_with fail
  refine ZE HS.out ?_
  rintro e w1 ⟨rfl,c',hm1,t1,hc'⟩
  have hx1:=HX.out.turn t1 hba
  have hlt1:=hx1.lt
  have d8:=hx1.cell 8 _ rfl
  clear c6 c7 c8 hlt
  have HB:=hid hm1
  have HT:=hid t1
  clear hm1 t1 hx1
  go_wp2_with fail
  refine ZE (a6X v w1) ?_
  rintro e w2 ⟨rfl,rfl⟩
  go_wp2_with fail
  go_end0
  exact⟨rfl,[a,c'],.best a c' h h1 HB.out,HT.out,fun i hi=>by simp at hi ⊢;omega⟩
 ·skip
  clear hv hV hl
  go_enter Tryz.func186,Tryz.ntmps186
  go_wp2_with fail
  refine ZE (a6K v w) ?_
  rintro e w1 ⟨rfl,rfl⟩
  go_wp2_with fail
  refine ZE (a7i v w1) ?_
  rintro e w2 ⟨rfl,rfl⟩
  go_wp2_with fail
  refine ZE (a6X v w1) ?_
  rintro e w2 ⟨rfl,rfl⟩
  go_wp2_with fail
  go_end0
  exact⟨rfl,[],.count h1,a0h.refl _ _,a5Q.refl _ _⟩
 ·skip
  have HS:=hid (c4l a c (a4D V) v w hk (a3D V) (by rw[a1z];omega))
  have hba:b∉[a,c]:=hbA
  clear hk hv hV hl
  go_enter Tryz.func186,Tryz.ntmps186
  go_wp2_with fail
  refine ZE (a6K v w) ?_
  rintro e w1 ⟨rfl,rfl⟩
  go_wp2_with fail
  refine ZE (a7i v w1) ?_
  rintro e w2 ⟨rfl,rfl⟩
  go_wp2_with fail
  refine ZE HS.out ?_
  rintro e w1 ⟨rfl,c',hm1,t1,hc'⟩
  clear c6 c7 c8 hlt
  have HB:=hid hm1
  have HT:=hid t1
  clear hm1 t1
  go_wp2_with fail
  go_end0
  exact⟨rfl,[a,c'],.rank a c' h1 (by rw[b5I];exact HB.out),HT.out,fun i hi=>by simp at hi ⊢;omega⟩
theorem b3j (v:Int)(V:List Int):rem v (a4D (v::V))=a4D V:=by
 rw[b8U (by simp)]
 simp
set_option maxRecDepth 20000 in
set_option maxHeartbeats 1000000 in
theorem b7O (b:Nat)(v0 v1 v2 v3 v4 v5:Value)(sp mp op:Option Addr)(A:List Nat)(agg v:Int)(V:List Int)(w:World)(hx:Box w b [v0,v1,v2,v3,v4,v5,.pointer sp,.pointer mp,.pointer op])(ha:Aux w (v::V) agg sp mp op A)(hbA:b∉A)(hv:a1n v)(hV:∀ x,x∈V->a1n x)(hl:V.length<=4096):
 Calls Tryz.prog 185 #[.pointer (some ⟨b,0,none⟩),.int .i64 v] w (c3Y w V agg sp mp op A):=by
 have hlt:=hx.lt
 have c6:=hx.cell 6 _ rfl
 have c7:=hx.cell 7 _ rfl
 have c8:=hx.cell 8 _ rfl
 have HX:=hid hx
 clear hx
 rcases ha with ⟨a,lo,hi,h1,hb,hr,rfl,rfl,rfl,rfl⟩ | ⟨a,c,h,h1,hm,rfl,rfl,rfl,rfl⟩ | ⟨h1,rfl,rfl,rfl,rfl⟩ | ⟨a,c,h1,hk,rfl,rfl,rfl,rfl⟩
 ·skip
  obtain⟨s1,s2⟩:=a2b hV
  have hv1:=hv.1
  have hv2:=hv.2
  have e1:(v::V).sum-v=V.sum:=by simp only[List.sum_cons];omega
  have hS:=c2x a lo hi (v::V).sum v w hb hr hv (by omega) (by omega)
  rw[e1] at hS
  have HS:=hid hS
  have hba:b∉[a]:=hbA
  clear hb hr hv hV s1 s2 hv1 hv2 hl hS e1
  go_enter Tryz.func185,Tryz.ntmps185
  go_wp2_with fail
  refine ZE HS.out ?_
  rintro e w1 ⟨rfl,⟨lo',hi',hb1,hr1⟩,t1⟩
  have hx1:=HX.out.turn t1 hba
  have hlt1:=hx1.lt
  have d7:=hx1.cell 7 _ rfl
  have d8:=hx1.cell 8 _ rfl
  clear c6 c7 c8 hlt
  have HB:=hid hb1
  have HR:=hid hr1
  have HT:=hid t1
  clear hb1 hr1 t1
  go_wp2_with fail
  refine ZE (a5s w1) ?_
  rintro e w2 ⟨rfl,rfl⟩
  go_wp2_with fail
  refine ZE (a5l v w1) ?_
  rintro e w2 ⟨rfl,hB2⟩
  have H2:=hid hB2
  clear hB2
  go_wp2_with fail
  go_end0
  exact⟨rfl,[a],.sum a lo' hi' h1 (HB.out.next H2.out) HR.out,HT.out.andBelow H2.out,a5Q.refl _ _⟩
 ·skip
  have HS:=hid (b3H a c h v V w hm (by simp;omega))
  have hba:b∉[a,c]:=hbA
  clear hm hv hV hl
  go_enter Tryz.func185,Tryz.ntmps185
  go_wp2_with fail
  refine ZE (a5e v w) ?_
  rintro e w1 ⟨rfl,rfl⟩
  go_wp2_with fail
  refine ZE HS.out ?_
  rintro e w1 ⟨rfl,hm1,t1⟩
  have hx1:=HX.out.turn t1 hba
  have hlt1:=hx1.lt
  have d8:=hx1.cell 8 _ rfl
  clear c6 c7 c8 hlt
  have HB:=hid hm1
  have HT:=hid t1
  clear hm1 t1 hx1
  go_wp2_with fail
  refine ZE (a5l v w1) ?_
  rintro e w2 ⟨rfl,hB2⟩
  have H2:=hid hB2
  clear hB2
  go_wp2_with fail
  go_end0
  exact⟨rfl,[a,c],.best a c h h1 (HB.out.next H2.out),HT.out.andBelow H2.out,a5Q.refl _ _⟩
 ·skip
  clear hv hV hl
  go_enter Tryz.func185,Tryz.ntmps185
  go_wp2_with fail
  refine ZE (a5e v w) ?_
  rintro e w1 ⟨rfl,rfl⟩
  go_wp2_with fail
  refine ZE (a5s w1) ?_
  rintro e w2 ⟨rfl,rfl⟩
  go_wp2_with fail
  refine ZE (a5l v w1) ?_
  rintro e w2 ⟨rfl,hB2⟩
  have H2:=hid hB2
  clear hB2
  go_wp2_with fail
  go_end0
  exact⟨rfl,[],.count h1,a0h.of_below H2.out,a5Q.refl _ _⟩
 ·skip
  have hS:=b3m a c (a4D (v::V)) v w hk (a3D _) (by rw[a1z];simp;omega) ((a1Y _).mem_iff.2 (by simp))
  rw[b3j] at hS
  have HS:=hid hS
  have hba:b∉[a,c]:=hbA
  clear hk hv hV hl hS
  go_enter Tryz.func185,Tryz.ntmps185
  go_wp2_with fail
  refine ZE (a5e v w) ?_
  rintro e w1 ⟨rfl,rfl⟩
  go_wp2_with fail
  refine ZE (a5s w1) ?_
  rintro e w2 ⟨rfl,rfl⟩
  go_wp2_with fail
  refine ZE HS.out ?_
  rintro e w1 ⟨rfl,c',hm1,t1,hc'⟩
  clear c6 c7 c8 hlt
  have HB:=hid hm1
  have HT:=hid t1
  clear hm1 t1
  go_wp2_with fail
  go_end0
  exact⟨rfl,[a,c'],.rank a c' h1 HB.out,HT.out,fun i hi=>by simp at hi ⊢;omega⟩
set_option maxRecDepth 20000 in
theorem b6i (b q room:Nat)(w:World)(h:Rq w b q room []):
 Calls Tryz.prog 270 #[.pointer (some ⟨b,0,none⟩),.int .i64 0] w fun e w'=>e=.returned (.tuple #[pv pz,.bool false])/\Below w.heap.size w w':=by
 have hb2:=a0n w 78 78 [.int .i64 0,.int .i64 0] [.int .i64 0,.int .i64 0]
 have hb1:Below w.heap.size w (w.alloc (.cells #[.int .i64 0,.int .i64 0] 78)):=(ZD _ _).alloc (ZB _) _
 have HR:=hid (h.next hb1)
 have HB:=hid hb2.2.2
 clear h hb2 hb1
 go_enter Tryz.func270,Tryz.ntmps270
 go_wp2_with fail
 refine ZE (c0I _ q room [] _ HR.out) ?_
 rintro e w1 ⟨rfl,rfl⟩
 go_wp2_with fail
 refine bodyPost_ret (v:=.tuple #[pv pz,.bool false]) (by simp[results,Tryz.results270,go_sem,pv,pz]) rfl ⟨rfl,?_⟩
 exact HB.out
def a4C (span t:Int):List Pr->Bool
 | []=>false
 | s::_=>decide (span<=t-s.1)
def a0F (span t:Int)(L:List Pr):List Pr:=L.dropWhile (fun s=>decide (span<=t-s.1))
theorem b3Y {n span:Int}(h1:1<=span)(h2:span<=604800):(span<=held n)↔(span<=n):=by
 unfold held
 split
 ·omega
 ·split<;>omega
set_option maxRecDepth 20000 in
set_option maxHeartbeats 1000000 in
theorem c4g (b r q:Nat)(A:List Nat)(sp mp op:Option Addr)(agg span per ck:Int)(on:Bool)(L:List Pr)(t:Int)(w:World)(h:a3M w b r q A sp mp op agg span per ck on L)(ht:a1n t):
 Calls Tryz.prog 235 #[.pointer (some ⟨b,0,none⟩),.int .i64 t] w fun e w'=>e=.returned (.bool (a4C span t L))/\Below w.heap.size w w':=by
 have hlt:=h.box.lt
 have c0:=h.box.cell 0 _ rfl
 have HX:=hid h.box
 have hf:=h.fair
 cases L with
 | nil=>
   have HA:=hid (b6i r q 4096 w h.ring)
   clear h
   go_enter Tryz.func235,Tryz.ntmps235
   go_wp2_with fail
   refine ZE HA.out ?_
   rintro e w1 ⟨rfl,hB⟩
   have HB:=hid hB
   clear hB
   simp only[pv,pz]
   go_wp2_with fail
   go_quiet (fail)
   go_wp2_with fail
   go_ret
   exact⟨rfl,a3K (HB.out.alloc HB.out.size _) _⟩
 | cons s M=>
   have HA:=hid (b9d r q 4096 (s::M) 0 s w h.ring (ZB _) rfl)
   have hs:=(h.inn s (by simp)).1
   obtain⟨f1,f2,-⟩:=hf
   have hq:a4C span t (s::M)=decide (span<=held (t-s.1)):=by simp[a4C,b3Y f1 f2]
   rw[hq]
   clear h hq f1 f2
   generalize hd:held (t-s.1)=d
   have HD:=hid hd
   clear hd
   go_enter Tryz.func235,Tryz.ntmps235
   go_wp2_with fail
   refine ZE HA.out ?_
   rintro e w1 ⟨rfl,hB⟩
   have h1:=HX.out.next hB
   simp only[pv]
   have hN:=Box.new w1 [.int .i64 s.1,.int .i64 s.2] 78
   have hB2:Below w1.heap.size w1 (w1.alloc (.cells #[.int .i64 s.1,.int .i64 s.2] 78)):=(ZD _ _).alloc (ZB _) _
   have d2:=(h1.next hB2).cell 2 _ rfl
   have hlt2:=(h1.next hB2).lt
   have H12:=hid (hB.trans (hB2.mono hB.size))
   have d0:=hN.cell 0 _ rfl
   clear c0 hlt hN hB2 h1 hB
   go_wp2_with fail
   generalize hW:w1.alloc (.cells #[.int .i64 s.1,.int .i64 s.2] 78)=W at *
   generalize w1.heap.size=g at *
   clear hW
   go_region_with (go_at_call 156;refine ZE (b0h t s.1 ht.1 ht.2 hs.1 hs.2 _) ?_;rw[HD.out];rintro e w3 ⟨rfl,hb3⟩;have k0:=(hb3.cell (p:=⟨b,2,none⟩) hlt2).trans d2;have k1:=ZA hlt2 hb3.size)
   all_goals go_wp2_with fail
   all_goals (
    go_ret
    exact⟨rfl,H12.out.drew.trans (hb3.mono H12.out.size)⟩)
end Go.Proofs.YtbddbnjhmdbkbaaGreatDoor
