import Derived.Test.YtkbmgloilckdhaaGreatDoorMgR
import Derived.Test.YtkbmgloilckdhaaGreatDoorMgP
namespace Go.Proofs.YtkbmgloilckdhaaGreatDoor
open Go.RowKit
theorem a2a {wn cn ln:Int}{t:Co}(h:a0k a0t wn cn ln t≠0):∃ k:Nat,t.op=(k:Int)/\1<=k/\k<=32/\a0v k wn cn ln t=true/\(∀ x,x∈t.parts->a0k a0t wn cn ln x≠0)/\a0k a0t wn cn ln t=a0Z a0t k t (t.parts.map (a0k a0t wn cn ln)):=by
 have e:=a0O a0t wn cn ln t
 by_cases h1:1<=t.op/\t.op<=32
 ·rw[if_pos h1] at e
  by_cases h2:a0v t.op.toNat wn cn ln t=true
  ·rw[if_pos h2] at e
   by_cases h3:(t.parts.map (a0k a0t wn cn ln)).contains 0=true
   ·rw[if_pos h3] at e;exact absurd e h
   ·rw[if_neg h3] at e
    refine⟨t.op.toNat,by omega,by omega,by omega,h2,fun x hx hz=>h3 ?_,e⟩
    rw[List.contains_iff_mem,List.mem_map]
    exact⟨x,hx,hz⟩
  ·rw[if_neg h2] at e;exact absurd e h
 ·rw[if_neg h1] at e;exact absurd e h
theorem a5m {f:Co->Int}{l:List Co}(h:l.map f=[]):l=[]:=by simpa using h
theorem a7m {f:Co->Int}{l:List Co}{a:Int}(h:l.map f=[a]):∃ x,l=[x]/\f x=a:=by
 match l,h with
 | [x],h=>exact⟨x,rfl,by simpa using h⟩
theorem a4h {f:Co->Int}{l:List Co}{a b:Int}(h:l.map f=[a,b]):∃ x y,l=[x,y]/\f x=a/\f y=b:=by
 match l,h with
 | [x,y],h=>exact⟨x,y,rfl,by simpa using h⟩
theorem b9h {f:Co->Int}{l:List Co}{a b c:Int}(h:l.map f=[a,b,c]):∃ x y z,l=[x,y,z]/\f x=a/\f y=b/\f z=c:=by
 match l,h with
 | [x,y,z],h=>exact⟨x,y,z,rfl,by simpa using h⟩
def Shp (f:Co->Int)(k:Nat)(t:Co)(s:Int):Prop:=
 ((k<=6\/k=29)/\t.parts=[]) \/
 (k=7/\(s=1\/s=2)/\∃ x,t.parts=[x]/\f x=s) \/
 ((8<=k/\k<=13)/\s=(if k=9 then 2 else 1)/\∃ x,t.parts=[x]/\f x=s) \/
 ((14<=k/\k<=24)/\s=(if 18<=k/\k<=22 then 2 else 1)/\∃ x y,t.parts=[x,y]/\f x=1/\f y=1) \/
 ((k=25\/k=26)/\s=2/\∃ x y,t.parts=[x,y]/\f x=2/\f y=2) \/
 (k=27/\(s=1\/s=2)/\∃ x y,t.parts=[x,y]/\f x=s/\f y=s) \/
 (k=28/\(s=1\/s=2)/\∃ x y z,t.parts=[x,y,z]/\f x=2/\f y=s/\f z=s) \/
 ((k=30\/k=31)/\s=3/\∃ x,t.parts=[x]/\f x=1) \/
 (k=32/\s=3/\a4w t (t.parts.map f))
theorem a4J {wn cn ln:Int}{t:Co}(h:a0k a0t wn cn ln t≠0):∃ k:Nat,t.op=(k:Int)/\1<=k/\k<=32/\a0v k wn cn ln t=true/\(∀ x,x∈t.parts->a0k a0t wn cn ln x≠0)/\Shp (a0k a0t wn cn ln) k t (a0k a0t wn cn ln t):=by
 obtain⟨k,hop,h1,h2,hb,hp,hs⟩:=a2a h
 refine⟨k,hop,h1,h2,hb,hp,?_⟩
 have hzs:a0Z a0t k t (t.parts.map (a0k a0t wn cn ln))≠0:=by rw[<-hs];exact h
 have hr:=a1o wn cn ln
 have hks:k=1\/k=2\/k=3\/k=4\/k=5\/k=6\/k=7\/k=8\/k=9\/k=10\/k=11\/k=12\/k=13\/k=14\/k=15\/k=16\/k=17\/k=18\/k=19\/k=20\/k=21\/k=22\/k=23\/k=24\/k=25\/k=26\/k=27\/k=28\/k=29\/k=30\/k=31\/k=32:=by omega
 clear h1 h2 hop hb
 generalize a0k a0t wn cn ln t=s at h hs
 subst hs
 rcases hks with rfl | rfl | rfl | rfl | rfl | rfl | rfl | rfl | rfl | rfl | rfl | rfl | rfl | rfl | rfl | rfl | rfl | rfl | rfl | rfl | rfl | rfl | rfl | rfl | rfl | rfl | rfl | rfl | rfl | rfl | rfl | rfl
 ·obtain⟨e1,e2⟩:=a0u (k:=1) (r:=1) (ts:=[]) rfl hzs
  exact .inl ⟨by omega,a5m e1⟩
 ·obtain⟨e1,e2⟩:=a0u (k:=2) (r:=2) (ts:=[]) rfl hzs
  exact .inl ⟨by omega,a5m e1⟩
 ·obtain⟨e1,e2⟩:=a0u (k:=3) (r:=1) (ts:=[]) rfl hzs
  exact .inl ⟨by omega,a5m e1⟩
 ·obtain⟨e1,e2⟩:=a0u (k:=4) (r:=1) (ts:=[]) rfl hzs
  exact .inl ⟨by omega,a5m e1⟩
 ·obtain⟨e1,e2⟩:=a0u (k:=5) (r:=2) (ts:=[]) rfl hzs
  exact .inl ⟨by omega,a5m e1⟩
 ·have e1:t.parts.map (a0k a0t wn cn ln)=[]:=by
   apply Classical.byContradiction
   intro h
   exact hzs (if_neg h)
  exact .inl ⟨by omega,a5m e1⟩
 ·obtain⟨g1,g2,g3,g4⟩:=a1V (show a0Q 1 (t.parts.map (a0k a0t wn cn ln))≠0 from hzs)
  obtain⟨x,q⟩:=b7G (l:=t.parts) (by simpa using g1)
  rw[q] at g2 g4
  have g5:a0Z a0t 7 t (t.parts.map (a0k a0t wn cn ln))=a0k a0t wn cn ln x:=by rw[q];exact g4
  have g6:a0k a0t wn cn ln x≠3:=g2
  have:=hr x
  have:=hp x (by rw[q];simp)
  exact .inr (.inl ⟨rfl,by rw[g5];omega,x,q,g5.symm⟩)
 ·obtain⟨e1,e2⟩:=a0u (k:=8) (r:=1) (ts:=[1]) rfl hzs
  obtain⟨x,q,q0⟩:=a7m e1
  exact .inr (.inr (.inl ⟨by omega,by rw[e2];rfl,x,q,by rw[e2,q0]⟩))
 ·obtain⟨e1,e2⟩:=a0u (k:=9) (r:=2) (ts:=[2]) rfl hzs
  obtain⟨x,q,q0⟩:=a7m e1
  exact .inr (.inr (.inl ⟨by omega,by rw[e2];rfl,x,q,by rw[e2,q0]⟩))
 ·obtain⟨e1,e2⟩:=a0u (k:=10) (r:=1) (ts:=[1]) rfl hzs
  obtain⟨x,q,q0⟩:=a7m e1
  exact .inr (.inr (.inl ⟨by omega,by rw[e2];rfl,x,q,by rw[e2,q0]⟩))
 ·obtain⟨e1,e2⟩:=a0u (k:=11) (r:=1) (ts:=[1]) rfl hzs
  obtain⟨x,q,q0⟩:=a7m e1
  exact .inr (.inr (.inl ⟨by omega,by rw[e2];rfl,x,q,by rw[e2,q0]⟩))
 ·obtain⟨e1,e2⟩:=a0u (k:=12) (r:=1) (ts:=[1]) rfl hzs
  obtain⟨x,q,q0⟩:=a7m e1
  exact .inr (.inr (.inl ⟨by omega,by rw[e2];rfl,x,q,by rw[e2,q0]⟩))
 ·obtain⟨e1,e2⟩:=a0u (k:=13) (r:=1) (ts:=[1]) rfl hzs
  obtain⟨x,q,q0⟩:=a7m e1
  exact .inr (.inr (.inl ⟨by omega,by rw[e2];rfl,x,q,by rw[e2,q0]⟩))
 ·obtain⟨e1,e2⟩:=a0u (k:=14) (r:=1) (ts:=[1,1]) rfl hzs
  obtain⟨x,y,q,q0,q1⟩:=a4h e1
  exact .inr (.inr (.inr (.inl ⟨by omega,by rw[e2];rfl,x,y,q,q0,q1⟩)))
 ·obtain⟨e1,e2⟩:=a0u (k:=15) (r:=1) (ts:=[1,1]) rfl hzs
  obtain⟨x,y,q,q0,q1⟩:=a4h e1
  exact .inr (.inr (.inr (.inl ⟨by omega,by rw[e2];rfl,x,y,q,q0,q1⟩)))
 ·obtain⟨e1,e2⟩:=a0u (k:=16) (r:=1) (ts:=[1,1]) rfl hzs
  obtain⟨x,y,q,q0,q1⟩:=a4h e1
  exact .inr (.inr (.inr (.inl ⟨by omega,by rw[e2];rfl,x,y,q,q0,q1⟩)))
 ·obtain⟨e1,e2⟩:=a0u (k:=17) (r:=1) (ts:=[1,1]) rfl hzs
  obtain⟨x,y,q,q0,q1⟩:=a4h e1
  exact .inr (.inr (.inr (.inl ⟨by omega,by rw[e2];rfl,x,y,q,q0,q1⟩)))
 ·obtain⟨e1,e2⟩:=a0u (k:=18) (r:=2) (ts:=[1,1]) rfl hzs
  obtain⟨x,y,q,q0,q1⟩:=a4h e1
  exact .inr (.inr (.inr (.inl ⟨by omega,by rw[e2];rfl,x,y,q,q0,q1⟩)))
 ·obtain⟨e1,e2⟩:=a0u (k:=19) (r:=2) (ts:=[1,1]) rfl hzs
  obtain⟨x,y,q,q0,q1⟩:=a4h e1
  exact .inr (.inr (.inr (.inl ⟨by omega,by rw[e2];rfl,x,y,q,q0,q1⟩)))
 ·obtain⟨e1,e2⟩:=a0u (k:=20) (r:=2) (ts:=[1,1]) rfl hzs
  obtain⟨x,y,q,q0,q1⟩:=a4h e1
  exact .inr (.inr (.inr (.inl ⟨by omega,by rw[e2];rfl,x,y,q,q0,q1⟩)))
 ·obtain⟨e1,e2⟩:=a0u (k:=21) (r:=2) (ts:=[1,1]) rfl hzs
  obtain⟨x,y,q,q0,q1⟩:=a4h e1
  exact .inr (.inr (.inr (.inl ⟨by omega,by rw[e2];rfl,x,y,q,q0,q1⟩)))
 ·obtain⟨e1,e2⟩:=a0u (k:=22) (r:=2) (ts:=[1,1]) rfl hzs
  obtain⟨x,y,q,q0,q1⟩:=a4h e1
  exact .inr (.inr (.inr (.inl ⟨by omega,by rw[e2];rfl,x,y,q,q0,q1⟩)))
 ·obtain⟨e1,e2⟩:=a0u (k:=23) (r:=1) (ts:=[1,1]) rfl hzs
  obtain⟨x,y,q,q0,q1⟩:=a4h e1
  exact .inr (.inr (.inr (.inl ⟨by omega,by rw[e2];rfl,x,y,q,q0,q1⟩)))
 ·obtain⟨e1,e2⟩:=a0u (k:=24) (r:=1) (ts:=[1,1]) rfl hzs
  obtain⟨x,y,q,q0,q1⟩:=a4h e1
  exact .inr (.inr (.inr (.inl ⟨by omega,by rw[e2];rfl,x,y,q,q0,q1⟩)))
 ·obtain⟨e1,e2⟩:=a0u (k:=25) (r:=2) (ts:=[2,2]) rfl hzs
  obtain⟨x,y,q,q0,q1⟩:=a4h e1
  exact .inr (.inr (.inr (.inr (.inl ⟨by omega,e2,x,y,q,q0,q1⟩))))
 ·obtain⟨e1,e2⟩:=a0u (k:=26) (r:=2) (ts:=[2,2]) rfl hzs
  obtain⟨x,y,q,q0,q1⟩:=a4h e1
  exact .inr (.inr (.inr (.inr (.inl ⟨by omega,e2,x,y,q,q0,q1⟩))))
 ·obtain⟨g1,g2,g3,g4⟩:=a1V (show a0Q 2 (t.parts.map (a0k a0t wn cn ln))≠0 from hzs)
  obtain⟨x,y,q⟩:=b8k (l:=t.parts) (by simpa using g1)
  rw[q] at g2 g3 g4
  have g5:a0Z a0t 27 t (t.parts.map (a0k a0t wn cn ln))=a0k a0t wn cn ln x:=by rw[q];exact g4
  have g6:a0k a0t wn cn ln x≠3:=g2
  have g7:a0k a0t wn cn ln y=a0k a0t wn cn ln x:=g3 _ (by simp)
  have:=hr x
  have:=hp x (by rw[q];simp)
  exact .inr (.inr (.inr (.inr (.inr (.inl ⟨rfl,by rw[g5];omega,x,y,q,g5.symm,by rw[g5,g7]⟩)))))
 ·have hz3:a1t (t.parts.map (a0k a0t wn cn ln))≠0:=hzs
  obtain⟨a,e,ea⟩:=a3W hz3
  obtain⟨x,y,z,q,q0,q1,q2⟩:=b9h e
  have ea':a0Z a0t 28 t (t.parts.map (a0k a0t wn cn ln))=a:=ea
  have hn3:a≠3:=fun e3=>by
   rw[e,e3] at hz3
   exact hz3 (by decide)
  have:=hr y
  have:=hp y (by rw[q];simp)
  exact .inr (.inr (.inr (.inr (.inr (.inr (.inl ⟨rfl,by rw[ea'];omega,x,y,z,q,q0,by rw[ea',q1],by rw[ea',q2]⟩))))))
 ·obtain⟨e1,e2⟩:=a0u (k:=29) (r:=3) (ts:=[]) rfl hzs
  exact .inl ⟨by omega,a5m e1⟩
 ·obtain⟨e1,e2⟩:=a0u (k:=30) (r:=3) (ts:=[1]) rfl hzs
  obtain⟨x,q,q0⟩:=a7m e1
  exact .inr (.inr (.inr (.inr (.inr (.inr (.inr (.inl ⟨by omega,e2,x,q,q0⟩)))))))
 ·obtain⟨e1,e2⟩:=a0u (k:=31) (r:=3) (ts:=[1]) rfl hzs
  obtain⟨x,q,q0⟩:=a7m e1
  exact .inr (.inr (.inr (.inr (.inr (.inr (.inr (.inl ⟨by omega,e2,x,q,q0⟩)))))))
 ·have hz2:a0t t (t.parts.map (a0k a0t wn cn ln))≠0:=hzs
  have hl:a4w t (t.parts.map (a0k a0t wn cn ln)):=(a3Q _ _).1 (by
   unfold a0t at hz2
   split at hz2
   ·assumption
   ·exact absurd rfl hz2)
  exact .inr (.inr (.inr (.inr (.inr (.inr (.inr (.inr ⟨rfl,a3P hl,hl⟩)))))))
def cst (c:Co):Bool:=decide (c.op=1)||decide (c.op=2)
theorem a2K {c:Co}:cst c=true↔c.op=1\/c.op=2:=by unfold cst;simp
theorem a4t {wn cn ln:Int}{x:Co}(hc:cst x=true)(h:a0k a0t wn cn ln x≠0):x.parts=[]/\x.m=0/\((x.op=1/\a0k a0t wn cn ln x=1)\/(x.op=2/\(x.n=0\/x.n=1)/\a0k a0t wn cn ln x=2)):=by
 obtain⟨k,hop,h1,h2,hb,hp,hs⟩:=a2a h
 have hzs:a0Z a0t k x (x.parts.map (a0k a0t wn cn ln))≠0:=by rw[<-hs];exact h
 rcases a2K.1 hc with e | e
 ·obtain rfl:k=1:=by omega
  obtain⟨e1,e2⟩:=a0u (k:=1) (r:=1) (ts:=[]) rfl hzs
  have hm:decide (x.m=0)=true:=hb
  exact⟨a5m e1,of_decide_eq_true hm,.inl ⟨e,by rw[hs];exact e2⟩⟩
 ·obtain rfl:k=2:=by omega
  obtain⟨e1,e2⟩:=a0u (k:=2) (r:=2) (ts:=[]) rfl hzs
  have hm:(a0B x.n 2&&decide (x.m=0))=true:=hb
  simp[a0B] at hm
  exact⟨a5m e1,hm.2,.inr ⟨e,by omega,by rw[hs];exact e2⟩⟩
theorem a2Z {wn cn ln:Int}{x:Co}(hc:x.op=6)(h:a0k a0t wn cn ln x≠0):x.parts=[]/\(1<=x.n/\x.n<=3)/\(x.m=1\/x.m=2)/\a0k a0t wn cn ln x=x.m:=by
 obtain⟨k,hop,h1,h2,hb,hp,hs⟩:=a2a h
 obtain rfl:k=6:=by omega
 have hzs:(if x.parts.map (a0k a0t wn cn ln)=[] then x.m else 0)≠0:=fun e=>h (hs.trans e)
 have e1:x.parts.map (a0k a0t wn cn ln)=[]:=by
  apply Classical.byContradiction
  intro h
  exact hzs (if_neg h)
 have hm:(decide (1<=x.n)&&(decide (x.n<=3)&&(decide (x.m=1)||decide (x.m=2))))=true:=hb
 simp at hm
 exact⟨a5m e1,⟨hm.1,hm.2.1⟩,hm.2.2,hs.trans (if_pos e1)⟩
theorem a1K (E:a0C){x:Co}(h:cst x=true):a0f E x=(x.n,0):=by
 rw[a0i]
 have:x.op.toNat=1\/x.op.toNat=2:=by have:=a2K.1 h;omega
 exact if_pos this
theorem a2n (E:a0C){x:Co}(h:x.op=6):a0f E x=(0,x.n):=by
 rw[a0i,h]
 rfl
abbrev sM (c:Co):Int:=a0k a0t 256 256 256 c
def E00:a0C:=⟨0,[],[]⟩
def a1G (c:Co)(r:Int):Co:=⟨6,r,sM c,[]⟩
def a0R (c:Co):Co:=
 if (c.parts.getD (c.parts.length-1) co0).op=6 then a1G c (c.parts.getD (c.parts.length-1) co0).n
 else if cst (c.parts.getD (c.parts.length-1) co0)=false then c
 else if (a0f E00 c).2≠0 then a1G c (a0f E00 c).2
 else if sM c=2 then ⟨2,(a0f E00 c).1,0,[]⟩ else ⟨1,(a0f E00 c).1,0,[]⟩
def a1E (c a:Co):Co:=
 if c.op=28 then (if a.n=1 then c.parts.getD 1 co0 else c.parts.getD 2 co0)
 else if c.op=25 then (if a.n=0 then a else c.parts.getD 1 co0)
 else if c.op=26 then (if a.n=1 then a else c.parts.getD 1 co0)
 else if c.op=27\/c.op=7 then a
 else if c.op=32 then c.parts.getD (a2g c.parts a.n c.parts.length c.parts.length 1) co0
 else if c.op=30\/c.op=31 then c
 else a0R c
def a1n (c a:Co):Co:=
 if c.op=27 then c.parts.getD 1 co0
 else if c.op=30\/c.op=31\/c.op=32 then c
 else a1G c a.n
def a1U (c:Co):Co:=
 match c.parts with
 | []=>c
 | a::_=>if cst a=true then a1E c a else if a.op=6 then a1n c a else c
def a0g:Co->Co
 | ⟨k,n,m,ps⟩=>a1U ⟨k,n,m,ps.map a0g⟩
theorem a3j (c:Co):a0g c=a1U ⟨c.op,c.n,c.m,c.parts.map a0g⟩:=by
 cases c
 rw[a0g]
theorem a3m {c:Co}(h:c.parts=[]):a1U c=c:=by unfold a1U;rw[h]
theorem a0x {c a:Co}{r:List Co}(h:c.parts=a::r):a1U c=if cst a=true then a1E c a else if a.op=6 then a1n c a else c:=by unfold a1U;rw[h]
def b3h (c:Co):Prop:=c.parts=[]
theorem a4T (ps:List Co)(i:Nat):ps.getD i co0∈ps\/b3h (ps.getD i co0):=by
 by_cases h:i<ps.length
 ·left
  rw[show ps.getD i co0=ps[i] by simp[List.getD,List.getElem?_eq_getElem h]]
  exact List.getElem_mem h
 ·right
  rw[show ps.getD i co0=co0 by simp[List.getD,List.getElem?_eq_none (Nat.not_lt.1 h)]]
  rfl
theorem b1U (c:Co):a1U c=c\/a1U c∈c.parts\/b3h (a1U c):=by
 cases hp:c.parts with
 | nil=>exact .inl (a3m hp)
 | cons a r=>
   have ha:a∈a::r:=by simp
   have hg:∀ i,c.parts.getD i co0∈a::r\/b3h (c.parts.getD i co0):=fun i=>by rw[<-hp];exact a4T _ _
   rw[a0x hp]
   unfold a1E a1n a0R a1G
   repeat' split
   all_goals first | exact .inl rfl | exact .inr (.inl ha) | exact .inr (hg _) | exact .inr (.inr rfl)
theorem b0S (ps:List Co)(v:Int)(L:Nat)(hL:2<=L/\L%2=0):∀ f i,i%2=1->i+1<=L->L<=i+2*f->a2g ps v L f i=L-1\/∃ q,q%2=1/\q+1<L/\a2g ps v L f i=q+1
 | 0,i,h1,h2,h3=>by omega
 | f+1,i,h1,h2,h3=>by
   by_cases h:i+1<L
   ·by_cases hv:v<(ps.getD i co0).n
    ·exact .inr ⟨i,h1,h,a4A h hv (by omega)⟩
    ·rw[a6u h hv]
     exact b0S ps v L hL f (i+2) (by omega) (by omega) (by omega)
   ·exact .inl (a4B h (by omega))
theorem a4Z {ps:List Co}{i:Nat}(h:i<ps.length):ps.getD i co0=ps[i]:=by simp[List.getD,List.getElem?_eq_getElem h]
theorem a6r {α : Type}{f:Co -> α}{d : α}{ps:List Co}{i:Nat}(h:i<ps.length):(ps.map f).getD i d=f ps[i]:=by simp[List.getD,List.getElem?_map,List.getElem?_eq_getElem h]
theorem b3n {f:Co->Int}{t:Co}(h:a4w t (t.parts.map f))(v:Int):∃ j,a2g t.parts v t.parts.length t.parts.length 1=j/\j<t.parts.length/\f (t.parts.getD j co0)=3:=by
 obtain⟨h1,h2,h3,h4,h5⟩:=h
 rw[List.length_map] at h1 h2 h4 h5
 rcases b0S t.parts v t.parts.length ⟨h1,h2⟩ t.parts.length 1 rfl (by omega) (by omega) with e | ⟨q,q1,q2,e⟩
 ·refine⟨_,e,by omega,?_⟩
  rw[a4Z (by omega),<-a6r (f:=f) (d:=0) (by omega)]
  exact h4
 ·refine⟨_,e,q2,?_⟩
  rw[a4Z q2,<-a6r (f:=f) (d:=0) q2]
  exact(h5 q q1 q2).2.1
theorem a5K {wn cn ln wn' cn' ln':Int}{t:Co}(hf:a0v t.op.toNat wn' cn' ln' t=a0v t.op.toNat wn cn ln t)(hp:∀ x,x∈t.parts->a0k a0t wn' cn' ln' x=a0k a0t wn cn ln x):a0k a0t wn' cn' ln' t=a0k a0t wn cn ln t:=by
 rw[a0O a0t wn' cn' ln' t,a0O a0t wn cn ln t,hf,List.map_congr_left hp]
theorem b1g {k:Nat}{wn cn ln wn' cn' ln':Int}{t:Co}(hw:wn<=wn')(hc:cn<=cn')(hl:ln<=ln')(h:a0v k wn cn ln t=true):a0v k wn' cn' ln' t=true:=by
 unfold a0v a0B at h ⊢
 repeat' split
 all_goals simp_all
 all_goals omega
theorem a5L {wn cn ln wn' cn' ln':Int}(hw:wn<=wn')(hc:cn<=cn')(hl:ln<=ln')(t:Co):a0k a0t wn cn ln t≠0->a0k a0t wn' cn' ln' t=a0k a0t wn cn ln t:=by
 induction t using Co.ind with
 | h t ih=>
   intro h
   obtain⟨k,hop,h1,h2,hb,hp,hs⟩:=a2a h
   refine a5K ?_ (fun x hx=>ih x hx (hp x hx))
   rw[hop,Int.toNat_natCast,hb]
   exact b1g hw hc hl hb
theorem a2i (wn cn ln n:Int):a0k a0t wn cn ln ⟨1,n,0,[]⟩=1:=by rw[a0O];rfl
theorem a3A (wn cn ln n:Int)(h:n=0\/n=1):a0k a0t wn cn ln ⟨2,n,0,[]⟩=2:=by rcases h with rfl | rfl<;>(rw[a0O];rfl)
theorem a8h (wn cn ln r m:Int)(h:1<=r/\r<=3)(hm:m=1\/m=2):a0k a0t wn cn ln ⟨6,r,m,[]⟩=m:=by
 obtain⟨h1,h2⟩:=h
 have:r=1\/r=2\/r=3:=by omega
 rcases this with rfl | rfl | rfl<;>rcases hm with rfl | rfl<;>(rw[a0O];rfl)
theorem b5a (k:Nat)(h:8<=k/\k<=13)(n m:Int):∃ f:Int->Int,(k≠13->f=uF k)/\∀ E x,a0f E ⟨(k:Int),n,m,[x]⟩=a0z f (a0f E x):=by
 have hk:k=8\/k=9\/k=10\/k=11\/k=12\/k=13:=by omega
 rcases hk with rfl | rfl | rfl | rfl | rfl | rfl
 ·exact⟨uF 8,fun _=>rfl,fun E x=>by rw[a0i];rfl⟩
 ·exact⟨uF 9,fun _=>rfl,fun E x=>by rw[a0i];rfl⟩
 ·exact⟨uF 10,fun _=>rfl,fun E x=>by rw[a0i];rfl⟩
 ·exact⟨uF 11,fun _=>rfl,fun E x=>by rw[a0i];rfl⟩
 ·exact⟨uF 12,fun _=>rfl,fun E x=>by rw[a0i];rfl⟩
 ·exact⟨fun a=>held (a*n/m),fun h=>absurd rfl h,fun E x=>by rw[a0i];rfl⟩
theorem b4Z (k:Nat)(h:14<=k/\k<=24)(n m:Int):∃ g:Int->Int->Rs,(g=if k=17 then a8z else fun a b=>okR (bF k a b))/\∀ E x y,a0f E ⟨(k:Int),n,m,[x,y]⟩=a0F g (a0f E x) (a0f E y):=by
 have hk:k=14\/k=15\/k=16\/k=17\/k=18\/k=19\/k=20\/k=21\/k=22\/k=23\/k=24:=by omega
 refine⟨_,rfl,?_⟩
 rcases hk with rfl | rfl | rfl | rfl | rfl | rfl | rfl | rfl | rfl | rfl | rfl<;>exact fun E x y=>by rw[a0i];rfl
def Bec (f:Co->Int)(c:Co)(s:Int):Prop:=
 a1U c=c \/
 (∃ x,x∈c.parts/\a1U c=x/\f x=s/\∀ E,a0f E x=a0f E c) \/
 (∃ r,a1U c=⟨6,r,sM c,[]⟩/\(1<=r/\r<=3)/\(s=1\/s=2)/\∀ E,a0f E c=(0,r)) \/
 (∃ n,a1U c=⟨1,n,0,[]⟩/\s=1/\∀ E,a0f E c=(n,0)) \/
 (∃ n,a1U c=⟨2,n,0,[]⟩/\s=2/\(n=0\/n=1)/\∀ E,a0f E c=(n,0))
theorem a1A {c a:Co}{k:Nat}(hop:c.op=(k:Int))(h:8<=k/\k<=24):a1E c a=a0R c:=by
 unfold a1E
 rw[if_neg (by omega),if_neg (by omega),if_neg (by omega),if_neg (by omega),if_neg (by omega),if_neg (by omega)]
theorem a1g {c a:Co}{k:Nat}(hop:c.op=(k:Int))(h:k<=26\/k=28):a1n c a=a1G c a.n:=by
 unfold a1n
 rw[if_neg (by omega),if_neg (by omega)]
theorem b1s {x:Co}(h:cst x=true):¬ x.op=6:=by have:=a2K.1 h;omega
theorem a8R {c x:Co}(hp:c.parts=[x])(hx:cst x=true){v:Int}(ht:a0f E00 c=(v,0)):a0R c=if sM c=2 then ⟨2,v,0,[]⟩ else ⟨1,v,0,[]⟩:=by
 unfold a0R
 rw[hp,ht]
 show (if x.op=6 then _ else if cst x=false then _ else _)=_
 rw[if_neg (b1s hx),if_neg (by rw[hx];decide),if_neg (by simp)]
theorem a4c {c x y:Co}(hp:c.parts=[x,y]):a0R c=if y.op=6 then a1G c y.n else if cst y=false then c else if (a0f E00 c).2≠0 then a1G c (a0f E00 c).2 else if sM c=2 then ⟨2,(a0f E00 c).1,0,[]⟩ else ⟨1,(a0f E00 c).1,0,[]⟩:=by
 unfold a0R
 rw[hp]
 rfl
theorem a8M {wn cn ln:Int}{c:Co}(hM:sM c=a0k a0t wn cn ln c)(h:a0k a0t wn cn ln c≠0):Bec (a0k a0t wn cn ln) c (a0k a0t wn cn ln c):=by
 obtain⟨k,hop,h1,h2,hb,hp,hs⟩:=a4J h
 generalize hS:a0k a0t wn cn ln c=s at *
 obtain⟨op,n,m,ps⟩:=c
 dsimp only at hop hp
 subst hop
 rcases hs with ⟨-,e⟩ | ⟨rfl,h12,x,e,ex⟩ | ⟨hk,hs,x,e,ex⟩ | ⟨hk,hs,x,y,e,ex,ey⟩ | ⟨hk,rfl,x,y,e,ex,ey⟩ | ⟨rfl,h12,x,y,e,ex,ey⟩ | ⟨rfl,h12,x,y,z,e,ex,ey,ez⟩ | ⟨hk,rfl,x,e,ex⟩ | ⟨rfl,rfl,hl⟩
 ·exact .inl (a3m e)
 ·dsimp only at e
  subst e
  have ht:∀ E,a0f E ⟨((7:Nat):Int),n,m,[x]⟩=a0f E x:=fun E=>by rw[a0i];rfl
  by_cases hc:cst x=true
  ·exact .inr (.inl ⟨x,by simp,(a0x rfl).trans ((if_pos hc).trans rfl),ex,fun E=>(ht E).symm⟩)
  ·by_cases h6:x.op=6
   ·obtain⟨-,f1,-,-⟩:=a2Z h6 (by rw[ex];omega)
    exact .inr (.inr (.inl ⟨x.n,(a0x rfl).trans ((if_neg hc).trans ((if_pos h6).trans rfl)),f1,h12,fun E=>(ht E).trans (a2n E h6)⟩))
   ·exact .inl ((a0x rfl).trans ((if_neg hc).trans (if_neg h6)))
 ·dsimp only at e
  subst e
  obtain⟨f,hf,ht⟩:=b5a k hk n m
  by_cases hc:cst x=true
  ·have ht2:∀ E,a0f E ⟨(k:Int),n,m,[x]⟩=(f x.n,0):=fun E=>by rw[ht,a1K E hc];rfl
   have hb2:a1U ⟨(k:Int),n,m,[x]⟩=if sM ⟨(k:Int),n,m,[x]⟩=2 then ⟨2,f x.n,0,[]⟩ else ⟨1,f x.n,0,[]⟩:=(a0x rfl).trans ((if_pos hc).trans ((a1A rfl (by omega)).trans (a8R rfl hc (ht2 E00))))
   by_cases h9:k=9
   ·rw[if_pos h9] at hs
    obtain⟨-,-,q⟩:=a4t hc (by rw[ex,hs];decide)
    rcases q with ⟨-,q⟩ | ⟨-,q,-⟩
    ·rw[ex,hs] at q;cases q
    ·refine .inr (.inr (.inr (.inr ⟨f x.n,hb2.trans (if_pos (by rw[hM,hs])),hs,?_,ht2⟩)))
     rw[hf (by omega),h9]
     rcases q with q | q<;>rw[q]
     ·exact .inr rfl
     ·exact .inl rfl
   ·rw[if_neg h9] at hs
    exact .inr (.inr (.inr (.inl ⟨f x.n,hb2.trans (if_neg (by rw[hM,hs];decide)),hs,ht2⟩)))
  ·by_cases h6:x.op=6
   ·obtain⟨-,f1,-,-⟩:=a2Z h6 (by rw[ex];split at hs<;>omega)
    exact .inr (.inr (.inl ⟨x.n,(a0x rfl).trans ((if_neg hc).trans ((if_pos h6).trans (a1g rfl (by omega)))),f1,by split at hs<;>omega,fun E=>by rw[ht,a2n E h6];exact if_neg (by show ¬ x.n=0;omega)⟩))
   ·exact .inl ((a0x rfl).trans ((if_neg hc).trans (if_neg h6)))
 ·dsimp only at e
  subst e
  have h12:s=1\/s=2:=by split at hs<;>omega
  obtain⟨g,hg,ht⟩:=b4Z k hk n m
  by_cases hc:cst x=true
  ·have hb2:a1U ⟨(k:Int),n,m,[x,y]⟩=a0R ⟨(k:Int),n,m,[x,y]⟩:=(a0x rfl).trans ((if_pos hc).trans (a1A rfl (by omega)))
   rw[a4c (x:=x) (y:=y) rfl] at hb2
   by_cases h6:y.op=6
   ·rw[if_pos h6] at hb2
    obtain⟨-,f1,-,-⟩:=a2Z h6 (by rw[ey];decide)
    exact .inr (.inr (.inl ⟨y.n,hb2,f1,h12,fun E=>by
     rw[ht,a1K E hc,a2n E h6]
     exact(if_pos rfl).trans (if_neg (by show ¬ y.n=0;omega))⟩))
   ·rw[if_neg h6] at hb2
    by_cases hd:cst y=true
    ·rw[if_neg (by rw[hd];decide)] at hb2
     have ht2:∀ E,a0f E ⟨(k:Int),n,m,[x,y]⟩=g x.n y.n:=fun E=>by rw[ht,a1K E hc,a1K E hd];rfl
     rw[ht2] at hb2
     by_cases h17:k=17
     ·rw[if_pos h17] at hg
      have hs1:s=1:=by rw[if_neg (by omega)] at hs;exact hs
      by_cases h0:y.n=0
      ·have e2:g x.n y.n=(0,2):=by rw[hg];exact if_pos h0
       rw[e2] at hb2 ht2
       exact .inr (.inr (.inl ⟨2,hb2.trans (if_pos (by decide)),by decide,h12,ht2⟩))
      ·have e2:g x.n y.n=(held (fl (x.n*1000000) y.n),0):=by rw[hg];exact if_neg h0
       rw[e2] at hb2 ht2
       exact .inr (.inr (.inr (.inl ⟨_,hb2.trans ((if_neg (by simp)).trans (if_neg (by rw[hM,hs1];decide))),hs1,ht2⟩)))
     ·rw[if_neg h17] at hg
      have e2:g x.n y.n=(bF k x.n y.n,0):=by rw[hg]
      rw[e2] at hb2 ht2
      by_cases hb:18<=k/\k<=22
      ·rw[if_pos hb] at hs
       exact .inr (.inr (.inr (.inr ⟨_,hb2.trans ((if_neg (by simp)).trans (if_pos (by rw[hM,hs]))),hs,a9K k _ _ hb.1 hb.2,ht2⟩)))
      ·rw[if_neg hb] at hs
       exact .inr (.inr (.inr (.inl ⟨_,hb2.trans ((if_neg (by simp)).trans (if_neg (by rw[hM,hs];decide))),hs,ht2⟩)))
    ·exact .inl (hb2.trans (if_pos (by simpa using hd)))
  ·by_cases h6:x.op=6
   ·obtain⟨-,f1,-,-⟩:=a2Z h6 (by rw[ex];decide)
    exact .inr (.inr (.inl ⟨x.n,(a0x rfl).trans ((if_neg hc).trans ((if_pos h6).trans (a1g rfl (by omega)))),f1,h12,fun E=>by rw[ht,a2n E h6];exact if_neg (by show ¬ x.n=0;omega)⟩))
   ·exact .inl ((a0x rfl).trans ((if_neg hc).trans (if_neg h6)))
 ·dsimp only at e
  subst e
  by_cases hc:cst x=true
  ·obtain⟨-,-,q⟩:=a4t hc (by rw[ex];decide)
   have q01:x.n=0\/x.n=1:=by
    rcases q with ⟨-,q⟩ | ⟨-,q,-⟩
    ·rw[ex] at q;cases q
    ·exact q
   rcases hk with rfl | rfl
   ·have ht:∀ E,a0f E ⟨((25:Nat):Int),n,m,[x,y]⟩=if x.n≠0 then a0f E y else (0,0):=fun E=>by
     rw[a0i]
     show (if (a0f E x).2=0/\(a0f E x).1≠0 then a0f E y else noR (a0f E x).2)=_
     rw[a1K E hc]
     simp
    have hb2:a1U ⟨((25:Nat):Int),n,m,[x,y]⟩=if x.n=0 then x else y:=(a0x rfl).trans ((if_pos hc).trans rfl)
    rcases q01 with q | q
    ·exact .inr (.inl ⟨x,by simp,hb2.trans (if_pos q),ex,fun E=>by rw[ht,a1K E hc,q];rfl⟩)
    ·exact .inr (.inl ⟨y,by simp,hb2.trans (if_neg (by omega)),ey,fun E=>by rw[ht,if_pos (by omega)]⟩)
   ·have ht:∀ E,a0f E ⟨((26:Nat):Int),n,m,[x,y]⟩=if x.n≠1 then a0f E y else (x.n,0):=fun E=>by
     rw[a0i]
     show (if (a0f E x).2=0/\(a0f E x).1≠1 then a0f E y else a0f E x)=_
     rw[a1K E hc]
     simp
    have hb2:a1U ⟨((26:Nat):Int),n,m,[x,y]⟩=if x.n=1 then x else y:=(a0x rfl).trans ((if_pos hc).trans rfl)
    rcases q01 with q | q
    ·exact .inr (.inl ⟨y,by simp,hb2.trans (if_neg (by omega)),ey,fun E=>by rw[ht,if_pos (by omega)]⟩)
    ·exact .inr (.inl ⟨x,by simp,hb2.trans (if_pos q),ex,fun E=>by rw[ht,a1K E hc,if_neg (by omega)]⟩)
  ·by_cases h6:x.op=6
   ·obtain⟨-,f1,-,-⟩:=a2Z h6 (by rw[ex];decide)
    refine .inr (.inr (.inl ⟨x.n,(a0x rfl).trans ((if_neg hc).trans ((if_pos h6).trans (a1g rfl (by omega)))),f1,.inr rfl,fun E=>?_⟩))
    rcases hk with rfl | rfl
    ·rw[a0i]
     show (if (a0f E x).2=0/\(a0f E x).1≠0 then a0f E y else noR (a0f E x).2)=_
     rw[a2n E h6,if_neg (by show ¬(x.n=0/\_);omega)]
    ·rw[a0i]
     show (if (a0f E x).2=0/\(a0f E x).1≠1 then a0f E y else a0f E x)=_
     rw[a2n E h6,if_neg (by show ¬(x.n=0/\_);omega)]
   ·exact .inl ((a0x rfl).trans ((if_neg hc).trans (if_neg h6)))
 ·dsimp only at e
  subst e
  have ht:∀ E,a0f E ⟨((27:Nat):Int),n,m,[x,y]⟩=if (a0f E x).2=0 then a0f E x else a0f E y:=fun E=>by rw[a0i];rfl
  by_cases hc:cst x=true
  ·exact .inr (.inl ⟨x,by simp,(a0x rfl).trans ((if_pos hc).trans rfl),ex,fun E=>by rw[ht,a1K E hc];rfl⟩)
  ·by_cases h6:x.op=6
   ·obtain⟨-,f1,-,-⟩:=a2Z h6 (by rw[ex];omega)
    exact .inr (.inl ⟨y,by simp,(a0x rfl).trans ((if_neg hc).trans ((if_pos h6).trans rfl)),ey,fun E=>by rw[ht,a2n E h6,if_neg (by show ¬ x.n=0;omega)]⟩)
   ·exact .inl ((a0x rfl).trans ((if_neg hc).trans (if_neg h6)))
 ·dsimp only at e
  subst e
  have ht:∀ E,a0f E ⟨((28:Nat):Int),n,m,[x,y,z]⟩=if (a0f E x).2=0 then (if (a0f E x).1=1 then a0f E y else a0f E z) else noR (a0f E x).2:=fun E=>by rw[a0i];rfl
  by_cases hc:cst x=true
  ·have ht2:∀ E,a0f E ⟨((28:Nat):Int),n,m,[x,y,z]⟩=if x.n=1 then a0f E y else a0f E z:=fun E=>by rw[ht,a1K E hc];exact if_pos rfl
   have hb2:a1U ⟨((28:Nat):Int),n,m,[x,y,z]⟩=if x.n=1 then y else z:=(a0x rfl).trans ((if_pos hc).trans rfl)
   by_cases q:x.n=1
   ·exact .inr (.inl ⟨y,by simp,hb2.trans (if_pos q),ey,fun E=>by rw[ht2,if_pos q]⟩)
   ·exact .inr (.inl ⟨z,by simp,hb2.trans (if_neg q),ez,fun E=>by rw[ht2,if_neg q]⟩)
  ·by_cases h6:x.op=6
   ·obtain⟨-,f1,-,-⟩:=a2Z h6 (by rw[ex];decide)
    exact .inr (.inr (.inl ⟨x.n,(a0x rfl).trans ((if_neg hc).trans ((if_pos h6).trans (a1g rfl (by omega)))),f1,h12,fun E=>by rw[ht,a2n E h6];exact if_neg (by show ¬ x.n=0;omega)⟩))
   ·exact .inl ((a0x rfl).trans ((if_neg hc).trans (if_neg h6)))
 ·dsimp only at e
  subst e
  left
  rw[a0x rfl]
  split
  ·rcases hk with rfl | rfl<;>rfl
  ·split
   ·rcases hk with rfl | rfl<;>rfl
   ·rfl
 ·cases ps with
  | nil=>exact .inl (a3m rfl)
  | cons a r=>
    by_cases hc:cst a=true
    ·obtain⟨j,hj,hlt,h3⟩:=b3n hl a.n
     have hj':a2g (a::r) a.n (a::r).length (a::r).length 1=j:=hj
     have hlt':j<(a::r).length:=hlt
     refine .inr (.inl ⟨(a::r).getD j co0,?_,(a0x rfl).trans ((if_pos hc).trans ?_),h3,fun E=>?_⟩)
     ·show (a::r).getD j co0∈a::r
      rw[a4Z hlt']
      exact List.getElem_mem hlt'
     ·show (a::r).getD (a2g (a::r) a.n (a::r).length (a::r).length 1) co0=_
      rw[hj']
     ·have e:a0f E ⟨((32:Nat):Int),n,m,a::r⟩=b4B (a::r) ((a::r).map (a0f E)):=by rw[a0i];rfl
      rw[e]
      unfold b4B
      have e0:((a::r).map (a0f E)).getD 0 (0,0)=a0f E a:=rfl
      rw[e0,a1K E hc,if_pos rfl]
      dsimp only
      rw[hj',a6r hlt',a4Z hlt']
    ·left
     rw[a0x rfl,if_neg hc]
     split
     ·rfl
     ·rfl
theorem b4b {wn cn ln:Int}{c:Co}(hM:sM c=a0k a0t wn cn ln c)(h:a0k a0t wn cn ln c≠0):a0k a0t wn cn ln (a1U c)=a0k a0t wn cn ln c:=by
 rcases a8M hM h with e | ⟨x,-,e,ex,-⟩ | ⟨r,e,hr,h12,-⟩ | ⟨n,e,hs,-⟩ | ⟨n,e,hs,hn,-⟩
 ·rw[e]
 ·rw[e,ex]
 ·rw[e,hM];exact a8h _ _ _ _ _ hr h12
 ·rw[e,hs];exact a2i _ _ _ _
 ·rw[e,hs];exact a3A _ _ _ _ hn
theorem a2W {t:Co}(h:t.parts=[]):a0g t=t:=by
 rw[a3j,h]
 obtain⟨k,n,m,ps⟩:=t
 dsimp only at h
 subst h
 exact a3m rfl
theorem b3P {wn cn ln k n m:Int}{ps ps':List Co}(h:a0k a0t wn cn ln ⟨k,n,m,ps⟩≠0)(hs:ps'.map (a0k a0t wn cn ln)=ps.map (a0k a0t wn cn ln))(h1:∀ i,(ps.getD i co0).op=1->ps'.getD i co0=ps.getD i co0):a0k a0t wn cn ln ⟨k,n,m,ps'⟩=a0k a0t wn cn ln ⟨k,n,m,ps⟩:=by
 obtain⟨q,hop,hk1,hk2,hb,hp,hz⟩:=a2a h
 dsimp only at hop
 subst hop
 rw[a0O a0t wn cn ln ⟨_,n,m,ps'⟩,a0O a0t wn cn ln ⟨_,n,m,ps⟩]
 dsimp only
 rw[hs,Int.toNat_natCast,show a0v q wn cn ln ⟨(q:Int),n,m,ps'⟩=a0v q wn cn ln ⟨(q:Int),n,m,ps⟩ from rfl]
 have key:a0Z a0t q ⟨(q:Int),n,m,ps'⟩ (ps.map (a0k a0t wn cn ln))=a0Z a0t q ⟨(q:Int),n,m,ps⟩ (ps.map (a0k a0t wn cn ln)):=by
  by_cases h32:q=32
  ·subst h32
   have hz2:a0t ⟨((32:Nat):Int),n,m,ps⟩ (ps.map (a0k a0t wn cn ln))≠0:=fun e=>h (hz.trans e)
   have hl:a4w ⟨((32:Nat):Int),n,m,ps⟩ (ps.map (a0k a0t wn cn ln)):=(a3Q _ _).1 (by
    unfold a0t at hz2
    split at hz2
    ·assumption
    ·exact absurd rfl hz2)
   show a0t _ _=a0t _ _
   rw[a3P hl]
   refine a3P ⟨hl.1,hl.2.1,hl.2.2.1,hl.2.2.2.1,fun i i1 i2=>?_⟩
   obtain⟨a1,a2,a3⟩:=hl.2.2.2.2 i i1 i2
   have b1:=h1 i a1
   refine⟨by show (ps'.getD i co0).op=1;rw[b1];exact a1,a2,fun hi=>?_⟩
   have b2:=h1 (i-2) (hl.2.2.2.2 (i-2) (by omega) (by omega)).1
   show (ps'.getD (i-2) co0).n<(ps'.getD i co0).n
   rw[b1,b2]
   exact a3 hi
  ·unfold a0Z
   cases hm:mkT.getD q none with
   | some x=>rfl
   | none=>
     rcases a6p ⟨q,by omega⟩ hk1 hm with e | e | e | e | e<;>dsimp only at e<;>subst e
     ·rfl
     ·rfl
     ·rfl
     ·rfl
     ·exact absurd rfl h32
 rw[key]
theorem b1e {wn cn ln:Int}{x:Co}(h:a0k a0t wn cn ln x≠0)(h1:x.op=1):a0g x=x:=a2W (a4t (a2K.2 (.inl h1)) h).1
theorem b0N {ps:List Co}{i:Nat}:(ps.map a0g).getD i co0=a0g (ps.getD i co0):=by
 by_cases h:i<ps.length
 ·rw[a6r h,a4Z h]
 ·rw[show ps.getD i co0=co0 by simp[List.getD,List.getElem?_eq_none (Nat.not_lt.1 h)],show (ps.map a0g).getD i co0=co0 by simp[List.getD,List.getElem?_map,List.getElem?_eq_none (Nat.not_lt.1 h)]]
  exact(a2W rfl).symm
theorem a9J {wn cn ln:Int}{ps:List Co}(hp:∀ x,x∈ps->a0k a0t wn cn ln x≠0)(i:Nat)(h:(ps.getD i co0).op=1):(ps.map a0g).getD i co0=ps.getD i co0:=by
 rw[b0N]
 rcases a4T ps i with hm | hm
 ·exact b1e (hp _ hm) h
 ·exact a2W hm
theorem a6q {wn cn ln:Int}{t:Co}(h:a0k a0t wn cn ln t≠0)(ih:∀ x,x∈t.parts->a0k a0t wn cn ln (a0g x)=a0k a0t wn cn ln x):a0k a0t wn cn ln ⟨t.op,t.n,t.m,t.parts.map a0g⟩=a0k a0t wn cn ln t:=by
 obtain⟨q,hop,hk1,hk2,hb,hp,hz⟩:=a2a h
 obtain⟨k,n,m,ps⟩:=t
 refine b3P h ?_ (a9J hp)
 rw[List.map_map]
 exact List.map_congr_left ih
theorem a7p {wn cn ln:Int}(hw:wn<=256)(hc:cn<=256)(hl:ln<=256)(t:Co):a0k a0t wn cn ln t≠0->a0k a0t wn cn ln (a0g t)=a0k a0t wn cn ln t:=by
 induction t using Co.ind with
 | h t ih=>
   intro h
   obtain⟨q,hop,hk1,hk2,hb,hp,hz⟩:=a2a h
   have hm:=a6q h (fun x hx=>ih x hx (hp x hx))
   rw[a3j,b4b (a5L hw hc hl _ (by rw[hm];exact h)) (by rw[hm];exact h),hm]
theorem a4P (t:Co)(ih:∀ x,x∈t.parts->a0q (a0g x)<=a0q x):a0q ⟨t.op,t.n,t.m,t.parts.map a0g⟩<=a0q t:=by
 rw[a1a,a1a t]
 dsimp only
 have key:∀ l:List Co,(∀ x,x∈l->a0q (a0g x)<=a0q x)->a0D (l.map a0g)<=a0D l:=by
  intro l
  induction l with
  | nil=>intro _;exact Nat.le_refl _
  | cons a r ihl=>
    intro h
    rw[List.map_cons,a1d,a1d]
    have:=h a (by simp)
    have:=ihl (fun x hx=>h x (by simp[hx]))
    omega
 have:=key t.parts ih
 omega
theorem a4i {t:Co}(h:b3h t):a0q t=1:=by rw[a1a,show t.parts=[] from h,a2M]
theorem b1V (c:Co):a0q (a1U c)<=a0q c:=by
 rcases b1U c with e | e | e
 ·rw[e];exact Nat.le_refl _
 ·exact Nat.le_of_lt (a0P e)
 ·rw[a4i e];exact a5P c
theorem a5H (t:Co):a0q (a0g t)<=a0q t:=by
 induction t using Co.ind with
 | h t ih=>
   rw[a3j]
   exact Nat.le_trans (b1V _) (a4P t ih)
def a5o (g:Co×Co):Co×Co:=(a0g g.1,a0g g.2)
def a6x (p:PlP):PlP:=⟨p.mets,p.ru,p.wins,p.crons,p.loc,p.gs.map a5o,a0g p.fin⟩
def a6k:PlP:=⟨[],⟨0,0,0,0,0⟩,[],[],0,[],co0⟩
def a2N (q:Co->Co->Bool)(p:PlP):PlP×Int:=if a1f q p=true then (a6x p,0) else (a6k,1)
theorem a7G {wn cn ln:Int}(hw:wn<=256)(hc:cn<=256)(hl:ln<=256){t:Co}(h:a0k a0t wn cn ln t≠0):sM t≠0:=by
 unfold sM
 rw[a5L hw hc hl t h]
 exact h
structure b8f (c:Co):Prop where
 so:sM c≠0
 no:a0q c<=8192
theorem a8v {q:Co->Co->Bool}{p:PlP}(h:a1f q p=true):(∀ g,g∈p.gs->b8f g.1/\b8f g.2)/\b8f p.fin:=by
 unfold a1f at h
 simp only[Bool.and_eq_true] at h
 obtain⟨⟨⟨⟨⟨h1,h2⟩,h3⟩,h4⟩,h5⟩,h6⟩:=h
 have hz:=of_decide_eq_true h1
 have w1:(p.wins.length:Int)<=256:=by omega
 have w2:(p.crons.length:Int)<=256:=by omega
 unfold a1J at h5
 simp only[Bool.and_eq_true,List.all_eq_true,decide_eq_true_eq] at h5
 refine⟨fun g hg=>?_,?_⟩
 ·obtain⟨a,b⟩:=h5.1 g hg
  obtain⟨n1,n2⟩:=a4W h2 hg
  exact⟨⟨a7G w1 w2 hz.2.2.2.2 (by rw[show a0k a0t _ _ _ g.1=2 from a];decide),by omega⟩,⟨a7G w1 w2 hz.2.2.2.2 (by rw[show a0k a0t _ _ _ g.2=3 from b];decide),by omega⟩⟩
 ·exact⟨a7G w1 w2 hz.2.2.2.2 (by rw[show a0k a0t _ _ _ p.fin=3 from h5.2];decide),by have:=b1j h2;omega⟩
end Go.Proofs.YtkbmgloilckdhaaGreatDoor
