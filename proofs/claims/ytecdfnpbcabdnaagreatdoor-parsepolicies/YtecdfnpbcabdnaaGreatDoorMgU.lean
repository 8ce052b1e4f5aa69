import Derived.Test.YtecdfnpbcabdnaaGreatDoorTrN
import Derived.Test.YtecdfnpbcabdnaaGreatDoorMoM
section
namespace Go.Proofs.YtecdfnpbcabdnaaGreatDoor
structure Tm where
 kind:Int
 text:ByteArray
 n:Int
 m:Int
 pl:Int
 parts:List Tm
theorem Tm.ind {p:Tm->Prop}(h:∀ t:Tm,(∀ x,x∈t.parts->p x)->p t):∀ t,p t
 | ⟨_,_,_,_,_,_⟩=>h _ fun x _=>Tm.ind h x
def pord:Tm->List Tm
 | ⟨k,s,n,m,a,ps⟩=>⟨k,s,n,m,a,ps⟩::(ps.map pord).flatten
theorem pord_eq (t:Tm):pord t=t::(t.parts.map pord).flatten:=by cases t;rw[pord]
def nodes (t:Tm):Nat:=(pord t).length
def nodesL (l:List Tm):Nat:=((l.map pord).flatten).length
theorem nodes_eq (t:Tm):nodes t=1+nodesL t.parts:=by unfold nodes nodesL;rw[pord_eq t];simp;omega
theorem nodes_pos (t:Tm):1<=nodes t:=by rw[nodes_eq];omega
theorem nodesL_nil:nodesL []=0:=rfl
theorem nodesL_cons (t:Tm)(l:List Tm):nodesL (t::l)=nodes t+nodesL l:=by simp[nodesL,nodes]
theorem nodesL_append (l k:List Tm):nodesL (l++k)=nodesL l+nodesL k:=by simp[nodesL]
def spanB (n:Int):Bool:=decide (1<=n)&&decide (n<=604800)
def bareB (s:ByteArray)(n m:Int):Bool:=decide (s.toList=[])&&(decide (n=0)&&decide (m=0))
def plainB (k:Int)(s:ByteArray)(n m lo hi:Int):Bool:=decide (lo<=k)&&(decide (k<=hi)&&bareB s n m)
def leafB (k:Int)(s:ByteArray)(n m:Int):Bool:=
 if k=1 then decide (0<=n)&&(decide (m=0)&&txt brk s)
 else if k=2 then decide (n=0)&&(decide (m=0)&&isN s)
 else if k=6 then decide (n=0)&&(decide (m=0)&&txt quo s)
 else if 7<=k/\k<=11 then decide (m=0)&&(spanB n&&isN s)
 else if k=12 then decide (0<=m)&&(spanB n&&isN s)
 else plainB k s n m 3 5
def headB (k:Int)(s:ByteArray)(n m:Int)(c:Nat):Bool:=
 if c=0 then leafB k s n m
 else if c=1 then plainB k s n m 13 17
 else if c=2 then plainB k s n m 18 31
 else if c=3 then plainB k s n m 32 32
 else false
def formedB:Tm->Bool
 | ⟨k,s,n,m,_,ps⟩=>headB k s n m ps.length&&(ps.map formedB).all id
theorem formedB_eq (t:Tm):formedB t=(headB t.kind t.text t.n t.m t.parts.length&&t.parts.all formedB):=by
 cases t;rw[formedB];simp[List.all_map]
def numB (t:Tm):Bool:=decide (t.kind=1)&&(decide (t.parts.length=0)&&leafB t.kind t.text t.n t.m)
def negB (t:Tm):Bool:=plainB t.kind t.text t.n t.m 13 13&&decide (t.parts.length=1)
def litB (t:Tm):Bool:=numB t||(negB t&&t.parts.all numB)
def doB (k:Int)(s:ByteArray)(n m:Int)(c:Nat):Bool:=
 if c=0 then plainB k s n m 33 33
 else if c=1 then plainB k s n m 34 35
 else decide (c%2=0)&&plainB k s n m 36 36
def actionB:Tm->Bool
 | ⟨k,s,n,m,_,ps⟩=>doB k s n m ps.length&&((List.range ps.length).map fun i=>
     if h:i<ps.length then
      if i=0 then formedB ps[i] else if i%2=1/\i+1<ps.length then litB ps[i]
      else (have:SizeOf.sizeOf ps[i]<SizeOf.sizeOf ps:=List.sizeOf_lt_of_mem (List.getElem_mem h);actionB ps[i])
     else true).all id
def partB (ps:List Tm)(i:Nat):Bool:=
 match ps[i]? with
 | some x=>if i=0 then formedB x else if i%2=1/\i+1<ps.length then litB x else actionB x
 | none=>true
theorem actionB_eq (t:Tm):actionB t=(doB t.kind t.text t.n t.m t.parts.length&&(List.range t.parts.length).all (partB t.parts)):=by
 cases t with
 | mk k s n m a ps=>
   rw[actionB,List.all_map]
   congr 1
   refine Bool.eq_iff_iff.2 ?_
   simp only[List.all_eq_true,Function.comp_def,id_eq]
   refine forall_congr' fun i=>forall_congr' fun hi=>?_
   have hi':i<ps.length:=by simpa using hi
   simp only[dif_pos hi',partB,List.getElem?_eq_getElem hi']
def altB (l:List Tm)(j:Nat):Bool:=
 match l[j]? with
 | some x=>if j%2=0 then litB x else actionB x
 | none=>true
def pairsB (l:List Tm):Bool:=decide (l.length%2=0)&&(List.range l.length).all (altB l)
theorem action_0 {t:Tm}(hp:t.parts=[]):actionB t=plainB t.kind t.text t.n t.m 33 33:=by
 rw[actionB_eq,hp];simp[doB]
theorem action_1 {t x:Tm}(hp:t.parts=[x]):actionB t=(plainB t.kind t.text t.n t.m 34 35&&formedB x):=by
 rw[actionB_eq,hp];simp[doB,partB]
theorem action_2 {t x y:Tm}(hp:t.parts=[x,y]):actionB t=(plainB t.kind t.text t.n t.m 36 36&&(formedB x&&actionB y)):=by
 rw[actionB_eq,hp];simp[doB,partB,List.range_succ]
theorem action_4 {t x y:Tm}{l:List Tm}(hp:t.parts=x::(l++[y]))(h2:2<=l.length):actionB t=(plainB t.kind t.text t.n t.m 36 36&&(formedB x&&(pairsB l&&actionB y))):=by
 have hlen:t.parts.length=l.length+2:=by rw[hp];simp
 rw[actionB_eq,hlen,doB,if_neg (by omega),if_neg (by omega),pairsB]
 by_cases he:l.length%2=0
 ·rw[decide_eq_true (by omega:(l.length+2)%2=0),decide_eq_true he,Bool.true_and,Bool.true_and]
  congr 1
  have g:∀ j,j<l.length->partB t.parts (j+1)=altB l j:=fun j hj=>by
   have e:t.parts[j+1]? = l[j]?:=by rw[hp,List.getElem?_cons_succ,List.getElem?_append_left hj]
   unfold partB altB
   rw[e,List.getElem?_eq_getElem hj,hlen]
   simp only[if_neg (by omega:¬ j+1=0)]
   by_cases hj2:j%2=0
   ·rw[if_pos ⟨by omega,by omega⟩,if_pos hj2]
   ·rw[if_neg (by omega),if_neg hj2]
  have g0:partB t.parts 0=formedB x:=by unfold partB;rw[hp];rfl
  have g1:partB t.parts (l.length+1)=actionB y:=by
   unfold partB
   have e:t.parts[l.length+1]? = some y:=by rw[hp,List.getElem?_cons_succ];simp
   rw[e]
   simp only[if_neg (by omega:¬ l.length+1=0)]
   rw[if_neg (by rw[hlen];omega)]
  refine Bool.eq_iff_iff.2 ?_
  simp only[List.all_eq_true,Bool.and_eq_true,List.mem_range]
  constructor
  ·intro h
   exact⟨by rw[<-g0];exact h 0 (by omega),fun j hj=>by rw[<-g j hj];exact h (j+1) (by omega),by rw[<-g1];exact h _ (by omega)⟩
  ·rintro⟨h0,h1,h2'⟩ i hi
   by_cases i0:i=0
   ·rw[i0,g0];exact h0
   ·by_cases i1:i=l.length+1
    ·rw[i1,g1];exact h2'
    ·obtain⟨j,rfl⟩:∃ j,i=j+1:=⟨i-1,by omega⟩
     rw[g j (by omega)]
     exact h1 j (by omega)
 ·rw[decide_eq_false (by omega:¬(l.length+2)%2=0),decide_eq_false he]
  simp
end Go.Proofs.YtecdfnpbcabdnaaGreatDoor
end
section
namespace Go.Proofs.YtecdfnpbcabdnaaGreatDoor
open Go.RowKit
def In64 (x:Int):Prop:=-9223372036854775808<=x/\x<=9223372036854775807
abbrev tmV (t:Tm)(v:Value):Value:=.agg #[.int .i64 t.kind,.string t.text,.int .i64 t.n,.int .i64 t.m,.int .i64 t.pl,v]
abbrev tmL (t:Tm)(v:Value):List Value:=[.int .i64 t.kind,.string t.text,.int .i64 t.n,.int .i64 t.m,.int .i64 t.pl,v]
structure Six (w:World)(b o:Nat)(t:Tm)(v:Value):Prop where
 c0:w.cell? ⟨b,o,none⟩=some (.int .i64 t.kind)
 c1:w.cell? ⟨b,o+1,none⟩=some (.string t.text)
 c2:w.cell? ⟨b,o+2,none⟩=some (.int .i64 t.n)
 c3:w.cell? ⟨b,o+3,none⟩=some (.int .i64 t.m)
 c4:w.cell? ⟨b,o+4,none⟩=some (.int .i64 t.pl)
 c5:w.cell? ⟨b,o+5,none⟩=some v
def Sits (z:Nat)(w:World):Tm->Value->Prop
 | ⟨k,s,n,m,a,ps⟩,v=>In64 k/\In64 n/\In64 m/\In64 a/\s.size<=z/\∃ ad cap,v=.slice ad ps.length cap/\ps.length<=cap/\cap<=9223372036854775807 /\
     (ps.length=0\/∃ b off,ad=some ⟨b,off,none⟩/\b<w.heap.size/\∀ i (h:i<ps.length),∃ u,Six w b (off+i*6) ps[i] u /\
       (have:SizeOf.sizeOf ps[i]<SizeOf.sizeOf ps:=List.sizeOf_lt_of_mem (List.getElem_mem h);Sits z w ps[i] u))
structure Fit (z:Nat)(t:Tm):Prop where
 k:In64 t.kind
 n:In64 t.n
 m:In64 t.m
 a:In64 t.pl
 s:t.text.size<=z
def PAt (z:Nat)(w:World)(v:Value)(ps:List Tm):Prop:=∃ ad cap,v=.slice ad ps.length cap/\ps.length<=cap/\cap<=9223372036854775807 /\
 (ps.length=0\/∃ b off,ad=some ⟨b,off,none⟩/\b<w.heap.size/\∀ i (h:i<ps.length),∃ u,Six w b (off+i*6) ps[i] u/\Sits z w ps[i] u)
theorem sits_iff {z:Nat}{w:World}{t:Tm}{v:Value}:Sits z w t v↔Fit z t/\PAt z w v t.parts:=by
 cases t
 rw[Sits]
 exact⟨fun ⟨a,b,c,d,e,f⟩=>⟨⟨a,b,c,d,e⟩,f⟩,fun ⟨⟨a,b,c,d,e⟩,f⟩=>⟨a,b,c,d,e,f⟩⟩
theorem Six.keep {w w':World}{b o:Nat}{t:Tm}{v:Value}(h:Six w b o t v)(hk:∀ j,w'.cell? ⟨b,j,none⟩=w.cell? ⟨b,j,none⟩):Six w' b o t v:=
 ⟨(hk _).trans h.c0,(hk _).trans h.c1,(hk _).trans h.c2,(hk _).trans h.c3,(hk _).trans h.c4,(hk _).trans h.c5⟩
theorem Sits.keep {z:Nat}{w w':World}(hs:w.heap.size<=w'.heap.size)(hk:∀ b j,b<w.heap.size->w'.cell? ⟨b,j,none⟩=w.cell? ⟨b,j,none⟩)(t:Tm):∀ v,Sits z w t v->Sits z w' t v:=by
 induction t using Tm.ind with
 | h t ih=>
   intro v h
   rw[sits_iff] at h ⊢
   obtain⟨hf,ad,cap,hv,hl,hc,hp⟩:=h
   refine⟨hf,ad,cap,hv,hl,hc,?_⟩
   rcases hp with hp | ⟨b,off,ha,hb,hp⟩
   ·exact .inl hp
   ·refine .inr ⟨b,off,ha,by omega,fun i hi=>?_⟩
    obtain⟨u,h6,hu⟩:=hp i hi
    exact⟨u,h6.keep (fun j=>hk b j hb),ih _ (List.getElem_mem hi) u hu⟩
theorem Sits.next {z:Nat}{w w':World}{t:Tm}{v:Value}(h:Sits z w t v)(hb:Below w.heap.size w w'):Sits z w' t v:=
 Sits.keep hb.size (fun b j hj=>hb.cell (p:=⟨b,j,none⟩) hj) t v h
theorem Sits.parts {z:Nat}{w:World}{t:Tm}{v:Value}(h:Sits z w t v):PAt z w v t.parts:=(sits_iff.1 h).2
theorem PAt.open {z:Nat}{w:World}{v:Value}{ps:List Tm}(h:PAt z w v ps)(hn:0<ps.length):∃ b off cap,v=.slice (some ⟨b,off,none⟩) ps.length cap/\ps.length<=cap/\cap<=9223372036854775807/\b<w.heap.size /\
 ∀ i (h:i<ps.length),∃ u,Six w b (off+i*6) ps[i] u/\Sits z w ps[i] u:=by
 obtain⟨ad,cap,hv,hl,hc,hp⟩:=h
 rcases hp with hp | ⟨b,off,rfl,hlt,hp⟩
 ·omega
 ·exact⟨b,off,cap,hv,hl,hc,hlt,hp⟩
theorem PAt.shape {z:Nat}{w:World}{v:Value}{ps:List Tm}(h:PAt z w v ps):∃ ad cap,v=.slice ad ps.length cap/\ps.length<=cap/\cap<=9223372036854775807:=by
 obtain⟨ad,cap,hv,hl,hc,_⟩:=h
 exact⟨ad,cap,hv,hl,hc⟩
end Go.Proofs.YtecdfnpbcabdnaaGreatDoor
end
