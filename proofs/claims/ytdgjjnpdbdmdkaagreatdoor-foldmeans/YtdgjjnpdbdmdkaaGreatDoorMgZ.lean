import Derived.Test.YtdgjjnpdbdmdkaaGreatDoorMgB
import Derived.BigQuiet
import Derived.Deep.DeepAppendWide
import Derived.Deep.AppendLies
namespace Go.Proofs.YtdgjjnpdbdmdkaaGreatDoor
open Go.RowKit
theorem a5p (w0:World):∃ f:World->World,(∀ n,Below w0.heap.size w0 (f n))/\(∀ W,Below w0.heap.size w0 W->∃ n,W=f n):=by
 classical
 refine⟨fun n=>if Below w0.heap.size w0 n then n else w0,fun n=>?_,fun W h=>⟨W,(if_pos h).symm⟩⟩
 show Below w0.heap.size w0 (if Below w0.heap.size w0 n then n else w0)
 by_cases h:Below w0.heap.size w0 n
 ·rw[if_pos h];exact h
 ·rw[if_neg h];exact Below.refl _ _
theorem a0m {P:Program}{id:Nat}{Q:Exit->Act->World->Prop}{a:Act}{w:World}{l:List Oper}(f:World->World)(hm:P.follows .mixedOrders=true)(hB:Region.lexB .any l.toArray=true)(hC:∃ n,w.drew=f n)
 (h:wpQuiet P l.toArray (fun w'=>∃ n,w'=f n) (fun a'=>∀ w',(∃ n,w'=f n)->Q .normal a' w') l a):(Code.region id l.toArray true).wp P Q a w:=
 wp_region_quiet (C:=fun w'=>∃ n,w'=f n) hm hB hC (by simpa using h)
theorem a0d {w w':World}(h:Below w.heap.size w w'){p:Addr}{v:Value}(hc:w.cell? p=some v):w'.cell? p=some v:=(h.cell (World.block_lt_of_cell? w p hc)).trans hc
def flC (xs:List (Co×Value)):List Value:=(xs.map fun x=>coL x.1 x.2).flatten
theorem a4P (xs:List (Co×Value))(x:Co×Value):flC (xs++[x])=flC xs++coL x.1 x.2:=by simp[flC]
theorem a2U (xs:List (Co×Value)):(flC xs).length=xs.length*4:=by
 induction xs with
 | nil=>rfl
 | cons x r ih=>simp only[flC,List.map_cons,List.flatten_cons,List.length_append,List.length_cons] at ih ⊢;simp at ih ⊢;omega
theorem a4A:∀ (xs:List (Co×Value)) (i:Nat) (hi:i<xs.length) (j:Nat) (u:Value),(coL xs[i].1 xs[i].2)[j]? = some u->(flC xs)[i*4+j]? = some u
 | x::r,0,_,j,u,h=>by
   have hj:j<4:=by have:=(List.getElem?_eq_some_iff.1 h).1;simpa using this
   simp only[flC,List.map_cons,List.flatten_cons,Nat.zero_mul,Nat.zero_add]
   rw[List.getElem?_append_left (by simpa using hj)]
   exact h
 | x::r,i+1,hi,j,u,h=>by
   have:=a4A r i (by simpa using hi) j u (by simpa using h)
   simp only[flC,List.map_cons,List.flatten_cons] at this ⊢
   rw[List.getElem?_append_right (by simp;omega)]
   have e:(i+1)*4+j-(coL x.1 x.2).length=i*4+j:=by simp;omega
   rw[e]
   exact this
theorem b0N:(Tryz.prog.info? 30).map (fun i=>(i.zero,i.size,i.bytes))=some (some (coV ⟨0,0,0,[]⟩ (.slice none 0 0)),4,48):=by kernel_rfl
theorem a3e:∃ i,Tryz.prog.info? 30=some i/\i.zero=some (coV ⟨0,0,0,[]⟩ (.slice none 0 0))/\i.size=4/\i.bytes=48:=by
 have h:=b0N
 cases hi:Tryz.prog.info? 30 with
 | none=>rw[hi] at h;cases h
 | some i=>
   rw[hi] at h
   simp only[Option.map_some,Option.some.injEq,Prod.mk.injEq] at h
   exact⟨i,rfl,h.1,h.2.1,h.2.2⟩
theorem a9E {w:World}{B:Nat}{v:Value}{xs:List (Co×Value)}(h:w.ownsRow B 30 4 v xs.length (flC xs))(hs:∀ x,x∈xs->a0l w x.1 x.2):CAt w v (xs.map (·.1)):=by
 obtain⟨h1,⟨h2,h3⟩ | ⟨g,cap,cur,h2,h3,h4,h5,h6,h7,h8⟩⟩:=h
 ·have:xs=[]:=List.eq_nil_of_length_eq_zero h3
  subst this
  exact⟨none,0,by rw[h2];rfl,Nat.le_refl _,by omega,.inl rfl⟩
 ·have BX:Box w g (flC xs):=(Box.ofBlock h4).part (by rw[<-h8];exact List.take_prefix _ _)
  refine⟨_,cap,by rw[h2];simp,by simpa using h5,h6,.inr ⟨g,0,rfl,BX.lt,fun i hi=>?_⟩⟩
  have hi':i<xs.length:=by simpa using hi
  have hc:=fun j u h=>BX.cell (i*4+j) u (a4A xs i hi' j u h)
  refine⟨xs[i].2,?_,by simpa using hs _ (List.getElem_mem hi')⟩
  simp only[List.getElem_map,Nat.zero_add]
  exact⟨hc 0 _ rfl,hc 1 _ rfl,hc 2 _ rfl,hc 3 _ rfl⟩
theorem a1C (w:World)(a b c d:Value)(t:TypeId):∀ j u,[a,b,c,d][j]? = some u->(w.alloc (.cells #[a,b,c,d] t)).cell? ((⟨w.heap.size,0,none⟩:Addr).add j)=some u:=by
 intro j u hj
 match j,hj with
 | 0,hj=>simp at hj;subst hj;simp[Addr.add]
 | 1,hj=>simp at hj;subst hj;simp[Addr.add]
 | 2,hj=>simp at hj;subst hj;simp[Addr.add]
 | 3,hj=>simp at hj;subst hj;simp[Addr.add]
 | j+4,hj=>simp at hj
def CSP (ok:Nat->Prop)(w:World):Co->Value->Prop
 | ⟨k,n,m,ps⟩,v=>C64 k/\C64 n/\C64 m/\∃ ad cap,v=.slice ad ps.length cap/\ps.length<=cap/\cap<=9223372036854775807 /\
     (ps.length=0\/∃ b off,ad=some ⟨b,off,none⟩/\b<w.heap.size/\ok b/\∀ i (h:i<ps.length),∃ u,a1D w b (off+i*4) ps[i] u /\
       (have:SizeOf.sizeOf ps[i]<SizeOf.sizeOf ps:=List.sizeOf_lt_of_mem (List.getElem_mem h);CSP ok w ps[i] u))
def CAP (ok:Nat->Prop)(w:World)(v:Value)(ps:List Co):Prop:=∃ ad cap,v=.slice ad ps.length cap/\ps.length<=cap/\cap<=9223372036854775807 /\
 (ps.length=0\/∃ b off,ad=some ⟨b,off,none⟩/\b<w.heap.size/\ok b/\∀ i (h:i<ps.length),∃ u,a1D w b (off+i*4) ps[i] u/\CSP ok w ps[i] u)
theorem a2H {ok:Nat->Prop}{w:World}{t:Co}{v:Value}:CSP ok w t v↔b2e t/\CAP ok w v t.parts:=by
 cases t
 rw[CSP]
 exact⟨fun ⟨a,b,c,f⟩=>⟨⟨a,b,c⟩,f⟩,fun ⟨⟨a,b,c⟩,f⟩=>⟨a,b,c,f⟩⟩
theorem CSP.parts {ok:Nat->Prop}{w:World}{t:Co}{v:Value}(h:CSP ok w t v):CAP ok w v t.parts:=(a2H.1 h).2
theorem CSP.sits {ok:Nat->Prop}{w:World}(t:Co):∀ v,CSP ok w t v->a0l w t v:=by
 induction t using Co.ind with
 | h t ih=>
   intro v h
   obtain⟨hf,ad,cap,hv,hl,hc,hp⟩:=a2H.1 h
   refine a1k.2 ⟨hf,ad,cap,hv,hl,hc,?_⟩
   rcases hp with hp | ⟨b,off,ha,hb,-,hp⟩
   ·exact .inl hp
   ·refine .inr ⟨b,off,ha,hb,fun i hi=>?_⟩
    obtain⟨u,h6,hu⟩:=hp i hi
    exact⟨u,h6,ih _ (List.getElem_mem hi) u hu⟩
theorem CSP.keep {ok ok':Nat->Prop}{w w':World}(hs:w.heap.size<=w'.heap.size)(hk:∀ b,b<w.heap.size->ok b->ok' b/\∀ j,w'.cell? ⟨b,j,none⟩=w.cell? ⟨b,j,none⟩)(t:Co):∀ v,CSP ok w t v->CSP ok' w' t v:=by
 induction t using Co.ind with
 | h t ih=>
   intro v h
   obtain⟨hf,ad,cap,hv,hl,hc,hp⟩:=a2H.1 h
   refine a2H.2 ⟨hf,ad,cap,hv,hl,hc,?_⟩
   rcases hp with hp | ⟨b,off,ha,hb,ho,hp⟩
   ·exact .inl hp
   ·refine .inr ⟨b,off,ha,by omega,(hk b hb ho).1,fun i hi=>?_⟩
    obtain⟨u,h6,hu⟩:=hp i hi
    exact⟨u,h6.keep (fun j=>(hk b hb ho).2 j),ih _ (List.getElem_mem hi) u hu⟩
theorem CSP.next {ok:Nat->Prop}{w w':World}{t:Co}{v:Value}(h:CSP ok w t v)(hb:Below w.heap.size w w'):CSP ok w' t v:=
 CSP.keep hb.size (fun b hb1 ho=>⟨ho,fun j=>hb.cell (p:=⟨b,j,none⟩) hb1⟩) t v h
theorem CSP.weak {ok ok':Nat->Prop}{w:World}{t:Co}{v:Value}(h:CSP ok w t v)(hk:∀ b,b<w.heap.size->ok b->ok' b):CSP ok' w t v:=
 CSP.keep (Nat.le_refl _) (fun b hb1 ho=>⟨hk b hb1 ho,fun _=>rfl⟩) t v h
theorem CSP.leaf {ok:Nat->Prop}(w:World){k n m:Int}(h:b2e ⟨k,n,m,[]⟩):CSP ok w ⟨k,n,m,[]⟩ (.slice none 0 0):=
 a2H.2 ⟨h,none,0,rfl,Nat.le_refl _,by omega,.inl rfl⟩
theorem CAP.open {ok:Nat->Prop}{w:World}{v:Value}{ps:List Co}(h:CAP ok w v ps)(hn:0<ps.length):∃ b off cap,v=.slice (some ⟨b,off,none⟩) ps.length cap/\ps.length<=cap/\cap<=9223372036854775807/\b<w.heap.size/\ok b /\
 ∀ i (h:i<ps.length),∃ u,a1D w b (off+i*4) ps[i] u/\CSP ok w ps[i] u:=by
 obtain⟨ad,cap,hv,hl,hc,hp⟩:=h
 rcases hp with hp | ⟨b,off,rfl,hlt,ho,hp⟩
 ·omega
 ·exact⟨b,off,cap,hv,hl,hc,hlt,ho,hp⟩
theorem CAP.shape {ok:Nat->Prop}{w:World}{v:Value}{ps:List Co}(h:CAP ok w v ps):∃ ad cap,v=.slice ad ps.length cap/\ps.length<=cap/\cap<=9223372036854775807:=by
 obtain⟨ad,cap,hv,hl,hc,_⟩:=h
 exact⟨ad,cap,hv,hl,hc⟩
structure a9K (B:Nat)(w:World)(v:Value)(xs:List (Co×Value)):Prop where
 own:w.ownsRow B 30 4 v xs.length (flC xs)
 sits:∀ x,x∈xs->CSP (fun b=>B<=b/\v.ownBlock≠some b) w x.1 x.2
theorem b0T {w w':World}{B:Nat}{e:TypeId}{k n:Nat}{v:Value}{xs:List Value}(h:w.ownsRow B e k v n xs)(hb:Below w.heap.size w w'):w'.ownsRow B e k v n xs:=by
 obtain⟨h1,h2 | ⟨g,cap,cur,h2,h3,h4,h5⟩⟩:=h
 ·exact⟨h1,.inl h2⟩
 ·exact⟨h1,.inr ⟨g,cap,cur,h2,h3,(hb.block g (Array.getElem?_eq_some_iff.1 h4).1).trans h4,h5⟩⟩
theorem a9K.next {B:Nat}{w w':World}{v:Value}{xs:List (Co×Value)}(h:a9K B w v xs)(hb:Below w.heap.size w w'):a9K B w' v xs:=
 ⟨b0T h.own hb,fun x hx=>(h.sits x hx).next hb⟩
theorem a9K.nil (B:Nat)(w:World):a9K B w (.slice none 0 0) []:=⟨World.ownsRow_nil _ _ _ _,fun x hx=>by cases hx⟩
theorem a9K.more {B:Nat}{w1 w2:World}{v:Value}{xs:List (Co×Value)}{x:Co}{u:Value}{g cap:Nat}(h:a9K B w1 v xs)(hx:CSP (fun b=>B<=b/\v.ownBlock≠some b) w1 x u)
 (ho:w2.ownsRow B 30 4 (.slice (some ⟨g,0,none⟩) (xs.length+1) cap) (xs.length+1) (flC xs++coL x u)) (hg:w1.grownBy w2 v.ownBlock) (hl:v.ownBlock=some g\/g=w1.heap.size):a9K B w2 (.slice (some ⟨g,0,none⟩) (xs.length+1) cap) (xs++[(x,u)]):=by
 have key:∀ y z,CSP (fun b=>B<=b/\v.ownBlock≠some b) w1 y z->CSP (fun b=>B<=b/\(Value.slice (some ⟨g,0,none⟩) (xs.length+1) cap).ownBlock≠some b) w2 y z:=fun y z hy=>
  CSP.keep hg.size (fun b hb ho=>⟨⟨ho.1,fun e=>by
   have e':some g=some b:=e
   cases e'
   rcases hl with hl | hl
   ·exact ho.2 hl
   ·omega⟩,fun j=>hg.cell_far ⟨b,j,none⟩ hb (fun e=>ho.2 e.symm)⟩) y z hy
 refine⟨?_,fun y hy=>?_⟩
 ·rw[a4P,List.length_append]
  exact ho
 ·rcases List.mem_append.1 hy with hy | hy
  ·exact key _ _ (h.sits y hy)
  ·rw[List.mem_singleton.1 hy]
   exact key _ _ hx
theorem a9K.done {B:Nat}{w:World}{v:Value}{xs:List (Co×Value)}(h:a9K B w v xs):CAP (fun b=>B<=b) w v (xs.map (·.1)):=by
 obtain⟨h1,⟨h2,h3⟩ | ⟨g,cap,cur,h2,h3,h4,h5,h6,h7,h8⟩⟩:=h.own
 ·exact⟨none,0,by rw[h2,List.length_map,h3],by rw[List.length_map];omega,by omega,.inl (by rw[List.length_map];exact h3)⟩
 ·have BX:Box w g (flC xs):=(Box.ofBlock h4).part (by rw[<-h8];exact List.take_prefix _ _)
  refine⟨_,cap,by rw[h2,List.length_map],by rw[List.length_map];exact h5,h6,.inr ⟨g,0,rfl,BX.lt,h3,fun i hi=>?_⟩⟩
  have hi':i<xs.length:=by rw[List.length_map] at hi;exact hi
  have hc:=fun j u h=>BX.cell (i*4+j) u (a4A xs i hi' j u h)
  refine⟨xs[i].2,?_,?_⟩
  ·rw[List.getElem_map,Nat.zero_add]
   exact⟨hc 0 _ rfl,hc 1 _ rfl,hc 2 _ rfl,hc 3 _ rfl⟩
  ·rw[List.getElem_map]
   exact(h.sits _ (List.getElem_mem hi')).weak (fun b _ hb=>hb.1)
end Go.Proofs.YtdgjjnpdbdmdkaaGreatDoor
