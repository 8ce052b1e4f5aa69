import Derived.Test.YtbddbnjhmdbkbaaGreatDoorCbBoxes
import Derived.Test.YtbddbnjhmdbkbaaGreatDoorCbMoM
section
namespace Go.Proofs.YtbddbnjhmdbkbaaGreatDoor
structure Co where
 op:Int
 n:Int
 m:Int
 parts:List Co
theorem Co.ind {p:Co->Prop}(h:∀ t:Co,(∀ x,x∈t.parts->p x)->p t):∀ t,p t
 | ⟨_,_,_,_⟩=>h _ fun x _=>Co.ind h x
def a0r:Co->List Co
 | ⟨k,n,m,ps⟩=>⟨k,n,m,ps⟩::(ps.map a0r).flatten
theorem a1W (t:Co):a0r t=t::(t.parts.map a0r).flatten:=by cases t;rw[a0r]
def a0b (t:Co):Nat:=(a0r t).length
def a0f (l:List Co):Nat:=((l.map a0r).flatten).length
theorem a0q (t:Co):a0b t=1+a0f t.parts:=by unfold a0b a0f;rw[a1W t];simp;omega
theorem a0m (t:Co):1<=a0b t:=by rw[a0q];omega
theorem a0A:a0f []=0:=rfl
theorem a0d (t:Co)(l:List Co):a0f (t::l)=a0b t+a0f l:=by simp[a0f,a0b]
theorem a1e (l k:List Co):a0f (l++k)=a0f l+a0f k:=by simp[a0f]
theorem a1I {l:List Co}{x:Co}(h:x∈l):a0b x<=a0f l:=by
 induction l with
 | nil=>cases h
 | cons y l ih=>
   rw[a0d]
   rcases List.mem_cons.1 h with rfl | h
   ·omega
   ·have:=ih h;omega
theorem a4O {t x:Co}(h:x∈t.parts):a0b x<a0b t:=by
 have:=a1I h;rw[a0q t];omega
theorem a1c (l:List Co):l.length<=a0f l:=by
 induction l with
 | nil=>simp
 | cons y l ih=>rw[a0d];have:=a0m y;simp only[List.length_cons];omega
theorem Co.same {a b:Co}:a=b↔a.op=b.op/\a.n=b.n/\a.m=b.m/\a.parts=b.parts:=by
 cases a;cases b;simp
theorem a7S (a b:Co):∃ R:Bool,(R=true↔a=b):=by
 rcases Classical.em (a=b) with h | h
 ·exact⟨true,⟨fun _=>h,fun _=>rfl⟩⟩
 ·exact⟨false,⟨fun hh=>absurd hh (by simp),fun hh=>absurd hh h⟩⟩
theorem a4j {R:Bool}{p:Prop}(h:R=true↔p)(hn:¬ p):R=false:=by
 cases R with
 | false=>rfl
 | true=>exact absurd (h.1 rfl) hn
theorem b0i {R:Bool}{p:Prop}(h:R=true↔p)(hp:p):R=true:=h.2 hp
end Go.Proofs.YtbddbnjhmdbkbaaGreatDoor
end
section
namespace Go.Proofs.YtbddbnjhmdbkbaaGreatDoor
open Go.RowKit
theorem a0a {p:Prop}(h:p):Hid p:=h
theorem a0c {B:Nat}{w a b:World}(h:Below B w a)(k:Below a.heap.size a b)(hB:B<=a.heap.size):Below B w b:=h.trans (k.mono hB)
theorem a0B {B:Nat}{w a:World}(h:Below B w a)(k:Nat):Below B w (a.drewN k):=⟨h.os,h.tape,h.output,h.size,h.block⟩
theorem a0l (w:World)(g k:Nat)(v:Value):a0E [g] w (w.setCell ⟨g,k,none⟩ v):=(a0E.refl [g] w).andSet _ _ (.inl (by simp))
theorem a0x {a b d:World}{g:Nat}(h:a0E [g] a b)(k:a0E [g] b d):a0E [g] a d:=h.trans k (fun _ hi=>.inl hi)
theorem a1V {S:List Nat}{w w':World}(k:a0E S w w'){b j:Nat}(hb:b<w.heap.size)(hS:b∉S):w'.cell? ⟨b,j,none⟩=w.cell? ⟨b,j,none⟩:=by
 unfold World.cell?
 rw[k.block b hb hS]
theorem Box.c2 {w:World} {b:Nat} {a0 a1:Value} {r:List Value} (h:Box w b (a0::a1::r)):w.cell? ⟨b,0,none⟩=some a0/\w.cell? ⟨b,1,none⟩=some a1:=⟨h.cell 0 _ rfl,h.cell 1 _ rfl⟩
theorem Box.c3 {w:World} {b:Nat} {a0 a1 a2:Value} {r:List Value} (h:Box w b (a0::a1::a2::r)):w.cell? ⟨b,0,none⟩=some a0/\w.cell? ⟨b,1,none⟩=some a1/\w.cell? ⟨b,2,none⟩=some a2:=⟨h.cell 0 _ rfl,h.cell 1 _ rfl,h.cell 2 _ rfl⟩
theorem Box.c4 {w:World} {b:Nat} {a0 a1 a2 a3:Value} {r:List Value} (h:Box w b (a0::a1::a2::a3::r)):w.cell? ⟨b,0,none⟩=some a0/\w.cell? ⟨b,1,none⟩=some a1/\w.cell? ⟨b,2,none⟩=some a2/\w.cell? ⟨b,3,none⟩=some a3:=⟨h.cell 0 _ rfl,h.cell 1 _ rfl,h.cell 2 _ rfl,h.cell 3 _ rfl⟩
theorem Box.c14 {w:World} {b:Nat} {a0 a1 a2 a3 a4 a5 a6 a7 a8 a9 a10 a11 a12 a13:Value} {r:List Value} (h:Box w b (a0::a1::a2::a3::a4::a5::a6::a7::a8::a9::a10::a11::a12::a13::r)):w.cell? ⟨b,0,none⟩=some a0/\w.cell? ⟨b,1,none⟩=some a1/\w.cell? ⟨b,2,none⟩=some a2/\w.cell? ⟨b,3,none⟩=some a3/\w.cell? ⟨b,4,none⟩=some a4/\w.cell? ⟨b,5,none⟩=some a5/\w.cell? ⟨b,6,none⟩=some a6/\w.cell? ⟨b,7,none⟩=some a7/\w.cell? ⟨b,8,none⟩=some a8/\w.cell? ⟨b,9,none⟩=some a9/\w.cell? ⟨b,10,none⟩=some a10/\w.cell? ⟨b,11,none⟩=some a11/\w.cell? ⟨b,12,none⟩=some a12/\w.cell? ⟨b,13,none⟩=some a13:=⟨h.cell 0 _ rfl,h.cell 1 _ rfl,h.cell 2 _ rfl,h.cell 3 _ rfl,h.cell 4 _ rfl,h.cell 5 _ rfl,h.cell 6 _ rfl,h.cell 7 _ rfl,h.cell 8 _ rfl,h.cell 9 _ rfl,h.cell 10 _ rfl,h.cell 11 _ rfl,h.cell 12 _ rfl,h.cell 13 _ rfl⟩
theorem kb {w a b:World} (h:Hid (Below w.heap.size w a)) (k:Below a.heap.size a b):Hid (Below w.heap.size w b):=a0a (a0c h.out k h.out.size)
theorem kn {w w':World} {b:Nat} {xs:List Value} (h:Hid (Box w b xs)) (k:Below w.heap.size w w'):Hid (Box w' b xs):=a0a (h.out.next k)
def C64 (x:Int):Prop:=-9223372036854775808<=x/\x<=9223372036854775807
abbrev coV (t:Co)(v:Value):Value:=.agg #[.int .i64 t.op,.int .i64 t.n,.int .i64 t.m,v]
abbrev coL (t:Co)(v:Value):List Value:=[.int .i64 t.op,.int .i64 t.n,.int .i64 t.m,v]
structure a4R (w:World)(b o:Nat)(t:Co)(v:Value):Prop where
 c0:w.cell? ⟨b,o,none⟩=some (.int .i64 t.op)
 c1:w.cell? ⟨b,o+1,none⟩=some (.int .i64 t.n)
 c2:w.cell? ⟨b,o+2,none⟩=some (.int .i64 t.m)
 c3:w.cell? ⟨b,o+3,none⟩=some v
def a0p (w:World):Co->Value->Prop
 | ⟨k,n,m,ps⟩,v=>C64 k/\C64 n/\C64 m/\∃ ad cap,v=.slice ad ps.length cap/\ps.length<=cap/\cap<=9223372036854775807 /\
     (ps.length=0\/∃ b off,ad=some ⟨b,off,none⟩/\b<w.heap.size/\∀ i (h:i<ps.length),∃ u,a4R w b (off+i*4) ps[i] u /\
       (have:SizeOf.sizeOf ps[i]<SizeOf.sizeOf ps:=List.sizeOf_lt_of_mem (List.getElem_mem h);a0p w ps[i] u))
structure a9U (t:Co):Prop where
 k:C64 t.op
 n:C64 t.n
 m:C64 t.m
def CAt (w:World)(v:Value)(ps:List Co):Prop:=∃ ad cap,v=.slice ad ps.length cap/\ps.length<=cap/\cap<=9223372036854775807 /\
 (ps.length=0\/∃ b off,ad=some ⟨b,off,none⟩/\b<w.heap.size/\∀ i (h:i<ps.length),∃ u,a4R w b (off+i*4) ps[i] u/\a0p w ps[i] u)
theorem a0P {w:World}{t:Co}{v:Value}:a0p w t v↔a9U t/\CAt w v t.parts:=by
 cases t
 rw[a0p]
 exact⟨fun ⟨a,b,c,f⟩=>⟨⟨a,b,c⟩,f⟩,fun ⟨⟨a,b,c⟩,f⟩=>⟨a,b,c,f⟩⟩
theorem a4R.keep {w w':World}{b o:Nat}{t:Co}{v:Value}(h:a4R w b o t v)(hk:∀ j,w'.cell? ⟨b,j,none⟩=w.cell? ⟨b,j,none⟩):a4R w' b o t v:=
 ⟨(hk _).trans h.c0,(hk _).trans h.c1,(hk _).trans h.c2,(hk _).trans h.c3⟩
theorem a0p.keep {w w':World}(hs:w.heap.size<=w'.heap.size)(hk:∀ b j,b<w.heap.size->w'.cell? ⟨b,j,none⟩=w.cell? ⟨b,j,none⟩)(t:Co):∀ v,a0p w t v->a0p w' t v:=by
 induction t using Co.ind with
 | h t ih=>
   intro v h
   rw[a0P] at h ⊢
   obtain⟨hf,ad,cap,hv,hl,hc,hp⟩:=h
   refine⟨hf,ad,cap,hv,hl,hc,?_⟩
   rcases hp with hp | ⟨b,off,ha,hb,hp⟩
   ·exact .inl hp
   ·refine .inr ⟨b,off,ha,by omega,fun i hi=>?_⟩
    obtain⟨u,h6,hu⟩:=hp i hi
    exact⟨u,h6.keep (fun j=>hk b j hb),ih _ (List.getElem_mem hi) u hu⟩
theorem a0p.next {w w':World}{t:Co}{v:Value}(h:a0p w t v)(hb:Below w.heap.size w w'):a0p w' t v:=
 a0p.keep hb.size (fun b j hj=>hb.cell (p:=⟨b,j,none⟩) hj) t v h
theorem CAt.next {w w':World}{ps:List Co}{v:Value}(h:CAt w v ps)(hb:Below w.heap.size w w'):CAt w' v ps:=by
 obtain⟨ad,cap,hv,hl,hc,hp⟩:=h
 refine⟨ad,cap,hv,hl,hc,?_⟩
 rcases hp with hp | ⟨b,off,ha,hlt,hp⟩
 ·exact .inl hp
 ·refine .inr ⟨b,off,ha,ZA hlt hb.size,fun i hi=>?_⟩
  obtain⟨u,h6,hu⟩:=hp i hi
  exact⟨u,h6.keep (fun j=>hb.cell (p:=⟨b,j,none⟩) hlt),hu.next hb⟩
theorem a0p.fit {w:World}{t:Co}{v:Value}(h:a0p w t v):a9U t:=(a0P.1 h).1
theorem a0p.parts {w:World}{t:Co}{v:Value}(h:a0p w t v):CAt w v t.parts:=(a0P.1 h).2
theorem CAt.open {w:World}{v:Value}{ps:List Co}(h:CAt w v ps)(hn:0<ps.length):∃ b off cap,v=.slice (some ⟨b,off,none⟩) ps.length cap/\ps.length<=cap/\cap<=9223372036854775807/\b<w.heap.size /\
 ∀ i (h:i<ps.length),∃ u,a4R w b (off+i*4) ps[i] u/\a0p w ps[i] u:=by
 obtain⟨ad,cap,hv,hl,hc,hp⟩:=h
 rcases hp with hp | ⟨b,off,rfl,hlt,hp⟩
 ·omega
 ·exact⟨b,off,cap,hv,hl,hc,hlt,hp⟩
theorem CAt.shape {w:World}{v:Value}{ps:List Co}(h:CAt w v ps):∃ ad cap,v=.slice ad ps.length cap/\ps.length<=cap/\cap<=9223372036854775807:=by
 obtain⟨ad,cap,hv,hl,hc,_⟩:=h
 exact⟨ad,cap,hv,hl,hc⟩
def a0g {σ : Type}(vs : σ -> Co -> σ × Bool):List Co -> σ -> σ × Bool
 | [],s=>(s,true)
 | t::r,s=>if (vs s t).2=true then a0g vs r (vs s t).1 else ((vs s t).1,false)
theorem a0y {σ : Type}(vs : σ -> Co -> σ × Bool):∀ (a b:List Co) (s : σ),a0g vs (a++b) s=if (a0g vs a s).2=true then a0g vs b (a0g vs a s).1 else ((a0g vs a s).1,false)
 | [],b,s=>by simp[a0g]
 | t::a,b,s=>by
   rw[List.cons_append,a0g,a0g]
   by_cases h:(vs s t).2=true
   ·rw[if_pos h,if_pos h];exact a0y vs a b _
   ·rw[if_neg h,if_neg h];simp
theorem a1D {σ : Type}{vs : σ -> Co -> σ × Bool}{G : σ -> Prop}(hG:∀ s t,G s->(vs s t).2=true->G (vs s t).1):∀ (l:List Co) (s : σ),G s->(a0g vs l s).2=true->G (a0g vs l s).1
 | [],s,h,_=>h
 | t::r,s,h,k=>by
   rw[a0g] at k ⊢
   by_cases hc:(vs s t).2=true
   ·rw[if_pos hc] at k ⊢;exact a1D hG r _ (hG s t h hc) k
   ·rw[if_neg hc] at k;cases k
def a0F {σ : Type}(R : σ -> List Nat->World->Prop)(q : σ × Bool)(F:List Nat)(w:World)(e:Ending)(w':World):Prop:=
 e=.returned (.bool q.2)/\∃ F',R q.1 F' w'/\a0E F w w'/\∀ b,b∈F'->b∈F\/w.heap.size<=b
theorem a0F.pre {σ : Type}{R : σ -> List Nat->World->Prop}{q : σ × Bool}{F:List Nat}{w w1 w':World}{e:Ending}(h:a0F R q F w1 e w')(hb:Below w.heap.size w w1):a0F R q F w e w':=by
 obtain⟨he,F',hr,ht,hf⟩:=h
 refine⟨he,F',hr,(a0E.of_below (S:=F) hb).trans ht (fun _ hi=>.inl hi),fun b hm=>?_⟩
 rcases hf b hm with k | k
 ·exact .inl k
 ·exact .inr (ZD hb.size k)
theorem a0F.then {σ : Type}{R : σ -> List Nat->World->Prop}{q : σ × Bool}{F F1:List Nat}{w w1 w':World}{e:Ending}(h:a0F R q F1 w1 e w')(ht1:a0E F w w1)(hf1:∀ b,b∈F1->b∈F\/w.heap.size<=b):a0F R q F w e w':=by
 obtain⟨he,F',hr,ht,hf⟩:=h
 refine⟨he,F',hr,ht1.trans ht (fun b hi=>hf1 b hi),fun b hm=>?_⟩
 rcases hf b hm with k | k
 ·exact hf1 b k
 ·exact .inr (ZD ht1.size k)
theorem a5O (l:List Co)(k:Nat)(hk:k<l.length):((l.take (k+1)).map a0r).flatten=((l.take k).map a0r).flatten++a0r l[k]:=by
 rw[List.take_succ_eq_append_getElem hk];simp only[List.map_append,List.flatten_append,List.map_cons,List.map_nil,List.flatten_cons,List.flatten_nil,List.append_nil]
theorem a4P (l:List Co)(k:Nat)(hk:k<l.length):(l.map a0r).flatten=((l.take k).map a0r).flatten++(a0r l[k]++((l.drop (k+1)).map a0r).flatten):=by
 have e:l=l.take k++(l[k]::l.drop (k+1)):=by rw[<-List.drop_eq_getElem_cons hk,List.take_append_drop]
 conv=>lhs;rw[e]
 simp only[List.map_append,List.flatten_append,List.map_cons,List.flatten_cons]
end Go.Proofs.YtbddbnjhmdbkbaaGreatDoor
end
