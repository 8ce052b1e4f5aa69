import Derived.Test.YtkbmgloilckdhaaGreatDoorMhY
import Derived.Test.YtkbmgloilckdhaaGreatDoorMgW
import Derived.Test.YtkbmgloilckdhaaGreatDoorCgF
import Derived.Test.YtkbmgloilckdhaaGreatDoorMgB
import Derived.BigQuiet
import Derived.Deep.DeepAppendWide
import Derived.Deep.AppendLies
namespace Go.Proofs.YtkbmgloilckdhaaGreatDoor
open Go.RowKit
structure RuP where
 mn:Int
 mx:Int
 st:Int
 up:Int
 dn:Int
structure WiP where
 m:Int
 a:Int
 s:Int
 p:Int
structure PlP where
 mets:List ByteArray
 ru:RuP
 wins:List WiP
 crons:List Cr
 loc:Int
 gs:List (Co×Co)
 fin:Co
def ruB (r:RuP):Bool:=decide (0<=r.mn/\r.mn<=r.mx/\1<=r.mx/\r.mx<=1000000/\1<=r.st/\r.st<=1000000/\0<=r.up/\r.up<=604800/\0<=r.dn/\r.dn<=604800)
def a2u (g:Co×Co):List Co:=a0l g.1++a0l g.2
def a2S (p:PlP):List Co:=(p.gs.map a2u).flatten++a0l p.fin
def wiB (n:Nat)(x:WiP):Bool:=a2R x.m x.a x.s x.p&&decide (x.m<(n:Int))
def a0U (q:Co->Co->Bool)(s:List (Int×Co))(t:Co):List (Int×Co)×Bool:=
 if t.op=7 then (if 0<=t.n/\t.n<256 then (match s.lookup t.n with
  | none=>((t.n,t.parts.getD 0 co0)::s,true)
  | some c=>(s,q c (t.parts.getD 0 co0))) else (s,false)) else (s,true)
abbrev soP (p:PlP)(c:Co):Int:=a0k a0t p.wins.length p.crons.length p.loc c
def a1J (p:PlP):Bool:=p.gs.all (fun g=>decide (soP p g.1=2)&&decide (soP p g.2=3))&&decide (soP p p.fin=3)
def a4r (p:PlP):Bool:=p.wins.all (wiB p.mets.length)&&p.crons.all cfB
def a3H (p:PlP):Bool:=decide (p.mets.length<=64/\p.wins.length<=256/\p.crons.length<=256/\0<=p.loc/\p.loc<=256)
def a5p (p:PlP):Bool:=decide ((a2S p).length<=4096)
def a2l (q:Co->Co->Bool)(p:PlP):Bool:=(a0h (a0U q) (a2S p) []).2
def a1f (q:Co->Co->Bool)(p:PlP):Bool:=a3H p&&a5p p&&ruB p.ru&&a4r p&&a1J p&&a2l q p
theorem b3B {gs:List (Co×Co)}{f:Co}{g:Co×Co}(h:g∈gs):(a0q g.1+a0q g.2)<=((gs.map a2u).flatten++a0l f).length:=by
 induction gs with
 | nil=>cases h
 | cons y r ih=>
   simp only[List.map_cons,List.flatten_cons,List.append_assoc,List.length_append] at ih ⊢
   rcases List.mem_cons.1 h with rfl | h
   ·unfold a2u a0q;simp only[List.length_append];omega
   ·have:=ih h;omega
theorem a4W {p:PlP}(h:a5p p=true){g:Co×Co}(hg:g∈p.gs):a0q g.1<=4096/\a0q g.2<=4096:=by
 have h1:=of_decide_eq_true h
 have h2:=b3B (f:=p.fin) hg
 unfold a2S at h1
 omega
theorem b1j {p:PlP}(h:a5p p=true):a0q p.fin<=4096:=by
 have h1:=of_decide_eq_true h
 unfold a2S at h1
 rw[List.length_append] at h1
 unfold a0q
 omega
def a0Y (w:World)(v:Value)(n k:Nat)(cs:Nat->List Value):Prop:=∃ ad cap,v=.slice ad n cap/\n<=cap/\cap<=9223372036854775807 /\
 (n=0\/∃ b off,ad=some ⟨b,off,none⟩/\b<w.heap.size/\∀ i,i<n->∀ j x,(cs i)[j]? = some x->w.cell? ⟨b,off+i*k+j,none⟩=some x)
theorem a0Y.next {w w':World}{v:Value}{n k:Nat}{cs:Nat->List Value}(h:a0Y w v n k cs)(hb:Below w.heap.size w w'):a0Y w' v n k cs:=by
 obtain⟨ad,cap,hv,h1,h2,hp⟩:=h
 refine⟨ad,cap,hv,h1,h2,?_⟩
 rcases hp with hp | ⟨b,off,ha,hl,hc⟩
 ·exact .inl hp
 ·exact .inr ⟨b,off,ha,Nat.lt_of_lt_of_le hl hb.size,fun i hi j x hx=>(hb.cell (p:=⟨b,_,none⟩) hl).trans (hc i hi j x hx)⟩
theorem a0Y.open {w:World}{v:Value}{n k:Nat}{cs:Nat->List Value}(h:a0Y w v n k cs)(hn:0<n):∃ b off cap,v=.slice (some ⟨b,off,none⟩) n cap/\n<=cap/\cap<=9223372036854775807/\b<w.heap.size/\∀ i,i<n->∀ j x,(cs i)[j]? = some x->w.cell? ⟨b,off+i*k+j,none⟩=some x:=by
 obtain⟨ad,cap,hv,h1,h2,hp⟩:=h
 rcases hp with hp | ⟨b,off,rfl,hl,hc⟩
 ·omega
 ·exact⟨b,off,cap,hv,h1,h2,hl,hc⟩
theorem a0Y.shape {w:World}{v:Value}{n k:Nat}{cs:Nat->List Value}(h:a0Y w v n k cs):∃ ad cap,v=.slice ad n cap/\n<=cap/\cap<=9223372036854775807:=by
 obtain⟨ad,cap,hv,h1,h2,_⟩:=h
 exact⟨ad,cap,hv,h1,h2⟩
def wi0:WiP:=⟨0,0,0,0⟩
def cr0:Cr:=⟨0,0,0,0,0⟩
abbrev wiL (x:WiP):List Value:=[.int .i64 x.m,.int .i64 x.a,.int .i64 x.s,.int .i64 x.p]
abbrev crL (c:Cr):List Value:=u5 c.a c.b c.c c.d c.e
def b4P (w:World)(v:Value)(l:List ByteArray):Prop:=a0Y w v l.length 1 (fun i=>[.string (l.getD i default)])
def b8d (w:World)(v:Value)(l:List WiP):Prop:=a0Y w v l.length 4 (fun i=>wiL (l.getD i wi0))
def b6T (w:World)(v:Value)(l:List Cr):Prop:=a0Y w v l.length 5 (fun i=>crL (l.getD i cr0))
def a5h (w:World)(v:Value)(l:List (Co×Co)):Prop:=∃ ad cap,v=.slice ad l.length cap/\l.length<=cap/\cap<=9223372036854775807 /\
 (l.length=0\/∃ b off,ad=some ⟨b,off,none⟩/\b<w.heap.size/\∀ i (h:i<l.length),∃ u1 u2,a2G w b (off+i*8) l[i].1 u1/\a2G w b (off+i*8+4) l[i].2 u2/\a0m w l[i].1 u1/\a0m w l[i].2 u2)
theorem a5h.next {w w':World}{v:Value}{l:List (Co×Co)}(h:a5h w v l)(hb:Below w.heap.size w w'):a5h w' v l:=by
 obtain⟨ad,cap,hv,h1,h2,hp⟩:=h
 refine⟨ad,cap,hv,h1,h2,?_⟩
 rcases hp with hp | ⟨b,off,ha,hl,hc⟩
 ·exact .inl hp
 ·refine .inr ⟨b,off,ha,Nat.lt_of_lt_of_le hl hb.size,fun i hi=>?_⟩
  obtain⟨u1,u2,f1,f2,s1,s2⟩:=hc i hi
  exact⟨u1,u2,f1.keep (fun j=>hb.cell (p:=⟨b,j,none⟩) hl),f2.keep (fun j=>hb.cell (p:=⟨b,j,none⟩) hl),s1.next hb,s2.next hb⟩
theorem a5h.shape {w:World}{v:Value}{l:List (Co×Co)}(h:a5h w v l):∃ ad cap,v=.slice ad l.length cap/\l.length<=cap/\cap<=9223372036854775807:=by
 obtain⟨ad,cap,hv,h1,h2,_⟩:=h
 exact⟨ad,cap,hv,h1,h2⟩
theorem a5h.open {w:World}{v:Value}{l:List (Co×Co)}(h:a5h w v l)(hn:0<l.length):∃ b off cap,v=.slice (some ⟨b,off,none⟩) l.length cap/\l.length<=cap/\cap<=9223372036854775807/\b<w.heap.size /\
 ∀ i (h:i<l.length),∃ u1 u2,a2G w b (off+i*8) l[i].1 u1/\a2G w b (off+i*8+4) l[i].2 u2/\a0m w l[i].1 u1/\a0m w l[i].2 u2:=by
 obtain⟨ad,cap,hv,h1,h2,hp⟩:=h
 rcases hp with hp | ⟨b,off,rfl,hl,hc⟩
 ·omega
 ·exact⟨b,off,cap,hv,h1,h2,hl,hc⟩
structure PlV where
 me:Value
 wi:Value
 cr:Value
 gs:Value
 fi:Value
abbrev plL (p:PlP)(v:PlV):List Value:=[v.me,.int .i64 p.ru.mn,.int .i64 p.ru.mx,.int .i64 p.ru.st,.int .i64 p.ru.up,.int .i64 p.ru.dn,v.wi,v.cr,.int .i64 p.loc,v.gs,.int .i64 p.fin.op,.int .i64 p.fin.n,.int .i64 p.fin.m,v.fi]
abbrev plV (p:PlP)(v:PlV):Value:=.agg (plL p v).toArray
structure b9T (r:RuP):Prop where
 mn:C64 r.mn
 mx:C64 r.mx
 st:C64 r.st
 up:C64 r.up
 dn:C64 r.dn
structure b9O (x:WiP):Prop where
 m:C64 x.m
 a:C64 x.a
 s:C64 x.s
 p:C64 x.p
structure a3c (w:World)(p:PlP)(v:PlV):Prop where
 ru:b9T p.ru
 loc:C64 p.loc
 wok:∀ x,x∈p.wins->b9O x
 cok:∀ x,x∈p.crons->x.Fits
 me:b4P w v.me p.mets
 wi:b8d w v.wi p.wins
 cr:b6T w v.cr p.crons
 gs:a5h w v.gs p.gs
 fi:a0m w p.fin v.fi
theorem a3c.next {w w':World}{p:PlP}{v:PlV}(h:a3c w p v)(hb:Below w.heap.size w w'):a3c w' p v:=
 ⟨h.ru,h.loc,h.wok,h.cok,a0Y.next h.me hb,a0Y.next h.wi hb,a0Y.next h.cr hb,h.gs.next hb,h.fi.next hb⟩
theorem a5q (w0:World):∃ f:World->World,(∀ n,Below w0.heap.size w0 (f n))/\(∀ W,Below w0.heap.size w0 W->∃ n,W=f n):=by
 classical
 refine⟨fun n=>if Below w0.heap.size w0 n then n else w0,fun n=>?_,fun W h=>⟨W,(if_pos h).symm⟩⟩
 show Below w0.heap.size w0 (if Below w0.heap.size w0 n then n else w0)
 by_cases h:Below w0.heap.size w0 n
 ·rw[if_pos h];exact h
 ·rw[if_neg h];exact Below.refl _ _
theorem a0n {P:Program}{id:Nat}{Q:Exit->Act->World->Prop}{a:Act}{w:World}{l:List Oper}(f:World->World)(hm:P.follows .mixedOrders=true)(hB:Region.lexB .any l.toArray=true)(hC:∃ n,w.drew=f n)
 (h:wpQuiet P l.toArray (fun w'=>∃ n,w'=f n) (fun a'=>∀ w',(∃ n,w'=f n)->Q .normal a' w') l a):(Code.region id l.toArray true).wp P Q a w:=
 wp_region_quiet (C:=fun w'=>∃ n,w'=f n) hm hB hC (by simpa using h)
theorem a0d {w w':World}(h:Below w.heap.size w w'){p:Addr}{v:Value}(hc:w.cell? p=some v):w'.cell? p=some v:=(h.cell (World.block_lt_of_cell? w p hc)).trans hc
def flC (xs:List (Co×Value)):List Value:=(xs.map fun x=>coL x.1 x.2).flatten
theorem a4D (xs:List (Co×Value))(x:Co×Value):flC (xs++[x])=flC xs++coL x.1 x.2:=by simp[flC]
theorem a2Y (xs:List (Co×Value)):(flC xs).length=xs.length*4:=by
 induction xs with
 | nil=>rfl
 | cons x r ih=>simp only[flC,List.map_cons,List.flatten_cons,List.length_append,List.length_cons] at ih ⊢;simp at ih ⊢;omega
theorem a4s:∀ (xs:List (Co×Value)) (i:Nat) (hi:i<xs.length) (j:Nat) (u:Value),(coL xs[i].1 xs[i].2)[j]? = some u->(flC xs)[i*4+j]? = some u
 | x::r,0,_,j,u,h=>by
   have hj:j<4:=by have:=(List.getElem?_eq_some_iff.1 h).1;simpa using this
   simp only[flC,List.map_cons,List.flatten_cons,Nat.zero_mul,Nat.zero_add]
   rw[List.getElem?_append_left (by simpa using hj)]
   exact h
 | x::r,i+1,hi,j,u,h=>by
   have:=a4s r i (by simpa using hi) j u (by simpa using h)
   simp only[flC,List.map_cons,List.flatten_cons] at this ⊢
   rw[List.getElem?_append_right (by simp;omega)]
   have e:(i+1)*4+j-(coL x.1 x.2).length=i*4+j:=by simp;omega
   rw[e]
   exact this
theorem b0W:(Tryz.prog.info? 30).map (fun i=>(i.zero,i.size,i.bytes))=some (some (coV ⟨0,0,0,[]⟩ (.slice none 0 0)),4,48):=by kernel_rfl
theorem a2D:∃ i,Tryz.prog.info? 30=some i/\i.zero=some (coV ⟨0,0,0,[]⟩ (.slice none 0 0))/\i.size=4/\i.bytes=48:=by
 have h:=b0W
 cases hi:Tryz.prog.info? 30 with
 | none=>rw[hi] at h;cases h
 | some i=>
   rw[hi] at h
   simp only[Option.map_some,Option.some.injEq,Prod.mk.injEq] at h
   exact⟨i,rfl,h.1,h.2.1,h.2.2⟩
theorem a9H {w:World}{B:Nat}{v:Value}{xs:List (Co×Value)}(h:w.ownsRow B 30 4 v xs.length (flC xs))(hs:∀ x,x∈xs->a0m w x.1 x.2):CAt w v (xs.map (·.1)):=by
 obtain⟨h1,⟨h2,h3⟩ | ⟨g,cap,cur,h2,h3,h4,h5,h6,h7,h8⟩⟩:=h
 ·have:xs=[]:=List.eq_nil_of_length_eq_zero h3
  subst this
  exact⟨none,0,by rw[h2];rfl,Nat.le_refl _,by omega,.inl rfl⟩
 ·have BX:Box w g (flC xs):=(Box.ofBlock h4).part (by rw[<-h8];exact List.take_prefix _ _)
  refine⟨_,cap,by rw[h2];simp,by simpa using h5,h6,.inr ⟨g,0,rfl,BX.lt,fun i hi=>?_⟩⟩
  have hi':i<xs.length:=by simpa using hi
  have hc:=fun j u h=>BX.cell (i*4+j) u (a4s xs i hi' j u h)
  refine⟨xs[i].2,?_,by simpa using hs _ (List.getElem_mem hi')⟩
  simp only[List.getElem_map,Nat.zero_add]
  exact⟨hc 0 _ rfl,hc 1 _ rfl,hc 2 _ rfl,hc 3 _ rfl⟩
theorem a1q (w:World)(a b c d:Value)(t:TypeId):∀ j u,[a,b,c,d][j]? = some u->(w.alloc (.cells #[a,b,c,d] t)).cell? ((⟨w.heap.size,0,none⟩:Addr).add j)=some u:=by
 intro j u hj
 match j,hj with
 | 0,hj=>simp at hj;subst hj;simp[Addr.add]
 | 1,hj=>simp at hj;subst hj;simp[Addr.add]
 | 2,hj=>simp at hj;subst hj;simp[Addr.add]
 | 3,hj=>simp at hj;subst hj;simp[Addr.add]
 | j+4,hj=>simp at hj
def CSP (ok:Nat->Prop)(w:World):Co->Value->Prop
 | ⟨k,n,m,ps⟩,v=>C64 k/\C64 n/\C64 m/\∃ ad cap,v=.slice ad ps.length cap/\ps.length<=cap/\cap<=9223372036854775807 /\
     (ps.length=0\/∃ b off,ad=some ⟨b,off,none⟩/\b<w.heap.size/\ok b/\∀ i (h:i<ps.length),∃ u,a2G w b (off+i*4) ps[i] u /\
       (have:SizeOf.sizeOf ps[i]<SizeOf.sizeOf ps:=List.sizeOf_lt_of_mem (List.getElem_mem h);CSP ok w ps[i] u))
def CAP (ok:Nat->Prop)(w:World)(v:Value)(ps:List Co):Prop:=∃ ad cap,v=.slice ad ps.length cap/\ps.length<=cap/\cap<=9223372036854775807 /\
 (ps.length=0\/∃ b off,ad=some ⟨b,off,none⟩/\b<w.heap.size/\ok b/\∀ i (h:i<ps.length),∃ u,a2G w b (off+i*4) ps[i] u/\CSP ok w ps[i] u)
theorem a2w {ok:Nat->Prop}{w:World}{t:Co}{v:Value}:CSP ok w t v↔a6R t/\CAP ok w v t.parts:=by
 cases t
 rw[CSP]
 exact⟨fun ⟨a,b,c,f⟩=>⟨⟨a,b,c⟩,f⟩,fun ⟨⟨a,b,c⟩,f⟩=>⟨a,b,c,f⟩⟩
theorem CSP.parts {ok:Nat->Prop}{w:World}{t:Co}{v:Value}(h:CSP ok w t v):CAP ok w v t.parts:=(a2w.1 h).2
theorem CSP.sits {ok:Nat->Prop}{w:World}(t:Co):∀ v,CSP ok w t v->a0m w t v:=by
 induction t using Co.ind with
 | h t ih=>
   intro v h
   obtain⟨hf,ad,cap,hv,hl,hc,hp⟩:=a2w.1 h
   refine a1k.2 ⟨hf,ad,cap,hv,hl,hc,?_⟩
   rcases hp with hp | ⟨b,off,ha,hb,-,hp⟩
   ·exact .inl hp
   ·refine .inr ⟨b,off,ha,hb,fun i hi=>?_⟩
    obtain⟨u,h6,hu⟩:=hp i hi
    exact⟨u,h6,ih _ (List.getElem_mem hi) u hu⟩
theorem CSP.keep {ok ok':Nat->Prop}{w w':World}(hs:w.heap.size<=w'.heap.size)(hk:∀ b,b<w.heap.size->ok b->ok' b/\∀ j,w'.cell? ⟨b,j,none⟩=w.cell? ⟨b,j,none⟩)(t:Co):∀ v,CSP ok w t v->CSP ok' w' t v:=by
 induction t using Co.ind with
 | h t ih=>
   intro v h
   obtain⟨hf,ad,cap,hv,hl,hc,hp⟩:=a2w.1 h
   refine a2w.2 ⟨hf,ad,cap,hv,hl,hc,?_⟩
   rcases hp with hp | ⟨b,off,ha,hb,ho,hp⟩
   ·exact .inl hp
   ·refine .inr ⟨b,off,ha,by omega,(hk b hb ho).1,fun i hi=>?_⟩
    obtain⟨u,h6,hu⟩:=hp i hi
    exact⟨u,h6.keep (fun j=>(hk b hb ho).2 j),ih _ (List.getElem_mem hi) u hu⟩
theorem CSP.next {ok:Nat->Prop}{w w':World}{t:Co}{v:Value}(h:CSP ok w t v)(hb:Below w.heap.size w w'):CSP ok w' t v:=
 CSP.keep hb.size (fun b hb1 ho=>⟨ho,fun j=>hb.cell (p:=⟨b,j,none⟩) hb1⟩) t v h
theorem CSP.weak {ok ok':Nat->Prop}{w:World}{t:Co}{v:Value}(h:CSP ok w t v)(hk:∀ b,b<w.heap.size->ok b->ok' b):CSP ok' w t v:=
 CSP.keep (Nat.le_refl _) (fun b hb1 ho=>⟨hk b hb1 ho,fun _=>rfl⟩) t v h
theorem CSP.leaf {ok:Nat->Prop}(w:World){k n m:Int}(h:a6R ⟨k,n,m,[]⟩):CSP ok w ⟨k,n,m,[]⟩ (.slice none 0 0):=
 a2w.2 ⟨h,none,0,rfl,Nat.le_refl _,by omega,.inl rfl⟩
theorem CAP.open {ok:Nat->Prop}{w:World}{v:Value}{ps:List Co}(h:CAP ok w v ps)(hn:0<ps.length):∃ b off cap,v=.slice (some ⟨b,off,none⟩) ps.length cap/\ps.length<=cap/\cap<=9223372036854775807/\b<w.heap.size/\ok b /\
 ∀ i (h:i<ps.length),∃ u,a2G w b (off+i*4) ps[i] u/\CSP ok w ps[i] u:=by
 obtain⟨ad,cap,hv,hl,hc,hp⟩:=h
 rcases hp with hp | ⟨b,off,rfl,hlt,ho,hp⟩
 ·omega
 ·exact⟨b,off,cap,hv,hl,hc,hlt,ho,hp⟩
theorem CAP.shape {ok:Nat->Prop}{w:World}{v:Value}{ps:List Co}(h:CAP ok w v ps):∃ ad cap,v=.slice ad ps.length cap/\ps.length<=cap/\cap<=9223372036854775807:=by
 obtain⟨ad,cap,hv,hl,hc,_⟩:=h
 exact⟨ad,cap,hv,hl,hc⟩
structure a7B (B:Nat)(w:World)(v:Value)(xs:List (Co×Value)):Prop where
 own:w.ownsRow B 30 4 v xs.length (flC xs)
 sits:∀ x,x∈xs->CSP (fun b=>B<=b/\v.ownBlock≠some b) w x.1 x.2
theorem a7o {w w':World}{B:Nat}{e:TypeId}{k n:Nat}{v:Value}{xs:List Value}(h:w.ownsRow B e k v n xs)(hb:Below w.heap.size w w'):w'.ownsRow B e k v n xs:=by
 obtain⟨h1,h2 | ⟨g,cap,cur,h2,h3,h4,h5⟩⟩:=h
 ·exact⟨h1,.inl h2⟩
 ·exact⟨h1,.inr ⟨g,cap,cur,h2,h3,(hb.block g (Array.getElem?_eq_some_iff.1 h4).1).trans h4,h5⟩⟩
theorem a7B.next {B:Nat}{w w':World}{v:Value}{xs:List (Co×Value)}(h:a7B B w v xs)(hb:Below w.heap.size w w'):a7B B w' v xs:=
 ⟨a7o h.own hb,fun x hx=>(h.sits x hx).next hb⟩
theorem a7B.nil (B:Nat)(w:World):a7B B w (.slice none 0 0) []:=⟨World.ownsRow_nil _ _ _ _,fun x hx=>by cases hx⟩
theorem a7B.more {B:Nat}{w1 w2:World}{v:Value}{xs:List (Co×Value)}{x:Co}{u:Value}{g cap:Nat}(h:a7B B w1 v xs)(hx:CSP (fun b=>B<=b/\v.ownBlock≠some b) w1 x u)
 (ho:w2.ownsRow B 30 4 (.slice (some ⟨g,0,none⟩) (xs.length+1) cap) (xs.length+1) (flC xs++coL x u)) (hg:w1.grownBy w2 v.ownBlock) (hl:v.ownBlock=some g\/g=w1.heap.size):a7B B w2 (.slice (some ⟨g,0,none⟩) (xs.length+1) cap) (xs++[(x,u)]):=by
 have key:∀ y z,CSP (fun b=>B<=b/\v.ownBlock≠some b) w1 y z->CSP (fun b=>B<=b/\(Value.slice (some ⟨g,0,none⟩) (xs.length+1) cap).ownBlock≠some b) w2 y z:=fun y z hy=>
  CSP.keep hg.size (fun b hb ho=>⟨⟨ho.1,fun e=>by
   have e':some g=some b:=e
   cases e'
   rcases hl with hl | hl
   ·exact ho.2 hl
   ·omega⟩,fun j=>hg.cell_far ⟨b,j,none⟩ hb (fun e=>ho.2 e.symm)⟩) y z hy
 refine⟨?_,fun y hy=>?_⟩
 ·rw[a4D,List.length_append]
  exact ho
 ·rcases List.mem_append.1 hy with hy | hy
  ·exact key _ _ (h.sits y hy)
  ·rw[List.mem_singleton.1 hy]
   exact key _ _ hx
theorem a7B.done {B:Nat}{w:World}{v:Value}{xs:List (Co×Value)}(h:a7B B w v xs):CAP (fun b=>B<=b) w v (xs.map (·.1)):=by
 obtain⟨h1,⟨h2,h3⟩ | ⟨g,cap,cur,h2,h3,h4,h5,h6,h7,h8⟩⟩:=h.own
 ·exact⟨none,0,by rw[h2,List.length_map,h3],by rw[List.length_map];omega,by omega,.inl (by rw[List.length_map];exact h3)⟩
 ·have BX:Box w g (flC xs):=(Box.ofBlock h4).part (by rw[<-h8];exact List.take_prefix _ _)
  refine⟨_,cap,by rw[h2,List.length_map],by rw[List.length_map];exact h5,h6,.inr ⟨g,0,rfl,BX.lt,h3,fun i hi=>?_⟩⟩
  have hi':i<xs.length:=by rw[List.length_map] at hi;exact hi
  have hc:=fun j u h=>BX.cell (i*4+j) u (a4s xs i hi' j u h)
  refine⟨xs[i].2,?_,?_⟩
  ·rw[List.getElem_map,Nat.zero_add]
   exact⟨hc 0 _ rfl,hc 1 _ rfl,hc 2 _ rfl,hc 3 _ rfl⟩
  ·rw[List.getElem_map]
   exact(h.sits _ (List.getElem_mem hi')).weak (fun b _ hb=>hb.1)
end Go.Proofs.YtkbmgloilckdhaaGreatDoor
