import Derived.Test.YtbddbnjhmdbkbaaGreatDoorCbMhY
import Derived.Test.YtbddbnjhmdbkbaaGreatDoorCbMgW
import Derived.Test.YtbddbnjhmdbkbaaGreatDoorCbCgF
import Derived.Test.YtbddbnjhmdbkbaaGreatDoorCbMgB
import Derived.BigQuiet
namespace Go.Proofs.YtbddbnjhmdbkbaaGreatDoor
open Go.RowKit
structure RuP where
 mn:Int
 mx:Int
 st:Int
 up:Int
 dn:Int
structure WiP where
 m:Int
 a:Int
 s:Int
 p:Int
structure PlP where
 mets:List ByteArray
 ru:RuP
 wins:List WiP
 crons:List Cr
 loc:Int
 gs:List (Co×Co)
 fin:Co
def ruB (r:RuP):Bool:=decide (0<=r.mn/\r.mn<=r.mx/\1<=r.mx/\r.mx<=1000000/\1<=r.st/\r.st<=1000000/\0<=r.up/\r.up<=604800/\0<=r.dn/\r.dn<=604800)
def a1v (g:Co×Co):List Co:=a0r g.1++a0r g.2
def a1O (p:PlP):List Co:=(p.gs.map a1v).flatten++a0r p.fin
def wiB (n:Nat)(x:WiP):Bool:=a2I x.m x.a x.s x.p&&decide (x.m<(n:Int))
def a7i (q:Co->Co->Bool)(s:List (Int×Co))(t:Co):List (Int×Co)×Bool:=
 if t.op=7 then (if 0<=t.n/\t.n<256 then (match s.lookup t.n with
  | none=>((t.n,t.parts.getD 0 co0)::s,true)
  | some c=>(s,q c (t.parts.getD 0 co0))) else (s,false)) else (s,true)
abbrev soP (p:PlP)(c:Co):Int:=a0e a0v p.wins.length p.crons.length p.loc c
def a1N (p:PlP):Bool:=p.gs.all (fun g=>decide (soP p g.1=2)&&decide (soP p g.2=3))&&decide (soP p p.fin=3)
def a3i (p:PlP):Bool:=p.wins.all (wiB p.mets.length)&&p.crons.all cfB
def a2E (p:PlP):Bool:=decide (p.mets.length<=64/\p.wins.length<=256/\p.crons.length<=256/\0<=p.loc/\p.loc<=256)
def a4G (p:PlP):Bool:=decide ((a1O p).length<=4096)
def a2v (q:Co->Co->Bool)(p:PlP):Bool:=(a0g (a7i q) (a1O p) []).2
def a0O (q:Co->Co->Bool)(p:PlP):Bool:=a2E p&&a4G p&&ruB p.ru&&a3i p&&a1N p&&a2v q p
theorem a5g {gs:List (Co×Co)}{f:Co}{g:Co×Co}(h:g∈gs):(a0b g.1+a0b g.2)<=((gs.map a1v).flatten++a0r f).length:=by
 induction gs with
 | nil=>cases h
 | cons y r ih=>
   simp only[List.map_cons,List.flatten_cons,List.append_assoc,List.length_append] at ih ⊢
   rcases List.mem_cons.1 h with rfl | h
   ·unfold a1v a0b;simp only[List.length_append];omega
   ·have:=ih h;omega
theorem a2U {p:PlP}(h:a4G p=true){g:Co×Co}(hg:g∈p.gs):a0b g.1<=4096/\a0b g.2<=4096:=by
 have h1:=of_decide_eq_true h
 have h2:=a5g (f:=p.fin) hg
 unfold a1O at h1
 omega
theorem a6G {p:PlP}(h:a4G p=true):a0b p.fin<=4096:=by
 have h1:=of_decide_eq_true h
 unfold a1O at h1
 rw[List.length_append] at h1
 unfold a0b
 omega
def a0u (w:World)(v:Value)(n k:Nat)(cs:Nat->List Value):Prop:=∃ ad cap,v=.slice ad n cap/\n<=cap/\cap<=9223372036854775807 /\
 (n=0\/∃ b off,ad=some ⟨b,off,none⟩/\b<w.heap.size/\∀ i,i<n->∀ j x,(cs i)[j]? = some x->w.cell? ⟨b,off+i*k+j,none⟩=some x)
theorem a0u.next {w w':World}{v:Value}{n k:Nat}{cs:Nat->List Value}(h:a0u w v n k cs)(hb:Below w.heap.size w w'):a0u w' v n k cs:=by
 obtain⟨ad,cap,hv,h1,h2,hp⟩:=h
 refine⟨ad,cap,hv,h1,h2,?_⟩
 rcases hp with hp | ⟨b,off,ha,hl,hc⟩
 ·exact .inl hp
 ·exact .inr ⟨b,off,ha,ZA hl hb.size,fun i hi j x hx=>(hb.cell (p:=⟨b,_,none⟩) hl).trans (hc i hi j x hx)⟩
theorem a0u.open {w:World}{v:Value}{n k:Nat}{cs:Nat->List Value}(h:a0u w v n k cs)(hn:0<n):∃ b off cap,v=.slice (some ⟨b,off,none⟩) n cap/\n<=cap/\cap<=9223372036854775807/\b<w.heap.size/\∀ i,i<n->∀ j x,(cs i)[j]? = some x->w.cell? ⟨b,off+i*k+j,none⟩=some x:=by
 obtain⟨ad,cap,hv,h1,h2,hp⟩:=h
 rcases hp with hp | ⟨b,off,rfl,hl,hc⟩
 ·omega
 ·exact⟨b,off,cap,hv,h1,h2,hl,hc⟩
theorem a0u.shape {w:World}{v:Value}{n k:Nat}{cs:Nat->List Value}(h:a0u w v n k cs):∃ ad cap,v=.slice ad n cap/\n<=cap/\cap<=9223372036854775807:=by
 obtain⟨ad,cap,hv,h1,h2,_⟩:=h
 exact⟨ad,cap,hv,h1,h2⟩
def wi0:WiP:=⟨0,0,0,0⟩
def cr0:Cr:=⟨0,0,0,0,0⟩
abbrev wiL (x:WiP):List Value:=[.int .i64 x.m,.int .i64 x.a,.int .i64 x.s,.int .i64 x.p]
abbrev crL (c:Cr):List Value:=u5 c.a c.b c.c c.d c.e
def a9S (w:World)(v:Value)(l:List ByteArray):Prop:=a0u w v l.length 1 (fun i=>[.string (l.getD i default)])
def a9s (w:World)(v:Value)(l:List WiP):Prop:=a0u w v l.length 4 (fun i=>wiL (l.getD i wi0))
def a8e (w:World)(v:Value)(l:List Cr):Prop:=a0u w v l.length 5 (fun i=>crL (l.getD i cr0))
def a5W (w:World)(v:Value)(l:List (Co×Co)):Prop:=∃ ad cap,v=.slice ad l.length cap/\l.length<=cap/\cap<=9223372036854775807 /\
 (l.length=0\/∃ b off,ad=some ⟨b,off,none⟩/\b<w.heap.size/\∀ i (h:i<l.length),∃ u1 u2,a4R w b (off+i*8) l[i].1 u1/\a4R w b (off+i*8+4) l[i].2 u2/\a0p w l[i].1 u1/\a0p w l[i].2 u2)
theorem a5W.next {w w':World}{v:Value}{l:List (Co×Co)}(h:a5W w v l)(hb:Below w.heap.size w w'):a5W w' v l:=by
 obtain⟨ad,cap,hv,h1,h2,hp⟩:=h
 refine⟨ad,cap,hv,h1,h2,?_⟩
 rcases hp with hp | ⟨b,off,ha,hl,hc⟩
 ·exact .inl hp
 ·refine .inr ⟨b,off,ha,ZA hl hb.size,fun i hi=>?_⟩
  obtain⟨u1,u2,f1,f2,s1,s2⟩:=hc i hi
  exact⟨u1,u2,f1.keep (fun j=>hb.cell (p:=⟨b,j,none⟩) hl),f2.keep (fun j=>hb.cell (p:=⟨b,j,none⟩) hl),s1.next hb,s2.next hb⟩
theorem a5W.shape {w:World}{v:Value}{l:List (Co×Co)}(h:a5W w v l):∃ ad cap,v=.slice ad l.length cap/\l.length<=cap/\cap<=9223372036854775807:=by
 obtain⟨ad,cap,hv,h1,h2,_⟩:=h
 exact⟨ad,cap,hv,h1,h2⟩
theorem a5W.open {w:World}{v:Value}{l:List (Co×Co)}(h:a5W w v l)(hn:0<l.length):∃ b off cap,v=.slice (some ⟨b,off,none⟩) l.length cap/\l.length<=cap/\cap<=9223372036854775807/\b<w.heap.size /\
 ∀ i (h:i<l.length),∃ u1 u2,a4R w b (off+i*8) l[i].1 u1/\a4R w b (off+i*8+4) l[i].2 u2/\a0p w l[i].1 u1/\a0p w l[i].2 u2:=by
 obtain⟨ad,cap,hv,h1,h2,hp⟩:=h
 rcases hp with hp | ⟨b,off,rfl,hl,hc⟩
 ·omega
 ·exact⟨b,off,cap,hv,h1,h2,hl,hc⟩
structure PlV where
 me:Value
 wi:Value
 cr:Value
 gs:Value
 fi:Value
abbrev plL (p:PlP)(v:PlV):List Value:=[v.me,.int .i64 p.ru.mn,.int .i64 p.ru.mx,.int .i64 p.ru.st,.int .i64 p.ru.up,.int .i64 p.ru.dn,v.wi,v.cr,.int .i64 p.loc,v.gs,.int .i64 p.fin.op,.int .i64 p.fin.n,.int .i64 p.fin.m,v.fi]
abbrev plV (p:PlP)(v:PlV):Value:=.agg (plL p v).toArray
structure b0q (r:RuP):Prop where
 mn:C64 r.mn
 mx:C64 r.mx
 st:C64 r.st
 up:C64 r.up
 dn:C64 r.dn
structure b0j (x:WiP):Prop where
 m:C64 x.m
 a:C64 x.a
 s:C64 x.s
 p:C64 x.p
structure a3a (w:World)(p:PlP)(v:PlV):Prop where
 ru:b0q p.ru
 loc:C64 p.loc
 wok:∀ x,x∈p.wins->b0j x
 cok:∀ x,x∈p.crons->x.Fits
 me:a9S w v.me p.mets
 wi:a9s w v.wi p.wins
 cr:a8e w v.cr p.crons
 gs:a5W w v.gs p.gs
 fi:a0p w p.fin v.fi
theorem a3a.next {w w':World}{p:PlP}{v:PlV}(h:a3a w p v)(hb:Below w.heap.size w w'):a3a w' p v:=
 ⟨h.ru,h.loc,h.wok,h.cok,a0u.next h.me hb,a0u.next h.wi hb,a0u.next h.cr hb,h.gs.next hb,h.fi.next hb⟩
theorem b0w (w0:World):∃ f:World->World,(∀ n,Below w0.heap.size w0 (f n))/\(∀ W,Below w0.heap.size w0 W->∃ n,W=f n):=by
 classical
 refine⟨fun n=>if Below w0.heap.size w0 n then n else w0,fun n=>?_,fun W h=>⟨W,(if_pos h).symm⟩⟩
 show Below w0.heap.size w0 (if Below w0.heap.size w0 n then n else w0)
 by_cases h:Below w0.heap.size w0 n
 ·rw[if_pos h];exact h
 ·rw[if_neg h];exact ZE _ _
theorem a3b {P:Program}{id:Nat}{Q:Exit->Act->World->Prop}{a:Act}{w:World}{l:List Oper}(f:World->World)(hm:P.follows .mixedOrders=true)(hB:Region.lexB .any l.toArray=true)(hC:∃ n,w.drew=f n)
 (h:wpQuiet P l.toArray (fun w'=>∃ n,w'=f n) (fun a'=>∀ w',(∃ n,w'=f n)->Q .normal a' w') l a):(Code.region id l.toArray true).wp P Q a w:=
 wp_region_quiet (C:=fun w'=>∃ n,w'=f n) hm hB hC (by simpa using h)
theorem a0j {w w':World}(h:Below w.heap.size w w'){p:Addr}{v:Value}(hc:w.cell? p=some v):w'.cell? p=some v:=(h.cell (World.block_lt_of_cell? w p hc)).trans hc
end Go.Proofs.YtbddbnjhmdbkbaaGreatDoor
