import Derived.Test.YtkbmgloilckdhaaGreatDoorFpD
import Derived.Test.YtkbmgloilckdhaaGreatDoorFpE
import Derived.Test.YtkbmgloilckdhaaGreatDoorFpF
import Derived.Test.YtkbmgloilckdhaaGreatDoorMpG
import Derived.Test.YtkbmgloilckdhaaGreatDoorMrB
import Derived.Deep.RegionLaw
namespace Go.Proofs.YtkbmgloilckdhaaGreatDoor
open Go.RowKit
theorem a9P (a:Co):(cst a=true/\¬ a.op=6)\/(cst a=false/\a.op=6)\/(cst a=false/\¬ a.op=6):=by
 cases h:cst a with
 | true=>exact .inl ⟨rfl,b1s h⟩
 | false=>
   by_cases h6:a.op=6
   ·exact .inr (.inl ⟨rfl,h6⟩)
   ·exact .inr (.inr ⟨rfl,h6⟩)
theorem a7q {c a:Co}(h6:a.op=6)(ha:sM a≠0)(hm:sM a=sM c):a1G c a.n=a:=by
 obtain⟨e1,-,-,e2⟩:=a2Z h6 ha
 have e2':sM a=a.m:=e2
 exact Co.same.2 ⟨h6.symm,rfl,by show sM c=a.m;rw[<-hm,e2'],e1.symm⟩
theorem a5d {c a:Co}{r:List Co}(hp:c.parts=a::r)(hk:cst a=true):a1U c=a1E c a:=(a0x hp).trans (if_pos hk)
theorem a5e {c a:Co}{r:List Co}(hp:c.parts=a::r)(hk:cst a=false)(h6:a.op=6):a1U c=a1n c a:=(a0x hp).trans ((if_neg (by rw[hk];decide)).trans (if_pos h6))
theorem a5c {c a:Co}{r:List Co}(hp:c.parts=a::r)(hk:cst a=false)(h6:¬ a.op=6):a1U c=c:=(a0x hp).trans ((if_neg (by rw[hk];decide)).trans (if_neg h6))
theorem a1N {ok:Nat->Prop}{w:World}{c D:Co}{v:Value}{f:Nat}{rest:Array Value}(hs:CSP ok w c v)(h:∀ ok' W,CSP ok' W c v->Calls Tryz.prog f (#[coV c v]++rest) W (a0H ok' W D)):∀ W,Below w.heap.size w W->Calls Tryz.prog f (#[coV c v]++rest) W fun e w'=>∃ u,e=.returned (coV D u)/\CSP ok w D u/\Below W.heap.size W w':=fun W hW=>
 (h _ W (hs.low hW)).mono (fun e w' h=>by
   obtain⟨u,h1,h2,h3⟩:=h
   exact⟨u,h1,CSP.back hW _ _ h2,h3⟩)
theorem b3i {ok:Nat->Prop}{w:World}{d:Co}(hl:d.parts=[])(hf:a6R d):CSP ok w d (.slice none 0 0):=by
 obtain⟨k,n,m,ps⟩:=d
 dsimp only at hl
 subst hl
 exact CSP.leaf w hf
set_option maxHeartbeats 1000000 in
theorem b5e (ok:Nat->Prop)(c:Co)(v:Value)(w:World)(hne:c.parts≠[])(hz:sM c≠0)(hn:a0q c<=8192)(hs:CSP ok w c v):
 Calls Tryz.prog 40 #[coV c v] w (a0H ok w (a1U c)):=by
 obtain⟨k,hop,h1,h2,hb,hpz,hsh⟩:=a4J hz
 have hfit:=a8l ⟨w,v,hs.sits⟩ hz
 have hln:=a5I hn
 have hpn:∀ x,x∈c.parts->a0q x<=8192:=fun x hx=>by have:=a0P hx;omega
 have hval:(8<=k/\k<=24)->(∀ x,x∈c.parts->cst x=true)->a1U c=(if (a0f E00 c).2≠0 then a1G c (a0f E00 c).2 else if sM c=2 then ⟨2,(a0f E00 c).1,0,[]⟩ else ⟨1,(a0f E00 c).1,0,[]⟩)->∀ W,Below w.heap.size w W->Calls Tryz.prog 72 #[coV c v] W fun e w'=>∃ u,e=.returned (coV (a1U c) u)/\CSP ok w (a1U c) u/\Below W.heap.size W w':=fun hk hc he W hW=>
  (b2w c v W k hop hk hz hc (hs.sits.next hW)).mono (fun e w' h=>by
    rw[<-he] at h
    refine⟨_,h.1,?_,h.2⟩
    have hl:(a1U c).parts=[]:=by
     rw[he]
     split
     ·rfl
     ·split<;>rfl
    exact b3i hl hfit)
 have hfm:(8<=k/\k<=26)->a2m c.op=sM c:=fun hk=>a6z hop hk hz
 rcases hsh with ⟨hk,e⟩ | ⟨hk,-,x,e,ex⟩ | ⟨hk,hs2,x,e,ex⟩ | ⟨hk,-,x,y,e,ex,ey⟩ | ⟨hk,hs2,x,y,e,ex,ey⟩ | ⟨hk,-,x,y,e,-⟩ | ⟨hk,-,x,y,z,e,ex,ey,-⟩ | ⟨hk,-,x,e,-⟩ | ⟨hk,-,hl⟩
 ·exact absurd e hne
 ·have hx:sM x≠0:=hpz x (by rw[e];simp)
  obtain⟨op,n,m,ps⟩:=c
  dsimp only at e hop
  subst e
  obtain rfl:op=7:=by omega
  rcases a9P x with ⟨q1,q2⟩ | ⟨q1,q2⟩ | ⟨q1,q2⟩
  ·rw[a5d rfl q1];exact b8H ok n m x v w q1 q2 hs
  ·rw[a5e rfl q1 q2,show a1n ⟨7,n,m,[x]⟩ x=a1G ⟨7,n,m,[x]⟩ x.n from rfl,a7q q2 hx ex];exact b8I ok n m x v w q1 q2 hs
  ·rw[a5c rfl q1 q2];exact b8G ok n m x v w q1 q2 hs
 ·have hx:sM x≠0:=hpz x (by rw[e];simp)
  by_cases h13:k=13
  ·obtain⟨op,n,m,ps⟩:=c
   dsimp only at e hop
   subst e
   obtain rfl:op=13:=by omega
   rcases a9P x with ⟨q1,q2⟩ | ⟨q1,q2⟩ | ⟨q1,q2⟩
   ·have hw:=hval (by omega) (fun z hz=>by rw[List.mem_singleton.1 hz];exact q1) (by
     rw[a5d rfl q1,a1A (k:=13) rfl (by omega)]
     unfold a0R
     show (if x.op=6 then _ else if cst x=false then _ else _)=_
     rw[if_neg q2,if_neg (by rw[q1];decide)])
    exact b7t ok n m x v w q1 q2 _ hw hs
   ·rw[a5e rfl q1 q2,show a1n ⟨13,n,m,[x]⟩ x=a1G ⟨13,n,m,[x]⟩ x.n from rfl,a7q q2 hx ex];exact b7u ok n m x v w q1 q2 hs
   ·rw[a5c rfl q1 q2];exact b7s ok n m x v w q1 q2 hs
  ·obtain⟨op,n,m,ps⟩:=c
   dsimp only at e hop hfm
   subst e
   have ho:8<=op/\op<=24/\op≠13:=by omega
   rcases a9P x with ⟨q1,q2⟩ | ⟨q1,q2⟩ | ⟨q1,q2⟩
   ·have hw:=hval (by omega) (fun z hz=>by rw[List.mem_singleton.1 hz];exact q1) (by
     rw[a5d rfl q1,a1A hop (by omega)]
     unfold a0R
     show (if x.op=6 then _ else if cst x=false then _ else _)=_
     rw[if_neg q2,if_neg (by rw[q1];decide)])
    exact b8B ok op n m x v w q1 q2 _ hw ho hs
   ·have e:a1U ⟨op,n,m,[x]⟩=⟨6,x.n,a2m op,[]⟩:=by rw[a5e rfl q1 q2,a1g hop (by omega),hfm (by omega)];rfl
    rw[e] at hfit ⊢
    exact b8C ok op n m x v w q1 q2 hfit ho hs
   ·rw[a5c rfl q1 q2];exact b8A ok op n m x v w q1 q2 ho hs
 ·obtain⟨op,n,m,ps⟩:=c
  dsimp only at e hop hfm
  subst e
  have ho:8<=op/\op<=24/\op≠13:=by omega
  rcases a9P x with ⟨q1,q2⟩ | ⟨q1,q2⟩ | ⟨q1,q2⟩
  ·have hb2:a1U ⟨op,n,m,[x,y]⟩=a0R ⟨op,n,m,[x,y]⟩:=by rw[a5d rfl q1,a1A hop (by omega)]
   rw[a4c (x:=x) (y:=y) rfl] at hb2
   rcases a9P y with ⟨r1,r2⟩ | ⟨r1,r2⟩ | ⟨r1,r2⟩
   ·rw[if_neg r2,if_neg (by rw[r1];decide)] at hb2
    have hw:=hval (by omega) (fun z hz=>by
     rcases List.mem_cons.1 hz with rfl | hz
     ·exact q1
     ·rw[List.mem_singleton.1 hz];exact r1) hb2
    exact b7k ok op n m x y v w q1 q2 r2 r1 _ hw ho hs
   ·rw[if_pos r2] at hb2
    have e:a1U ⟨op,n,m,[x,y]⟩=⟨6,y.n,a2m op,[]⟩:=by rw[hb2,hfm (by omega)];rfl
    rw[e] at hfit ⊢
    exact b7l ok op n m x y v w q1 q2 r2 hfit ho hs
   ·rw[if_neg r2,if_pos r1] at hb2
    rw[hb2];exact b7j ok op n m x y v w q1 q2 r2 r1 ho hs
  ·have e:a1U ⟨op,n,m,[x,y]⟩=⟨6,x.n,a2m op,[]⟩:=by rw[a5e rfl q1 q2,a1g hop (by omega),hfm (by omega)];rfl
   rw[e] at hfit ⊢
   exact b8F ok op n m x y v w q1 q2 hfit ho hs
  ·rw[a5c rfl q1 q2];exact b8E ok op n m x y v w q1 q2 ho hs
 ·have hx:sM x≠0:=hpz x (by rw[e];simp)
  have hs3:sM c=2:=hs2
  obtain⟨op,n,m,ps⟩:=c
  dsimp only at e hop hfm
  subst e
  rcases hk with hk | hk
  ·obtain rfl:op=25:=by omega
   rcases a9P x with ⟨q1,q2⟩ | ⟨q1,q2⟩ | ⟨q1,q2⟩
   ·obtain⟨-,-,q⟩:=a4t q1 hx
    have q01:x.n=0\/x.n=1:=by
     rcases q with ⟨-,q⟩ | ⟨-,q,-⟩
     ·rw[ex] at q;cases q
     ·exact q
    have e1:a1U ⟨25,n,m,[x,y]⟩=if x.n=0 then x else y:=(a5d rfl q1).trans rfl
    rcases q01 with q | q
    ·rw[e1,if_pos q]
     exact b0j ok n m x y v w q1 q2 _ (a1N (rest:=#[_,_,_]) hs (fun ok' W h=>by rw[show (x.n==1)=false by rw[q];rfl];exact b5A ok' n m x y v W h)) hs
    ·rw[e1,if_neg (by omega)]
     exact b0j ok n m x y v w q1 q2 _ (a1N (rest:=#[_,_,_]) hs (fun ok' W h=>by rw[show (x.n==1)=true by rw[q];rfl];exact b5z ok' n m x y v W h)) hs
   ·have e:a1U ⟨25,n,m,[x,y]⟩=⟨6,x.n,2,[]⟩:=by rw[a5e rfl q1 q2,a1g hop (by omega),<-hs3];rfl
    rw[e] at hfit ⊢
    exact b5q ok n m x y v w q1 q2 _ (a1N (rest:=#[_,_,_]) hs (fun ok' W h=>a9i ok' n m x y _ hfit v W h)) hs
   ·rw[a5c rfl q1 q2]
    exact b5r ok n m x y v w q1 q2 _ (a1N (rest:=#[_,_,_]) hs (fun ok' W h=>a9h ok' n m x y _ v W h)) hs
  ·obtain rfl:op=26:=by omega
   rcases a9P x with ⟨q1,q2⟩ | ⟨q1,q2⟩ | ⟨q1,q2⟩
   ·obtain⟨-,-,q⟩:=a4t q1 hx
    have q01:x.n=0\/x.n=1:=by
     rcases q with ⟨-,q⟩ | ⟨-,q,-⟩
     ·rw[ex] at q;cases q
     ·exact q
    have e1:a1U ⟨26,n,m,[x,y]⟩=if x.n=1 then x else y:=(a5d rfl q1).trans rfl
    rcases q01 with q | q
    ·rw[e1,if_neg (by omega)]
     exact b0i ok n m x y v w q1 q2 _ (a1N (rest:=#[_,_,_]) hs (fun ok' W h=>by rw[show (x.n==1)=false by rw[q];rfl];exact b5y ok' n m x y v W h)) hs
    ·rw[e1,if_pos q]
     exact b0i ok n m x y v w q1 q2 _ (a1N (rest:=#[_,_,_]) hs (fun ok' W h=>by rw[show (x.n==1)=true by rw[q];rfl];exact b5x ok' n m x y v W h)) hs
   ·have e:a1U ⟨26,n,m,[x,y]⟩=⟨6,x.n,2,[]⟩:=by rw[a5e rfl q1 q2,a1g hop (by omega),<-hs3];rfl
    rw[e] at hfit ⊢
    exact b5o ok n m x y v w q1 q2 _ (a1N (rest:=#[_,_,_]) hs (fun ok' W h=>a9g ok' n m x y _ hfit v W h)) hs
   ·rw[a5c rfl q1 q2]
    exact b5p ok n m x y v w q1 q2 _ (a1N (rest:=#[_,_,_]) hs (fun ok' W h=>a9f ok' n m x y _ v W h)) hs
 ·obtain⟨op,n,m,ps⟩:=c
  dsimp only at e hop
  subst e
  obtain rfl:op=27:=by omega
  rcases a9P x with ⟨q1,q2⟩ | ⟨q1,q2⟩ | ⟨q1,q2⟩
  ·rw[a5d rfl q1];exact b7q ok n m x y v w q1 q2 hs
  ·rw[a5e rfl q1 q2];exact b7r ok n m x y v w q1 q2 hs
  ·rw[a5c rfl q1 q2];exact b7p ok n m x y v w q1 q2 hs
 ·have hx:sM x≠0:=hpz x (by rw[e];simp)
  have hny:=hpn y (by rw[e];simp)
  obtain⟨op,n,m,ps⟩:=c
  dsimp only at e hop
  subst e
  obtain rfl:op=28:=by omega
  rcases a9P x with ⟨q1,q2⟩ | ⟨q1,q2⟩ | ⟨q1,q2⟩
  ·obtain⟨-,-,q⟩:=a4t q1 hx
   have q01:x.n=0\/x.n=1:=by
    rcases q with ⟨-,q⟩ | ⟨-,q,-⟩
    ·rw[ex] at q;cases q
    ·exact q
   have e1:a1U ⟨28,n,m,[x,y,z]⟩=if x.n=1 then y else z:=(a5d rfl q1).trans rfl
   rcases q01 with q | q
   ·rw[e1,if_neg (by omega)]
    exact b0h ok n m x y z v w q1 q2 _ (a1N (rest:=#[_,_,_]) hs (fun ok' W h=>by rw[show (x.n==1)=false by rw[q];rfl];exact b5w ok' n m x y z v W h)) hs
   ·rw[e1,if_pos q]
    exact b0h ok n m x y z v w q1 q2 _ (a1N (rest:=#[_,_,_]) hs (fun ok' W h=>by rw[show (x.n==1)=true by rw[q];rfl];exact b5v ok' n m x y z v W h)) hs
  ·have e:a1U ⟨28,n,m,[x,y,z]⟩=⟨6,x.n,sM y,[]⟩:=by
    rw[a5e rfl q1 q2,a1g hop (by omega)]
    have ey':sM y=sM ⟨28,n,m,[x,y,z]⟩:=ey
    rw[ey'];rfl
   rw[e] at hfit ⊢
   exact b5m ok n m x y z v w q1 q2 _ (a1N (rest:=#[_,_,_]) hs (fun ok' W h=>a9e ok' n m x y z _ hny hfit v W h)) hs
  ·rw[a5c rfl q1 q2]
   exact b5n ok n m x y z v w q1 q2 _ (a1N (rest:=#[_,_,_]) hs (fun ok' W h=>a9d ok' n m x y z _ v W h)) hs
 ·obtain⟨op,n,m,ps⟩:=c
  dsimp only at e hop
  subst e
  rcases hk with hk | hk
  ·obtain rfl:op=30:=by omega
   rcases a9P x with ⟨q1,q2⟩ | ⟨q1,q2⟩ | ⟨q1,q2⟩
   ·rw[show a1U ⟨30,n,m,[x]⟩=⟨30,n,m,[x]⟩ from (a5d rfl q1).trans rfl];exact b5j ok n m x v w q1 q2 hs
   ·rw[show a1U ⟨30,n,m,[x]⟩=⟨30,n,m,[x]⟩ from (a5e rfl q1 q2).trans rfl];exact b5k ok n m x v w q1 q2 hs
   ·rw[a5c rfl q1 q2];exact b5l ok n m x v w q1 q2 hs
  ·obtain rfl:op=31:=by omega
   rcases a9P x with ⟨q1,q2⟩ | ⟨q1,q2⟩ | ⟨q1,q2⟩
   ·rw[show a1U ⟨31,n,m,[x]⟩=⟨31,n,m,[x]⟩ from (a5d rfl q1).trans rfl];exact b5g ok n m x v w q1 q2 hs
   ·rw[show a1U ⟨31,n,m,[x]⟩=⟨31,n,m,[x]⟩ from (a5e rfl q1 q2).trans rfl];exact b5h ok n m x v w q1 q2 hs
   ·rw[a5c rfl q1 q2];exact b5i ok n m x v w q1 q2 hs
 ·have hl1:=hl.1
  have hl2:=hl.2.1
  rw[List.length_map] at hl1 hl2
  cases hp:c.parts with
  | nil=>exact absurd hp hne
  | cons a r=>
    rw[hp] at hl1 hl2 hln
    obtain⟨op,n,m,ps⟩:=c
    dsimp only at hp hop
    subst hp
    obtain rfl:op=32:=by omega
    rcases a9P a with ⟨q1,q2⟩ | ⟨q1,q2⟩ | ⟨q1,q2⟩
    ·rw[a5d rfl q1]
     exact b7n ok n m a r v w q1 q2 _ (a1N (rest:=#[]) hs (fun ok' W h=>a7H ok' ⟨32,n,m,a::r⟩ v W hl1 hl2 hln h)) hs
    ·rw[show a1U ⟨32,n,m,a::r⟩=⟨32,n,m,a::r⟩ from (a5e rfl q1 q2).trans rfl];exact b7o ok n m a r v w q1 q2 hs
    ·rw[a5c rfl q1 q2];exact b7m ok n m a r v w q1 q2 hs
def b8o (t:Co):Prop:=∀ (v:Value) (w:World),a0m w t v->sM t≠0->a0q t<=8192->Calls Tryz.prog 18 #[coV t v] w fun e w'=>∃ u,e=.returned (coV (a0g t) u)/\CSP (fun b=>w.heap.size<=b) w' (a0g t) u/\Below w.heap.size w w'
theorem a2b {ops:Array Oper}{o:Oper}{a:Act}{w:World}{K:Act->World->Prop}{Q:Exit->Act->World->Prop}{E:Prop}(hgd:o.guard=none){t:Co}(C:b8o t)(hz:sM t≠0)(hn:a0q t<=8192)(v:Value)(hs:a0m w t v)
 (he:(execOp a.eval o).run Tryz.prog w=.ok (.enter 18 #[coV t v]) w)
 (hK:∀ ad c w',CSP (fun b=>w.heap.size<=b) w' (a0g t) (.slice ad (a0g t).parts.length c)->Below w.heap.size w w'->K (a.put o.dst (coV (a0g t) (.slice ad (a0g t).parts.length c))) w') :
 if Region.wanted o (yielded ops a.tmps)=true then Oper.wp Tryz.prog o a w K Q else E:=by
 have hwd:Region.wanted o (yielded ops a.tmps)=true:=by simp[Region.wanted,hgd]
 rw[if_pos hwd]
 unfold Oper.wp
 rw[he,Oper.upon_enter]
 refine(C v w hs hz hn).mono fun e w' h=>?_
 obtain⟨u,rfl,h1,h3⟩:=h
 obtain⟨ad,c,rfl,-,-⟩:=h1.parts.shape
 exact hK ad c w' h1 h3
set_option maxHeartbeats 1000000 in
set_option maxRecDepth 20000 in
theorem a9c (t:Co)(ih:∀ x,x∈t.parts->b8o x):b8o t:=by
 intro v w hs hz hn
 have HIh:=a0a ih
 have HL:=a0a hs.parts
 have HS:=a0a hs
 have HZ:=a0a hz
 have hln:=a5I hn
 obtain⟨q,hop,h1,h2,-,hpz,-⟩:=a2a hz
 have HPz:=a0a hpz
 have HN:=a0a hn
 obtain⟨ad,cap,rfl,k1,k2⟩:=hs.parts.shape
 obtain⟨i0,hi,hz0,hz1,hz2⟩:=a2D
 obtain⟨N,hN⟩:∃ N,Hid (N=t.parts.length):=⟨_,rfl⟩
 rw[<-hN.out] at k1 hln HL HS ⊢
 obtain⟨Y0,Y1,Y2,B0⟩:=a0I w 30 30 30 (coL t (.slice ad N cap)) [.int .i64 0,.int .i64 0,.int .i64 0,.slice none 0 0] [.int .i64 t.op,.int .i64 t.n,.int .i64 t.m,.slice none 0 0]
 have HY0:=a0a Y0
 have HY1:=a0a Y1
 have HB0:=a0a B0
 have HR0:Hid (b4i (w.heap.size+1+1+1) (w.heap.size+1+1) t (.slice none 0 0) [] (((w.alloc (.cells (coL t (.slice ad N cap)).toArray 30)).alloc (.cells [.int .i64 0,.int .i64 0,.int .i64 0,.slice none 0 0].toArray 30)).alloc (.cells [.int .i64 t.op,.int .i64 t.n,.int .i64 t.m,.slice none 0 0].toArray 30))):=a0a ⟨Y2,a7B.nil _ _,by omega⟩
 have H3:Hid (w.heap.size+1+1+1=(((w.alloc (.cells (coL t (.slice ad N cap)).toArray 30)).alloc (.cells [.int .i64 0,.int .i64 0,.int .i64 0,.slice none 0 0].toArray 30)).alloc (.cells [.int .i64 t.op,.int .i64 t.n,.int .i64 t.m,.slice none 0 0].toArray 30)).heap.size):=a0a (by simp)
 clear hs hz hn ih hop h1 h2 hpz Y0 Y1 Y2 B0
 go_enter Tryz.func18,Tryz.ntmps18
 go_wp2_with fail
 generalize hW1:((w.alloc _).alloc _).alloc _=w1 at *
 clear hW1
 go_loopw [4] (fun i wr=>∃ (k:Nat) (xs:List (Co×Value)) (av:Option Addr) (cv:Nat),i=.int .i64 (k:Nat)/\k<=N/\Hid (xs.length=k)/\Hid (xs.map (·.1)=(t.parts.take k).map a0g)/\Hid (b4i (w.heap.size+1+1+1) (w.heap.size+1+1) t (.slice av k cv) xs wr)/\Hid (Below (w.heap.size+1+1) w1 wr)) (fun i _=>match i with | .int _ p=>((N:Int)-p).toNat | _=>0)
 case atStart=>exact⟨0,[],none,0,rfl,by omega,a0a rfl,a0a rfl,HR0,a0a (Below.refl _ _)⟩
 case round=>
  obtain⟨k,xs,av,cv,rfl,hk,HXl,HXs,HRw,HBr⟩:=hrel
  have HBw:Hid (Below w.heap.size w wr):=a0a (HB0.out.trans (HBr.out.mono (by omega)))
  have hwr:Hid (w.heap.size+1+1+1<=wr.heap.size):=a0a (by have:=HBr.out.size;have:=H3.out;omega)
  have Y0:=HY0.out.later HBr.out (by omega)
  have x3:=Y0.cell 3 _ rfl
  have xl:=Y0.lt
  by_cases hlt:k<N
  ·have hlt':(k:Int)<(N:Int):=by omega
   have hl1:k<t.parts.length:=by rw[<-hN.out];exact hlt
   obtain⟨b,off,cap',hv,-,-,hbl,hx⟩:=HL.out.open (by omega)
   simp only[Value.slice.injEq] at hv
   obtain⟨rfl,-,rfl⟩:=hv
   obtain⟨u,h6,hu⟩:=hx k hl1
   have y0:=a0d HBw.out h6.c0
   have y1:=a0d HBw.out h6.c1
   have y2:=a0d HBw.out h6.c2
   have y3:=a0d HBw.out h6.c3
   have lbr:b<wr.heap.size:=World.block_lt_of_cell? wr _ y0
   have HCx:=a0a (HIh.out _ (List.getElem_mem hl1))
   have HZx:=a0a (HPz.out _ (List.getElem_mem hl1))
   have HNx:Hid (a0q t.parts[k]<=8192):=a0a (by have:=a0P (List.getElem_mem hl1);have:=HN.out;omega)
   have HSx:=a0a (hu.next HBw.out)
   have HTk:Hid (t.parts.take (k+1)=t.parts.take k++[t.parts[k]]):=a0a (List.take_succ_eq_append_getElem hl1)
   obtain⟨au,cu,rfl,-,-⟩:=hu.parts.shape
   clear h6 hu hx
   generalize t.parts[k]=x at *
   have o3:=HRw.out.box.cell 3 _ rfl
   have ol:=HRw.out.box.lt
   have of3:=HRw.out.box.free 3 (by simp)
   have hkx:Hid (k=xs.length):=HXl.out.symm
   go_wp2_with fail
   go_region_law (first
    | (refine a2b rfl HCx.out HZx.out HNx.out _ (HSx.out.next (Below.refl _ _).drew) (by first | rfl | go_simp) ?_;intro a4 c4 w60 su60 b60;have C60:=a0a ((HRw.out.next (Below.refl _ _).drew).next b60);have S60:=a0a su60;have c60:=C60.out.box.cell 3 _ rfl;have l60:=C60.out.box.lt;have z60:wr.heap.size<=w60.heap.size:=b60.size;have Z60:=a0a z60;have B60:Hid (Below wr.heap.size wr w60):=a0a ⟨b60.os,b60.tape,b60.output,b60.size,b60.block⟩;clear b60 su60 z60)
    | (refine step_append_lies _ rfl (.tmp 20) (.tmp 27) 28 rfl (w.heap.size+1+1+1) 30 i0 (coV ⟨0,0,0,[]⟩ (.slice none 0 0)) 4 48 Tryz.underlying28 hi hz0 hz1 hz2 rfl (by decide) (.slice av k cv) xs.length (flC xs) (by simp[Act.eval]) (C60.out.row.own.alloc _) ⟨w60.heap.size,0,none⟩ 1 1 (coL (a0g x) (.slice a4 (a0g x).parts.length c4)) (by simp[Act.eval]) rfl (a1q _ _ _ _ _ _) (by intro u hu;simp at hu;rcases hu with rfl | rfl | rfl | rfl<;>rfl) (by decide) (by have:=HXl.out;unfold maxLen;omega) (by have:=HXl.out;omega) (by have:=Z60.out;have:=hwr.out;simp;omega) _ rfl ?_;intro g1 cap1 w61 o1 k1 a1 l1;have BA:=(Below.refl w60.heap.size w60).alloc (Nat.le_refl _) (.cells #[.int .i64 (a0g x).op,.int .i64 (a0g x).n,.int .i64 (a0g x).m,.slice a4 (a0g x).parts.length c4] 30);have A1:=a0a (b4i.grow (x:=a0g x) (C60.out.next BA) ((S60.out.weak (fun b _ hb=>⟨by have:=hwr.out;simp at hb;omega,fun e=>by have h:=(HRw.out.row.own.lt b e).2;simp at hb;omega⟩)).next BA) o1 k1 a1);have K61:=a0a k1;have d60:=A1.out.1.free 3 (by simp);have e60:=A1.out.1.cell 3 _ rfl;have m60:=A1.out.1.lt;clear o1 k1 a1 BA))
   all_goals go_wp2_with fail
   all_goals (
    refine⟨⟨k+1,xs++[(a0g x,Value.slice a4 (a0g x).parts.length c4)],some ⟨g1,0,none⟩,cap1,by simp,by omega,a0a (by rw[List.length_append,HXl.out];rfl),a0a (by rw[HTk.out,List.map_append,List.map_append,HXs.out];rfl),?_,?_⟩,by simp;omega⟩
    ·rw[show k+1=xs.length+1 from by rw[HXl.out]]
     exact a0a A1.out.2
    ·have h1:=HBr.out.trans (B60.out.mono (by have:=hwr.out;omega))
     have h2:=h1.alloc (by have:=Z60.out;have:=hwr.out;omega) (.cells #[.int .i64 (a0g x).op,.int .i64 (a0g x).n,.int .i64 (a0g x).m,.slice a4 (a0g x).parts.length c4] 30)
     have h3:=h2.trans ⟨K61.out.os,K61.out.tape,K61.out.output,K61.out.size,fun q hq=>K61.out.block q (by have:=Z60.out;have:=hwr.out;simp;omega) (fun e=>by have:=(C60.out.row.own.lt q e.symm).1;omega)⟩
     exact a0a (h3.setCell (p:=⟨w.heap.size+1+1,3,none⟩) (Nat.le_refl _) _))
  ·have hlt':¬(k:Int)<(N:Int):=by omega
   obtain rfl:k=N:=by omega
   have hxs:xs.map (·.1)=t.parts.map a0g:=by
    have:=HXs.out
    rw[hN.out,List.take_length] at this
    exact this
   have hCA:=HRw.out.row.done
   rw[hxs] at hCA
   obtain⟨c',hc'⟩:∃ c':Co,Hid (c'=⟨t.op,t.n,t.m,t.parts.map a0g⟩):=⟨_,rfl⟩
   have HFit:=HS.out.fit
   have HSo:=a6q (wn:=256) (cn:=256) (ln:=256) HZ.out (fun x hx=>a7p (by decide) (by decide) (by decide) x (HPz.out x hx))
   have HNo:=a4P t (fun x _=>a5H x)
   rw[<-hc'.out] at HSo HNo
   have hCS:CSP (fun b=>w.heap.size+1+1+1<=b) wr c' (.slice av k cv):=by
    rw[hc'.out]
    exact a2w.2 ⟨⟨HFit.k,HFit.n,HFit.m⟩,hCA⟩
   have hcl:c'.parts.length=k:=by rw[hc'.out];show (t.parts.map a0g).length=k;rw[List.length_map];exact hN.out.symm
   have HCS:=a0a hCS
   have HD:Hid (a0g t=a1U c'):=a0a (by rw[a3j,hc'.out])
   have ho:Hid (c'.op=t.op/\c'.n=t.n/\c'.m=t.m):=by rw[hc'.out];exact a0a ⟨rfl,rfl,rfl⟩
   have Y1:=HY1.out.later HBr.out (by omega)
   have HY1r:=a0a Y1
   obtain⟨y0,y1,y2,y3⟩:=Box.c4 Y1
   have g0:=Y1.free 0 (by simp)
   have g1:=Y1.free 1 (by simp)
   have g2:=Y1.free 2 (by simp)
   have g3:=Y1.free 3 (by simp)
   have yl:=Y1.lt
   obtain⟨o0,o1,o2,o3⟩:=Box.c4 HRw.out.box
   have ol:=HRw.out.box.lt
   have TT:Hid (∀ (a0 a1 a2 a3:Value) (W:World),a0p [w.heap.size+1] W ((((W.setCell ⟨w.heap.size+1,0,none⟩ a0).setCell ⟨w.heap.size+1,1,none⟩ a1).setCell ⟨w.heap.size+1,2,none⟩ a2).setCell ⟨w.heap.size+1,3,none⟩ a3)):=fun a0 a1 a2 a3 W=>
    a0y (a0y (a0y (a0w W _ _ _) (a0w _ _ _ _)) (a0w _ _ _ _)) (a0w _ _ _ _)
   by_cases hk0:k=0
   ·have hD2:Hid (a0g t=c'):=a0a (by rw[HD.out];exact a3m (List.eq_nil_of_length_eq_zero (by omega)))
    have HLen:Hid (c'.parts.length=0):=a0a (by omega)
    subst hk0
    clear HXs HXl HRw hCA hxs hCS HBr HIh HSo HNo HFit HPz hc' hcl Y1 Y0
    go_wp2_with fail
    refine bodyPost_ret (v:=.agg #[.int .i64 t.op,.int .i64 t.n,.int .i64 t.m,.slice av 0 cv]) (by simp[results,Tryz.results18,go_sem, *]) rfl ?_
    refine⟨.slice av 0 cv,by rw[hD2.out,<-ho.out.1,<-ho.out.2.1,<-ho.out.2.2],?_,((((HBw.out.setCell (p:=⟨w.heap.size+1,0,none⟩) (by simp) _).setCell (p:=⟨w.heap.size+1,1,none⟩) (by simp) _).setCell (p:=⟨w.heap.size+1,2,none⟩) (by simp) _).setCell (p:=⟨w.heap.size+1,3,none⟩) (by simp) _)⟩
    rw[hD2.out]
    exact CSP.keep (TT.out _ _ _ _ _).size (fun b hb hB=>⟨by omega,fun j=>a1B (TT.out _ _ _ _ _) hb (by simp;omega)⟩) _ _ HCS.out
   ·have hkp:0<k:=by omega
    have hk0':((k:Int)==0)=false:=by simp;omega
    have HRu:=a0a (b5e _ c' (.slice av k cv) wr (fun e=>by rw[e] at hcl;simp at hcl;omega) (by have h:sM c'=sM t:=HSo;rw[h];exact HZ.out) (by have:=HN.out;omega) hCS)
    clear HXs HXl HRw hCA hxs hCS HBr HIh HSo HNo HFit HPz hc' hcl Y1 Y0 hk0
    go_wp2_with fail
    rw[<-ho.out.1,<-ho.out.2.1,<-ho.out.2.2]
    refine Calls.mono HRu.out ?_
    rintro e w4 ⟨u,rfl,hu,b4⟩
    have B4:=kb HBw b4
    have Y4:=HY1r.out.next b4
    have HU4:=a0a (hu.next b4)
    obtain⟨ua,uc,rfl,-,-⟩:=hu.parts.shape
    clear hu b4 HRu x3 xl y0 y1 y2 y3 g0 g1 g2 g3 yl o0 o1 o2 o3 ol
    obtain⟨D,hD⟩:∃ D,Hid (D=a1U c'):=⟨_,rfl⟩
    rw[<-hD.out] at HD HU4 ⊢
    obtain⟨y0,y1,y2,y3⟩:=Box.c4 Y4
    have g0:=Y4.free 0 (by simp)
    have g1:=Y4.free 1 (by simp)
    have g2:=Y4.free 2 (by simp)
    have g3:=Y4.free 3 (by simp)
    have yl:=Y4.lt
    clear Y4
    go_wp2_with fail
    refine bodyPost_ret (v:=coV D (.slice ua D.parts.length uc)) (by simp[results,Tryz.results18,go_sem, *]) rfl ?_
    refine⟨_,by rw[HD.out],?_,((((B4.out.setCell (p:=⟨w.heap.size+1,0,none⟩) (by simp) _).setCell (p:=⟨w.heap.size+1,1,none⟩) (by simp) _).setCell (p:=⟨w.heap.size+1,2,none⟩) (by simp) _).setCell (p:=⟨w.heap.size+1,3,none⟩) (by simp) _)⟩
    rw[HD.out]
    exact CSP.keep (TT.out _ _ _ _ _).size (fun b hb hB=>⟨by omega,fun j=>a1B (TT.out _ _ _ _ _) hb (by simp;omega)⟩) _ _ HU4.out
theorem a2A (t:Co):b8o t:=by
 induction t using Co.ind with
 | h t ih=>exact a9c t ih
end Go.Proofs.YtkbmgloilckdhaaGreatDoor
