import Derived.Test.YtepncopdjodfgaaGreatDoorFpD
import Derived.Test.YtepncopdjodfgaaGreatDoorMfG
import Derived.Test.YtepncopdjodfgaaGreatDoorMfH
import Derived.Deep.RegionLaw
import Derived.Test.YtepncopdjodfgaaGreatDoorMfE
namespace Go.Proofs.YtepncopdjodfgaaGreatDoor
open Go.RowKit
theorem cls3 (a:Co):(cst a=true/\¬ a.op=6)\/(cst a=false/\a.op=6)\/(cst a=false/\¬ a.op=6):=by
 cases h:cst a with
 | true=>exact .inl ⟨rfl,cst_ne6 h⟩
 | false=>
   by_cases h6:a.op=6
   ·exact .inr (.inl ⟨rfl,h6⟩)
   ·exact .inr (.inr ⟨rfl,h6⟩)
theorem fail_self {c a:Co}(h6:a.op=6)(ha:sM a≠0)(hm:sM a=sM c):failF c a.n=a:=by
 obtain⟨e1,-,-,e2⟩:=fail_of h6 ha
 have e2':sM a=a.m:=e2
 exact Co.same.2 ⟨h6.symm,rfl,by show sM c=a.m;rw[<-hm,e2'],e1.symm⟩
theorem bec_k {c a:Co}{r:List Co}(hp:c.parts=a::r)(hk:cst a=true):becF c=knownF c a:=(becF_cons hp).trans (if_pos hk)
theorem bec_f {c a:Co}{r:List Co}(hp:c.parts=a::r)(hk:cst a=false)(h6:a.op=6):becF c=failedF c a:=(becF_cons hp).trans ((if_neg (by rw[hk];decide)).trans (if_pos h6))
theorem bec_s {c a:Co}{r:List Co}(hp:c.parts=a::r)(hk:cst a=false)(h6:¬ a.op=6):becF c=c:=(becF_cons hp).trans ((if_neg (by rw[hk];decide)).trans (if_neg h6))
theorem later_c {ok:Nat->Prop}{w:World}{c D:Co}{v:Value}{f:Nat}{rest:Array Value}(hs:CSP ok w c v)(h:∀ ok' W,CSP ok' W c v->Calls Tryz.prog f (#[coV c v]++rest) W (FoOut ok' W D)):∀ W,Below w.heap.size w W->Calls Tryz.prog f (#[coV c v]++rest) W fun e w'=>∃ u,e=.returned (coV D u)/\CSP ok w D u/\Below W.heap.size W w':=fun W hW=>
 (h _ W (hs.low hW)).mono (fun e w' h=>by
   obtain⟨u,h1,h2,h3⟩:=h
   exact⟨u,h1,CSP.back hW _ _ h2,h3⟩)
theorem leaf_csp {ok:Nat->Prop}{w:World}{d:Co}(hl:d.parts=[])(hf:CFit d):CSP ok w d (.slice none 0 0):=by
 obtain⟨k,n,m,ps⟩:=d
 dsimp only at hl
 subst hl
 exact CSP.leaf w hf
set_option maxHeartbeats 1000000 in
theorem rrule_c (ok:Nat->Prop)(c:Co)(v:Value)(w:World)(hne:c.parts≠[])(hz:sM c≠0)(hn:cnodes c<=8192)(hs:CSP ok w c v):
 Calls Tryz.prog 90 #[coV c v] w (FoOut ok w (becF c)):=by
 obtain⟨k,hop,h1,h2,hb,hpz,hsh⟩:=shp_of hz
 have hfit:=bec_fit ⟨w,v,hs.sits⟩ hz
 have hln:=fo_len hn
 have hpn:∀ x,x∈c.parts->cnodes x<=8192:=fun x hx=>by have:=cnodes_part hx;omega
 have hval:(8<=k/\k<=24)->(∀ x,x∈c.parts->cst x=true)->becF c=(if (telV E00 c).2≠0 then failF c (telV E00 c).2 else if sM c=2 then ⟨2,(telV E00 c).1,0,[]⟩ else ⟨1,(telV E00 c).1,0,[]⟩)->∀ W,Below w.heap.size w W->Calls Tryz.prog 154 #[coV c v] W fun e w'=>∃ u,e=.returned (coV (becF c) u)/\CSP ok w (becF c) u/\Below W.heap.size W w':=fun hk hc he W hW=>
  (rvalue_c c v W k hop hk hz hc (hs.sits.next hW)).mono (fun e w' h=>by
    rw[<-he] at h
    refine⟨_,h.1,?_,h.2⟩
    have hl:(becF c).parts=[]:=by
     rw[he]
     split
     ·rfl
     ·split<;>rfl
    exact leaf_csp hl hfit)
 have hfm:(8<=k/\k<=26)->failM c.op=sM c:=fun hk=>failM_ok hop hk hz
 rcases hsh with ⟨hk,e⟩ | ⟨hk,-,x,e,ex⟩ | ⟨hk,hs2,x,e,ex⟩ | ⟨hk,-,x,y,e,ex,ey⟩ | ⟨hk,hs2,x,y,e,ex,ey⟩ | ⟨hk,-,x,y,e,-⟩ | ⟨hk,-,x,y,z,e,ex,ey,-⟩ | ⟨hk,-,x,e,-⟩ | ⟨hk,-,hl⟩
 ·exact absurd e hne
 ·have hx:sM x≠0:=hpz x (by rw[e];simp)
  obtain⟨op,n,m,ps⟩:=c
  dsimp only at e hop
  subst e
  obtain rfl:op=7:=by omega
  rcases cls3 x with ⟨q1,q2⟩ | ⟨q1,q2⟩ | ⟨q1,q2⟩
  ·rw[bec_k rfl q1];exact rr7_k ok n m x v w q1 q2 hs
  ·rw[bec_f rfl q1 q2,show failedF ⟨7,n,m,[x]⟩ x=failF ⟨7,n,m,[x]⟩ x.n from rfl,fail_self q2 hx ex];exact rr7_f ok n m x v w q1 q2 hs
  ·rw[bec_s rfl q1 q2];exact rr7_s ok n m x v w q1 q2 hs
 ·have hx:sM x≠0:=hpz x (by rw[e];simp)
  by_cases h13:k=13
  ·obtain⟨op,n,m,ps⟩:=c
   dsimp only at e hop
   subst e
   obtain rfl:op=13:=by omega
   rcases cls3 x with ⟨q1,q2⟩ | ⟨q1,q2⟩ | ⟨q1,q2⟩
   ·have hw:=hval (by omega) (fun z hz=>by rw[List.mem_singleton.1 hz];exact q1) (by
     rw[bec_k rfl q1,known_work (k:=13) rfl (by omega)]
     unfold workedF
     show (if x.op=6 then _ else if cst x=false then _ else _)=_
     rw[if_neg q2,if_neg (by rw[q1];decide)])
    exact rr13_k ok n m x v w q1 q2 _ hw hs
   ·rw[bec_f rfl q1 q2,show failedF ⟨13,n,m,[x]⟩ x=failF ⟨13,n,m,[x]⟩ x.n from rfl,fail_self q2 hx ex];exact rr13_f ok n m x v w q1 q2 hs
   ·rw[bec_s rfl q1 q2];exact rr13_s ok n m x v w q1 q2 hs
  ·obtain⟨op,n,m,ps⟩:=c
   dsimp only at e hop hfm
   subst e
   have ho:8<=op/\op<=24/\op≠13:=by omega
   rcases cls3 x with ⟨q1,q2⟩ | ⟨q1,q2⟩ | ⟨q1,q2⟩
   ·have hw:=hval (by omega) (fun z hz=>by rw[List.mem_singleton.1 hz];exact q1) (by
     rw[bec_k rfl q1,known_work hop (by omega)]
     unfold workedF
     show (if x.op=6 then _ else if cst x=false then _ else _)=_
     rw[if_neg q2,if_neg (by rw[q1];decide)])
    exact rru_k ok op n m x v w q1 q2 _ hw ho hs
   ·have e:becF ⟨op,n,m,[x]⟩=⟨6,x.n,failM op,[]⟩:=by rw[bec_f rfl q1 q2,failed_fail hop (by omega),hfm (by omega)];rfl
    rw[e] at hfit ⊢
    exact rru_f ok op n m x v w q1 q2 hfit ho hs
   ·rw[bec_s rfl q1 q2];exact rru_s ok op n m x v w q1 q2 ho hs
 ·obtain⟨op,n,m,ps⟩:=c
  dsimp only at e hop hfm
  subst e
  have ho:8<=op/\op<=24/\op≠13:=by omega
  rcases cls3 x with ⟨q1,q2⟩ | ⟨q1,q2⟩ | ⟨q1,q2⟩
  ·have hb2:becF ⟨op,n,m,[x,y]⟩=workedF ⟨op,n,m,[x,y]⟩:=by rw[bec_k rfl q1,known_work hop (by omega)]
   rw[worked_two (x:=x) (y:=y) rfl] at hb2
   rcases cls3 y with ⟨r1,r2⟩ | ⟨r1,r2⟩ | ⟨r1,r2⟩
   ·rw[if_neg r2,if_neg (by rw[r1];decide)] at hb2
    have hw:=hval (by omega) (fun z hz=>by
     rcases List.mem_cons.1 hz with rfl | hz
     ·exact q1
     ·rw[List.mem_singleton.1 hz];exact r1) hb2
    exact rrb_kk ok op n m x y v w q1 q2 r2 r1 _ hw ho hs
   ·rw[if_pos r2] at hb2
    have e:becF ⟨op,n,m,[x,y]⟩=⟨6,y.n,failM op,[]⟩:=by rw[hb2,hfm (by omega)];rfl
    rw[e] at hfit ⊢
    exact rrb_kf ok op n m x y v w q1 q2 r2 hfit ho hs
   ·rw[if_neg r2,if_pos r1] at hb2
    rw[hb2];exact rrb_ks ok op n m x y v w q1 q2 r2 r1 ho hs
  ·have e:becF ⟨op,n,m,[x,y]⟩=⟨6,x.n,failM op,[]⟩:=by rw[bec_f rfl q1 q2,failed_fail hop (by omega),hfm (by omega)];rfl
   rw[e] at hfit ⊢
   exact rrb_f ok op n m x y v w q1 q2 hfit ho hs
  ·rw[bec_s rfl q1 q2];exact rrb_s ok op n m x y v w q1 q2 ho hs
 ·have hx:sM x≠0:=hpz x (by rw[e];simp)
  have hs3:sM c=2:=hs2
  obtain⟨op,n,m,ps⟩:=c
  dsimp only at e hop hfm
  subst e
  rcases hk with hk | hk
  ·obtain rfl:op=25:=by omega
   rcases cls3 x with ⟨q1,q2⟩ | ⟨q1,q2⟩ | ⟨q1,q2⟩
   ·obtain⟨-,-,q⟩:=cst_of q1 hx
    have q01:x.n=0\/x.n=1:=by
     rcases q with ⟨-,q⟩ | ⟨-,q,-⟩
     ·rw[ex] at q;cases q
     ·exact q
    have e1:becF ⟨25,n,m,[x,y]⟩=if x.n=0 then x else y:=(bec_k rfl q1).trans rfl
    rcases q01 with q | q
    ·rw[e1,if_pos q]
     exact rr25_10 ok n m x y v w q1 q2 _ (later_c (rest:=#[_,_,_]) hs (fun ok' W h=>by rw[show (x.n==1)=false by rw[q];rfl];exact rch25_0 ok' n m x y v W h)) hs
    ·rw[e1,if_neg (by omega)]
     exact rr25_10 ok n m x y v w q1 q2 _ (later_c (rest:=#[_,_,_]) hs (fun ok' W h=>by rw[show (x.n==1)=true by rw[q];rfl];exact rch25_1 ok' n m x y v W h)) hs
   ·have e:becF ⟨25,n,m,[x,y]⟩=⟨6,x.n,2,[]⟩:=by rw[bec_f rfl q1 q2,failed_fail hop (by omega),<-hs3];rfl
    rw[e] at hfit ⊢
    exact rr25_01 ok n m x y v w q1 q2 _ (later_c (rest:=#[_,_,_]) hs (fun ok' W h=>rch25_fail ok' n m x y _ hfit v W h)) hs
   ·rw[bec_s rfl q1 q2]
    exact rr25_00 ok n m x y v w q1 q2 _ (later_c (rest:=#[_,_,_]) hs (fun ok' W h=>rch25_self ok' n m x y _ v W h)) hs
  ·obtain rfl:op=26:=by omega
   rcases cls3 x with ⟨q1,q2⟩ | ⟨q1,q2⟩ | ⟨q1,q2⟩
   ·obtain⟨-,-,q⟩:=cst_of q1 hx
    have q01:x.n=0\/x.n=1:=by
     rcases q with ⟨-,q⟩ | ⟨-,q,-⟩
     ·rw[ex] at q;cases q
     ·exact q
    have e1:becF ⟨26,n,m,[x,y]⟩=if x.n=1 then x else y:=(bec_k rfl q1).trans rfl
    rcases q01 with q | q
    ·rw[e1,if_neg (by omega)]
     exact rr26_10 ok n m x y v w q1 q2 _ (later_c (rest:=#[_,_,_]) hs (fun ok' W h=>by rw[show (x.n==1)=false by rw[q];rfl];exact rch26_0 ok' n m x y v W h)) hs
    ·rw[e1,if_pos q]
     exact rr26_10 ok n m x y v w q1 q2 _ (later_c (rest:=#[_,_,_]) hs (fun ok' W h=>by rw[show (x.n==1)=true by rw[q];rfl];exact rch26_1 ok' n m x y v W h)) hs
   ·have e:becF ⟨26,n,m,[x,y]⟩=⟨6,x.n,2,[]⟩:=by rw[bec_f rfl q1 q2,failed_fail hop (by omega),<-hs3];rfl
    rw[e] at hfit ⊢
    exact rr26_01 ok n m x y v w q1 q2 _ (later_c (rest:=#[_,_,_]) hs (fun ok' W h=>rch26_fail ok' n m x y _ hfit v W h)) hs
   ·rw[bec_s rfl q1 q2]
    exact rr26_00 ok n m x y v w q1 q2 _ (later_c (rest:=#[_,_,_]) hs (fun ok' W h=>rch26_self ok' n m x y _ v W h)) hs
 ·obtain⟨op,n,m,ps⟩:=c
  dsimp only at e hop
  subst e
  obtain rfl:op=27:=by omega
  rcases cls3 x with ⟨q1,q2⟩ | ⟨q1,q2⟩ | ⟨q1,q2⟩
  ·rw[bec_k rfl q1];exact rr27_k ok n m x y v w q1 q2 hs
  ·rw[bec_f rfl q1 q2];exact rr27_f ok n m x y v w q1 q2 hs
  ·rw[bec_s rfl q1 q2];exact rr27_s ok n m x y v w q1 q2 hs
 ·have hx:sM x≠0:=hpz x (by rw[e];simp)
  have hny:=hpn y (by rw[e];simp)
  obtain⟨op,n,m,ps⟩:=c
  dsimp only at e hop
  subst e
  obtain rfl:op=28:=by omega
  rcases cls3 x with ⟨q1,q2⟩ | ⟨q1,q2⟩ | ⟨q1,q2⟩
  ·obtain⟨-,-,q⟩:=cst_of q1 hx
   have q01:x.n=0\/x.n=1:=by
    rcases q with ⟨-,q⟩ | ⟨-,q,-⟩
    ·rw[ex] at q;cases q
    ·exact q
   have e1:becF ⟨28,n,m,[x,y,z]⟩=if x.n=1 then y else z:=(bec_k rfl q1).trans rfl
   rcases q01 with q | q
   ·rw[e1,if_neg (by omega)]
    exact rr28_10 ok n m x y z v w q1 q2 _ (later_c (rest:=#[_,_,_]) hs (fun ok' W h=>by rw[show (x.n==1)=false by rw[q];rfl];exact rch28_0 ok' n m x y z v W h)) hs
   ·rw[e1,if_pos q]
    exact rr28_10 ok n m x y z v w q1 q2 _ (later_c (rest:=#[_,_,_]) hs (fun ok' W h=>by rw[show (x.n==1)=true by rw[q];rfl];exact rch28_1 ok' n m x y z v W h)) hs
  ·have e:becF ⟨28,n,m,[x,y,z]⟩=⟨6,x.n,sM y,[]⟩:=by
    rw[bec_f rfl q1 q2,failed_fail hop (by omega)]
    have ey':sM y=sM ⟨28,n,m,[x,y,z]⟩:=ey
    rw[ey'];rfl
   rw[e] at hfit ⊢
   exact rr28_01 ok n m x y z v w q1 q2 _ (later_c (rest:=#[_,_,_]) hs (fun ok' W h=>rch28_fail ok' n m x y z _ hny hfit v W h)) hs
  ·rw[bec_s rfl q1 q2]
   exact rr28_00 ok n m x y z v w q1 q2 _ (later_c (rest:=#[_,_,_]) hs (fun ok' W h=>rch28_self ok' n m x y z _ v W h)) hs
 ·obtain⟨op,n,m,ps⟩:=c
  dsimp only at e hop
  subst e
  rcases hk with hk | hk
  ·obtain rfl:op=30:=by omega
   rcases cls3 x with ⟨q1,q2⟩ | ⟨q1,q2⟩ | ⟨q1,q2⟩
   ·rw[show becF ⟨30,n,m,[x]⟩=⟨30,n,m,[x]⟩ from (bec_k rfl q1).trans rfl];exact rr30_10 ok n m x v w q1 q2 hs
   ·rw[show becF ⟨30,n,m,[x]⟩=⟨30,n,m,[x]⟩ from (bec_f rfl q1 q2).trans rfl];exact rr30_01 ok n m x v w q1 q2 hs
   ·rw[bec_s rfl q1 q2];exact rr30_00 ok n m x v w q1 q2 hs
  ·obtain rfl:op=31:=by omega
   rcases cls3 x with ⟨q1,q2⟩ | ⟨q1,q2⟩ | ⟨q1,q2⟩
   ·rw[show becF ⟨31,n,m,[x]⟩=⟨31,n,m,[x]⟩ from (bec_k rfl q1).trans rfl];exact rr31_10 ok n m x v w q1 q2 hs
   ·rw[show becF ⟨31,n,m,[x]⟩=⟨31,n,m,[x]⟩ from (bec_f rfl q1 q2).trans rfl];exact rr31_01 ok n m x v w q1 q2 hs
   ·rw[bec_s rfl q1 q2];exact rr31_00 ok n m x v w q1 q2 hs
 ·have hl1:=hl.1
  have hl2:=hl.2.1
  rw[List.length_map] at hl1 hl2
  cases hp:c.parts with
  | nil=>exact absurd hp hne
  | cons a r=>
    rw[hp] at hl1 hl2 hln
    obtain⟨op,n,m,ps⟩:=c
    dsimp only at hp hop
    subst hp
    obtain rfl:op=32:=by omega
    rcases cls3 a with ⟨q1,q2⟩ | ⟨q1,q2⟩ | ⟨q1,q2⟩
    ·rw[bec_k rfl q1]
     exact rr32_k ok n m a r v w q1 q2 _ (later_c (rest:=#[]) hs (fun ok' W h=>rladder18_c ok' ⟨32,n,m,a::r⟩ v W hl1 hl2 hln h)) hs
    ·rw[show becF ⟨32,n,m,a::r⟩=⟨32,n,m,a::r⟩ from (bec_f rfl q1 q2).trans rfl];exact rr32_f ok n m a r v w q1 q2 hs
    ·rw[bec_s rfl q1 q2];exact rr32_s ok n m a r v w q1 q2 hs
def RFoC (t:Co):Prop:=∀ (v:Value) (w:World),CSits w t v->sM t≠0->cnodes t<=8192->Calls Tryz.prog 52 #[coV t v] w fun e w'=>∃ u,e=.returned (coV (foldF t) u)/\CSP (fun b=>w.heap.size<=b) w' (foldF t) u/\Below w.heap.size w w'
theorem step_rfold {ops:Array Oper}{o:Oper}{a:Act}{w:World}{K:Act->World->Prop}{Q:Exit->Act->World->Prop}{E:Prop}(hgd:o.guard=none){t:Co}(C:RFoC t)(hz:sM t≠0)(hn:cnodes t<=8192)(v:Value)(hs:CSits w t v)
 (he:(execOp a.eval o).run Tryz.prog w=.ok (.enter 52 #[coV t v]) w)
 (hK:∀ ad c w',CSP (fun b=>w.heap.size<=b) w' (foldF t) (.slice ad (foldF t).parts.length c)->Below w.heap.size w w'->K (a.put o.dst (coV (foldF t) (.slice ad (foldF t).parts.length c))) w') :
 if Region.wanted o (yielded ops a.tmps)=true then Oper.wp Tryz.prog o a w K Q else E:=by
 have hwd:Region.wanted o (yielded ops a.tmps)=true:=by simp[Region.wanted,hgd]
 rw[if_pos hwd]
 unfold Oper.wp
 rw[he,Oper.upon_enter]
 refine(C v w hs hz hn).mono fun e w' h=>?_
 obtain⟨u,rfl,h1,h3⟩:=h
 obtain⟨ad,c,rfl,-,-⟩:=h1.parts.shape
 exact hK ad c w' h1 h3
structure RfAt (B ob:Nat)(t:Co)(v:Value)(xs:List (Co×Value))(w:World):Prop where
 box:Box w ob [.int .i64 t.op,.int .i64 t.n,.int .i64 t.m,v]
 row:FRow B w v xs
 lt:ob<B
theorem RfAt.next {B ob:Nat}{t:Co}{v:Value}{xs:List (Co×Value)}{w w':World}(h:RfAt B ob t v xs w)(hb:Below w.heap.size w w'):RfAt B ob t v xs w':=⟨h.box.next hb,h.row.next hb,h.lt⟩
theorem row_ge {B:Nat}{w:World}{v:Value}{xs:List (Co×Value)}(h:FRow B w v xs){g:Nat}(hg:v.ownBlock=some g):B<=g:=(h.own.lt g hg).1
theorem box_far {w w':World}{b:Nat}{vs:List Value}{row:Option Nat}(h:Box w b vs)(hg:w.grownBy w' row)(hn:some b≠row):Box w' b vs:=
 ⟨fun i v hv=>(hg.cell_far ⟨b,i,none⟩ h.lt hn).trans (h.cell i v hv),fun i hi=>(hg.frozen_far ⟨b,i,none⟩ h.lt hn).trans (h.free i hi),Nat.lt_of_lt_of_le h.lt hg.size⟩
theorem RfAt.grow {B ob:Nat}{t x:Co}{v u:Value}{xs:List (Co×Value)}{w1 w2:World}{g cap:Nat}(h:RfAt B ob t v xs w1)(hx:CSP (fun b=>B<=b/\v.ownBlock≠some b) w1 x u)
 (ho:w2.ownsRow B 30 4 (.slice (some ⟨g,0,none⟩) (xs.length+1) cap) (xs.length+1) (flC xs++coL x u)) (hg:w1.grownBy w2 v.ownBlock) (hl:v.ownBlock=some g\/g=w1.heap.size) :
 Box w2 ob [.int .i64 t.op,.int .i64 t.n,.int .i64 t.m,v]/\RfAt B ob t (.slice (some ⟨g,0,none⟩) (xs.length+1) cap) (xs++[(x,u)]) (w2.setCell ⟨ob,3,none⟩ (.slice (some ⟨g,0,none⟩) (xs.length+1) cap)):=by
 have b2:Box w2 ob [.int .i64 t.op,.int .i64 t.n,.int .i64 t.m,v]:=box_far h.box hg (fun e=>by have:=row_ge h.row e.symm;have:=h.lt;omega)
 have r2:=h.row.more hx ho hg hl
 have hgB:B<=g:=(ho.lt g rfl).1
 have T:=cturn_set w2 ob 3 (.slice (some ⟨g,0,none⟩) (xs.length+1) cap)
 refine⟨b2,b2.set 3 (by simp) _,⟨?_,fun y hy=>?_⟩,h.lt⟩
 ·obtain⟨h1,⟨h2,h3⟩ | ⟨g',cap',cur,h2,h3,h4,h5⟩⟩:=r2.own
  ·cases h2
  ·exact⟨h1,.inr ⟨g',cap',cur,h2,h3,(T.block g' (Array.getElem?_eq_some_iff.1 h4).1 (by have:=h.lt;simp;omega)).trans h4,h5⟩⟩
 ·exact CSP.keep T.size (fun b hb hk=>⟨hk,fun j=>cturn_cell T hb (by have:=h.lt;have:=hk.1;simp;omega)⟩) _ _ (r2.sits y hy)
set_option maxHeartbeats 1000000 in
set_option maxRecDepth 20000 in
theorem rfold_step (t:Co)(ih:∀ x,x∈t.parts->RFoC x):RFoC t:=by
 intro v w hs hz hn
 have HIh:=chid ih
 have HL:=chid hs.parts
 have HS:=chid hs
 have HZ:=chid hz
 have hln:=fo_len hn
 obtain⟨q,hop,h1,h2,-,hpz,-⟩:=formed_w hz
 have HPz:=chid hpz
 have HN:=chid hn
 obtain⟨ad,cap,rfl,k1,k2⟩:=hs.parts.shape
 obtain⟨i0,hi,hz0,hz1,hz2⟩:=info_core'
 obtain⟨N,hN⟩:∃ N,Hid (N=t.parts.length):=⟨_,rfl⟩
 rw[<-hN.out] at k1 hln HL HS ⊢
 obtain⟨Y0,Y1,Y2,B0⟩:=three_boxes w 30 30 30 (coL t (.slice ad N cap)) [.int .i64 0,.int .i64 0,.int .i64 0,.slice none 0 0] [.int .i64 t.op,.int .i64 t.n,.int .i64 t.m,.slice none 0 0]
 have HY0:=chid Y0
 have HY1:=chid Y1
 have HB0:=chid B0
 have HR0:Hid (RfAt (w.heap.size+1+1+1) (w.heap.size+1+1) t (.slice none 0 0) [] (((w.alloc (.cells (coL t (.slice ad N cap)).toArray 30)).alloc (.cells [.int .i64 0,.int .i64 0,.int .i64 0,.slice none 0 0].toArray 30)).alloc (.cells [.int .i64 t.op,.int .i64 t.n,.int .i64 t.m,.slice none 0 0].toArray 30))):=chid ⟨Y2,FRow.nil _ _,by omega⟩
 have H3:Hid (w.heap.size+1+1+1=(((w.alloc (.cells (coL t (.slice ad N cap)).toArray 30)).alloc (.cells [.int .i64 0,.int .i64 0,.int .i64 0,.slice none 0 0].toArray 30)).alloc (.cells [.int .i64 t.op,.int .i64 t.n,.int .i64 t.m,.slice none 0 0].toArray 30)).heap.size):=chid (by simp)
 clear hs hz hn ih hop h1 h2 hpz Y0 Y1 Y2 B0
 go_enter Tryz.func52,Tryz.ntmps52
 go_wp2_with fail
 generalize hW1:((w.alloc _).alloc _).alloc _=w1 at *
 clear hW1
 go_loopw [4] (fun i wr=>∃ (k:Nat) (xs:List (Co×Value)) (av:Option Addr) (cv:Nat),i=.int .i64 (k:Nat)/\k<=N/\Hid (xs.length=k)/\Hid (xs.map (·.1)=(t.parts.take k).map foldF)/\Hid (RfAt (w.heap.size+1+1+1) (w.heap.size+1+1) t (.slice av k cv) xs wr)/\Hid (Below (w.heap.size+1+1) w1 wr)) (fun i _=>match i with | .int _ p=>((N:Int)-p).toNat | _=>0)
 case atStart=>exact⟨0,[],none,0,rfl,by omega,chid rfl,chid rfl,HR0,chid (Below.refl _ _)⟩
 case round=>
  obtain⟨k,xs,av,cv,rfl,hk,HXl,HXs,HRw,HBr⟩:=hrel
  have HBw:Hid (Below w.heap.size w wr):=chid (HB0.out.trans (HBr.out.mono (by omega)))
  have hwr:Hid (w.heap.size+1+1+1<=wr.heap.size):=chid (by have:=HBr.out.size;have:=H3.out;omega)
  have Y0:=HY0.out.later HBr.out (by omega)
  have x3:=Y0.cell 3 _ rfl
  have xl:=Y0.lt
  by_cases hlt:k<N
  ·have hlt':(k:Int)<(N:Int):=by omega
   have hl1:k<t.parts.length:=by rw[<-hN.out];exact hlt
   obtain⟨b,off,cap',hv,-,-,hbl,hx⟩:=HL.out.open (by omega)
   simp only[Value.slice.injEq] at hv
   obtain⟨rfl,-,rfl⟩:=hv
   obtain⟨u,h6,hu⟩:=hx k hl1
   have y0:=keepc HBw.out h6.c0
   have y1:=keepc HBw.out h6.c1
   have y2:=keepc HBw.out h6.c2
   have y3:=keepc HBw.out h6.c3
   have lbr:b<wr.heap.size:=World.block_lt_of_cell? wr _ y0
   have HCx:=chid (HIh.out _ (List.getElem_mem hl1))
   have HZx:=chid (HPz.out _ (List.getElem_mem hl1))
   have HNx:Hid (cnodes t.parts[k]<=8192):=chid (by have:=cnodes_part (List.getElem_mem hl1);have:=HN.out;omega)
   have HSx:=chid (hu.next HBw.out)
   have HTk:Hid (t.parts.take (k+1)=t.parts.take k++[t.parts[k]]):=chid (List.take_succ_eq_append_getElem hl1)
   obtain⟨au,cu,rfl,-,-⟩:=hu.parts.shape
   clear h6 hu hx
   generalize t.parts[k]=x at *
   have o3:=HRw.out.box.cell 3 _ rfl
   have ol:=HRw.out.box.lt
   have of3:=HRw.out.box.free 3 (by simp)
   have hkx:Hid (k=xs.length):=HXl.out.symm
   go_wp2_with fail
   go_region_law (first
    | (refine step_rfold rfl HCx.out HZx.out HNx.out _ (HSx.out.next (Below.refl _ _).drew) (by first | rfl | go_simp) ?_;intro a4 c4 w60 su60 b60;have C60:=chid ((HRw.out.next (Below.refl _ _).drew).next b60);have S60:=chid su60;have c60:=C60.out.box.cell 3 _ rfl;have l60:=C60.out.box.lt;have z60:wr.heap.size<=w60.heap.size:=b60.size;have Z60:=chid z60;have B60:Hid (Below wr.heap.size wr w60):=chid ⟨b60.os,b60.tape,b60.output,b60.size,b60.block⟩;clear b60 su60 z60)
    | (refine step_append_lies _ rfl (.tmp 20) (.tmp 27) 28 rfl (w.heap.size+1+1+1) 30 i0 (coV ⟨0,0,0,[]⟩ (.slice none 0 0)) 4 48 Tryz.underlying28 hi hz0 hz1 hz2 rfl (by decide) (.slice av k cv) xs.length (flC xs) (by simp[Act.eval]) (C60.out.row.own.alloc _) ⟨w60.heap.size,0,none⟩ 1 1 (coL (foldF x) (.slice a4 (foldF x).parts.length c4)) (by simp[Act.eval]) rfl (ce_four_new _ _ _ _ _ _) (by intro u hu;simp at hu;rcases hu with rfl | rfl | rfl | rfl<;>rfl) (by decide) (by have:=HXl.out;unfold maxLen;omega) (by have:=HXl.out;omega) (by have:=Z60.out;have:=hwr.out;simp;omega) _ rfl ?_;intro g1 cap1 w61 o1 k1 a1 l1;have BA:=(Below.refl w60.heap.size w60).alloc (Nat.le_refl _) (.cells #[.int .i64 (foldF x).op,.int .i64 (foldF x).n,.int .i64 (foldF x).m,.slice a4 (foldF x).parts.length c4] 30);have A1:=chid (RfAt.grow (x:=foldF x) (C60.out.next BA) ((S60.out.weak (fun b _ hb=>⟨by have:=hwr.out;simp at hb;omega,fun e=>by have h:=(HRw.out.row.own.lt b e).2;simp at hb;omega⟩)).next BA) o1 k1 a1);have K61:=chid k1;have d60:=A1.out.1.free 3 (by simp);have e60:=A1.out.1.cell 3 _ rfl;have m60:=A1.out.1.lt;clear o1 k1 a1 BA))
   all_goals go_wp2_with fail
   all_goals (
    refine⟨⟨k+1,xs++[(foldF x,Value.slice a4 (foldF x).parts.length c4)],some ⟨g1,0,none⟩,cap1,by simp,by omega,chid (by rw[List.length_append,HXl.out];rfl),chid (by rw[HTk.out,List.map_append,List.map_append,HXs.out];rfl),?_,?_⟩,by simp;omega⟩
    ·rw[show k+1=xs.length+1 from by rw[HXl.out]]
     exact chid A1.out.2
    ·have h1:=HBr.out.trans (B60.out.mono (by have:=hwr.out;omega))
     have h2:=h1.alloc (by have:=Z60.out;have:=hwr.out;omega) (.cells #[.int .i64 (foldF x).op,.int .i64 (foldF x).n,.int .i64 (foldF x).m,.slice a4 (foldF x).parts.length c4] 30)
     have h3:=h2.trans ⟨K61.out.os,K61.out.tape,K61.out.output,K61.out.size,fun q hq=>K61.out.block q (by have:=Z60.out;have:=hwr.out;simp;omega) (fun e=>by have:=(C60.out.row.own.lt q e.symm).1;omega)⟩
     exact chid (h3.setCell (p:=⟨w.heap.size+1+1,3,none⟩) (Nat.le_refl _) _))
  ·have hlt':¬(k:Int)<(N:Int):=by omega
   obtain rfl:k=N:=by omega
   have hxs:xs.map (·.1)=t.parts.map foldF:=by
    have:=HXs.out
    rw[hN.out,List.take_length] at this
    exact this
   have hCA:=HRw.out.row.done
   rw[hxs] at hCA
   obtain⟨c',hc'⟩:∃ c':Co,Hid (c'=⟨t.op,t.n,t.m,t.parts.map foldF⟩):=⟨_,rfl⟩
   have HFit:=HS.out.fit
   have HSo:=mid_sort (wn:=256) (cn:=256) (ln:=256) HZ.out (fun x hx=>fold_sort (by decide) (by decide) (by decide) x (HPz.out x hx))
   have HNo:=mid_nodes t (fun x _=>fold_nodes x)
   rw[<-hc'.out] at HSo HNo
   have hCS:CSP (fun b=>w.heap.size+1+1+1<=b) wr c' (.slice av k cv):=by
    rw[hc'.out]
    exact csp_iff.2 ⟨⟨HFit.k,HFit.n,HFit.m⟩,hCA⟩
   have hcl:c'.parts.length=k:=by rw[hc'.out];show (t.parts.map foldF).length=k;rw[List.length_map];exact hN.out.symm
   have HCS:=chid hCS
   have HD:Hid (foldF t=becF c'):=chid (by rw[foldF_eq,hc'.out])
   have ho:Hid (c'.op=t.op/\c'.n=t.n/\c'.m=t.m):=by rw[hc'.out];exact chid ⟨rfl,rfl,rfl⟩
   have Y1:=HY1.out.later HBr.out (by omega)
   have HY1r:=chid Y1
   have y0:=Y1.cell 0 _ rfl
   have y1:=Y1.cell 1 _ rfl
   have y2:=Y1.cell 2 _ rfl
   have y3:=Y1.cell 3 _ rfl
   have g0:=Y1.free 0 (by simp)
   have g1:=Y1.free 1 (by simp)
   have g2:=Y1.free 2 (by simp)
   have g3:=Y1.free 3 (by simp)
   have yl:=Y1.lt
   have o0:=HRw.out.box.cell 0 _ rfl
   have o1:=HRw.out.box.cell 1 _ rfl
   have o2:=HRw.out.box.cell 2 _ rfl
   have o3:=HRw.out.box.cell 3 _ rfl
   have ol:=HRw.out.box.lt
   have TT:Hid (∀ (a0 a1 a2 a3:Value) (W:World),Turn [w.heap.size+1] W ((((W.setCell ⟨w.heap.size+1,0,none⟩ a0).setCell ⟨w.heap.size+1,1,none⟩ a1).setCell ⟨w.heap.size+1,2,none⟩ a2).setCell ⟨w.heap.size+1,3,none⟩ a3)):=fun a0 a1 a2 a3 W=>
    cturn_one (cturn_one (cturn_one (cturn_set W _ _ _) (cturn_set _ _ _ _)) (cturn_set _ _ _ _)) (cturn_set _ _ _ _)
   by_cases hk0:k=0
   ·have hD2:Hid (foldF t=c'):=chid (by rw[HD.out];exact becF_nil (List.eq_nil_of_length_eq_zero (by omega)))
    have HLen:Hid (c'.parts.length=0):=chid (by omega)
    subst hk0
    clear HXs HXl HRw hCA hxs hCS HBr HIh HSo HNo HFit HPz hc' hcl Y1 Y0
    go_wp2_with fail
    refine bodyPost_ret (v:=.agg #[.int .i64 t.op,.int .i64 t.n,.int .i64 t.m,.slice av 0 cv]) (by simp[results,Tryz.results52,go_sem, *]) rfl ?_
    refine⟨.slice av 0 cv,by rw[hD2.out,<-ho.out.1,<-ho.out.2.1,<-ho.out.2.2],?_,((((HBw.out.setCell (p:=⟨w.heap.size+1,0,none⟩) (by simp) _).setCell (p:=⟨w.heap.size+1,1,none⟩) (by simp) _).setCell (p:=⟨w.heap.size+1,2,none⟩) (by simp) _).setCell (p:=⟨w.heap.size+1,3,none⟩) (by simp) _)⟩
    rw[hD2.out]
    exact CSP.keep (TT.out _ _ _ _ _).size (fun b hb hB=>⟨by omega,fun j=>cturn_cell (TT.out _ _ _ _ _) hb (by simp;omega)⟩) _ _ HCS.out
   ·have hkp:0<k:=by omega
    have hk0':((k:Int)==0)=false:=by simp;omega
    have HRu:=chid (rrule_c _ c' (.slice av k cv) wr (fun e=>by rw[e] at hcl;simp at hcl;omega) (by have h:sM c'=sM t:=HSo;rw[h];exact HZ.out) (by have:=HN.out;omega) hCS)
    clear HXs HXl HRw hCA hxs hCS HBr HIh HSo HNo HFit HPz hc' hcl Y1 Y0 hk0
    go_wp2_with fail
    rw[<-ho.out.1,<-ho.out.2.1,<-ho.out.2.2]
    refine Calls.mono HRu.out ?_
    rintro e w4 ⟨u,rfl,hu,b4⟩
    have B4:=chid (cbelow_on HBw.out b4 HBw.out.size)
    have Y4:=HY1r.out.next b4
    have HU4:=chid (hu.next b4)
    obtain⟨ua,uc,rfl,-,-⟩:=hu.parts.shape
    clear hu b4 HRu x3 xl y0 y1 y2 y3 g0 g1 g2 g3 yl o0 o1 o2 o3 ol
    obtain⟨D,hD⟩:∃ D,Hid (D=becF c'):=⟨_,rfl⟩
    rw[<-hD.out] at HD HU4 ⊢
    have y0:=Y4.cell 0 _ rfl
    have y1:=Y4.cell 1 _ rfl
    have y2:=Y4.cell 2 _ rfl
    have y3:=Y4.cell 3 _ rfl
    have g0:=Y4.free 0 (by simp)
    have g1:=Y4.free 1 (by simp)
    have g2:=Y4.free 2 (by simp)
    have g3:=Y4.free 3 (by simp)
    have yl:=Y4.lt
    clear Y4
    go_wp2_with fail
    refine bodyPost_ret (v:=coV D (.slice ua D.parts.length uc)) (by simp[results,Tryz.results52,go_sem, *]) rfl ?_
    refine⟨_,by rw[HD.out],?_,((((B4.out.setCell (p:=⟨w.heap.size+1,0,none⟩) (by simp) _).setCell (p:=⟨w.heap.size+1,1,none⟩) (by simp) _).setCell (p:=⟨w.heap.size+1,2,none⟩) (by simp) _).setCell (p:=⟨w.heap.size+1,3,none⟩) (by simp) _)⟩
    rw[HD.out]
    exact CSP.keep (TT.out _ _ _ _ _).size (fun b hb hB=>⟨by omega,fun j=>cturn_cell (TT.out _ _ _ _ _) hb (by simp;omega)⟩) _ _ HU4.out
theorem rfold_all (t:Co):RFoC t:=by
 induction t using Co.ind with
 | h t ih=>exact rfold_step t ih
set_option maxHeartbeats 1000000 in
set_option maxRecDepth 20000 in
theorem rCore18_c (c:Co)(v:Value)(w:World)(hs:CSits w c v):Calls Tryz.prog 24 #[coV c v] w fun e w'=>∃ u,e=.returned (.tuple #[coV (coreF c).1 u,.int .i64 (coreF c).2])/\CSits w' (coreF c).1 u/\Below w.heap.size w w':=by
 have HNo:=chid (fun W (hW:Below w.heap.size w W)=>crNodes_c c v W (hs.next hW))
 have HSo:=chid (fun W (hn:cnodes c<=8192) (hW:Below w.heap.size w W)=>rsort18_c c v W (hs.next hW) hn)
 have HFo:=chid (fun W (hn:cnodes c<=8192) (hz:sM c≠0) (hW:Below w.heap.size w W)=>rfold_all c v W (hs.next hW) hz hn)
 obtain⟨ad,cap,rfl,-,-⟩:=hs.parts.shape
 obtain⟨Y0,Y1,Y2⟩:=two_boxes w 30 30 (coL c (.slice ad c.parts.length cap)) [.int .i64 0,.int .i64 0,.int .i64 0,.slice none 0 0]
 have HY0:=chid Y0
 have HY1:=chid Y1
 have B0:=chid Y2
 clear hs Y0 Y1 Y2
 obtain⟨q,hq⟩:∃ q,Hid (q=coreF c):=⟨_,rfl⟩
 rw[<-hq.out]
 have hbad:Hid (¬(cnodes c<=4096/\sM c≠0)->q=(co0,1)):=fun h=>by rw[hq.out];exact if_neg h
 have hgood:Hid (cnodes c<=4096->sM c≠0->q=(foldF c,0)):=fun h1 h2=>by rw[hq.out];exact if_pos ⟨h1,h2⟩
 clear hq
 by_cases h4:cnodes c<=4096
 case neg=>
  obtain rfl:=hbad.out (fun h=>h4 h.1)
  have e1:cndsV c=.int .i64 4097:=by unfold cndsV;rw[show min (cnodes c) 4097=4097 by omega];rfl
  rw[e1] at HNo
  clear hbad hgood HSo HFo e1
  go_enter Tryz.func24,Tryz.ntmps24
  go_wp2_with fail
  refine Calls.mono (HNo.out _ B0.out) ?_
  rintro e w1 ⟨rfl,b1⟩
  have B1:=chid (cbelow_on B0.out b1 B0.out.size)
  have Y1:=HY1.out.next b1
  clear b1 HNo
  have y0:=Y1.cell 0 _ rfl
  have y1:=Y1.cell 1 _ rfl
  have y2:=Y1.cell 2 _ rfl
  have y3:=Y1.cell 3 _ rfl
  have g0:=Y1.free 0 (by simp)
  have g1:=Y1.free 1 (by simp)
  have g2:=Y1.free 2 (by simp)
  have g3:=Y1.free 3 (by simp)
  have yl:=Y1.lt
  clear Y1
  go_wp2_with fail
  refine bodyPost_ret (v:=.tuple #[coV co0 (.slice none 0 0),.int .i64 1]) (by simp[results,Tryz.results24,go_sem, *]) rfl ?_
  exact⟨_,rfl,(CSP.leaf (ok:=fun _=>True) _ ⟨zero_64,zero_64,zero_64⟩).sits,((((B1.out.setCell (p:=⟨w.heap.size+1,0,none⟩) (by simp) _).setCell (p:=⟨w.heap.size+1,1,none⟩) (by simp) _).setCell (p:=⟨w.heap.size+1,2,none⟩) (by simp) _).setCell (p:=⟨w.heap.size+1,3,none⟩) (by simp) _)⟩
 obtain⟨N,hN⟩:∃ N:Nat,N=cnodes c:=⟨_,rfl⟩
 have e1:cndsV c=.int .i64 (N:Nat):=by unfold cndsV;rw[show min (cnodes c) 4097=N by omega]
 rw[e1] at HNo
 have hN4:¬(4096:Int)<(N:Int):=by omega
 have HS2:=chid (fun W=>HSo.out W (by omega))
 have HF2:=chid (fun W=>HFo.out W (by omega))
 have hg2:=chid (hgood.out h4)
 clear HSo HFo hgood e1 hN
 by_cases hz:sM c=0
 ·obtain rfl:=hbad.out (fun h=>h.2 hz)
  rw[hz] at HS2
  clear hbad hg2 HF2 hz
  go_enter Tryz.func24,Tryz.ntmps24
  go_wp2_with fail
  refine Calls.mono (HNo.out _ B0.out) ?_
  rintro e w1 ⟨rfl,b1⟩
  have B1:=chid (cbelow_on B0.out b1 B0.out.size)
  have Y1:=chid (HY1.out.next b1)
  have Y0:=chid (HY0.out.next b1)
  clear b1 HNo
  have x0:=Y0.out.cell 0 _ rfl
  have x1:=Y0.out.cell 1 _ rfl
  have x2:=Y0.out.cell 2 _ rfl
  have x3:=Y0.out.cell 3 _ rfl
  have xl:=Y0.out.lt
  go_wp2_with fail
  refine Calls.mono (HS2.out _ B1.out) ?_
  rintro e w2 ⟨rfl,b2⟩
  have B2:=chid (cbelow_on B1.out b2 B1.out.size)
  replace Y1:=chid (Y1.out.next b2)
  clear x0 x1 x2 x3 xl b2 HS2 Y0
  have y0:=Y1.out.cell 0 _ rfl
  have y1:=Y1.out.cell 1 _ rfl
  have y2:=Y1.out.cell 2 _ rfl
  have y3:=Y1.out.cell 3 _ rfl
  have g0:=Y1.out.free 0 (by simp)
  have g1:=Y1.out.free 1 (by simp)
  have g2:=Y1.out.free 2 (by simp)
  have g3:=Y1.out.free 3 (by simp)
  have yl:=Y1.out.lt
  go_wp2_with fail
  refine bodyPost_ret (v:=.tuple #[coV co0 (.slice none 0 0),.int .i64 1]) (by simp[results,Tryz.results24,go_sem, *]) rfl ?_
  exact⟨_,rfl,(CSP.leaf (ok:=fun _=>True) _ ⟨zero_64,zero_64,zero_64⟩).sits,((((B2.out.setCell (p:=⟨w.heap.size+1,0,none⟩) (by simp) _).setCell (p:=⟨w.heap.size+1,1,none⟩) (by simp) _).setCell (p:=⟨w.heap.size+1,2,none⟩) (by simp) _).setCell (p:=⟨w.heap.size+1,3,none⟩) (by simp) _)⟩
 obtain rfl:=hg2.out hz
 have HF3:=chid (fun W=>HF2.out W hz)
 have hz':(sM c==0)=false:=by simpa using hz
 clear hbad hg2 HF2 hz
 generalize sM c=sm at *
 go_enter Tryz.func24,Tryz.ntmps24
 go_wp2_with fail
 refine Calls.mono (HNo.out _ B0.out) ?_
 rintro e w1 ⟨rfl,b1⟩
 have B1:=chid (cbelow_on B0.out b1 B0.out.size)
 have Y1:=chid (HY1.out.next b1)
 have Y0:=chid (HY0.out.next b1)
 clear b1 HNo
 have x0:=Y0.out.cell 0 _ rfl
 have x1:=Y0.out.cell 1 _ rfl
 have x2:=Y0.out.cell 2 _ rfl
 have x3:=Y0.out.cell 3 _ rfl
 have xl:=Y0.out.lt
 go_wp2_with fail
 refine Calls.mono (HS2.out _ B1.out) ?_
 rintro e w2 ⟨rfl,b2⟩
 have B2:=chid (cbelow_on B1.out b2 B1.out.size)
 replace Y1:=chid (Y1.out.next b2)
 replace Y0:=chid (Y0.out.next b2)
 clear x0 x1 x2 x3 xl b2 HS2
 have x0:=Y0.out.cell 0 _ rfl
 have x1:=Y0.out.cell 1 _ rfl
 have x2:=Y0.out.cell 2 _ rfl
 have x3:=Y0.out.cell 3 _ rfl
 have xl:=Y0.out.lt
 go_wp2_with fail
 obtain⟨D,hD⟩:∃ D,Hid (D=foldF c):=⟨_,rfl⟩
 rw[<-hD.out] at HF3
 have hD2:Hid (foldF c=D):=hD.out.symm
 clear hD
 refine Calls.mono (HF3.out _ B2.out) ?_
 rintro e w4 ⟨u,rfl,hu,b4⟩
 have B4:=chid (cbelow_on B2.out b4 B2.out.size)
 have HYo:Hid (w.heap.size+1<w2.heap.size):=chid Y1.out.lt
 have Y4:=Y1.out.next b4
 have HU:=chid hu
 obtain⟨ua,uc,rfl,-,-⟩:=hu.parts.shape
 clear x0 x1 x2 x3 xl b4 hu HF3 Y0
 have y0:=Y4.cell 0 _ rfl
 have y1:=Y4.cell 1 _ rfl
 have y2:=Y4.cell 2 _ rfl
 have y3:=Y4.cell 3 _ rfl
 have g0:=Y4.free 0 (by simp)
 have g1:=Y4.free 1 (by simp)
 have g2:=Y4.free 2 (by simp)
 have g3:=Y4.free 3 (by simp)
 have yl:=Y4.lt
 clear Y4
 go_wp2_with fail
 refine bodyPost_ret (v:=.tuple #[coV D (.slice ua D.parts.length uc),.int .i64 0]) (by simp[results,Tryz.results24,go_sem, *]) rfl ?_
 have T:Turn [w.heap.size+1] w4 ((((w4.setCell ⟨w.heap.size+1,0,none⟩ (.int .i64 D.op)).setCell ⟨w.heap.size+1,1,none⟩ (.int .i64 D.n)).setCell ⟨w.heap.size+1,2,none⟩ (.int .i64 D.m)).setCell ⟨w.heap.size+1,3,none⟩ (.slice ua D.parts.length uc)):=
  cturn_one (cturn_one (cturn_one (cturn_set w4 _ _ _) (cturn_set _ _ _ _)) (cturn_set _ _ _ _)) (cturn_set _ _ _ _)
 refine⟨_,by rw[hD2.out],?_,((((B4.out.setCell (p:=⟨w.heap.size+1,0,none⟩) (by simp) _).setCell (p:=⟨w.heap.size+1,1,none⟩) (by simp) _).setCell (p:=⟨w.heap.size+1,2,none⟩) (by simp) _).setCell (p:=⟨w.heap.size+1,3,none⟩) (by simp) _)⟩
 show CSits _ (foldF c) _
 rw[hD2.out]
 exact(CSP.keep (ok':=fun _=>True) T.size (fun b hb hB=>⟨trivial,fun j=>cturn_cell T hb (by have:=HYo.out;simp at *;omega)⟩) _ _ HU.out).sits
end Go.Proofs.YtepncopdjodfgaaGreatDoor
