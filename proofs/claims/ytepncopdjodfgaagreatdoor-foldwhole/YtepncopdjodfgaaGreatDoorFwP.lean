import Derived.Test.YtepncopdjodfgaaGreatDoorMfA
import Derived.Test.YtepncopdjodfgaaGreatDoorCrM
namespace Go.Proofs.YtepncopdjodfgaaGreatDoor
open Go.RowKit
def wholeF (E:EnvP):Co->Co
 | ⟨k,n,m,ps⟩=>
   if k=4 then (if (E.wins.getD n.toNat (0,0)).1≠0 then ⟨6,(E.wins.getD n.toNat (0,0)).1,1,[]⟩ else ⟨1,(E.wins.getD n.toNat (0,0)).2,0,[]⟩)
   else if k=5 then ⟨2,b2i (E.crons.getD n.toNat false),0,[]⟩
   else if k=3 then ⟨1,(telV E ⟨k,n,m,ps⟩).1,0,[]⟩
   else ⟨k,n,m,ps.map (wholeF E)⟩
theorem wholeF_eq (E:EnvP)(c:Co):wholeF E c =
 if c.op=4 then (if (E.wins.getD c.n.toNat (0,0)).1≠0 then ⟨6,(E.wins.getD c.n.toNat (0,0)).1,1,[]⟩ else ⟨1,(E.wins.getD c.n.toNat (0,0)).2,0,[]⟩)
 else if c.op=5 then ⟨2,b2i (E.crons.getD c.n.toNat false),0,[]⟩
 else if c.op=3 then ⟨1,(telV E c).1,0,[]⟩
 else ⟨c.op,c.n,c.m,c.parts.map (wholeF E)⟩:=by
 cases c
 rw[wholeF]
def kon (s:Int)(r:Rs):Co:=if r.2=0 then ⟨s,r.1,0,[]⟩ else ⟨6,r.2,s,[]⟩
theorem kon_ok {s:Int}{r:Rs}(h:r.2=0):kon s r=⟨s,r.1,0,[]⟩:=if_pos h
theorem kon_no {s:Int}{r:Rs}(h:¬ r.2=0):kon s r=⟨6,r.2,s,[]⟩:=if_neg h
theorem tel_zero (E:EnvP)(t:Co)(h:¬(telV E t).2=0):(telV E t).1=0:=by
 have e:=rsV_re E t
 unfold rsV at e
 rw[if_neg h] at e
 simp only[Value.agg.injEq,List.toArray_eq_iff,List.cons.injEq,Value.int.injEq,true_and,and_true] at e
 exact e.symm
theorem kon_tel (E:EnvP){s:Int}(hs:s=1\/s=2){r:Rs}(hr:¬ r.2=0->r.1=0):telV E (kon s r)=r:=by
 obtain⟨a,b⟩:=r
 by_cases h:b=0
 ·subst h
  rw[kon_ok rfl,tel_cst E (cst_iff.2 hs)]
 ·rw[kon_no h,tel_fail E rfl]
  have:=hr h
  dsimp only at this
  rw[this]
theorem kon_cls {s:Int}(hs:s=1\/s=2)(r:Rs):cst (kon s r)=true\/(kon s r).op=6:=by
 by_cases h:r.2=0
 ·left;rw[kon_ok h];exact cst_iff.2 hs
 ·right;rw[kon_no h]
theorem bec_moves {wn cn ln:Int}{c:Co}(hz:csort ladF wn cn ln c≠0)(h12:csort ladF wn cn ln c=1\/csort ladF wn cn ln c=2)(hne:c.parts≠[])(hk:∀ x,x∈c.parts->cst x=true\/x.op=6):becF c∈c.parts\/leafy (becF c):=by
 obtain⟨k,hop,h1,h2,hb,hp,hs⟩:=shp_of hz
 have hlad:k<=28\/k=29:=by
  rcases hs with ⟨h,-⟩ | ⟨h,-⟩ | ⟨h,-⟩ | ⟨h,-⟩ | ⟨h,-⟩ | ⟨h,-⟩ | ⟨h,-⟩ | ⟨h,hh,-⟩ | ⟨h,hh,-⟩<;>omega
 cases hpp:c.parts with
 | nil=>exact absurd hpp hne
 | cons a r=>
   have ha:a∈a::r:=by simp
   have hg:∀ i,c.parts.getD i co0∈a::r\/leafy (c.parts.getD i co0):=fun i=>by rw[<-hpp];exact getD_mem_or _ _
   have hlast:cst (c.parts.getD (c.parts.length-1) co0)=true\/(c.parts.getD (c.parts.length-1) co0).op=6:=by
    have hl:c.parts.length-1<c.parts.length:=by rw[hpp];simp
    rw[coD_at hl]
    exact hk _ (List.getElem_mem hl)
   rw[becF_cons hpp]
   rcases hk a (by rw[hpp];simp) with q | q
   ·rw[if_pos q]
    have hW:workedF c∈a::r\/leafy (workedF c):=by
     unfold workedF failF
     rcases hlast with e | e
     ·rw[if_neg (cst_ne6 e),if_neg (by rw[e];decide)]
      split
      ·exact .inr rfl
      ·split<;>exact .inr rfl
     ·rw[if_pos e]
      exact .inr rfl
    unfold knownF
    generalize workedF c=W at hW
    repeat' split
    all_goals first | exact .inl ha | exact hg _ | exact hW | (exfalso;omega)
   ·rw[if_neg (by rw[cst_iff];omega),if_pos q]
    unfold failedF failF
    rw[show (if c.op=30\/c.op=31\/c.op=32 then c else (⟨6,a.n,sM c,[]⟩:Co))=⟨6,a.n,sM c,[]⟩ from if_neg (by omega)]
    split
    ·exact hg _
    ·exact .inr rfl
def Fine3 (E:EnvP):Prop:=∀ i,0<=(E.wins.getD i (0,0)).1/\(E.wins.getD i (0,0)).1<=3
theorem whole_re {wn cn k n m:Int}{ps ps':List Co}{q:Nat}(hop:k=(q:Int))(hq:q≠4/\q≠5/\q≠32)(h:csort ladF wn cn 256 ⟨k,n,m,ps⟩≠0)(hs:ps'.map (csort ladF 256 256 256)=ps.map (csort ladF wn cn 256)):csort ladF 256 256 256 ⟨k,n,m,ps'⟩=csort ladF wn cn 256 ⟨k,n,m,ps⟩:=by
 subst hop
 obtain⟨q',hop,hk1,hk2,hb,hp,hz⟩:=formed_w h
 obtain rfl:q'=q:=by have h:(q:Int)=(q':Int):=hop;omega
 rw[csort_eq ladF 256 256 256 ⟨_,n,m,ps'⟩,csort_eq ladF wn cn 256 ⟨_,n,m,ps⟩]
 dsimp only
 have hf:fitsB q' 256 256 256 ⟨(q':Int),n,m,ps'⟩=fitsB q' wn cn 256 ⟨(q':Int),n,m,ps⟩:=by
  unfold fitsB
  rw[if_neg hq.1,if_neg hq.2.1,if_neg hq.1,if_neg hq.2.1]
 rw[hs,Int.toNat_natCast,hf]
 have key:sortF ladF q' ⟨(q':Int),n,m,ps'⟩ (ps.map (csort ladF wn cn 256))=sortF ladF q' ⟨(q':Int),n,m,ps⟩ (ps.map (csort ladF wn cn 256)):=by
  unfold sortF
  cases hm:mkT.getD q' none with
  | some x=>rfl
  | none=>
    rcases mk_none ⟨q',by omega⟩ hk1 hm with e | e | e | e | e<;>dsimp only at e<;>subst e
    ·rfl
    ·rfl
    ·rfl
    ·rfl
    ·exact absurd rfl hq.2.2
 rw[key]
theorem whole_parts {E:EnvP}{c:Co}{k:Nat}(h12:srt E c=1\/srt E c=2)(hs:Shp (csort ladF E.wins.length E.crons.length 256) k c (csort ladF E.wins.length E.crons.length 256 c)){x:Co}(hx:x∈c.parts):srt E x=1\/srt E x=2:=by
 rcases hs with ⟨h,e⟩ | ⟨h,hh,y,e,e1⟩ | ⟨h,hh,y,e,e1⟩ | ⟨h,hh,y,z,e,e1,e2⟩ | ⟨h,hh,y,z,e,e1,e2⟩ | ⟨h,hh,y,z,e,e1,e2⟩ | ⟨h,hh,y,z,u,e,e1,e2,e3⟩ | ⟨h,hh,-⟩ | ⟨h,hh,-⟩
 ·rw[e] at hx;cases hx
 ·rw[e] at hx;rw[List.mem_singleton.1 hx];show csort _ _ _ _ _=1\/csort _ _ _ _ _=2;rw[e1];exact hh
 ·rw[e] at hx;rw[List.mem_singleton.1 hx];show csort _ _ _ _ _=1\/csort _ _ _ _ _=2;rw[e1,hh];split<;>simp
 ·rw[e] at hx
  simp only[List.mem_cons,List.not_mem_nil,or_false] at hx
  rcases hx with rfl | rfl
  ·exact .inl e1
  ·exact .inl e2
 ·rw[e] at hx
  simp only[List.mem_cons,List.not_mem_nil,or_false] at hx
  rcases hx with rfl | rfl
  ·exact .inr e1
  ·exact .inr e2
 ·rw[e] at hx
  simp only[List.mem_cons,List.not_mem_nil,or_false] at hx
  rcases hx with rfl | rfl
  ·show csort _ _ _ _ _=1\/csort _ _ _ _ _=2;rw[e1];exact hh
  ·show csort _ _ _ _ _=1\/csort _ _ _ _ _=2;rw[e2];exact hh
 ·rw[e] at hx
  simp only[List.mem_cons,List.not_mem_nil,or_false] at hx
  rcases hx with rfl | rfl | rfl
  ·exact .inr e1
  ·show csort _ _ _ _ _=1\/csort _ _ _ _ _=2;rw[e2];exact hh
  ·show csort _ _ _ _ _=1\/csort _ _ _ _ _=2;rw[e3];exact hh
 ·have hh':srt E c=3:=hh;omega
 ·have hh':srt E c=3:=hh;omega
theorem whole_all (E:EnvP)(hr:Fine3 E)(c:Co):(srt E c=1\/srt E c=2)->sM (wholeF E c)=srt E c/\foldF (wholeF E c)=kon (srt E c) (telV E c):=by
 induction c using Co.ind with
 | h c ih=>
   intro h12
   have hz:csort ladF E.wins.length E.crons.length 256 c≠0:=fun e=>by have e':srt E c=0:=e;omega
   obtain⟨k,hop,h1,h2,hb,hp,hs⟩:=shp_of hz
   have hk28:k<=28:=by
    rcases hs with ⟨h,e⟩ | ⟨h,-⟩ | ⟨h,-⟩ | ⟨h,-⟩ | ⟨h,-⟩ | ⟨h,-⟩ | ⟨h,-⟩ | ⟨h,hh,-⟩ | ⟨h,hh,-⟩
    ·rcases h with h | rfl
     ·omega
     ·exfalso
      obtain⟨k',hop',-,-,-,-,hs'⟩:=formed_w hz
      obtain rfl:k'=29:=by omega
      obtain⟨-,e2⟩:=mk_of (k:=29) (r:=3) (ts:=[]) rfl (by rw[<-hs'];exact hz)
      rw[<-hs'] at e2
      have e3:srt E c=3:=e2
      omega
    all_goals first | omega|(have hh':srt E c=3:=hh;omega)
   by_cases h4:k=4
   ·have hs1:srt E c=1:=by
     obtain⟨k',hop',-,-,-,-,hs'⟩:=formed_w hz
     obtain rfl:k'=4:=by omega
     obtain⟨-,e2⟩:=mk_of (k:=4) (r:=1) (ts:=[]) rfl (by rw[<-hs'];exact hz)
     rw[<-hs'] at e2;exact e2
    have ht:telV E c=if (E.wins.getD c.n.toNat (0,0)).1=0 then okR (E.wins.getD c.n.toNat (0,0)).2 else noR (E.wins.getD c.n.toNat (0,0)).1:=by rw[telV_eq,show c.op.toNat=4 by omega];rfl
    rw[wholeF_eq,if_pos (by omega),hs1,ht]
    have h3:=hr c.n.toNat
    generalize E.wins.getD c.n.toNat (0,0)=x at *
    by_cases hx:x.1=0
    ·rw[if_neg (by simpa using hx),if_pos hx]
     exact⟨csort_leaf1 _ _ _ _,(fold_leaf rfl).trans (kon_ok (s:=1) (r:=okR x.2) rfl).symm⟩
    ·rw[if_pos hx,if_neg hx]
     exact⟨csort_leaf6 _ _ _ _ _ (by omega) (.inl rfl),(fold_leaf rfl).trans (kon_no (s:=1) (r:=noR x.1) hx).symm⟩
   by_cases h5:k=5
   ·have hs1:srt E c=2:=by
     obtain⟨k',hop',-,-,-,-,hs'⟩:=formed_w hz
     obtain rfl:k'=5:=by omega
     obtain⟨-,e2⟩:=mk_of (k:=5) (r:=2) (ts:=[]) rfl (by rw[<-hs'];exact hz)
     rw[<-hs'] at e2;exact e2
    have ht:telV E c=okR (b2i (E.crons.getD c.n.toNat false)):=by rw[telV_eq,show c.op.toNat=5 by omega];rfl
    rw[wholeF_eq,if_neg (by omega),if_pos (by omega),hs1,ht]
    exact⟨csort_leaf2 _ _ _ _ (b2i_01 _),(fold_leaf rfl).trans (kon_ok (s:=2) (r:=okR (b2i (E.crons.getD c.n.toNat false))) rfl).symm⟩
   by_cases h3:k=3
   ·have hs1:srt E c=1:=by
     obtain⟨k',hop',-,-,-,-,hs'⟩:=formed_w hz
     obtain rfl:k'=3:=by omega
     obtain⟨-,e2⟩:=mk_of (k:=3) (r:=1) (ts:=[]) rfl (by rw[<-hs'];exact hz)
     rw[<-hs'] at e2;exact e2
    have ht:(telV E c).2=0:=by rw[telV_eq,show c.op.toNat=3 by omega];rfl
    rw[wholeF_eq,if_neg (by omega),if_neg (by omega),if_pos (by omega),hs1]
    exact⟨csort_leaf1 _ _ _ _,(fold_leaf rfl).trans (kon_ok (s:=1) ht).symm⟩
   have hw:wholeF E c=⟨c.op,c.n,c.m,c.parts.map (wholeF E)⟩:=by rw[wholeF_eq,if_neg (by omega),if_neg (by omega),if_neg (by omega)]
   have hp12:∀ x,x∈c.parts->srt E x=1\/srt E x=2:=fun x hx=>whole_parts h12 hs hx
   have hI:=fun x hx=>ih x hx (hp12 x hx)
   have hS:sM (wholeF E c)=srt E c:=by
    rw[hw]
    obtain⟨op,n,m,ps⟩:=c
    refine whole_re hop ⟨h4,h5,by omega⟩ hz ?_
    dsimp only
    rw[List.map_map]
    exact List.map_congr_left (fun x hx=>(hI x hx).1)
   refine⟨hS,?_⟩
   have hzM:sM (wholeF E c)≠0:=by rw[hS];omega
   obtain⟨mid,hmid⟩:∃ mid:Co,mid=⟨c.op,c.n,c.m,c.parts.map (fun x=>kon (srt E x) (telV E x))⟩:=⟨_,rfl⟩
   have hmap:(wholeF E c).parts.map foldF=mid.parts:=by
    rw[hw,hmid]
    dsimp only
    rw[List.map_map]
    exact List.map_congr_left (fun x hx=>(hI x hx).2)
   have hfold:foldF (wholeF E c)=becF mid:=by rw[foldF_eq,hmap,hw,hmid]
   have hms:sM mid=srt E c:=by
    have e:=mid_sort (wn:=256) (cn:=256) (ln:=256) hzM (fun x hx=>by
     obtain⟨q,hop',-,-,-,hpz,-⟩:=formed_w hzM
     exact fold_sort (by decide) (by decide) (by decide) x (hpz x hx))
    rw[hmap,hw] at e
    rw[<-hS,hw]
    rw[hmid] at e ⊢
    exact e
   have hmt:telV E mid=telV E c:=by
    rw[hmid,telV_eq,telV_eq E c]
    dsimp only
    rw[List.map_map,show c.parts.map (telV E ∘ fun x=>kon (srt E x) (telV E x))=c.parts.map (telV E) from List.map_congr_left (fun x hx=>kon_tel E (hp12 x hx) (tel_zero E x))]
    obtain⟨op,n,m,ps⟩:=c
    dsimp only at hop ⊢
    subst hop
    rw[Int.toNat_natCast]
    exact work_re E k n m ps _ _ (by omega) h1 h2
   have hmz:csort ladF 256 256 256 mid≠0:=by have e:csort ladF 256 256 256 mid=srt E c:=hms;rw[e];omega
   rw[hfold]
   have hcm:csort ladF 256 256 256 mid=srt E c:=hms
   by_cases hne:mid.parts=[]
   ·rw[becF_nil hne]
    have hcp:c.parts=[]:=by rw[hmid] at hne;simpa using hne
    have hmc:mid=c:=by rw[hmid,hcp];exact Co.same.2 ⟨rfl,rfl,rfl,hcp.symm⟩
    rw[hmc]
    have hk:k=1\/k=2\/k=6:=by
     rcases hs with ⟨h,-⟩ | ⟨h,-,x,e,-⟩ | ⟨h,-,x,e,-⟩ | ⟨h,-,x,y,e,-⟩ | ⟨h,-,x,y,e,-⟩ | ⟨h,-,x,y,e,-⟩ | ⟨h,-,x,y,z,e,-⟩ | ⟨h,-⟩ | ⟨h,-⟩
     ·omega
     ·rw[hcp] at e;cases e
     ·rw[hcp] at e;cases e
     ·rw[hcp] at e;cases e
     ·rw[hcp] at e;cases e
     ·rw[hcp] at e;cases e
     ·rw[hcp] at e;cases e
     ·omega
     ·omega
    rcases hk with e | e | e
    ·obtain⟨q1,q2,q3⟩:=cst_of (cst_iff.2 (.inl (by omega))) hz
     have q4:srt E c=1:=by
      rcases q3 with ⟨-,q⟩ | ⟨q,-⟩
      ·exact q
      ·omega
     rw[tel_cst E (cst_iff.2 (.inl (by omega))),kon_ok rfl,q4]
     exact Co.same.2 ⟨by show c.op=1;omega,rfl,q2,q1⟩
    ·obtain⟨q1,q2,q3⟩:=cst_of (cst_iff.2 (.inr (by omega))) hz
     have q4:srt E c=2:=by
      rcases q3 with ⟨q,-⟩ | ⟨-,-,q⟩
      ·omega
      ·exact q
     rw[tel_cst E (cst_iff.2 (.inr (by omega))),kon_ok rfl,q4]
     exact Co.same.2 ⟨by show c.op=2;omega,rfl,q2,q1⟩
    ·obtain⟨q1,q2,-,q4⟩:=fail_of (by omega) hz
     have q5:srt E c=c.m:=q4
     rw[tel_fail E (by omega),kon_no (by show ¬ c.n=0;omega),q5]
     exact Co.same.2 ⟨by show c.op=6;omega,rfl,rfl,q1⟩
   ·have hcl:∀ x,x∈mid.parts->∃ y,y∈c.parts/\x=kon (srt E y) (telV E y):=fun x hx=>by
     rw[hmid] at hx
     obtain⟨y,hy,rfl⟩:=List.mem_map.1 hx
     exact⟨y,hy,rfl⟩
    have hmv:=bec_moves hmz (by rw[hcm];exact h12) hne (fun x hx=>by
     obtain⟨y,hy,rfl⟩:=hcl x hx
     exact kon_cls (hp12 y hy) _)
    rcases bec_form (c:=mid) rfl hmz with e | ⟨x,hx,e,ex,ht⟩ | ⟨r,e,hr1,h12',ht⟩ | ⟨n,e,hs',ht⟩ | ⟨n,e,hs',hn,ht⟩
    ·exfalso
     rw[e] at hmv
     rcases hmv with h | h
     ·exact absurd (cnodes_part h) (by omega)
     ·exact hne h
    ·obtain⟨y,hy,rfl⟩:=hcl x hx
     have e1:=(hI y hy).1
     have e2:telV E y=telV E c:=by rw[<-hmt,<-ht E,kon_tel E (hp12 y hy) (tel_zero E y)]
     have e3:csort ladF 256 256 256 (kon (srt E y) (telV E y))=srt E y:=by
      by_cases h0:(telV E y).2=0
      ·rw[<-(hI y hy).2,fold_sort (by decide) (by decide) (by decide) _ (by rw[show csort ladF 256 256 256 (wholeF E y)=srt E y from e1];have:=hp12 y hy;omega)]
       exact e1
      ·rw[<-(hI y hy).2,fold_sort (by decide) (by decide) (by decide) _ (by rw[show csort ladF 256 256 256 (wholeF E y)=srt E y from e1];have:=hp12 y hy;omega)]
       exact e1
     rw[e,e2]
     rw[e3,hcm] at ex
     rw[ex]
    ·rw[e,hms,show telV E c=(0,r) by rw[<-hmt];exact ht E]
     exact(kon_no (r:=(0,r)) (by show ¬ r=0;omega)).symm
    ·have e1:srt E c=1:=by rw[<-hcm];exact hs'
     rw[e,e1,show telV E c=(n,0) by rw[<-hmt];exact ht E]
     exact(kon_ok (r:=(n,0)) rfl).symm
    ·have e1:srt E c=2:=by rw[<-hcm];exact hs'
     rw[e,e1,show telV E c=(n,0) by rw[<-hmt];exact ht E]
     exact(kon_ok (r:=(n,0)) rfl).symm
theorem whole_nodes (E:EnvP)(c:Co):cnodes (wholeF E c)<=cnodes c:=by
 induction c using Co.ind with
 | h c ih=>
   rw[wholeF_eq]
   have hl:∀ d:Co,d.parts=[]->cnodes d<=cnodes c:=fun d hd=>by rw[leaf_nodes hd];exact cnodes_pos c
   split
   ·split
    ·exact hl _ rfl
    ·exact hl _ rfl
   ·split
    ·exact hl _ rfl
    ·split
     ·exact hl _ rfl
     ·rw[cnodes_eq,cnodes_eq c]
      dsimp only
      have key:∀ l:List Co,(∀ x,x∈l->cnodes (wholeF E x)<=cnodes x)->cnodesL (l.map (wholeF E))<=cnodesL l:=by
       intro l
       induction l with
       | nil=>intro _;exact Nat.le_refl _
       | cons a r ihl=>
         intro h
         rw[List.map_cons,cnodesL_cons,cnodesL_cons]
         have:=h a (by simp)
         have:=ihl (fun x hx=>h x (by simp[hx]))
         omega
      have:=key c.parts ih
      omega
end Go.Proofs.YtepncopdjodfgaaGreatDoor
