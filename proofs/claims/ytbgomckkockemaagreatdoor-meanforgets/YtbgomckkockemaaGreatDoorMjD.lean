import Derived.Test.YtbgomckkockemaaGreatDoorMaC
import Derived.Test.YtbgomckkockemaaGreatDoorMgG
import Derived.Test.YtbgomckkockemaaGreatDoorMgZ
import Derived.Test.YtbgomckkockemaaGreatDoorMhV
import Derived.Test.YtbgomckkockemaaGreatDoorMjC
import Derived.Test.YtbgomckkockemaaGreatDoorMjA
import Derived.Test.YtbgomckkockemaaGreatDoorMaJ
namespace Go.Proofs.YtbgomckkockemaaGreatDoor
open Go.RowKit
theorem WinsAt.get {w:World}{a:Option Addr}{L c:Nat}{l:List (Int×Int)}(h:WinsAt w (.slice a L c) l){i:Nat}(hi:i<l.length):∃ b off,a=some ⟨b,off,none⟩/\b<w.heap.size/\w.cell? ⟨b,off+i*2,none⟩=some (.int .i64 (l.getD i (0,0)).1)/\w.cell? ⟨b,off+i*2+1,none⟩=some (.int .i64 (l.getD i (0,0)).2):=by
 obtain⟨ad',cap',e,hx⟩:=h
 simp only[Value.slice.injEq] at e
 obtain⟨rfl,-,rfl⟩:=e
 rcases hx with h | ⟨b,off,rfl,hbl,hc⟩
 ·rw[h] at hi;simp at hi
 ·exact⟨b,off,rfl,hbl,hc i hi⟩
theorem CronsAt.get {w:World}{a:Option Addr}{L c:Nat}{l:List Bool}(h:CronsAt w (.slice a L c) l){i:Nat}(hi:i<l.length):∃ b off,a=some ⟨b,off,none⟩/\b<w.heap.size/\w.cell? ⟨b,off+i,none⟩=some (.bool (l.getD i false)):=by
 obtain⟨ad',cap',e,hx⟩:=h
 simp only[Value.slice.injEq] at e
 obtain⟨rfl,-,rfl⟩:=e
 rcases hx with h | ⟨b,off,rfl,hbl,hc⟩
 ·rw[h] at hi;simp at hi
 ·exact⟨b,off,rfl,hbl,hc i hi⟩
set_option maxHeartbeats 1000000 in
set_option maxRecDepth 20000 in
theorem sameEnv_c (E:EnvP)(u1 u2 v1 v2:Value)(w:World)(hu:EnvAt w E u1 u2)(hv:EnvAt w E v1 v2):Calls Tryz.prog 17 #[envV E u1 u2,envV E v1 v2] w fun e w'=>e=.returned (.bool true)/\Below w.heap.size w w':=by
 have HU:=chid hu
 have HV:=chid hv
 have hwl:=hu.ok.wl
 have hcl:=hu.ok.cl
 obtain⟨a1,c1,a2,c2,rfl,rfl⟩:=hu.shape
 obtain⟨b1,d1,b2,d2,rfl,rfl⟩:=hv.shape
 obtain⟨L1,hL1⟩:∃ L,Hid (L=E.wins.length):=⟨_,rfl⟩
 obtain⟨L2,hL2⟩:∃ L,Hid (L=E.crons.length):=⟨_,rfl⟩
 rw[<-hL1.out] at hwl
 rw[<-hL2.out] at hcl
 obtain⟨Y0,Y1,B0⟩:=two_boxes w 40 40 [.int .i64 E.rep,.slice a1 L1 c1,.slice a2 L2 c2] [.int .i64 E.rep,.slice b1 L1 d1,.slice b2 L2 d2]
 have x1:=Y0.cell 1 _ rfl
 have x2:=Y0.cell 2 _ rfl
 have xl:=Y0.lt
 have y1:=Y1.cell 1 _ rfl
 have y2:=Y1.cell 2 _ rfl
 have yl:=Y1.lt
 have HB0:=chid B0
 rw[<-hL1.out,<-hL2.out]
 rw[<-hL1.out,<-hL2.out] at HU HV
 clear hu hv Y0 Y1 B0
 go_enter Tryz.func17,Tryz.ntmps17
 go_wp2_with fail
 generalize hW1:(w.alloc _).alloc _=w1 at *
 clear hW1
 go_loopw [5] (fun i wr=>∃ k:Nat,i=.int .i64 (k:Nat)/\k<=L1/\Hid (Below w1.heap.size w1 wr)) (fun i _=>match i with | .int _ p=>((L1:Int)-p).toNat | _=>0)
 case atStart=>exact⟨0,rfl,by omega,chid (Below.refl _ _)⟩
 case round=>
  obtain⟨k,rfl,hk,HWr⟩:=hrel
  have BW:=chid (cbelow_on HB0.out HWr.out HB0.out.size)
  have x1w:=(HWr.out.cell (p:=⟨w.heap.size,1,none⟩) xl).trans x1
  have x2w:=(HWr.out.cell (p:=⟨w.heap.size,2,none⟩) xl).trans x2
  have xlw:=Nat.lt_of_lt_of_le xl HWr.out.size
  have y1w:=(HWr.out.cell (p:=⟨w.heap.size+1,1,none⟩) yl).trans y1
  have y2w:=(HWr.out.cell (p:=⟨w.heap.size+1,2,none⟩) yl).trans y2
  have ylw:=Nat.lt_of_lt_of_le yl HWr.out.size
  by_cases hlt:k<L1
  ·have hlt':(k:Int)<(L1:Int):=by omega
   obtain⟨b,off,rfl,hbl,q0,q1⟩:=HU.out.wins.get (i:=k) (by rw[<-hL1.out];exact hlt)
   obtain⟨b',off',rfl,hbl',r0,r1⟩:=HV.out.wins.get (i:=k) (by rw[<-hL1.out];exact hlt)
   replace q0:=keepc BW.out q0
   replace q1:=keepc BW.out q1
   replace r0:=keepc BW.out r0
   replace r1:=keepc BW.out r1
   have lb:=Nat.lt_of_lt_of_le hbl BW.out.size
   have lb':=Nat.lt_of_lt_of_le hbl' BW.out.size
   generalize E.wins.getD k (0,0)=x at *
   clear HU HV
   go_wp2_with fail
   go_quiet (fail)
   go_wp2_with fail
   go_roundw
   case rel=>exact⟨k+1,by go_num,by omega,by first | exact HWr | exact chid HWr.out.drew | exact chid (cdrewN HWr.out _)⟩
   case measure=>simp;omega
  ·have hlt':¬(k:Int)<(L1:Int):=by omega
   obtain rfl:k=L1:=by omega
   go_wp2_with fail
   obtain⟨W1,rfl⟩:∃ W1,W1=wr:=⟨_,rfl⟩
   go_loopw [6] (fun i wz=>∃ k:Nat,i=.int .i64 (k:Nat)/\k<=L2/\Hid (Below W1.heap.size W1 wz)) (fun i _=>match i with | .int _ p=>((L2:Int)-p).toNat | _=>0)
   case atStart=>exact⟨0,rfl,by omega,chid (Below.refl _ _)⟩
   case round=>
    obtain⟨j,rfl,hj,HWz⟩:=hrel
    have BZ:=chid (cbelow_on BW.out HWz.out BW.out.size)
    have x2z:=(HWz.out.cell (p:=⟨w.heap.size,2,none⟩) xlw).trans x2w
    have xlz:=Nat.lt_of_lt_of_le xlw HWz.out.size
    have y2z:=(HWz.out.cell (p:=⟨w.heap.size+1,2,none⟩) ylw).trans y2w
    have ylz:=Nat.lt_of_lt_of_le ylw HWz.out.size
    by_cases hlt2:j<L2
    ·have hlt2':(j:Int)<(L2:Int):=by omega
     obtain⟨b,off,rfl,hbl,q0⟩:=HU.out.crons.get (i:=j) (by rw[<-hL2.out];exact hlt2)
     obtain⟨b',off',rfl,hbl',r0⟩:=HV.out.crons.get (i:=j) (by rw[<-hL2.out];exact hlt2)
     replace q0:=keepc BZ.out q0
     replace r0:=keepc BZ.out r0
     have lb:=Nat.lt_of_lt_of_le hbl BZ.out.size
     have lb':=Nat.lt_of_lt_of_le hbl' BZ.out.size
     generalize E.crons.getD j false=x at *
     have hxx:(x != x)=false:=by simp
     clear HU HV
     go_wp2_with fail
     go_quiet (fail)
     go_wp2_with fail
     go_roundw
     case rel=>exact⟨j+1,by go_num,by omega,by first | exact HWz | exact chid HWz.out.drew | exact chid (cdrewN HWz.out _)⟩
     case measure=>simp;omega
    ·have hlt2':¬(j:Int)<(L2:Int):=by omega
     go_wp2_with fail
     go_ret
     exact⟨rfl,BZ.out⟩
theorem takF_again (M:Int):∀ (l:List EvP) (c:Int),takF M c (takF M c l)=takF M c l
 | [],c=>rfl
 | e::r,c=>by
   rw[takF]
   by_cases h:takB M c e=true
   ·rw[if_pos h,takF,if_pos h,takF_again M r e.time]
   ·rw[if_neg h]
    exact takF_again M r c
theorem taken_again (M:Int)(l:List EvP):takenF M (takenF M l)=takenF M l:=takF_again M l minI
theorem mean_taken (q:Co->Co->Bool)(p:PlP)(l:List EvP)(t rep:Int)(nm:Cr->Bool):meanF q p (takenF p.mets.length l) t rep nm=meanF q p l t rep nm:=by
 unfold meanF
 rw[taken_again]
theorem dec_taken (q:Co->Co->Bool)(p:PlP)(l:List EvP)(t rep:Int)(nm:Cr->Bool):decM q p (takenF p.mets.length l) t rep nm=decM q p l t rep nm:=by
 unfold decM
 rw[mean_taken]
theorem dec_form (q:Co->Co->Bool)(p:PlP)(l:List EvP)(t rep:Int)(nm:Cr->Bool):∃ a b c,decM q p l t rep nm=.tuple #[.agg #[.bool a,.int .i64 b,.int .i64 c],.int .i64 (meanF q p l t rep nm).2]:=by
 unfold decM
 by_cases h:(meanF q p l t rep nm).2=0
 ·rw[if_pos h,h]
  have hf:(formedP q p&&fitE (meanF q p l t rep nm).1 p)=true:=by
   unfold meanF at h ⊢
   by_cases h1:formedP q p=false
   ·rw[if_pos h1] at h;cases h
   ·rw[if_neg h1] at h ⊢
    by_cases h2:∃ x,x∈takenF p.mets.length l/\t<x.time
    ·rw[if_pos h2] at h;cases h
    ·rw[if_neg h2]
     have h1':formedP q p=true:=by simpa using h1
     rw[h1']
     simp[fitE]
  rw[hf]
  unfold decV
  rw[if_pos rfl]
  unfold rawV
  split
  ·exact⟨_,_,_,rfl⟩
  ·exact⟨_,_,_,rfl⟩
 ·rw[if_neg h]
  exact⟨_,_,_,rfl⟩
open Classical in
theorem names_ex (t:Int):∃ nm:Cr->Bool,∀ c,nm c=true↔Named c t:=⟨fun c=>decide (Named c t),fun c=>by simp⟩
theorem names_c (t:Int)(ht:In64 t)(nm:Cr->Bool)(hnm:∀ c,nm c=true↔Named c t)(p:PlP)(hf:∀ x,x∈p.crons->x.Fits)(w:World)(hL:LenAt w):∀ c,c∈p.crons->∀ W,Below w.heap.size w W->Calls Tryz.prog 79 #[.agg (crL c).toArray,.int .i64 t] W fun e w'=>e=.returned (.bool (nm c))/\Below W.heap.size W w':=fun c hc W hW=>
 Names_any c (hf c hc) t ht.1 ht.2 (nm c) (hnm c) W (hL.later hW)
theorem PlAt.shapeV {w:World}{p:PlP}{v:PlV}(h:PlAt w p v):∃ a1 c1 a2 c2 a3 c3 a4 c4 a5 c5,v=⟨.slice a1 p.mets.length c1,.slice a2 p.wins.length c2,.slice a3 p.crons.length c3,.slice a4 p.gs.length c4,.slice a5 p.fin.parts.length c5⟩:=by
 obtain⟨a1,c1,a2,c2,a3,c3,a4,c4,a5,c5,e,-⟩:=h.shapes
 exact⟨a1,c1,a2,c2,a3,c3,a4,c4,a5,c5,e⟩
theorem fresh_none {span t:Int}{L:List Pr}(h:∀ x,x∈L->span<=t-x.1):fresh span t L=[]:=by
 unfold fresh
 induction L with
 | nil=>rfl
 | cons x r ih=>
   rw[List.dropWhile_cons_of_pos (by simpa using h x (by simp))]
   exact ih (fun y hy=>h y (by simp[hy]))
theorem wfold_old {span t:Int}(A T:List Pr)(h:∀ a,a∈A->∀ x,x∈T->span<=x.1-a.1)(ht:∀ a,a∈A->span<=t-a.1):fresh span t (wfold span (A++T))=fresh span t (wfold span T):=by
 cases T with
 | nil=>
   rw[List.append_nil,fresh_none (fun x hx=>ht x ((wfold_mem A).1 x hx))]
   rfl
 | cons s T=>
   have h1:wfold span (A++s::T)=T.foldl (fun L s=>pushed (fresh span s.1 L) s) (pushed (fresh span s.1 (wfold span A)) s):=by unfold wfold;rw[List.foldl_append];rfl
   have h2:wfold span (s::T)=T.foldl (fun L s=>pushed (fresh span s.1 L) s) (pushed (fresh span s.1 []) s):=rfl
   rw[h1,h2,fresh_none (fun x hx=>h x ((wfold_mem A).1 x hx) s (by simp))]
   rfl
theorem newL_app (A T:List Pr):∃ B,newL (A++T)=B++newL T/\∀ x,x∈B->x∈A:=by
 unfold newL
 rw[List.drop_append,List.length_append]
 by_cases h:4096<=T.length
 ·refine⟨[],?_,fun x hx=>by cases hx⟩
  rw[List.drop_eq_nil_of_le (by omega),show A.length+T.length-4096-A.length=T.length-4096 by omega]
 ·refine⟨A.drop (A.length+T.length-4096),?_,fun x hx=>List.mem_of_mem_drop hx⟩
  rw[show A.length+T.length-4096-A.length=0 by omega,show T.length-4096=0 by omega]
theorem tell_old {f g:Nat->List Pr}{t:Int}{x:WiP}{A:Nat->List Pr}(hs:x.s<=604800)(hf:∀ j,f j=A j++g j)(h:∀ j a,a∈A j->(∀ y,y∈g j->604800<=y.1-a.1)/\604800<=t-a.1):tellW f t x=tellW g t x:=by
 unfold tellW
 rw[hf]
 obtain⟨B,hB,hm⟩:=newL_app (A x.m.toNat) (g x.m.toNat)
 rw[hB,wfold_old B _ (fun a ha y hy=>by have:=(h _ a (hm a ha)).1 y (List.mem_of_mem_drop hy);omega) (fun a ha=>by have:=(h _ a (hm a ha)).2;omega)]
theorem smpF_app (a b:List EvP)(j:Nat):smpF (a++b) j=smpF a j++smpF b j:=by unfold smpF;rw[List.filter_append,List.map_append]
theorem smpF_mem {l:List EvP}{j:Nat}{x:Pr}(h:x∈smpF l j):∃ e,e∈l/\x.1=e.time:=by
 unfold smpF at h
 obtain⟨e,he,rfl⟩:=List.mem_map.1 h
 exact⟨e,(List.mem_filter.1 he).1,rfl⟩
theorem takF_from (M:Int):∀ (T:List EvP) (c:Int),T.Pairwise (fun x y=>x.time<=y.time)->(∀ e,e∈T->knownB M e=true/\c<=e.time)->takF M c T=T/\(clkF M c T=c\/∃ e,e∈T/\clkF M c T=e.time)
 | [],c,_,_=>⟨rfl,.inl rfl⟩
 | e::r,c,hp,h=>by
   obtain⟨p1,p2⟩:=List.pairwise_cons.1 hp
   obtain⟨k,hc⟩:=h e (by simp)
   have hk:takB M c e=true:=by unfold takB;rw[k];simp;omega
   obtain⟨i1,i2⟩:=takF_from M r e.time p2 (fun y hy=>⟨(h y (by simp[hy])).1,p1 y hy⟩)
   rw[takF,if_pos hk,clkF,if_pos hk,i1]
   refine⟨rfl,.inr ?_⟩
   rcases i2 with i2 | ⟨y,hy,i2⟩
   ·exact⟨e,by simp,i2⟩
   ·exact⟨y,by simp[hy],i2⟩
theorem clkF_of (M:Int):∀ (l:List EvP) (c:Int),clkF M c l=c\/∃ e,e∈l/\clkF M c l=e.time
 | [],_=>.inl rfl
 | e::r,c=>by
   rw[clkF]
   by_cases h:takB M c e=true
   ·rw[if_pos h]
    rcases clkF_of M r e.time with i | ⟨y,hy,i⟩
    ·exact .inr ⟨e,by simp,i⟩
    ·exact .inr ⟨y,by simp[hy],i⟩
   ·rw[if_neg h]
    rcases clkF_of M r c with i | ⟨y,hy,i⟩
    ·exact .inl i
    ·exact .inr ⟨y,by simp[hy],i⟩
def agedE (m:Int)(e:EvP):EvP:=⟨e.kind,e.id,e.val,min e.time (m-604800)⟩
def tickE (t:Int):EvP:=⟨2,0,0,t⟩
theorem aged_ok {m:Int}{e:EvP}(hm : -9000000000000000000<=m)(h2:C64 m)(h:EvOk e):EvOk (agedE m e):=by
 refine⟨h.kind,h.id,h.val,?_⟩
 have:=h.time
 unfold C64 at *
 show _<=min e.time (m-604800)/\min e.time (m-604800)<=_
 omega
theorem tick_ok {t:Int}(h:C64 t):EvOk (tickE t):=⟨by show C64 2;unfold C64;decide,by show C64 0;unfold C64;decide,by show C64 0;unfold C64;decide,h⟩
theorem taken_aged (M:Int)(O T:List EvP)(m:Int)(hT:takenF M T=T)(hm:∀ e,e∈T->m<=e.time)(h64:minI<=m):
 takenF M (O.map (agedE m)++T)=takF M minI (O.map (agedE m))++T/\(∀ t,(∀ e,e∈T->e.time<=t)->m-604800<=t->minI<=t->takenF M (O.map (agedE m)++T++[tickE t])=takF M minI (O.map (agedE m))++T++[tickE t]):=by
 have hs:=takF_sorted M T minI
 have hk:=fun e he=>(takF_mem M T minI e he).2
 unfold takenF at hT ⊢
 rw[hT] at hs hk
 have hc:clkF M minI (O.map (agedE m))<=m:=by
  rcases clkF_of M (O.map (agedE m)) minI with i | ⟨y,hy,i⟩
  ·omega
  ·obtain⟨z,-,rfl⟩:=List.mem_map.1 hy
   rw[i]
   show min z.time (m-604800)<=m
   omega
 have hf:=takF_from M T (clkF M minI (O.map (agedE m))) hs.1 (fun e he=>⟨hk e he,by have:=hm e he;omega⟩)
 refine⟨by rw[takF_app,hf.1],fun t h1 h2 h3=>?_⟩
 rw[takF_app,takF_app,hf.1,clkF_app]
 have hct:clkF M (clkF M minI (O.map (agedE m))) T<=t:=by
  rcases hf.2 with i | ⟨y,hy,i⟩
  ·rw[i]
   rcases clkF_of M (O.map (agedE m)) minI with i | ⟨y,hy,i⟩
   ·omega
   ·obtain⟨z,-,rfl⟩:=List.mem_map.1 hy
    rw[i]
    show min z.time (m-604800)<=t
    omega
  ·rw[i];exact h1 y hy
 have hk2:takB M (clkF M (clkF M minI (O.map (agedE m))) T) (tickE t)=true:=by
  unfold takB knownB tickE
  simp
  omega
 rw[takF,if_pos hk2]
 rfl
theorem mean_aged (q:Co->Co->Bool)(p:PlP)(O T:List EvP)(m t rep:Int)(nm:Cr->Bool)(hw:∀ x,x∈p.wins->WiOk x)(hT:takenF p.mets.length T=T)(hm:∀ e,e∈T->m<=e.time)(h64:minI<=m)(ht:∀ e,e∈T->e.time<=t)(hmt:m<=t):
 meanF q p (O.map (agedE m)++T) t rep nm=meanF q p T t rep nm/\meanF q p (O.map (agedE m)++T++[tickE t]) t rep nm=meanF q p T t rep nm:=by
 obtain⟨t1,t2⟩:=taken_aged p.mets.length O T m hT hm h64
 have t3:=t2 t ht (by omega) (by omega)
 have hA:∀ e,e∈takF p.mets.length minI (O.map (agedE m))->e.time<=m-604800:=fun e he=>by
  obtain⟨z,-,rfl⟩:=List.mem_map.1 (takF_mem _ _ _ _ he).1
  show min z.time (m-604800)<=m-604800
  omega
 have n0:¬ ∃ x,x∈T/\t<x.time:=fun ⟨x,hx,h⟩=>by have:=ht x hx;omega
 have n1:¬ ∃ x,x∈takF p.mets.length minI (O.map (agedE m))++T/\t<x.time:=fun ⟨x,hx,h⟩=>by
  rcases List.mem_append.1 hx with hx | hx
  ·have:=hA x hx;omega
  ·have:=ht x hx;omega
 have n2:¬ ∃ x,x∈takF p.mets.length minI (O.map (agedE m))++T++[tickE t]/\t<x.time:=fun ⟨x,hx,h⟩=>by
  rcases List.mem_append.1 hx with hx | hx
  ·exact n1 ⟨x,hx,h⟩
  ·rw[List.mem_singleton.1 hx] at h
   exact Int.lt_irrefl _ h
 unfold meanF
 rw[t1,t3,hT]
 by_cases hf:formedP q p=false
 ·rw[if_pos hf,if_pos hf,if_pos hf]
  exact⟨rfl,rfl⟩
 ·rw[if_neg hf,if_neg hf,if_neg hf,if_neg n0,if_neg n1,if_neg n2]
  have hr:=tok_of_formed (by simpa using hf:formedP q p=true) hw
  have key:p.wins.map (tellW (smpF (takF p.mets.length minI (O.map (agedE m))++T)) t)=p.wins.map (tellW (smpF T) t):=by
   refine List.map_congr_left fun x hx=>tell_old (A:=smpF (takF p.mets.length minI (O.map (agedE m)))) ?_ (fun j=>smpF_app _ _ j) (fun j a ha=>?_)
   ·have:=(hr x hx).right
    unfold RightT at this
    omega
   ·obtain⟨e,he,h1⟩:=smpF_mem ha
    have h2:=hA e he
    exact⟨fun y hy=>by obtain⟨e',he',h3⟩:=smpF_mem hy;have:=hm e' he';omega,by omega⟩
  have k2:smpF (takF p.mets.length minI (O.map (agedE m))++T++[tickE t])=smpF (takF p.mets.length minI (O.map (agedE m))++T):=by
   funext j
   rw[smpF_snoc,if_neg (by unfold tickE;simp)]
  rw[k2,key]
  exact⟨rfl,rfl⟩
theorem box_grown {w w':World}{row:Option Nat}{b:Nat}{xs:List Value}(h:Box w b xs)(hg:w.grownBy w' row)(hne:some b≠row):Box w' b xs:=
 ⟨fun i v hv=>(World.cell?_of_block (a:=⟨b,i,none⟩) (hg.block b h.lt hne)).trans (h.cell i v hv),fun i hi=>(World.frozen?_of_block (a:=⟨b,i,none⟩) (hg.block b h.lt hne)).trans (h.free i hi),Nat.lt_of_lt_of_le h.lt hg.size⟩
theorem wins_grown {w w':World}{row:Option Nat}{v:Value}{l:List (Int×Int)}(h:WinsAt w v l)(hg:w.grownBy w' row)(hne:∀ r,v.ownBlock=some r->some r≠row):WinsAt w' v l:=by
 obtain⟨ad,cap,rfl,h | ⟨b,off,rfl,hb,hc⟩⟩:=h
 ·exact⟨ad,cap,rfl,.inl h⟩
 ·have k:∀ j,w'.cell? ⟨b,j,none⟩=w.cell? ⟨b,j,none⟩:=fun j=>World.cell?_of_block (a:=⟨b,j,none⟩) (hg.block b hb (hne b rfl))
  exact⟨_,cap,rfl,.inr ⟨b,off,rfl,Nat.lt_of_lt_of_le hb hg.size,fun i hi=>⟨(k _).trans (hc i hi).1,(k _).trans (hc i hi).2⟩⟩⟩
theorem crons_grown {w w':World}{row:Option Nat}{v:Value}{l:List Bool}(h:CronsAt w v l)(hg:w.grownBy w' row)(hne:∀ r,v.ownBlock=some r->some r≠row):CronsAt w' v l:=by
 obtain⟨ad,cap,rfl,h | ⟨b,off,rfl,hb,hc⟩⟩:=h
 ·exact⟨ad,cap,rfl,.inl h⟩
 ·have k:∀ j,w'.cell? ⟨b,j,none⟩=w.cell? ⟨b,j,none⟩:=fun j=>World.cell?_of_block (a:=⟨b,j,none⟩) (hg.block b hb (hne b rfl))
  exact⟨_,cap,rfl,.inr ⟨b,off,rfl,Nat.lt_of_lt_of_le hb hg.size,fun i hi=>(k _).trans (hc i hi)⟩⟩
theorem env_grown {w w':World}{row:Option Nat}{E:EnvP}{u1 u2:Value}(h:EnvAt w E u1 u2)(hg:w.grownBy w' row){S:Nat}(hn:NewE S u1 u2)(hr:∀ r,row=some r->r<S):EnvAt w' E u1 u2:=
 ⟨h.ok,wins_grown h.wins hg (fun r h1 h2=>by have:=hn.1 r h1;have:=hr r h2.symm;omega),crons_grown h.crons hg (fun r h1 h2=>by have:=hn.2 r h1;have:=hr r h2.symm;omega)⟩
theorem NewE.low {S S':Nat}{u1 u2:Value}(h:NewE S u1 u2)(hs:S'<=S):NewE S' u1 u2:=⟨fun r hr=>Nat.le_trans hs (h.1 r hr),fun r hr=>Nat.le_trans hs (h.2 r hr)⟩
theorem srt_first {T:List EvP}(h:T.Pairwise (fun x y=>x.time<=y.time)):∀ e,e∈T->(T.getD 0 ev0).time<=e.time:=by
 intro e he
 cases T with
 | nil=>cases he
 | cons x r=>
   rcases List.mem_cons.1 he with rfl | he
   ·exact Int.le_refl _
   ·exact(List.pairwise_cons.1 h).1 e he
theorem srt_last {T:List EvP}(h:T.Pairwise (fun x y=>x.time<=y.time)):∀ e,e∈T->e.time<=(T.getD (T.length-1) ev0).time:=by
 intro e he
 obtain⟨i,hi,rfl⟩:=List.mem_iff_getElem.1 he
 have h1:T.length-1<T.length:=by omega
 rw[show T.getD (T.length-1) ev0=T[T.length-1]'h1 by simp[List.getD,h1]]
 by_cases e:i=T.length-1
 ·subst e;exact Int.le_refl _
 ·exact List.pairwise_iff_getElem.1 h i (T.length-1) hi h1 (by omega)
theorem evs_of_box {w:World}{b c:Nat}{l:List EvP}(h:Box w b (flE l))(hc:l.length<=c/\c<=9223372036854775807):EvsAt w (.slice (some ⟨b,0,none⟩) l.length c) l:=
 ⟨_,c,rfl,hc.1,hc.2,.inr ⟨b,0,rfl,h.lt,fun i hi j x hx=>by
   have hg:l.getD i ev0=l[i]:=by simp[List.getD,hi]
   have:=h.cell (i*4+j) x (flE_at l i hi j x (by rw[<-hg];exact hx))
   simpa using this⟩⟩
end Go.Proofs.YtbgomckkockemaaGreatDoor
