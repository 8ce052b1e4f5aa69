import Derived.Test.YtecdfnpbcabdnaaGreatDoorMiD
import Derived.Test.YtecdfnpbcabdnaaGreatDoorMhJ
import Derived.Test.YtecdfnpbcabdnaaGreatDoorMgX
namespace Go.Proofs.YtecdfnpbcabdnaaGreatDoor
open Go.RowKit Go.Lib
theorem fold_it {i:It}{vx vy:Value}{Y:Array Value}(hY:Y=(itC i vx vy).toArray):Array.foldl (fun (cs:Array Value) (x:Value×Nat)=>cs.setIfInBounds x.snd x.fst) zs19.toArray Y.zipIdx 0 19=Y:=by
 subst hY
 kernel_rfl
def qH (w:World)(rb:Nat):Nat:=match w.cell? ⟨rb,4,none⟩ with
 | some (.int _ e)=>if e=0 then 1 else 0
 | _=>0
theorem Rr.gh {z:Nat}{w:World}{rb tb:Nat}{LL:List Tk}{c:Int}{S:Sr}{o:Nat}(h:Rr z w rb tb LL c S o):qH w rb=if S.good=true then 1 else 0:=by
 obtain⟨er,h1,_,h3⟩:=h.errc
 unfold qH
 rw[h1,h3]
 simp only[decide_eq_true_eq]
structure PqS (z:Nat)(w W:World)(rb tb:Nat)(LL:List Tk)(c:Int)(g:Nat)(nm:ByteArray)(S:Sr)(v:Value)(l:List It3):Prop where
 rs:Box W w.heap.size zs2
 lt:Box W g [.string nm,v]
 pa:IaO (g+1) z W v l
 re:Rr z W rb tb LL c S 0
 bl:Below w.heap.size w W
 hr:w.heap.size<rb/\rb<g/\w.heap.size<tb/\tb<g
 nz:nm.size<=z
theorem PqS.turn {z:Nat}{w W W':World}{rb tb:Nat}{LL:List Tk}{c:Int}{g:Nat}{nm:ByteArray}{S S':Sr}{v:Value}{l:List It3}(h:PqS z w W rb tb LL c g nm S v l)(k:Turn [rb] W W')(r:Rr z W' rb tb LL c S' 0):PqS z w W' rb tb LL c g nm S' v l:=by
 have h2:=h.hr
 exact⟨h.rs.turn k (by simp;omega),h.lt.turn k (by simp;omega),h.pa.turn k (by simp;omega),r,below_turned h.bl k (by omega) h.bl.size,h2,h.nz⟩
theorem PqS.next {z:Nat}{w W W':World}{rb tb:Nat}{LL:List Tk}{c:Int}{g:Nat}{nm:ByteArray}{S:Sr}{v:Value}{l:List It3}(h:PqS z w W rb tb LL c g nm S v l)(k:Below W.heap.size W W'):PqS z w W' rb tb LL c g nm S v l:=h.turn (Turn.of_below k) (h.re.next k)
theorem PqS.added {z:Nat}{w W W':World}{rb tb:Nat}{LL:List Tk}{c:Int}{g kk:Nat}{nm:ByteArray}{S:Sr}{v v':Value}{l k:List It3}(h:PqS z w W rb tb LL c g nm S v l)(p:IaO (g+1) z W' v' k)(hk:g+1<=kk)(t:Turn [kk] W W'):PqS z w (W'.setCell ⟨g,1,none⟩ v') rb tb LL c g nm S v' k:=by
 have h2:=h.hr
 have ts:=turn_set W' g 1 v'
 exact⟨(h.rs.turn t (by simp;omega)).turn ts (by simp;omega),(h.lt.turn t (by simp;omega)).set 1 (by simp) v',p.turn ts (by simp),(h.re.turn1 t (by omega)).turn1 ts (by omega),(below_turned h.bl t (by omega) h.bl.size).setCell (by show w.heap.size<=g;omega) _,h2,h.nz⟩
theorem PqS.named {z:Nat}{w W:World}{rb tb:Nat}{LL:List Tk}{c:Int}{g:Nat}{nm:ByteArray}{S:Sr}{v:Value}{l:List It3}(h:PqS z w W rb tb LL c g nm S v l)(x:ByteArray)(hx:x.size<=z):PqS z w (W.setCell ⟨g,0,none⟩ (.string x)) rb tb LL c g x S v l:=by
 have h2:=h.hr
 have ts:=turn_set W g 0 (.string x)
 exact⟨h.rs.turn ts (by simp;omega),h.lt.set 0 (by simp) _,h.pa.turn ts (by simp),h.re.turn1 ts (by omega),h.bl.setCell (by show w.heap.size<=g;omega) _,h2,hx⟩
theorem PqS.made {z:Nat}{w w1:World}{rb tb:Nat}{LL:List Tk}{c:Int}{S:Sr}(b1:Below (w.alloc (.cells zs2.toArray 25)).heap.size (w.alloc (.cells zs2.toArray 25)) w1)(r:Rr z w1 rb tb LL c S 0)(hr:w.heap.size<rb/\w.heap.size<tb):
 PqS z w (w1.alloc (.cells zs2.toArray 25)) rb tb LL c w1.heap.size ⟨#[]⟩ S (.slice none 0 0) []:=by
 have k2:=(Below.refl w1.heap.size w1).alloc (Nat.le_refl _) (.cells zs2.toArray 25)
 have hl:=r.lts
 have B1:Below w.heap.size w w1:=below_on ((Below.refl _ _).alloc (Nat.le_refl _) _) b1 (by simp)
 exact⟨((Box.new w zs2 25).next b1).next k2,Box.new w1 _ _,IaO.nil _ _ _,r.next k2,below_on B1 k2 B1.size,by omega,Nat.zero_le _⟩
theorem items_bad {c:Int}{E A:Rdf}{n:Nat}{l:List It}{S:Sr}(h:S.good=false):itemsR c E A n l S=(l,S):=by
 cases n with
 | zero=>rfl
 | succ n=>rw[itemsR,if_neg (by rw[h];simp)]
theorem itemE_less {c:Int}{E A:Rdf}(hE:LenE E)(hA:LenE A){S:Sr}(hl:S.L≠[]):(itemE c E A S).2.L.length<S.L.length\/(itemE c E A S).1.kind=7:=by
 have h2:=len_must c k_sem (itemR c E A S).2
 rcases item_less (c:=c) hE hA hl with h | h
 ·left
  unfold itemE
  show (mustR c k_sem (itemR c E A S).2).L.length<_
  omega
 ·exact .inr h
set_option maxHeartbeats 16000000 in
set_option maxRecDepth 20000 in
theorem qPolTop_c (HAc:∀ (z rb tb:Nat) (LL:List Tk) (c:Int),z<=9223372036854775807->LL.length<=1000000->RdC z rb tb LL c 0 34 (actRD c 64))(s:ByteArray)(w:World):Calls Tryz.prog 8 #[.string s] w (PoP s w):=by
 have H1:=hid2 (fun W=>qBegin_c s W)
 cases hr:rdS s with
 | none=>
   have H2:Hid (∀ W,Calls Tryz.prog 15 #[.string s] W fun e w'=>Below W.heap.size W w'/\e=.returned (.tuple #[.pointer none,.int .i64 ((cutS s).2.1:Nat),.int .i64 (cutS s).2.2])):=fun W=>(H1.out W).mono fun e w' h=>by
    unfold BgP at h
    rw[hr] at h
    exact h
   have hP:Hid (∀ w',Below w.heap.size w w'->PoP s w (.returned (.tuple #[.agg (zs2).toArray,.int .i64 ((cutS s).2.1:Nat),.int .i64 (cutS s).2.2])) w'):=fun w' hb=>⟨hb,by unfold polS;rw[hr]⟩
   generalize PoP s w=Post at *
   generalize (cutS s).2.1=a at *
   generalize (cutS s).2.2=k at *
   clear H1 hr HAc
   go_enter Tryz.func8,Tryz.ntmps8
   go_wp2_with fail
   refine Calls.mono (H2.out _) ?_
   rintro e w1 ⟨b1,rfl⟩
   have X0:=(Box.new w zs2 25).next b1
   obtain⟨x0,x1,y0,y1⟩:=X0.duo
   have xl:=X0.lt
   have B1:Hid (Below w.heap.size w w1):=below_on ((Below.refl _ _).alloc (Nat.le_refl _) _) b1 (by simp)
   clear b1 X0
   go_wp2_with fail
   refine bodyPost_ret (v:=.tuple #[.agg (zs2).toArray,.int .i64 (a:Nat),.int .i64 k]) (by simp[results,Tryz.results8,go_sem, *]) rfl (hP.out _ ?_)
   exact(B1.out.setCell (Nat.le_refl _) _).setCell (Nat.le_refl _) _
 | some r=>
   have H2:Hid (∀ W,Calls Tryz.prog 15 #[.string s] W fun e w'=>Below W.heap.size W w'/\∃ rb tb,e=.returned (.tuple #[.pointer (some ⟨rb,0,none⟩),.int .i64 0,.int .i64 0])/\Rr s.size w' rb tb r.1 r.2 ⟨none,r.1⟩ 0/\W.heap.size<=rb/\W.heap.size<=tb):=fun W=>(H1.out W).mono fun e w' h=>by
    unfold BgP at h
    rw[hr] at h
    exact h
   have hz:=rdS_small (show rdS s=some (r.1,r.2) from hr)
   obtain⟨hG,hN⟩:=rdS_tg (show rdS s=some (r.1,r.2) from hr)
   have hD:=hid2 (doc_end (eqv_pol (eqv_expr r.2 64) (bad_expr r.2 64) (rz_expr s.size r.2 64) (eqv_actD s.size r.2 64) (bad_actRD r.2 64) (rz_actD s.size r.2 64) r.1 (rdS_ts (show rdS s=some (r.1,r.2) from hr)) hG))
   have HX:=hid2 (fun rb tb=>qItem_c (z:=s.size) (rb:=rb) (tb:=tb) (LL:=r.1) (c:=r.2) (by omega) (qExprD_c (by omega) 64 0 rfl) (HAc s.size rb tb r.1 r.2 (by omega) (by omega)))
   have hLE:=hid2 (len_expr r.2 64)
   have hLA:=hid2 (len_actRD r.2 64)
   have hP:Hid (∀ e w',Below w.heap.size w w'->(match bnd (polP r.2 (exprD r.2 64) (actD r.2 64) r.1) (endP r.2) with
    | .ok t=>∃ u,e=.returned (.tuple #[poV t u,.int .i64 0,.int .i64 0])/\PoB w.heap.size s.size w' t u
    | .error f=>e=.returned (.tuple #[.agg (zs2).toArray,.int .i64 (f.1:Nat),.int .i64 f.2]))->PoP s w e w'):=fun e w' hb h=>⟨hb,by unfold polS;rw[hr];exact h⟩
   have fl1:=fld1
   generalize PoP s w=Post at *
   clear H1 hr hG HAc
   generalize bnd (polP r.2 (exprD r.2 64) (actD r.2 64) r.1) (endP r.2)=ans at *
   generalize exprR r.2 64=E at *
   generalize actRD r.2 64=A at *
   generalize hsz:s.size=z at *
   generalize r.2=c at *
   generalize r.1=LL at *
   go_enter Tryz.func8,Tryz.ntmps8
   go_wp2_with fail
   refine Calls.mono (H2.out _) ?_
   rintro e w1 ⟨b1,rb,tb,rfl,R1,hrb,htb⟩
   have hrb':w.heap.size+1<=rb:=by simpa using hrb
   have htb':w.heap.size+1<=tb:=by simpa using htb
   have HC0:=hid2 (PqS.made b1 R1 (by omega))
   clear b1 R1 H2 hrb htb
   go_wp2_with fail
   obtain⟨g,hg⟩:∃ g,Hid (g=w1.heap.size):=⟨_,rfl⟩
   rw[<-hg.out] at HC0 ⊢
   generalize hW0:w1.alloc _=W0 at *
   clear hW0 hg
   refine Calls.mono (qMust_c k_policy ⟨ba_neL [40] (by decide),ba_neL [123] (by decide),ba_neL [41] (by decide),ba_neL [125] (by decide)⟩ _ HC0.out.re) ?_
   rintro e w2 ⟨rfl,t2,r2⟩
   have HC1:=hid2 (HC0.out.turn t2 r2)
   clear HC0 t2 r2
   go_wp2_with fail
   refine Calls.mono (qTake_c 1 (by decide) _ HC1.out.re) ?_
   rintro e w3 ⟨rfl,t2,r2⟩
   have Hk:=hid2 (take_tk (c:=c) (k:=1) HC1.out.re.tl)
   have HC2:=hid2 (HC1.out.turn t2 r2)
   clear HC1 t2 r2
   simp only[tkW]
   unfold polR at hD
   generalize takeR c 1 (mustR c k_policy ⟨none,LL⟩)=tk at *
   obtain⟨x0,x1,y0,y1⟩:=HC2.out.lt.duo
   have xl:=HC2.out.lt.lt
   have HC3:=hid2 (HC2.out.named tk.1.text Hk.out.1)
   go_wp2_with fail
   clear x0 x1 y0 y1 xl HC2
   generalize hW0:w3.setCell _ _=W3 at *
   clear hW0
   refine Calls.mono (qMust_c k_sem ⟨ba_neL [40] (by decide),ba_neL [123] (by decide),ba_neL [41] (by decide),ba_neL [125] (by decide)⟩ _ HC3.out.re) ?_
   rintro e w4 ⟨rfl,t2,r2⟩
   have HC4:=hid2 (HC3.out.turn t2 r2)
   clear HC3 t2 r2
   generalize mustR c k_sem tk.2=S1 at *
   obtain⟨R,hR⟩:∃ R,Hid (R=itemsR c E A S1.L.length [] S1):=⟨_,rfl⟩
   rw[<-hR.out] at hD
   have hS1:S1.L.length<=LL.length:=by have:=HC4.out.re.left;omega
   go_wp2_with fail
   go_loopw [] (fun wr=>∃ (S3:Sr) (v:Value) (l:List It3) (f:Nat),(S3.good=false\/S3.L.length<=f)/\l.length+f<=LL.length/\Hid (PqS z w wr rb tb LL c g tk.1.text S3 v l)/\Hid (R=itemsR c E A f (l.map Prod.fst) S3)) (fun wr=>2*(LL.length-qI wr rb)+qH wr rb)
   ·exact⟨S1,_,[],S1.L.length,.inr (Nat.le_refl _),by simp;omega,HC4,hR⟩
   obtain⟨S3,v,l,f,hf,hl,HC,HR⟩:=hrel
   clear HC4 hR hS1
   have hme:=HC.out.re.left
   have hmg:=HC.out.re.gh
   have hne:=HC.out.re.tl.ne
   have hpos:=HC.out.re.tl.pos
   obtain⟨er,e4,el,eg⟩:=HC.out.re.errc
   by_cases er0:er=0
   ·have hg3:S3.good=true:=by rw[eg];exact decide_eq_true er0
    subst er0
    obtain⟨f',rfl⟩:∃ f',f=f'+1:=by
     rcases hf with h | h
     ·rw[hg3] at h;cases h
     ·exact⟨f-1,by omega⟩
    rw[itemsR,if_pos hg3] at HR
    have hil:=itemE_less (c:=c) hLE.out hLA.out hne
    have x1:=HC.out.lt.cell 1 _ rfl
    have xl:=HC.out.lt.lt
    go_wp2_with fail
    go_region_law (first
     | (refine step_iq rfl (HX.out rb tb S3 _ (HC.out.re.next (Below.refl _ _).drew)) (by first | rfl | go_simp) ?_;rintro Y60 vx60 vy60 w60 hY60 t60 S60 r60;have HY60:=hid2 hY60;have sY60:Y60.size=19:=(by rw[hY60];rfl);have z60:Hid (wr.heap.size<=w60.heap.size):=t60.size;have C60:=hid2 ((HC.out.next (Below.refl _ _).drew).turn t60 r60);have q60:=hid2 (HC.out.next (Below.refl _ wr).drew).pa.blk;have c560:=C60.out.lt.cell 1 _ rfl;have l560:=C60.out.lt.lt;have X60:Hid (ItQ (fun b=>g+1<=b/\v.ownBlock≠some b) z w60 (itemE c E A S3).1 vx60 vy60):=(show ItQ (fun b=>wr.drew.heap.size<=b) z w60 (itemE c E A S3).1 vx60 vy60 from ⟨S60.sx,S60.sy,S60.nm,S60.un⟩).weak (fun b _ hb=>⟨by have hb':wr.heap.size<=b:=hb;omega,fun hh=>by have:=(q60.out b hh).2;have hb':wr.heap.size<=b:=hb;simp at this;omega⟩);clear S60 t60 r60 hY60)
     | (refine step_append_it w60 (g+1) rfl _ _ rfl v l (itemE c E A S3).1 vx60 vy60 Y60 HY60.out (congrArg (fun Z=>w60.alloc (.cells Z 53)) (fold_it HY60.out)) (by simp[Act.eval]) C60.out.pa X60.out (by omega) (by have:=z60.out;omega) (by simp[Act.eval]) ?_;intro a60 d60 wa60 k60 p60 hk60 b60;have CA60:=hid2 (C60.out.added p60 hk60 b60);have l60:=(C60.out.lt.turn b60 (by simp;omega)).lt;have e560:=(C60.out.lt.turn b60 (by simp;omega)).cell 1 _ rfl;have f560:=(C60.out.lt.turn b60 (by simp;omega)).free 1 (by simp);clear p60 b60))
    all_goals (
     have CA:=CA60
     clear CA60 C60 c560 l560 q60 X60 z60 l60 e560 f560 x1 xl HC e4 el eg HY60
     generalize hW1:wa60.setCell _ _=W1 at *
     clear hW1
     obtain⟨n1,n2,n3,q,rfl,n4,n5,n6⟩:=CA.out.pa.last
     have x1:=CA.out.lt.cell 1 _ rfl
     have xl:=CA.out.lt.lt
     simp only at n6
     generalize itemE c E A S3=y at *
     by_cases h7:y.1.kind=7
     ·rw[h7] at n6
      rw[if_pos h7] at HR
      have HR7:Hid (R=((l++[(y.1,vx60,vy60)]).map Prod.fst,y.2)):=by show _=_;rw[HR.out,List.map_append];rfl
      clear HR hil
      go_wp2_with fail
      clear x1 xl n6
      refine Calls.mono (qEnd_c _ CA.out.re) ?_
      rintro e w8 ⟨rfl,t8,r8⟩
      have HC8:=hid2 (CA.out.turn t8 r8)
      obtain⟨off,cap,i,ov,h⟩:=r8
      have c4:=h.box.cell 4 _ rfl
      have c5:=h.box.cell 5 _ rfl
      have hl4:=h.box.lt
      have her:=h.er
      rw[HR7.out] at hD
      obtain⟨l0,l1,_,_⟩:=HC8.out.lt.duo
      have ll4:=HC8.out.lt.lt
      obtain⟨x0,x1',y0,y1⟩:=HC8.out.rs.duo
      have xl4:=HC8.out.rs.lt
      have hgr:=HC8.out.hr
      have hne:rb≠w.heap.size:=by omega
      have hne2:¬ w.heap.size=rb:=by omega
      have hne3:g≠w.heap.size:=by omega
      have hne4:¬ w.heap.size=g:=by omega
      clear h t8 CA
      cases ans with
      | ok t=>
        obtain⟨hd1,hd2⟩:(tk.1.text,(l++[(y.1,vx60,vy60)]).map Prod.fst)=t/\(endRd c y.2).er=none:=hD.out
        rw[hd2] at c4 c5
        simp only[erI,erW] at c4 c5
        have hQ:Hid (∀ e w',Below w.heap.size w w'->(∃ u,e=.returned (.tuple #[poV (tk.1.text,(l++[(y.1,vx60,vy60)]).map Prod.fst) u,.int .i64 0,.int .i64 0])/\PoB w.heap.size z w' (tk.1.text,(l++[(y.1,vx60,vy60)]).map Prod.fst) u)->Post e w'):=fun e w' hb h=>hP.out e w' hb (by rw[<-hd1];exact h)
        clear hd1 hd2 hD hP her
        go_wp2_with fail
        refine bodyPost_ret (v:=.tuple #[poV (tk.1.text,(l++[(y.1,vx60,vy60)]).map Prod.fst) (.slice (some ⟨q,0,none⟩) (l.length+1) d60),.int .i64 0,.int .i64 0]) (by simp[results,Tryz.results8,go_sem, *]) rfl (hQ.out _ _ ?_ ⟨_,rfl,⟨⟨(l++[(y.1,vx60,vy60)]),rfl,?_⟩,HC8.out.nz⟩⟩)
        ·exact(HC8.out.bl.setCell (Nat.le_refl _) _).setCell (Nat.le_refl _) _
        ·exact(HC8.out.pa.turn (turn_two _ _ _ _) (by simp;omega)).lower (by omega)
      | error f=>
        have hd:(endRd c y.2).er=some f:=hD.out
        rw[hd] at c4 c5
        simp only[erI,erW] at c4 c5
        have hf:=(her f hd).1
        have hf2:(f.2 != 0)=true:=by simpa using hf
        have hQ:Hid (∀ w',Below w.heap.size w w'->Post (.returned (.tuple #[.agg (zs2).toArray,.int .i64 (f.1:Nat),.int .i64 f.2])) w'):=fun w' hb=>hP.out _ w' hb rfl
        clear hd hD hP her
        go_wp2_with fail
        go_region_held3 (fun w'=>w'.cell? ⟨rb,4,none⟩=some (.int .i64 f.2)/\w'.cell? ⟨rb,5,none⟩=some (.int .i64 (f.1:Nat))) (simp[go_sem, *]) (fail)
        rename_i hh
        clear hh
        go_wp2_with fail
        refine bodyPost_ret (v:=.tuple #[.agg (zs2).toArray,.int .i64 (f.1:Nat),.int .i64 f.2]) (by simp[results,Tryz.results8,go_sem, *]) rfl (hQ.out _ ?_)
        exact((HC8.out.bl.setCell (Nat.le_refl _) _).setCell (Nat.le_refl _) _).drew
     ·have k7:(y.1.kind==7)=false:=by simpa using h7
      rw[if_neg h7] at HR
      have hl7:y.2.L.length<S3.L.length:=by
       rcases hil with h | h
       ·exact h
       ·exact absurd h h7
      have hl3:=CA.out.re.left
      have hl4:=CA.out.re.gh
      go_wp2_with fail
      refine⟨⟨y.2,_,_,f',?_,?_,CA,?_⟩,?_⟩
      ·right
       rcases hf with h' | h'
       ·rw[hg3] at h';cases h'
       ·omega
      ·simp only[List.length_append,List.length_singleton];omega
      ·show _=_
       rw[HR.out,List.map_append]
       rfl
      ·rw[hl3,hl4,hme,hmg,if_pos hg3]
       split<;>omega)
   ·have hg3:S3.good=false:=by rw[eg];exact decide_eq_false er0
    have k0:(er==0)=false:=by simpa using er0
    rw[items_bad hg3] at HR
    go_wp2_with fail
    refine Calls.mono (qEnd_c _ HC.out.re) ?_
    rintro e w8 ⟨rfl,t8,r8⟩
    have HC8:=hid2 (HC.out.turn t8 r8)
    obtain⟨off,cap,i,ov,h⟩:=r8
    have c4:=h.box.cell 4 _ rfl
    have c5:=h.box.cell 5 _ rfl
    have hl4:=h.box.lt
    have her:=h.er
    rw[HR.out] at hD
    obtain⟨av,cv,hv⟩:=HC8.out.pa.val
    obtain⟨l0,l1,_,_⟩:=HC8.out.lt.duo
    have ll4:=HC8.out.lt.lt
    obtain⟨x0,x1',y0,y1⟩:=HC8.out.rs.duo
    have xl4:=HC8.out.rs.lt
    have hgr:=HC8.out.hr
    have hne:rb≠w.heap.size:=by omega
    have hne2:¬ w.heap.size=rb:=by omega
    have hne3:g≠w.heap.size:=by omega
    have hne4:¬ w.heap.size=g:=by omega
    clear h t8 HC
    cases ans with
    | ok t=>
      obtain⟨hd1,hd2⟩:(tk.1.text,l.map Prod.fst)=t/\(endRd c S3).er=none:=hD.out
      rw[hd2] at c4 c5
      simp only[erI,erW] at c4 c5
      have hQ:Hid (∀ e w',Below w.heap.size w w'->(∃ u,e=.returned (.tuple #[poV (tk.1.text,l.map Prod.fst) u,.int .i64 0,.int .i64 0])/\PoB w.heap.size z w' (tk.1.text,l.map Prod.fst) u)->Post e w'):=fun e w' hb h=>hP.out e w' hb (by rw[<-hd1];exact h)
      clear hd1 hd2 hD hP her
      subst hv
      go_wp2_with fail
      refine bodyPost_ret (v:=.tuple #[poV (tk.1.text,l.map Prod.fst) (.slice av l.length cv),.int .i64 0,.int .i64 0]) (by simp[results,Tryz.results8,go_sem, *]) rfl (hQ.out _ _ ?_ ⟨_,rfl,⟨⟨l,rfl,?_⟩,HC8.out.nz⟩⟩)
      ·exact(HC8.out.bl.setCell (Nat.le_refl _) _).setCell (Nat.le_refl _) _
      ·exact(HC8.out.pa.turn (turn_two _ _ _ _) (by simp;omega)).lower (by omega)
    | error f=>
      have hd:(endRd c S3).er=some f:=hD.out
      rw[hd] at c4 c5
      simp only[erI,erW] at c4 c5
      have hf:=(her f hd).1
      have hf2:(f.2 != 0)=true:=by simpa using hf
      have hQ:Hid (∀ w',Below w.heap.size w w'->Post (.returned (.tuple #[.agg (zs2).toArray,.int .i64 (f.1:Nat),.int .i64 f.2])) w'):=fun w' hb=>hP.out _ w' hb rfl
      clear hd hD hP her
      go_wp2_with fail
      go_region_held3 (fun w'=>w'.cell? ⟨rb,4,none⟩=some (.int .i64 f.2)/\w'.cell? ⟨rb,5,none⟩=some (.int .i64 (f.1:Nat))) (simp[go_sem, *]) (fail)
      rename_i hh
      clear hh
      go_wp2_with fail
      refine bodyPost_ret (v:=.tuple #[.agg (zs2).toArray,.int .i64 (f.1:Nat),.int .i64 f.2]) (by simp[results,Tryz.results8,go_sem, *]) rfl (hQ.out _ ?_)
      exact((HC8.out.bl.setCell (Nat.le_refl _) _).setCell (Nat.le_refl _) _).drew
end Go.Proofs.YtecdfnpbcabdnaaGreatDoor
