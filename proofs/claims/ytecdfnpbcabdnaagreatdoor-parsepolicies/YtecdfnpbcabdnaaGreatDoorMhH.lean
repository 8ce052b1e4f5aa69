import Derived.Test.YtecdfnpbcabdnaaGreatDoorMhL
namespace Go.Proofs.YtecdfnpbcabdnaaGreatDoor
open Go.RowKit Go.Lib
structure RsS (z:Nat)(w W:World)(rb tb:Nat)(LL:List Tk)(c:Int)(o:Nat)(S:Sr):Prop where
 re:Rr z W rb tb LL c S o
 tn:Turn [rb] w W
 rs:Box W w.heap.size zs6
 rl:rb<w.heap.size/\tb<w.heap.size
theorem RsS.turn {z:Nat}{w W W':World}{rb tb:Nat}{LL:List Tk}{c:Int}{o o':Nat}{S S':Sr}(h:RsS z w W rb tb LL c o S)(k:Turn [rb] W W')(r:Rr z W' rb tb LL c S' o'):RsS z w W' rb tb LL c o' S':=by
 have hl:=h.rl
 exact⟨r,turn_one h.tn k,h.rs.turn k (by simp;omega),hl⟩
theorem RsS.next {z:Nat}{w W W':World}{rb tb:Nat}{LL:List Tk}{c:Int}{o:Nat}{S:Sr}(h:RsS z w W rb tb LL c o S)(k:Below W.heap.size W W'):RsS z w W' rb tb LL c o S:=h.turn (Turn.of_below k) (h.re.next k)
theorem RsS.made {z:Nat}{w:World}{rb tb:Nat}{LL:List Tk}{c:Int}{o:Nat}{S:Sr}(h:Rr z w rb tb LL c S o):RsS z w (w.alloc (.cells zs6.toArray 33)) rb tb LL c o S:=
 have k:=(Below.refl w.heap.size w).alloc (Nat.le_refl _) (.cells zs6.toArray 33)
 ⟨h.next k,Turn.of_below k,Box.new w _ _,h.lts⟩
theorem may_adv {x:ByteArray}{S:Sr}(h:isR x S=true):mayR x S=adv S:=by unfold mayR;exact if_pos h
theorem may_not {x:ByteArray}{S:Sr}(h:isR x S=false):mayR x S=S:=by unfold mayR;rw[h];rfl
theorem one_back {z:Nat}{w W:World}{rb tb:Nat}{LL:List Tk}{c:Int}{o:Nat}{S:Sr}{k:Int}{a B:Nat}{x:Tm}{u:Value}(h:RsS z w W rb tb LL c o S)(s:SitB B z W x u)(hB:w.heap.size<B)(hf:Fit z (tm k a [x]))(v0 v1 v2 v3 v4 v5:Value):
 let W':=((((((W.setCell ⟨w.heap.size,0,none⟩ v0).setCell ⟨w.heap.size,1,none⟩ v1).setCell ⟨w.heap.size,2,none⟩ v2).setCell ⟨w.heap.size,3,none⟩ v3).setCell ⟨w.heap.size,4,none⟩ v4).setCell ⟨w.heap.size,5,none⟩ v5).alloc (.cells (tmQ x u).toArray 33)
 Turn [rb] w W'/\Rr z W' rb tb LL c S o/\SitB w.heap.size z W' (tm k a [x]) (.slice (some ⟨W.heap.size,0,none⟩) 1 1):=by
 intro W'
 have hl:=h.rl
 have k6:=turn_six W w.heap.size v0 v1 v2 v3 v4 v5
 have X:=Box.new ((((((W.setCell ⟨w.heap.size,0,none⟩ v0).setCell ⟨w.heap.size,1,none⟩ v1).setCell ⟨w.heap.size,2,none⟩ v2).setCell ⟨w.heap.size,3,none⟩ v3).setCell ⟨w.heap.size,4,none⟩ v4).setCell ⟨w.heap.size,5,none⟩ v5) (tmQ x u) 33
 have ka:=(Below.refl ((((((W.setCell ⟨w.heap.size,0,none⟩ v0).setCell ⟨w.heap.size,1,none⟩ v1).setCell ⟨w.heap.size,2,none⟩ v2).setCell ⟨w.heap.size,3,none⟩ v3).setCell ⟨w.heap.size,4,none⟩ v4).setCell ⟨w.heap.size,5,none⟩ v5).heap.size ((((((W.setCell ⟨w.heap.size,0,none⟩ v0).setCell ⟨w.heap.size,1,none⟩ v1).setCell ⟨w.heap.size,2,none⟩ v2).setCell ⟨w.heap.size,3,none⟩ v3).setCell ⟨w.heap.size,4,none⟩ v4).setCell ⟨w.heap.size,5,none⟩ v5)).alloc (Nat.le_refl _) (.cells (tmQ x u).toArray 33)
 have e1:((((((W.setCell ⟨w.heap.size,0,none⟩ v0).setCell ⟨w.heap.size,1,none⟩ v1).setCell ⟨w.heap.size,2,none⟩ v2).setCell ⟨w.heap.size,3,none⟩ v3).setCell ⟨w.heap.size,4,none⟩ v4).setCell ⟨w.heap.size,5,none⟩ v5).heap.size=W.heap.size:=by simp
 rw[e1] at X
 have s2:SitB B z W' x u:=SitQ.keep ka.size (fun b hb hq=>⟨hq,fun j=>cell_of_below ka hb j⟩) _ _ (SitQ.keep (Q':=fun b=>B<=b) k6.size (fun b hb hq=>⟨hq,fun j=>turn_cell k6 hb (by have hq':B<=b:=hq;simp;omega)⟩) _ _ s)
 have hws:=h.rs.lt
 exact⟨(h.tn.trans k6 (fun i hi=>.inr (by simp at hi;omega))).andBelow ka,(h.re.turn k6 (by simp;omega) (by simp;omega)).next ka,sitb_one hf rfl X.lt (by omega) ⟨X.cell 0 _ rfl,X.cell 1 _ rfl,X.cell 2 _ rfl,X.cell 3 _ rfl,X.cell 4 _ rfl,X.cell 5 _ rfl⟩ (SitQ.weak s2 (fun b _ hb=>by have hb':B<=b:=hb;show w.heap.size<=b;omega))⟩
theorem own_back {z:Nat}{w W:World}{rb tb:Nat}{LL:List Tk}{c:Int}{o:Nat}{S:Sr}{Q:Nat->Prop}{x:Tm}{u:Value}(h:RsS z w W rb tb LL c o S)(s:SitQ Q z W x u)(hB:∀ b,Q b->w.heap.size<b)(v0 v1 v2 v3 v4 v5:Value):
 let W':=(((((W.setCell ⟨w.heap.size,0,none⟩ v0).setCell ⟨w.heap.size,1,none⟩ v1).setCell ⟨w.heap.size,2,none⟩ v2).setCell ⟨w.heap.size,3,none⟩ v3).setCell ⟨w.heap.size,4,none⟩ v4).setCell ⟨w.heap.size,5,none⟩ v5
 Turn [rb] w W'/\Rr z W' rb tb LL c S o/\SitB w.heap.size z W' x u:=by
 intro W'
 have hl:=h.rl
 have k6:=turn_six W w.heap.size v0 v1 v2 v3 v4 v5
 exact⟨h.tn.trans k6 (fun i hi=>.inr (by simp at hi;omega)),h.re.turn k6 (by simp;omega) (by simp;omega),SitQ.keep k6.size (fun b hb hq=>⟨by have:=hB b hq;show w.heap.size<=b;omega,fun j=>turn_cell k6 hb (by have:=hB b hq;simp;omega)⟩) _ _ s⟩
set_option maxHeartbeats 8000000 in
theorem qFac_c {z rb tb:Nat}{LL:List Tk}{c:Int}{o:Nat}(hz:z<=9223372036854775807){P:Rdf}(HP:RdC z rb tb LL c o 147 P):RdC z rb tb LL c o 130 (facR P):=fun S w hr=>by
 have H1:=hid2 HP
 have HC0:=hid2 (RsS.made hr)
 have hat:=hr.tl.ok.a
 have hz0:=hid2 hz
 obtain⟨R,hR⟩:∃ R,Hid (R=facR P S):=⟨_,rfl⟩
 rw[<-hR.out]
 have hP:Hid (∀ w' t u S',Turn [rb] w w'/\Rr z w' rb tb LL c S' o/\SitB w.heap.size z w' t u->R=(t,S')->QtP w.heap.size z w rb tb LL c o R (.returned (tmV t u)) w'):=fun w' t u S' h h3=>⟨h.1,⟨_,rfl,u,by rw[h3],by rw[h3];exact h.2.2⟩,by rw[h3];exact h.2.1⟩
 generalize QtP w.heap.size z w rb tb LL c o R=Post at *
 have hl0:=hr.lts
 clear HP hz hr
 go_enter Tryz.func130,Tryz.ntmps130
 go_wp2_with fail
 refine Calls.mono (qAt_c _ HC0.out.re) ?_
 rintro e w1 ⟨rfl,b1⟩
 have HC1:=hid2 (HC0.out.next b1)
 clear HC0 b1
 go_wp2_with fail
 refine Calls.mono (qMay_c k_sub ⟨ba_neL [40] (by decide),ba_neL [123] (by decide),ba_neL [41] (by decide),ba_neL [125] (by decide)⟩ _ HC1.out.re) ?_
 rintro e w2 ⟨rfl,t2,r2⟩
 have HC2:=hid2 (HC1.out.turn t2 r2)
 clear HC1 t2 r2
 cases h2:isR k_sub S with
 | true=>
   rw[may_adv h2] at HC2
   have hR1:Hid (R=(tm 13 (hdT S.L).at_ [(P (adv S)).1],(P (adv S)).2)):=by show _=_;rw[hR.out];unfold facR;rw[if_pos h2]
   clear hR
   go_wp2_with fail
   refine Calls.mono (H1.out (adv S) _ HC2.out.re) ?_
   rintro e w4 ⟨t4,⟨v,rfl,u,rfl,s4⟩,r4⟩
   have HC4:=hid2 (HC2.out.turn t4 r4)
   have hsz:=HC2.out.rs.lt
   obtain⟨ad,cp,rfl,hcp1,hcp2⟩:=s4.parts.shape
   have HS4:=hid2 s4
   obtain⟨x0,x1,x2,x3,x4,x5,y0,y1,y2,y3,y4,y5⟩:=HC4.out.rs.six
   have xl:=HC4.out.rs.lt
   simp only[tmV]
   clear t4 r4 s4
   go_wp2_with fail
   refine bodyPost_ret (v:=tmV (tm 13 (hdT S.L).at_ [(P (adv S)).1]) (.slice (some ⟨w4.heap.size,0,none⟩) 1 1)) (by simp[results,Tryz.results130,go_sem, *]) rfl (hP.out _ _ _ (P (adv S)).2 ?_ hR1.out)
   exact one_back HC4.out HS4.out hsz (fit_of _ _ _ _ _ _ hz0.out (by decide) (by decide) (Nat.zero_le _) zero64 zero64 hat) _ _ _ _ _ _
 | false=>
   rw[may_not h2] at HC2
   have hN:=h2
   clear h2
   go_wp2_with fail
   refine Calls.mono (qMay_c k_not ⟨ba_neL [40] (by decide),ba_neL [123] (by decide),ba_neL [41] (by decide),ba_neL [125] (by decide)⟩ _ HC2.out.re) ?_
   rintro e w2b ⟨rfl,t2,r2⟩
   have HC3:=hid2 (HC2.out.turn t2 r2)
   clear HC2 t2 r2
   cases h2:isR k_not S with
   | true=>
     rw[may_adv h2] at HC3
     have hR1:Hid (R=(tm 14 (hdT S.L).at_ [(P (adv S)).1],(P (adv S)).2)):=by show _=_;rw[hR.out];unfold facR;rw[if_neg (by rw[hN];simp),if_pos h2]
     clear hR
     go_wp2_with fail
     refine Calls.mono (H1.out (adv S) _ HC3.out.re) ?_
     rintro e w4 ⟨t4,⟨v,rfl,u,rfl,s4⟩,r4⟩
     have HC4:=hid2 (HC3.out.turn t4 r4)
     have hsz:=HC3.out.rs.lt
     obtain⟨ad,cp,rfl,hcp1,hcp2⟩:=s4.parts.shape
     have HS4:=hid2 s4
     obtain⟨x0,x1,x2,x3,x4,x5,y0,y1,y2,y3,y4,y5⟩:=HC4.out.rs.six
     have xl:=HC4.out.rs.lt
     simp only[tmV]
     clear t4 r4 s4
     go_wp2_with fail
     refine bodyPost_ret (v:=tmV (tm 14 (hdT S.L).at_ [(P (adv S)).1]) (.slice (some ⟨w4.heap.size,0,none⟩) 1 1)) (by simp[results,Tryz.results130,go_sem, *]) rfl (hP.out _ _ _ (P (adv S)).2 ?_ hR1.out)
     exact one_back HC4.out HS4.out hsz (fit_of _ _ _ _ _ _ hz0.out (by decide) (by decide) (Nat.zero_le _) zero64 zero64 hat) _ _ _ _ _ _
   | false=>
     rw[may_not h2] at HC3
     have hR1:Hid (R=P S):=by show _=_;rw[hR.out];unfold facR;rw[if_neg (by rw[hN];simp),if_neg (by rw[h2];simp)]
     clear hR
     go_wp2_with fail
     refine Calls.mono (H1.out S _ HC3.out.re) ?_
     rintro e w4 ⟨t4,⟨v,rfl,u,rfl,s4⟩,r4⟩
     have HC4:=hid2 (HC3.out.turn t4 r4)
     have hsz:=HC3.out.rs.lt
     obtain⟨ad,cp,rfl,hcp1,hcp2⟩:=s4.parts.shape
     have HS4:=hid2 s4
     obtain⟨x0,x1,x2,x3,x4,x5,y0,y1,y2,y3,y4,y5⟩:=HC4.out.rs.six
     have xl:=HC4.out.rs.lt
     simp only[tmV]
     clear t4 r4 s4
     go_wp2_with fail
     refine bodyPost_ret (v:=tmV (P S).1 (.slice ad (P S).1.parts.length cp)) (by simp[results,Tryz.results130,go_sem, *]) rfl (hP.out _ _ _ (P S).2 ?_ hR1.out)
     exact own_back HC4.out HS4.out (fun b hb=>by have hb':_<=b:=hb;omega) _ _ _ _ _ _
theorem sg_cons (x:ByteArray)(k:Int)(r:Sg)(S:Sr):sgR ((x,k)::r) S=if isR x S=true then some k else sgR r S:=by
 unfold sgR isR sgT
 cases S.good with
 | false=>rfl
 | true=>
   rw[if_pos rfl,if_pos rfl,Bool.true_and]
   simp only[List.find?_cons]
   cases isT x (hdT S.L)<;>rfl
def cmpV:List Value:=[.string k_lt,.string k_le,.string k_eq,.string k_gt,.string k_ge]
theorem cmp_get (i:Nat)(hi:i<5):∃ x,cmpV[i]? = some (.string x)/\sgCmp.drop i=(x,22+(i:Int))::sgCmp.drop (i+1):=by
 have h5:i=0\/i=1\/i=2\/i=3\/i=4:=by omega
 rcases h5 with rfl | rfl | rfl | rfl | rfl
 ·exact⟨_,rfl,rfl⟩
 ·exact⟨_,rfl,rfl⟩
 ·exact⟨_,rfl,rfl⟩
 ·exact⟨_,rfl,rfl⟩
 ·exact⟨_,rfl,rfl⟩
theorem LvS.rss {z:Nat}{w W:World}{rb tb:Nat}{LL:List Tk}{c:Int}{o g:Nat}{t:Tm}{u:Value}{S:Sr}(h:LvS z w W rb tb LL c o g t u S):RsS z w W rb tb LL c o S:=⟨h.re,h.tn,h.rs,h.rl⟩
set_option maxHeartbeats 8000000 in
theorem qRel_c {z rb tb:Nat}{LL:List Tk}{c:Int}{o:Nat}(hz:z<=9223372036854775807){P:Rdf}(HP:RdC z rb tb LL c o 88 P):RdC z rb tb LL c o 62 (relR sgCmp P):=fun S w hr=>by
 have H1:=hid2 HP
 have hz0:=hid2 hz
 have hl0:=hr.lts
 obtain⟨R,hR⟩:∃ R,Hid (R=relR sgCmp P S):=⟨_,rfl⟩
 rw[<-hR.out]
 have hP:Hid (∀ w' t u S',Turn [rb] w w'/\Rr z w' rb tb LL c S' o/\SitB w.heap.size z w' t u->R=(t,S')->QtP w.heap.size z w rb tb LL c o R (.returned (tmV t u)) w'):=fun w' t u S' h h3=>⟨h.1,⟨_,rfl,u,by rw[h3],by rw[h3];exact h.2.2⟩,by rw[h3];exact h.2.1⟩
 generalize QtP w.heap.size z w rb tb LL c o R=Post at *
 clear HP hz
 go_enter Tryz.func62,Tryz.ntmps62
 go_wp2_with fail
 refine Calls.mono (H1.out S _ (hr.next ((Below.refl _ _).alloc (Nat.le_refl _) _))) ?_
 rintro e w1 ⟨t1,⟨v,rfl,u,rfl,s1⟩,r1⟩
 simp only[tmV]
 obtain⟨ad,cp,rfl,hcp1,hcp2⟩:=s1.parts.shape
 have X0:=(Box.new w zs6 33).turn t1 (by simp;omega)
 have hw1:w.heap.size+1<=w1.heap.size:=by have:=t1.size;simpa using this
 have C0:LvS z w (w1.alloc (.cells (tmQ (P S).1 (.slice ad (P S).1.parts.length cp)).toArray 33)) rb tb LL c o w1.heap.size (P S).1 (.slice ad (P S).1.parts.length cp) (P S).2:=by
  have k:=(Below.refl w1.heap.size w1).alloc (Nat.le_refl _) (.cells (tmQ (P S).1 (.slice ad (P S).1.parts.length cp)).toArray 33)
  exact⟨r1.next k,(tnA t1).andBelow k,X0.next k,Box.new w1 _ _,SitQ.keep k.size (fun b hb hq=>⟨⟨by have:(w.alloc (.cells zs6.toArray 33)).heap.size<=b:=hq;simp at this;omega,by omega⟩,fun j=>cell_of_below k hb j⟩) _ _ s1,by omega,hl0⟩
 have HC0:=hid2 C0
 have hR0:Hid (R=match sgR sgCmp (P S).2 with
  | some k=>(tm k (hdT (P S).2.L).at_ [(P S).1,(P (adv (P S).2)).1],(P (adv (P S).2)).2)
  | none=>((P S).1,(P S).2)):=hR.out
 clear C0 X0 s1 r1 t1 hR hr
 generalize (P S).1=t at *
 generalize (P S).2=S1 at *
 go_wp2_with fail
 have ks:=(Below.refl (w1.alloc (.cells (tmQ t (.slice ad t.parts.length cp)).toArray 33)).heap.size (w1.alloc (.cells (tmQ t (.slice ad t.parts.length cp)).toArray 33))).alloc (Nat.le_refl _) (.cells cmpV.toArray 9)
 have HC1:=hid2 (HC0.out.next ks)
 have HV1:Hid (Box ((w1.alloc (.cells (tmQ t (.slice ad t.parts.length cp)).toArray 33)).alloc (.cells cmpV.toArray 9)) (w1.heap.size+1) cmpV):=by
  have hh:=Box.new (w1.alloc (.cells (tmQ t (.slice ad t.parts.length cp)).toArray 33)) cmpV 9
  rw[show (w1.alloc (.cells (tmQ t (.slice ad t.parts.length cp)).toArray 33)).heap.size=w1.heap.size+1 by simp] at hh
  exact hh
 clear ks HC0
 obtain⟨g,hg⟩:∃ g,Hid (g=w1.heap.size):=⟨_,rfl⟩
 rw[<-hg.out] at HC1 HV1 ⊢
 generalize hmm:t.parts.length=m1 at *
 go_loopw [5] (fun p wr=>∃ i:Nat,p=.int .i64 i/\i<=5/\Hid (sgR (sgCmp.drop i) S1=sgR sgCmp S1)/\Hid (LvS z w wr rb tb LL c o g t (.slice ad m1 cp) S1)/\Hid (Box wr (g+1) cmpV)) (fun p _=>5-(RowKit.intOf p).toNat)
 ·exact⟨0,rfl,Nat.zero_le _,rfl,HC1,HV1⟩
 obtain⟨i,rfl,hi,HD,HC,HV⟩:=hrel
 clear HC1 HV1
 by_cases hlt:i<5
 ·have hlt':(i:Int)<5:=by omega
  obtain⟨x,hx1,hx2⟩:=cmp_get i hlt
  have c0:=HV.out.cell i _ hx1
  have vl:=HV.out.lt
  have HDx:Hid (sgR sgCmp S1=if isR x S1=true then some (22+(i:Int)) else sgR (sgCmp.drop (i+1)) S1):=by
   show _=_
   rw[<-HD.out,hx2,sg_cons]
  clear HD hx2 hx1
  go_wp2_with fail
  refine Calls.mono (qIs_c x _ HC.out.re) ?_
  rintro e w2 ⟨rfl,b2⟩
  have HC2:=hid2 (HC.out.next b2)
  have HV2:=hid2 (HV.out.next b2)
  clear b2 HC HV
  cases h2:isR x S1 with
  | false=>
    have HD2:Hid (sgR (sgCmp.drop (i+1)) S1=sgR sgCmp S1):=by
     show _=_
     rw[HDx.out,if_neg (by rw[h2];simp)]
    clear HDx
    go_wp2_with fail
    go_roundw
    ·exact⟨i+1,by simp,hlt,HD2,HC2,HV2⟩
    ·simp[RowKit.intOf];omega
  | true=>
    have HN:Hid (R=(tm (22+(i:Int)) (hdT S1.L).at_ [t,(P (adv S1)).1],(P (adv S1)).2)):=by
     show _=_
     rw[hR0.out,HDx.out,if_pos h2]
    have hkd:(hdT S1.L).kind≠7:=isT_kind (isR_good h2).2
    clear HDx hR0
    go_wp2_with fail
    refine Calls.mono (qAt_c _ HC2.out.re) ?_
    rintro e w3 ⟨rfl,b3⟩
    have HC3:=hid2 (HC2.out.next b3)
    obtain⟨j,i1,i2,i3,i4,r4⟩:=HC3.out.re.adv hkd
    have HC4:=hid2 (HC3.out.turn (turn_set _ _ _ _) r4)
    have hat:=HC3.out.re.tl.ok.a
    clear r4 HC2 HC3 b3 HV2
    go_wp2_with fail
    generalize w3.setCell ⟨rb,1,none⟩ (.int .i64 ((j:Int)+1))=W4 at *
    clear i1 i2 i3 i4
    obtain⟨l0,l1,l2,l3,l4,l5,e0,e1,e2,e3,e4,e5⟩:=HC4.out.lt.six
    have ll:=HC4.out.lt.lt
    have hgg:=HC4.out.gg
    have hwr:Hid (IntKind.i64.wrap (22+(i:Int))=22+(i:Int)):=by show _=_;rw[IntKind.wrap_i64];omega
    go_region_with (first
     | (go_at_call 88;refine Calls.mono (H1.out (adv S1) _ (HC4.out.re.next ((Below.refl _ _).drew))) ?_;rintro e w5 ⟨t5,⟨v5,rfl,u5,rfl,s5⟩,r5⟩;obtain⟨ad5,cp5,rfl,h51,h52⟩:=s5.parts.shape;have sz5:=t5.size;have HC5:=hid2 ((HC4.out.next (Below.refl _ _).drew).turn t5 r5);obtain⟨m0,m1',m2,m3,m4,m5,n0,n1,n2,n3,n4,n5⟩:=HC5.out.lt.six;have ll5:=HC5.out.lt.lt;have HS5:=hid2 s5;clear t5 r5 s5;simp only[tmV])
     | (go_at_call 40;rw[hwr.out];refine Calls.mono (qTwo_c (Q:=fun b=>w.heap.size<b/\b≠g) (22+(i:Int)) (hdT S1.L).at_ t (P (adv S1)).1 (.slice ad m1 cp) (.slice ad5 (P (adv S1)).1.parts.length cp5) w5 (fun b hb=>⟨by omega,by omega⟩) HC5.out.si (HS5.out.weak (fun b _ hb=>⟨by have hb':W4.drew.heap.size<=b:=hb;simp at hb';omega,by have hb':W4.drew.heap.size<=b:=hb;simp at hb';omega⟩)) (fit_of _ _ _ _ _ _ hz0.out (by omega) (by omega) (Nat.zero_le _) zero64 zero64 hat)) ?_;rintro e w6 ⟨b6,x6,rfl,s6⟩;obtain⟨ad6,cp6,rfl,h61,h62⟩:=s6.parts.shape;have HC6:=hid2 (HC5.out.next b6).rss;obtain⟨o0,o1,o2,o3,o4,o5,p0,p1,p2,p3,p4,p5⟩:=HC6.out.rs.six;have ll6:=HC6.out.rs.lt;have HS6:=hid2 s6;clear b6 s6;simp only[tmV]))
    all_goals go_wp2_with fail
    all_goals (
     clear l0 l1 l2 l3 l4 l5 e0 e1 e2 e3 e4 e5 m0 m1' m2 m3 m4 m5 n0 n1 n2 n3 n4 n5
     refine bodyPost_ret (v:=tmV (tm (22+(i:Int)) (hdT S1.L).at_ [t,(P (adv S1)).1]) (.slice ad6 2 cp6)) (by simp[results,Tryz.results62,go_sem,o0,o1,o2,o3,o4,o5]) rfl ?_
     have ob:=own_back HC6.out HS6.out (fun b hb=>hb.1) (.int .i64 (22+(i:Int))) (.string ⟨#[]⟩) (.int .i64 0) (.int .i64 0) (.int .i64 ((hdT S1.L).at_:Nat)) (.slice ad6 2 cp6)
     exact hP.out _ _ _ (P (adv S1)).2 ob HN.out)
 ·have h5:i=5:=by omega
  subst h5
  have HN:Hid (R=(t,S1)):=by
   show _=_
   have hn:sgR (List.drop 5 sgCmp) S1=none:=by
    show sgR [] S1=none
    unfold sgR
    split<;>rfl
   rw[hR0.out,<-HD.out,hn]
  have HC6:=hid2 HC.out.rss
  obtain⟨l0,l1,l2,l3,l4,l5,_,_,_,_,_,_⟩:=HC.out.lt.six
  have ll:=HC.out.lt.lt
  obtain⟨o0,o1,o2,o3,o4,o5,p0,p1,p2,p3,p4,p5⟩:=HC6.out.rs.six
  have ll6:=HC6.out.rs.lt
  have HS6:=hid2 HC.out.si
  clear HC HV HD hR0
  go_wp2_with fail
  refine bodyPost_ret (v:=tmV t (.slice ad m1 cp)) (by simp[results,Tryz.results62,go_sem, *]) rfl (hP.out _ _ _ S1 ?_ HN.out)
  exact own_back HC6.out HS6.out (fun b hb=>hb.1) _ _ _ _ _ _
abbrev Cl:=ByteArray×Int×Int
def callT:List Cl:=[(k_if,32,3),(k_min,29,2),(k_max,30,2),(k_either,31,2),(k_abs,15,1),(k_ceil,16,1),(k_floor,17,1),(k_sum,7,0),(k_avg,8,0),(k_low,9,0),(k_high,10,0),(k_count,11,0),(k_rank,12,0),(k_cron,6,-1)]
def callV:List Value:=callT.flatMap fun q=>[.string q.1,.int .i64 q.2.1,.int .i64 q.2.2]
set_option maxHeartbeats 4000000 in
theorem calls_c (w:World):Calls Tryz.prog 164 #[] w fun e w'=>e=.returned (.slice (some ⟨w.heap.size,0,none⟩) 14 14)/\Box w' w.heap.size callV/\Below w.heap.size w w':=by
 have HB:=hid2 (one_box w 194 callV)
 go_enter Tryz.func164,Tryz.ntmps164
 go_wp2_with fail
 go_ret
 exact⟨rfl,HB.out.1,HB.out.2⟩
theorem call_get (i:Nat)(hi:i<14):∃ q:Cl,callT[i]? = some q/\callV[i*3]? = some (.string q.1)/\callV[i*3+1]? = some (.int .i64 q.2.1)/\callV[i*3+2]? = some (.int .i64 q.2.2)/\callT.drop i=q::callT.drop (i+1):=by
 have h:i=0\/i=1\/i=2\/i=3\/i=4\/i=5\/i=6\/i=7\/i=8\/i=9\/i=10\/i=11\/i=12\/i=13:=by omega
 rcases h with rfl | rfl | rfl | rfl | rfl | rfl | rfl | rfl | rfl | rfl | rfl | rfl | rfl | rfl
 all_goals exact⟨_,rfl,rfl,rfl,rfl,rfl⟩
theorem call_in {i:Nat}{q:Cl}(h:callT[i]? = some q):q∈callT:=List.mem_of_getElem? h
def insR (c:Int)(X:Option Rdf)(k n:Int)(a:Nat):Rdf:=fun S=>if n<0 then cronR c X.isNone a S else if n=0 then winR c X.isNone k a S else callR c X k (n.toNat-1) a S
theorem word_ins {c:Int}{X:Option Rdf}{t:Tk}{S:Sr}{q:Cl}(h:q∈callT)(ht:t.text=q.1):wordR c X t S=insR c X q.2.1 q.2.2 t.at_ S:=by
 unfold callT at h
 simp only[List.mem_cons,List.not_mem_nil,or_false] at h
 unfold wordR insR
 rw[ht]
 rcases h with rfl | rfl | rfl | rfl | rfl | rfl | rfl | rfl | rfl | rfl | rfl | rfl | rfl | rfl
 all_goals rfl
theorem is_call {x:ByteArray}:isCall x=true↔∃ q∈callT,x=q.1:=by
 unfold isCall callT
 simp only[Bool.or_eq_true,decide_eq_true_eq,List.mem_cons,List.not_mem_nil,or_false]
 constructor
 ·rintro(h | h | h | h | h | h | h | h | h | h | h | h | h | h)
  ·exact⟨_,.inl rfl,h⟩
  ·exact⟨_,.inr (.inl rfl),h⟩
  ·exact⟨_,.inr (.inr (.inl rfl)),h⟩
  ·exact⟨_,.inr (.inr (.inr (.inl rfl))),h⟩
  ·exact⟨_,.inr (.inr (.inr (.inr (.inl rfl)))),h⟩
  ·exact⟨_,.inr (.inr (.inr (.inr (.inr (.inl rfl))))),h⟩
  ·exact⟨_,.inr (.inr (.inr (.inr (.inr (.inr (.inl rfl)))))),h⟩
  ·exact⟨_,.inr (.inr (.inr (.inr (.inr (.inr (.inr (.inl rfl))))))),h⟩
  ·exact⟨_,.inr (.inr (.inr (.inr (.inr (.inr (.inr (.inr (.inl rfl)))))))),h⟩
  ·exact⟨_,.inr (.inr (.inr (.inr (.inr (.inr (.inr (.inr (.inr (.inl rfl))))))))),h⟩
  ·exact⟨_,.inr (.inr (.inr (.inr (.inr (.inr (.inr (.inr (.inr (.inr (.inl rfl)))))))))),h⟩
  ·exact⟨_,.inr (.inr (.inr (.inr (.inr (.inr (.inr (.inr (.inr (.inr (.inr (.inl rfl))))))))))),h⟩
  ·exact⟨_,.inr (.inr (.inr (.inr (.inr (.inr (.inr (.inr (.inr (.inr (.inr (.inr (.inl rfl)))))))))))),h⟩
  ·exact⟨_,.inr (.inr (.inr (.inr (.inr (.inr (.inr (.inr (.inr (.inr (.inr (.inr (.inr rfl)))))))))))),h⟩
 ·rintro⟨q,(rfl | rfl | rfl | rfl | rfl | rfl | rfl | rfl | rfl | rfl | rfl | rfl | rfl | rfl),rfl⟩
  all_goals simp
theorem call_plain {q:Cl}(h:q∈callT):(q.1.toList==[40])=false/\(q.1.toList==[123])=false/\(q.1.toList==[41])=false/\(q.1.toList==[125])=false:=by
 unfold callT at h
 simp only[List.mem_cons,List.not_mem_nil,or_false] at h
 rcases h with rfl | rfl | rfl | rfl | rfl | rfl | rfl | rfl | rfl | rfl | rfl | rfl | rfl | rfl
 all_goals exact⟨ba_neL [40] (by decide),ba_neL [123] (by decide),ba_neL [41] (by decide),ba_neL [125] (by decide)⟩
def wdT:List ByteArray:=[k_true,k_false,k_reps]
def wdV:List Value:=[.string k_true,.string k_false,.string k_reps]
theorem wd_get (i:Nat)(hi:i<3):∃ x,wdT[i]? = some x/\wdV[i]? = some (.string x)/\((x.toList==[40])=false/\(x.toList==[123])=false/\(x.toList==[41])=false/\(x.toList==[125])=false):=by
 have h:i=0\/i=1\/i=2:=by omega
 rcases h with rfl | rfl | rfl
 all_goals exact⟨_,rfl,rfl,ba_neL [40] (by decide),ba_neL [123] (by decide),ba_neL [41] (by decide),ba_neL [125] (by decide)⟩
theorem isR_iff {x:ByteArray}{S:Sr}(h:S.good=true):isR x S=isT x (hdT S.L):=by unfold isR;rw[h];rfl
theorem isT_text {x:ByteArray}{t:Tk}(h:isT x t=true):t.text=x:=by
 unfold isT at h
 simp only[Bool.and_eq_true,decide_eq_true_eq] at h
 exact h.1
theorem isT_own {x:ByteArray}{t:Tk}(h:isT x t=true):isT t.text t=true:=by rw[isT_text h];exact h
theorem isT_call {S:Sr}(h:∀ q∈callT,isT q.1 (hdT S.L)=false):¬(isT (hdT S.L).text (hdT S.L)=true/\isCall (hdT S.L).text=true):=by
 rintro⟨h1,h2⟩
 obtain⟨q,hq,he⟩:=is_call.1 h2
 have:=h q hq
 rw[<-he,h1] at this
 cases this
def InQ (z rb tb:Nat)(LL:List Tk)(c:Int)(o:Nat)(X:Option Rdf):Prop:=(o=64/\X=none)\/(o≠64/\∃ E,X=some E/\RdC z rb tb LL c (o+1) 22 E)
def InsC (z rb tb:Nat)(LL:List Tk)(c:Int)(o:Nat)(X:Option Rdf):Prop:=∀ q∈callT,∀ (a:Nat),a<=z->∀ S w,Rr z w rb tb LL c S o->Calls Tryz.prog 165 #[.pointer (some ⟨rb,0,none⟩),.agg #[.string q.1,.int .i64 q.2.1,.int .i64 q.2.2],.int .i64 (a:Nat)] w (QtP w.heap.size z w rb tb LL c o (insR c X q.2.1 q.2.2 a S))
structure AtS (z:Nat)(w W:World)(rb tb:Nat)(LL:List Tk)(c:Int)(o:Nat)(t:Tk)(S:Sr):Prop where
 r:RsS z w W rb tb LL c o S
 tk:Box W (w.heap.size+1) (tkC t)
theorem AtS.turn {z:Nat}{w W W':World}{rb tb:Nat}{LL:List Tk}{c:Int}{o o':Nat}{t:Tk}{S S':Sr}(h:AtS z w W rb tb LL c o t S)(k:Turn [rb] W W')(r:Rr z W' rb tb LL c S' o'):AtS z w W' rb tb LL c o' t S':=by
 have hl:=h.r.rl
 exact⟨h.r.turn k r,h.tk.turn k (by simp;omega)⟩
theorem AtS.next {z:Nat}{w W W':World}{rb tb:Nat}{LL:List Tk}{c:Int}{o:Nat}{t:Tk}{S:Sr}(h:AtS z w W rb tb LL c o t S)(k:Below W.heap.size W W'):AtS z w W' rb tb LL c o t S:=h.turn (Turn.of_below k) (h.r.re.next k)
theorem AtS.made {z:Nat}{w:World}{rb tb:Nat}{LL:List Tk}{c:Int}{o:Nat}{S:Sr}(h:Rr z w rb tb LL c S o)(t:Tk):AtS z w ((w.alloc (.cells zs6.toArray 33)).alloc (.cells (tkC t).toArray 47)).drew rb tb LL c o t S:=by
 have k:=((Below.refl (w.alloc (.cells zs6.toArray 33)).heap.size (w.alloc (.cells zs6.toArray 33))).alloc (Nat.le_refl _) (.cells (tkC t).toArray 47)).drew
 have X:=(Box.new (w.alloc (.cells zs6.toArray 33)) (tkC t) 47).next ((Below.refl _ _).drew)
 rw[show (w.alloc (.cells zs6.toArray 33)).heap.size=w.heap.size+1 by simp] at X
 exact⟨(RsS.made h).next k,X⟩
theorem leaf_back {z:Nat}{w W:World}{rb tb:Nat}{LL:List Tk}{c:Int}{o:Nat}{S:Sr}{x:Tm}(h:RsS z w W rb tb LL c o S)(hf:Fit z x)(hp:x.parts=[])(v0 v1 v2 v3 v4 v5:Value):
 let W':=(((((W.setCell ⟨w.heap.size,0,none⟩ v0).setCell ⟨w.heap.size,1,none⟩ v1).setCell ⟨w.heap.size,2,none⟩ v2).setCell ⟨w.heap.size,3,none⟩ v3).setCell ⟨w.heap.size,4,none⟩ v4).setCell ⟨w.heap.size,5,none⟩ v5
 Turn [rb] w W'/\Rr z W' rb tb LL c S o/\SitB w.heap.size z W' x (.slice none 0 0):=by
 intro W'
 have hl:=h.rl
 have k6:=turn_six W w.heap.size v0 v1 v2 v3 v4 v5
 exact⟨h.tn.trans k6 (fun i hi=>.inr (by simp at hi;omega)),h.re.turn k6 (by simp;omega) (by simp;omega),sitb_leaf hf hp⟩
theorem atom_wd {α : Type}{i:Nat}{x:ByteArray}{t:Tk}(a:Int -> α)(r : α)(hx:wdT[i]? = some x)(hi:i<3)(h:isT x t=true)(hp:∀ j x',j<i->wdT[j]? = some x'->isT x' t=false):
 (if isT k_true t=true then a 3 else if isT k_false t=true then a 4 else if isT k_reps t=true then a 5 else r)=a (3+(i:Int)):=by
 have h3:i=0\/i=1\/i=2:=by omega
 rcases h3 with rfl | rfl | rfl
 ·cases hx
  rw[if_pos h]
  rfl
 ·cases hx
  rw[hp 0 _ (by decide) rfl,if_neg (by simp),if_pos h]
  rfl
 ·cases hx
  rw[hp 0 _ (by decide) rfl,hp 1 _ (by decide) rfl,if_neg (by simp),if_neg (by simp),if_pos h]
  rfl
theorem atomr_no {α : Type}{t:Tk}(a:Int -> α)(r : α)(hp:∀ j x',j<3->wdT[j]? = some x'->isT x' t=false):
 (if isT k_true t=true then a 3 else if isT k_false t=true then a 4 else if isT k_reps t=true then a 5 else r)=r:=by
 rw[hp 0 _ (by decide) rfl,hp 1 _ (by decide) rfl,hp 2 _ (by decide) rfl,if_neg (by simp),if_neg (by simp),if_neg (by simp)]
def lpR (c:Int)(X:Option Rdf)(S:Sr):Tm×Sr:=match X with
 | none=>(nilM,wrR c 15 S)
 | some E=>((E (adv S)).1,mustR c k_rp (E (adv S)).2)
def wcR (c:Int)(X:Option Rdf)(S:Sr):Tm×Sr:=if isT (hdT S.L).text (hdT S.L)=true/\isCall (hdT S.L).text=true then wordR c X (hdT S.L) (adv S) else (nilM,wrR c 16 S)
theorem atomR_eq {c:Int}{X:Option Rdf}{S:Sr}(hg:S.good=true):atomR c X S =
 if (hdT S.L).kind=2 then numberR c S
 else if (hdT S.L).kind=1 then (⟨2,(hdT S.L).text,0,0,((hdT S.L).at_:Int),[]⟩,adv S)
 else if isT k_true (hdT S.L)=true then (tm 3 (hdT S.L).at_ [],adv S)
 else if isT k_false (hdT S.L)=true then (tm 4 (hdT S.L).at_ [],adv S)
 else if isT k_reps (hdT S.L)=true then (tm 5 (hdT S.L).at_ [],adv S)
 else if isT k_lp (hdT S.L)=true then lpR c X S
 else wcR c X S:=by
 unfold atomR lpR wcR
 rw[if_pos hg]
 cases X<;>rfl
def LpP (z:Nat)(w:World)(rb tb:Nat)(LL:List Tk)(c:Int)(o:Nat)(X:Option Rdf)(S:Sr)(e:Ending)(w':World):Prop:=Turn [rb] w w' /\
 ((∃ E,e=.returned (.bool true)/\X=some E/\RdC z rb tb LL c (o+1) 22 E/\isR k_lp S=true/\Rr z w' rb tb LL c (adv S) (o+1)) \/
  (∃ S',e=.returned (.bool false)/\Rr z w' rb tb LL c S' o/\((isR k_lp S=true/\X=none/\S'=wrR c 15 S)\/(isR k_lp S=false/\S'=S))))
theorem mayLp_any {z rb tb:Nat}{LL:List Tk}{c:Int}{o:Nat}{X:Option Rdf}(HX:InQ z rb tb LL c o X){S:Sr}(w:World)(hr:Rr z w rb tb LL c S o):Calls Tryz.prog 31 #[.pointer (some ⟨rb,0,none⟩),.string k_lp] w (LpP z w rb tb LL c o X S):=by
 rcases HX with ⟨rfl,rfl⟩ | ⟨ho,E,rfl,HE⟩
 ·refine(qMayLpF_c w hr).mono ?_
  rintro e w' ⟨rfl,t1,r1⟩
  refine⟨t1,.inr ⟨_,rfl,r1,?_⟩⟩
  rcases Bool.eq_false_or_eq_true (isR k_lp S) with h | h
  ·exact .inl ⟨h,rfl,if_pos h⟩
  ·exact .inr ⟨h,if_neg (by rw[h];simp)⟩
 ·refine(qMayLp_c ho w hr).mono ?_
  rintro e w' ⟨rfl,t1,r1⟩
  rcases Bool.eq_false_or_eq_true (isR k_lp S) with h | h
  ·rw[if_pos h,may_adv h] at r1
   exact⟨t1,.inl ⟨E,by rw[h],rfl,HE,h,r1⟩⟩
  ·rw[if_neg (by rw[h];simp),may_not h] at r1
   exact⟨t1,.inr ⟨_,by rw[h],r1,.inr ⟨h,rfl⟩⟩⟩
theorem bad_is {x:ByteArray}{S:Sr}(h:S.good=false):isR x S=false:=by unfold isR;rw[h];rfl
theorem bad_wr {c e:Int}{S:Sr}(h:S.good=false):wrR c e S=S:=by unfold wrR;rw[if_neg (by rw[h];simp)]
theorem fit_nil {z:Nat}:Fit z nilM:=⟨zero64,zero64,zero64,zero64,Nat.zero_le _⟩
set_option maxHeartbeats 16000000 in
theorem qAtom_c {z rb tb:Nat}{LL:List Tk}{c:Int}{o:Nat}(hz:z<=9223372036854775807){X:Option Rdf}(HX:InQ z rb tb LL c o X)(HI:InsC z rb tb LL c o X):RdC z rb tb LL c o 147 (atomR c X):=fun S w hr=>by
 have HX0:=hid2 HX
 have HI0:=hid2 HI
 have hz0:=hid2 hz
 have hgood:=hr.good
 have htok:=hid2 hr.tl.ok
 obtain⟨R,hR⟩:∃ R,Hid (R=atomR c X S):=⟨_,rfl⟩
 rw[<-hR.out]
 have hP:Hid (∀ w' t u S',Turn [rb] w w'/\Rr z w' rb tb LL c S' o/\SitB w.heap.size z w' t u->R=(t,S')->QtP w.heap.size z w rb tb LL c o R (.returned (tmV t u)) w'):=fun w' t u S' h h3=>⟨h.1,⟨_,rfl,u,by rw[h3],by rw[h3];exact h.2.2⟩,by rw[h3];exact h.2.1⟩
 generalize QtP w.heap.size z w rb tb LL c o R=Post at *
 clear HX HI hz
 by_cases e1:erI S.er=0
 ·have hg:S.good=true:=by rw[hgood];exact decide_eq_true e1
  rw[atomR_eq hg] at hR
  have HA:=hid2 (AtS.made hr (hdT S.L))
  have HM:Hid (∀ x,isR x S=isT x (hdT S.L)):=fun x=>isR_iff hg
  obtain⟨off,cap,i,ov,h⟩:=hr
  obtain⟨t0,t1,t2,t3⟩:=h.hd
  obtain⟨c0,c1,c2,c3,c4,c5,f0,f1,f2,f3,f4,f5⟩:=h.box.six
  have hl:=h.box.lt
  have htl:=h.lt
  have hil:(i:Int)<(LL.length:Int):=by have:=h.il;omega
  have hmx:=h.mx
  have hle:=h.le
  generalize ht:hdT S.L=t at *
  generalize hn:LL.length=n at *
  generalize erI S.er=er at *
  generalize erW S.er=wh at *
  clear h hn hgood
  go_enter Tryz.func147,Tryz.ntmps147
  go_wp2_with fail
  go_region_held3 (fun w'=>w'.cell? ⟨rb,0,none⟩=some (.slice (some ⟨tb,off,none⟩) n cap)/\w'.cell? ⟨rb,1,none⟩=some (.int .i64 (i:Nat))/\w'.cell? ⟨tb,off+i*4,none⟩=some (.int .i64 t.kind)/\w'.cell? ⟨tb,off+i*4+1,none⟩=some (.string t.text)/\w'.cell? ⟨tb,off+i*4+2,none⟩=some (.int .i64 t.n)/\w'.cell? ⟨tb,off+i*4+3,none⟩=some (.int .i64 (t.at_:Nat))) (simp[go_sem, *]) (fail)
  rename_i hh
  clear hh c0 c1 c2 c3 c4 c5 f0 f1 f2 f3 f4 f5 t0 t1 t2 t3 hil hmx hle e1
  generalize ((w.alloc (.cells zs6.toArray 33)).alloc (.cells (tkC t).toArray 47)).drew=W1 at *
  obtain⟨d0,d1,d2,d3,_,_,_,_⟩:=HA.out.tk.four
  have dl:=HA.out.tk.lt
  obtain⟨x0,x1,x2,x3,x4,x5,y0,y1,y2,y3,y4,y5⟩:=HA.out.r.rs.six
  have xl:=HA.out.r.rs.lt
  by_cases k2:t.kind=2
  ·rw[if_pos k2] at hR
   go_wp2_with fail
   refine Calls.mono (qNumber_c hz0.out _ HA.out.r.re) ?_
   rintro e w2 ⟨t2,⟨v,rfl,u,rfl,s2⟩,r2⟩
   have HC4:=hid2 (HA.out.r.turn t2 r2)
   obtain⟨ad,cp,rfl,hcp1,hcp2⟩:=s2.parts.shape
   have HS4:=hid2 s2
   clear x0 x1 x2 x3 x4 x5 y0 y1 y2 y3 y4 y5
   obtain⟨x0,x1,x2,x3,x4,x5,y0,y1,y2,y3,y4,y5⟩:=HC4.out.rs.six
   have xl4:=HC4.out.rs.lt
   simp only[tmV]
   clear t2 r2 s2 d0 d1 d2 d3
   go_wp2_with fail
   refine bodyPost_ret (v:=tmV (numberR c S).1 (.slice ad (numberR c S).1.parts.length cp)) (by simp[results,Tryz.results147,go_sem, *]) rfl (hP.out _ _ _ (numberR c S).2 ?_ hR.out)
   exact own_back HC4.out HS4.out (fun b hb=>by have hb':W1.heap.size<=b:=hb;omega) _ _ _ _ _ _
  rw[if_neg k2] at hR
  have b2:(t.kind==2)=false:=by simpa using k2
  by_cases k1:t.kind=1
  ·rw[if_pos k1] at hR
   have hk7:(hdT S.L).kind≠7:=by rw[ht,k1];decide
   obtain⟨j,j1,j2,j3,j4,r4⟩:=HA.out.r.re.adv hk7
   have HC4:=hid2 (HA.out.r.turn (turn_set _ _ _ _) r4)
   go_wp2_with fail
   refine bodyPost_ret (v:=tmV ⟨2,t.text,0,0,(t.at_:Int),[]⟩ (.slice none 0 0)) (by simp[results,Tryz.results147,go_sem, *]) rfl (hP.out _ _ _ (adv S) ?_ hR.out)
   exact leaf_back HC4.out (fit_of 2 _ _ _ _ _ hz0.out (by decide) (by decide) htok.out.x zero64 zero64 htok.out.a) rfl _ _ _ _ _ _
  rw[if_neg k1] at hR
  have b1:(t.kind==1)=false:=by simpa using k1
  go_wp2_with fail
  clear x0 x1 x2 x3 x4 x5 y0 y1 y2 y3 y4 y5 d0 d1 d2 d3
  have HB1:=hid2 (Box.new W1 wdV 9)
  have HA1:=hid2 (HA.out.next ((Below.refl _ _).alloc (Nat.le_refl _) (.cells wdV.toArray 9)))
  obtain⟨hb,hhb⟩:∃ hb,Hid (hb=W1.heap.size):=⟨_,rfl⟩
  have hbl:w.heap.size+1<hb:=by rw[hhb.out];exact dl
  rw[<-hhb.out] at HB1 ⊢
  clear HA dl xl hl htl
  go_loopw [5] (fun p wr=>∃ i:Nat,p=.int .i64 i/\i<=3/\Hid (∀ j x',j<i->wdT[j]? = some x'->isT x' t=false)/\Hid (AtS z w wr rb tb LL c o t S)/\Hid (Box wr hb wdV)) (fun p _=>3-(RowKit.intOf p).toNat)
  ·exact⟨0,rfl,Nat.zero_le _,fun j x' h0 _=>by omega,HA1,HB1⟩
  obtain⟨i,rfl,hi,HW,HA2,HB2⟩:=hrel
  clear HA1 HB1
  by_cases hlt:i<3
  ·have hlt':(i:Int)<3:=by omega
   obtain⟨x,hx1,hx2,hx3⟩:=wd_get i hlt
   have c0:=HB2.out.cell i _ hx2
   have vl:=HB2.out.lt
   go_wp2_with fail
   refine Calls.mono (qMay_c x hx3 _ HA2.out.r.re) ?_
   rintro e w2 ⟨rfl,t2,r2⟩
   have HA3:=hid2 (HA2.out.turn t2 r2)
   have hrl:=HA2.out.r.rl
   have HB3:=hid2 (HB2.out.turn t2 (by simp;omega))
   clear t2 r2 HA2 HB2 c0 vl hx3
   cases h2:isR x S with
   | false=>
     rw[may_not h2] at HA3
     go_wp2_with fail
     go_roundw
     ·refine⟨i+1,by simp,hlt,fun j x' hj hx'=>?_,HA3,HB3⟩
      by_cases hji:j=i
      ·subst hji
       rw[hx1] at hx'
       cases hx'
       rw[<-HM.out]
       exact h2
      ·exact HW.out j x' (by omega) hx'
     ·simp[RowKit.intOf];omega
   | true=>
     rw[may_adv h2] at HA3
     have HN:Hid (R=(tm (3+(i:Int)) t.at_ [],adv S)):=by
      show _=_
      rw[hR.out]
      exact atom_wd (fun k=>(tm k t.at_ [],adv S)) _ hx1 hlt (by rw[<-HM.out];exact h2) HW.out
     have hwr:IntKind.i64.wrap (3+(i:Int))=3+(i:Int):=by rw[IntKind.wrap_i64];omega
     obtain⟨d0,d1,d2,d3,_,_,_,_⟩:=HA3.out.tk.four
     have dl:=HA3.out.tk.lt
     obtain⟨x0,x1,x2,x3,x4,x5,y0,y1,y2,y3,y4,y5⟩:=HA3.out.r.rs.six
     have xl:=HA3.out.r.rs.lt
     go_wp2_with fail
     refine bodyPost_ret (v:=tmV (tm (3+(i:Int)) t.at_ []) (.slice none 0 0)) (by simp[results,Tryz.results147,go_sem, *]) rfl (hP.out _ _ _ (adv S) ?_ HN.out)
     exact leaf_back HA3.out.r (fit_of _ _ _ _ _ _ hz0.out (by omega) (by omega) (Nat.zero_le _) zero64 zero64 htok.out.a) rfl _ _ _ _ _ _
  have hi3:i=3:=by omega
  subst hi3
  have hR2:Hid (R=if isT k_lp t=true then lpR c X S else wcR c X S):=by
   show _=_
   rw[hR.out]
   exact atomr_no (fun k=>(tm k t.at_ [],adv S)) _ HW.out
  clear hR HW HB2
  have HA:=HA2
  clear HA2
  go_wp2_with fail
  refine Calls.mono (mayLp_any HX0.out _ HA.out.r.re) ?_
  rintro e w2 ⟨t2,h2⟩
  rcases h2 with ⟨E,rfl,hXE,HE,hlp,r2⟩ | ⟨S',rfl,r2,hS'⟩
  ·have HA2:=hid2 (HA.out.turn t2 r2)
   have HN:Hid (R=((E (adv S)).1,mustR c k_rp (E (adv S)).2)):=by
    show _=_
    rw[hR2.out,<-HM.out,if_pos hlp,hXE]
    rfl
   have sz2:=HA2.out.tk.lt
   clear t2 r2 HA hR2
   go_wp2_with fail
   refine Calls.mono (HE (adv S) _ HA2.out.r.re) ?_
   rintro e w3 ⟨t3,⟨v,rfl,u,rfl,s3⟩,r3⟩
   have HA3:=hid2 (HA2.out.r.turn t3 r3)
   obtain⟨ad,cp,rfl,hcp1,hcp2⟩:=s3.parts.shape
   have HS3:=hid2 s3
   have sz3:=t3.size
   simp only[tmV]
   clear t3 r3 s3 HA2
   have ka:=hid2 ((Below.refl w3.heap.size w3).alloc (Nat.le_refl _) (.cells (tmQ (E (adv S)).1 (.slice ad (E (adv S)).1.parts.length cp)).toArray 33))
   have HL3:=hid2 (Box.new w3 (tmQ (E (adv S)).1 (.slice ad (E (adv S)).1.parts.length cp)) 33)
   have HA4:=hid2 (HA3.out.next ka.out)
   have HS4:Hid (SitB w2.heap.size z _ (E (adv S)).1 (.slice ad (E (adv S)).1.parts.length cp)):=SitQ.keep ka.out.size (fun b hb hq=>⟨hq,fun j=>cell_of_below ka.out hb j⟩) _ _ HS3.out
   go_wp2_with fail
   refine Calls.mono (qMustRp_c _ HA4.out.re) ?_
   rintro e w5 ⟨rfl,t5,r5⟩
   have HA5:=hid2 (HA4.out.turn t5 r5)
   have hrl:=HA5.out.rl
   have HL5:=hid2 (HL3.out.turn t5 (by simp;omega))
   have HS5:Hid (SitB w2.heap.size z w5 (E (adv S)).1 (.slice ad (E (adv S)).1.parts.length cp)):=SitQ.keep t5.size (fun b hb hq=>⟨hq,fun j=>turn_cell t5 hb (by have hq':w2.heap.size<=b:=hq;simp;omega)⟩) _ _ HS4.out
   clear t5 r5 HA4 HL3 HS4 HS3 HA3 ka
   obtain⟨l0,l1,l2,l3,l4,l5,_,_,_,_,_,_⟩:=HL5.out.six
   have ll5:=HL5.out.lt
   obtain⟨x0,x1,x2,x3,x4,x5,y0,y1,y2,y3,y4,y5⟩:=HA5.out.rs.six
   have xl5:=HA5.out.rs.lt
   go_wp2_with fail
   refine bodyPost_ret (v:=tmV (E (adv S)).1 (.slice ad (E (adv S)).1.parts.length cp)) (by simp[results,Tryz.results147,go_sem, *]) rfl (hP.out _ _ _ (mustR c k_rp (E (adv S)).2) ?_ HN.out)
   exact own_back HA5.out HS5.out (fun b hb=>by have hb':w2.heap.size<=b:=hb;omega) _ _ _ _ _ _
  have HA2:=hid2 (HA.out.turn t2 r2)
  have HNw:Hid ((∀ q∈callT,isR q.1 S'=true->R=insR c X q.2.1 q.2.2 t.at_ (adv S'))/\((∀ q∈callT,isR q.1 S'=false)->R=(nilM,wrR c 16 S'))):=by
   show _/\_
   rcases hS' with ⟨hlp,hX1,hS1⟩ | ⟨hlp,hS1⟩
   ·have hb:S'.good=false:=by rw[hS1];exact wr_good
    refine⟨fun q _ hq=>?_,fun _=>?_⟩
    ·rw[bad_is hb] at hq
     cases hq
    ·rw[hR2.out,<-HM.out,if_pos hlp,bad_wr hb,hX1,hS1]
     rfl
   ·subst hS1
    refine⟨fun q hq h=>?_,fun h=>?_⟩
    ·rw[hR2.out,<-HM.out k_lp,if_neg (by rw[hlp];simp)]
     unfold wcR
     have h':isT q.1 (hdT S'.L)=true:=by rw[ht,<-HM.out];exact h
     rw[if_pos ⟨isT_own h',is_call.2 ⟨q,hq,isT_text h'⟩⟩,word_ins hq (isT_text h'),ht]
    ·rw[hR2.out,<-HM.out k_lp,if_neg (by rw[hlp];simp)]
     unfold wcR
     rw[if_neg (isT_call (fun q hq=>by rw[ht,<-HM.out];exact h q hq))]
  clear t2 r2 HA hR2 hS' HM hg
  go_wp2_with fail
  refine Calls.mono (calls_c _) ?_
  rintro e w3 ⟨rfl,B3,b3⟩
  have HA3:=hid2 (HA2.out.next b3)
  have HB3:=hid2 B3
  have hcb:w.heap.size+1<w2.heap.size:=HA2.out.tk.lt
  clear HA2 B3 b3
  go_wp2_with fail
  obtain⟨cb,hcb0⟩:∃ cb,Hid (cb=w2.heap.size):=⟨_,rfl⟩
  rw[<-hcb0.out] at HB3 hcb ⊢
  go_loopw [8] (fun p wr=>∃ i:Nat,p=.int .i64 i/\i<=14/\Hid (∀ j q,j<i->callT[j]? = some q->isR q.1 S'=false)/\Hid (AtS z w wr rb tb LL c o t S')/\Hid (Box wr cb callV)) (fun p _=>14-(RowKit.intOf p).toNat)
  ·exact⟨0,rfl,Nat.zero_le _,fun j q h0 _=>by omega,HA3,HB3⟩
  obtain⟨i,rfl,hi,HW,HA4,HB4⟩:=hrel
  clear HA3 HB3
  by_cases hlt:i<14
  ·have hlt':(i:Int)<14:=by omega
   obtain⟨q,hq1,v0,v1,v2,_⟩:=call_get i hlt
   have hqm:=call_in hq1
   have c0:=HB4.out.cell _ _ v0
   have vl:=HB4.out.lt
   go_wp2_with fail
   refine Calls.mono (qMay_c q.1 (call_plain hqm) _ HA4.out.r.re) ?_
   rintro e w4 ⟨rfl,t4,r4⟩
   have HA5:=hid2 (HA4.out.turn t4 r4)
   have hrl:=HA4.out.r.rl
   have HB5:=hid2 (HB4.out.turn t4 (by simp;omega))
   clear t4 r4 HA4 HB4 c0 vl
   cases h2:isR q.1 S' with
   | false=>
     rw[may_not h2] at HA5
     go_wp2_with fail
     go_roundw
     ·refine⟨i+1,by simp,hlt,fun j q' hj hq'=>?_,HA5,HB5⟩
      by_cases hji:j=i
      ·subst hji
       rw[hq1] at hq'
       cases hq'
       exact h2
      ·exact HW.out j q' (by omega) hq'
     ·simp[RowKit.intOf];omega
   | true=>
     rw[may_adv h2] at HA5
     have HN:Hid (R=insR c X q.2.1 q.2.2 t.at_ (adv S')):=HNw.out.1 q hqm h2
     have c0:=HB5.out.cell _ _ v0
     have c1:=HB5.out.cell _ _ v1
     have c2:=HB5.out.cell _ _ v2
     have vl:=HB5.out.lt
     obtain⟨d0,d1,d2,d3,_,_,_,_⟩:=HA5.out.tk.four
     have dl:=HA5.out.tk.lt
     go_wp2_with fail
     go_region_held3 (fun w'=>w'.cell? ⟨cb,i*3,none⟩=some (.string q.1)/\w'.cell? ⟨cb,i*3+1,none⟩=some (.int .i64 q.2.1)/\w'.cell? ⟨cb,i*3+2,none⟩=some (.int .i64 q.2.2)/\w'.cell? ⟨w.heap.size+1,3,none⟩=some (.int .i64 (t.at_:Nat))) (simp[go_sem, *]) (first
      | (go_at_call 165;refine Calls.mono (HI0.out q hqm t.at_ htok.out.a (adv S') _ (HA5.out.r.re.next ((Below.refl _ _).drew))) ?_;rintro e w6 ⟨t6,⟨v6,rfl,u6,rfl,s6⟩,r6⟩;obtain⟨ad6,cp6,rfl,h61,h62⟩:=s6.parts.shape;have sz6:=t6.size;have HA6:=hid2 ((HA5.out.next (Below.refl _ _).drew).turn t6 r6);have HB6:=hid2 ((HB5.out.next (Below.refl _ _).drew).turn t6 (by simp;omega));have g0:=HB6.out.cell _ _ v0;have g1:=HB6.out.cell _ _ v1;have g2:=HB6.out.cell _ _ v2;obtain⟨_,_,_,g3,_,_,_,_⟩:=HA6.out.tk.four;obtain⟨x0,x1,x2,x3,x4,x5,y0,y1,y2,y3,y4,y5⟩:=HA6.out.r.rs.six;have xl6:=HA6.out.r.rs.lt;have HS6:=hid2 s6;clear t6 r6 s6;simp only[tmV]))
     rename_i hh
     clear hh
     go_wp2_with fail
     refine bodyPost_ret (v:=tmV (insR c X q.2.1 q.2.2 t.at_ (adv S')).1 (.slice ad6 (insR c X q.2.1 q.2.2 t.at_ (adv S')).1.parts.length cp6)) (by simp[results,Tryz.results147,go_sem,x0,x1,x2,x3,x4,x5]) rfl (hP.out _ _ _ (insR c X q.2.1 q.2.2 t.at_ (adv S')).2 ?_ HN.out)
     exact own_back HA6.out.r HS6.out (fun b hb=>by have hb':w4.drew.heap.size<=b:=hb;simp at hb';omega) _ _ _ _ _ _
  have hi14:i=14:=by omega
  subst hi14
  have HN:Hid (R=(nilM,wrR c 16 S')):=HNw.out.2 (fun q hq=>by
   obtain⟨j,hj⟩:=List.mem_iff_getElem?.1 hq
   have hj14:j<14:=by
    have:=(List.getElem?_eq_some_iff.1 hj).1
    exact this
   exact HW.out j q hj14 hj)
  clear HW HB4 HNw
  go_wp2_with fail
  refine Calls.mono (qWrong_c 16 ⟨by decide,by unfold In64;omega⟩ _ HA4.out.r.re) ?_
  rintro e w4 ⟨rfl,t4,r4⟩
  have HA5:=hid2 (HA4.out.r.turn t4 r4)
  clear t4 r4 HA4
  obtain⟨x0,x1,x2,x3,x4,x5,y0,y1,y2,y3,y4,y5⟩:=HA5.out.rs.six
  have xl:=HA5.out.rs.lt
  go_wp2_with fail
  refine bodyPost_ret (v:=tmV nilM (.slice none 0 0)) (by simp[results,Tryz.results147,go_sem,nilM, *]) rfl (hP.out _ _ _ (wrR c 16 S') ?_ HN.out)
  exact leaf_back HA5.out fit_nil rfl _ _ _ _ _ _
 ·have hg:S.good=false:=by rw[hgood];exact decide_eq_false e1
  unfold atomR at hR
  rw[if_neg (by rw[hg];simp)] at hR
  have HC0:=hid2 (RsS.made hr)
  obtain⟨off,cap,i,ov,h⟩:=hr
  have c4:=h.box.cell 4 _ rfl
  have hl:=h.box.lt
  generalize erI S.er=er at *
  have k1:(er != 0)=true:=by simpa using e1
  clear h hgood
  go_enter Tryz.func147,Tryz.ntmps147
  go_wp2_with fail
  exact bodyPost_ret (v:=tmV nilM (.slice none 0 0)) (by simp[results,Tryz.results147,go_sem,nilM]) rfl (hP.out _ _ _ S ⟨HC0.out.tn,HC0.out.re,sitb_leaf fit_nil rfl⟩ hR.out)
end Go.Proofs.YtecdfnpbcabdnaaGreatDoor
