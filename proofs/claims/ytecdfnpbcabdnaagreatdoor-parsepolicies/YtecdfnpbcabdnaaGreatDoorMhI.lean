import Derived.Test.YtecdfnpbcabdnaaGreatDoorMhH
import Derived.Test.YtecdfnpbcabdnaaGreatDoorMgJ
namespace Go.Proofs.YtecdfnpbcabdnaaGreatDoor
open Go.RowKit Go.Lib
theorem must_bad {c:Int}{x:ByteArray}{S:Sr}(h:S.good=false):mustR c x S=S:=by unfold mustR;rw[if_neg (by rw[bad_is h];simp),bad_wr h]
theorem take_bad {c k:Int}{S:Sr}(h:S.good=false):takeR c k S=(tk0,S):=by unfold takeR;rw[if_neg (by rw[h];simp)]
def Opn (z rb tb:Nat)(LL:List Tk)(c:Int)(o:Nat)(X:Option Rdf)(o1:Nat)(S1:Sr):Prop:=(o1=o+1/\∃ E,X=some E/\RdC z rb tb LL c (o+1) 22 E)\/(o1=64/\o=64/\X=none/\S1.good=false)
theorem openR_full {c:Int}{x:ByteArray}{S:Sr}:(openR c x true S).good=false:=by rw[open_full];exact wr_good
theorem open_any {z rb tb:Nat}{LL:List Tk}{c:Int}{o:Nat}{X:Option Rdf}(HX:InQ z rb tb LL c o X){S:Sr}(w:World)(hr:Rr z w rb tb LL c S o):Calls Tryz.prog 16 #[.pointer (some ⟨rb,0,none⟩),.string k_lp] w fun e w'=>∃ o1,WrP z w rb tb LL c (openR c k_lp X.isNone S) o1 e w'/\Opn z rb tb LL c o X o1 (openR c k_lp X.isNone S):=by
 rcases HX with ⟨rfl,rfl⟩ | ⟨ho,E,rfl,HE⟩
 ·exact(qMustLpF_c w hr).mono fun e w' h=>⟨64,h,.inr ⟨rfl,rfl,rfl,openR_full⟩⟩
 ·exact(qMustLp_c ho w hr).mono fun e w' h=>⟨o+1,h,.inl ⟨rfl,E,rfl,HE⟩⟩
theorem close_any {z rb tb:Nat}{LL:List Tk}{c:Int}{o o1:Nat}{X:Option Rdf}{S:Sr}(h:Opn z rb tb LL c o X o1 S)(w:World)(hr:Rr z w rb tb LL c S o1):Calls Tryz.prog 16 #[.pointer (some ⟨rb,0,none⟩),.string k_rp] w (WrP z w rb tb LL c (mustR c k_rp S) o):=by
 rcases h with ⟨rfl,_⟩ | ⟨rfl,rfl,_,hb⟩
 ·exact qMustRp_c w hr
 ·refine(qMustRp_c (o:=63) w (hr.any hb (by omega))).mono ?_
  rintro e w' ⟨h1,h2,h3⟩
  exact⟨h1,h2,h3.any (by rw[must_bad hb];exact hb) (by omega)⟩
theorem Opn.to {z rb tb:Nat}{LL:List Tk}{c:Int}{o o1:Nat}{X:Option Rdf}{S S':Sr}(h:Opn z rb tb LL c o X o1 S)(hb:S.good=false->S'.good=false):Opn z rb tb LL c o X o1 S':=by
 rcases h with h | ⟨h1,h2,h3,h4⟩
 ·exact .inl h
 ·exact .inr ⟨h1,h2,h3,hb h4⟩
structure InS (z:Nat)(w W:World)(rb tb:Nat)(LL:List Tk)(c:Int)(o:Nat)(q:Cl)(S:Sr)(vs:List Value):Prop where
 re:Rr z W rb tb LL c S o
 tn:Turn [rb] w W
 ca:Box W w.heap.size [.string q.1,.int .i64 q.2.1,.int .i64 q.2.2]
 rs:Box W (w.heap.size+1) zs6
 gx:Box W (w.heap.size+1+1) vs
 rl:rb<w.heap.size/\tb<w.heap.size
theorem InS.turn {z:Nat}{w W W':World}{rb tb:Nat}{LL:List Tk}{c:Int}{o o':Nat}{q:Cl}{S S':Sr}{vs:List Value}(h:InS z w W rb tb LL c o q S vs)(k:Turn [rb] W W')(r:Rr z W' rb tb LL c S' o'):InS z w W' rb tb LL c o' q S' vs:=by
 have hl:=h.rl
 exact⟨r,turn_one h.tn k,h.ca.turn k (by simp;omega),h.rs.turn k (by simp;omega),h.gx.turn k (by simp;omega),hl⟩
theorem InS.set {z:Nat}{w W:World}{rb tb:Nat}{LL:List Tk}{c:Int}{o:Nat}{q:Cl}{S:Sr}{vs:List Value}(h:InS z w W rb tb LL c o q S vs)(j:Nat)(hj:j<vs.length)(v:Value):InS z w (W.setCell ⟨w.heap.size+1+1,j,none⟩ v) rb tb LL c o q S (vs.set j v):=by
 have hl:=h.rl
 have k:=turn_set W (w.heap.size+1+1) j v
 exact⟨h.re.turn k (by simp;omega) (by simp;omega),h.tn.andSet _ _ (.inr (by simp;omega)),h.ca.turn k (by simp;omega),h.rs.turn k (by simp),h.gx.set j hj v,hl⟩
theorem InS.made {z:Nat}{w:World}{rb tb:Nat}{LL:List Tk}{c:Int}{o:Nat}{S:Sr}(h:Rr z w rb tb LL c S o)(q:Cl)(a:Nat):InS z w (((w.alloc (.cells ([.string q.1,.int .i64 q.2.1,.int .i64 q.2.2]:List Value).toArray 194)).alloc (.cells zs6.toArray 33)).alloc (.cells (tmQ ⟨q.2.1,⟨#[]⟩,0,0,(a:Int),[]⟩ (.slice none 0 0)).toArray 33)) rb tb LL c o q S (tmQ ⟨q.2.1,⟨#[]⟩,0,0,(a:Int),[]⟩ (.slice none 0 0)):=by
 obtain⟨X0,X1,X2,XB⟩:=three_boxes w 194 33 33 [.string q.1,.int .i64 q.2.1,.int .i64 q.2.2] zs6 (tmQ ⟨q.2.1,⟨#[]⟩,0,0,(a:Int),[]⟩ (.slice none 0 0))
 exact⟨h.next XB,Turn.of_below XB,X0,X1,X2,h.lts⟩
theorem Box.trio {w:World}{g:Nat}{v0 v1 v2:Value}(h:Box w g [v0,v1,v2]):w.cell? ⟨g,0,none⟩=some v0/\w.cell? ⟨g,1,none⟩=some v1/\w.cell? ⟨g,2,none⟩=some v2:=⟨h.cell 0 _ rfl,h.cell 1 _ rfl,h.cell 2 _ rfl⟩
theorem InS.back {z:Nat}{w W:World}{rb tb:Nat}{LL:List Tk}{c:Int}{o:Nat}{q:Cl}{S:Sr}{vs:List Value}{x:Tm}(h:InS z w W rb tb LL c o q S vs)(hf:Fit z x)(hp:x.parts=[])(v0 v1 v2 v3 v4 v5:Value):
 let W':=(((((W.setCell ⟨w.heap.size+1,0,none⟩ v0).setCell ⟨w.heap.size+1,1,none⟩ v1).setCell ⟨w.heap.size+1,2,none⟩ v2).setCell ⟨w.heap.size+1,3,none⟩ v3).setCell ⟨w.heap.size+1,4,none⟩ v4).setCell ⟨w.heap.size+1,5,none⟩ v5
 Turn [rb] w W'/\Rr z W' rb tb LL c S o/\SitB w.heap.size z W' x (.slice none 0 0):=by
 intro W'
 have hl:=h.rl
 have k6:=turn_six W (w.heap.size+1) v0 v1 v2 v3 v4 v5
 exact⟨h.tn.trans k6 (fun i hi=>.inr (by simp at hi;omega)),h.re.turn k6 (by simp;omega) (by simp;omega),sitb_leaf hf hp⟩
set_option maxHeartbeats 16000000 in
set_option maxRecDepth 20000 in
theorem qInCron_c {z rb tb:Nat}{LL:List Tk}{c:Int}{o:Nat}(hz:z<=9223372036854775807){X:Option Rdf}(HX:InQ z rb tb LL c o X)(q:Cl)(hn:q.2.2 = -1)(hk:q.2.1=6)(a:Nat)(ha:a<=z)(S:Sr)(w:World)(hr:Rr z w rb tb LL c S o):
 Calls Tryz.prog 165 #[.pointer (some ⟨rb,0,none⟩),.agg #[.string q.1,.int .i64 q.2.1,.int .i64 q.2.2],.int .i64 (a:Nat)] w (QtP w.heap.size z w rb tb LL c o (cronR c X.isNone a S)):=by
 have HX0:=hid2 HX
 have hz0:=hid2 hz
 have ha0:=hid2 ha
 obtain⟨R,hR⟩:∃ R,Hid (R=cronR c X.isNone a S):=⟨_,rfl⟩
 rw[<-hR.out]
 have hP:Hid (∀ w' t u S',Turn [rb] w w'/\Rr z w' rb tb LL c S' o/\SitB w.heap.size z w' t u->R=(t,S')->QtP w.heap.size z w rb tb LL c o R (.returned (tmV t u)) w'):=fun w' t u S' h h3=>⟨h.1,⟨_,rfl,u,by rw[h3],by rw[h3];exact h.2.2⟩,by rw[h3];exact h.2.1⟩
 generalize QtP w.heap.size z w rb tb LL c o R=Post at *
 have HC0:=hid2 (InS.made hr q a)
 clear HX hz ha hr
 obtain⟨xq,kq,nq⟩:=q
 simp only at *
 subst hn hk
 unfold cronR at hR
 go_enter Tryz.func165,Tryz.ntmps165
 go_wp2_with fail
 refine Calls.mono (open_any HX0.out _ HC0.out.re) ?_
 rintro e w1 ⟨o1,⟨rfl,t1,r1⟩,HO⟩
 have HC1:=hid2 (HC0.out.turn t1 r1)
 have HO1:=hid2 HO
 clear HC0 t1 r1 HO HX0
 obtain⟨c0,c1,c2⟩:=HC1.out.ca.trio
 have cl:=HC1.out.ca.lt
 obtain⟨g0,g1,g2,g3,g4,g5,h0,h1,h2,h3,h4,h5⟩:=HC1.out.gx.six
 have gl:=HC1.out.gx.lt
 go_wp2_with fail
 have fd1:=fld1
 have fd2:=fld2
 go_loopw [8] (fun p wr=>p=.int .i64 0/\wr=w1) (fun _ _=>0)
 ·exact⟨rfl,rfl⟩
 obtain⟨rfl,rfl⟩:=hrel
 go_wp2_with fail
 refine Calls.mono (qTake_c 4 (by decide) _ HC1.out.re) ?_
 rintro e w2 ⟨rfl,ta,ra⟩
 have Hk2:=hid2 (take_tk (c:=c) (k:=4) HC1.out.re.tl)
 have HC2a:=hid2 (HC1.out.turn ta ra)
 have HO2:=hid2 (HO1.out.to (S':=(takeR c 4 (openR c k_lp X.isNone S)).2) (fun h=>by rw[take_bad h];exact h))
 clear ta ra HC1 HO1 c0 c1 c2 cl g0 g1 g2 g3 g4 g5 h0 h1 h2 h3 h4 h5 gl
 obtain⟨c0,c1,c2⟩:=HC2a.out.ca.trio
 have cl:=HC2a.out.ca.lt
 obtain⟨g0,g1,g2,g3,g4,g5,h0,h1,h2,h3,h4,h5⟩:=HC2a.out.gx.six
 have gl:=HC2a.out.gx.lt
 have HC2:=hid2 (HC2a.out.set 1 (by simp) (.string (takeR c 4 (openR c k_lp X.isNone S)).1.text))
 simp only[tkW]
 go_wp2_with fail
 refine Calls.mono (close_any HO2.out _ HC2.out.re) ?_
 rintro e w3 ⟨rfl,ta,ra⟩
 have HC3:=hid2 (HC2.out.turn ta ra)
 clear ta ra HC2 HO2 c0 c1 c2 cl g0 g1 g2 g3 g4 g5 h0 h1 h2 h3 h4 h5 gl HC2a
 obtain⟨g0,g1,g2,g3,g4,g5,h0,h1,h2,h3,h4,h5⟩:=HC3.out.gx.six
 have gl:=HC3.out.gx.lt
 obtain⟨x0,x1,x2,x3,x4,x5,y0,y1,y2,y3,y4,y5⟩:=HC3.out.rs.six
 have xl:=HC3.out.rs.lt
 go_wp2_with fail
 refine bodyPost_ret (v:=tmV ⟨6,(takeR c 4 (openR c k_lp X.isNone S)).1.text,0,0,(a:Int),[]⟩ (.slice none 0 0)) (by simp[results,Tryz.results165,go_sem, *]) rfl (hP.out _ _ _ (mustR c k_rp (takeR c 4 (openR c k_lp X.isNone S)).2) ?_ hR.out)
 exact HC3.out.back (fit_of _ _ _ _ _ _ hz0.out (by decide) (by decide) Hk2.out.1 zero64 zero64 ha0.out) rfl _ _ _ _ _ _
set_option maxHeartbeats 16000000 in
set_option maxRecDepth 20000 in
theorem qInWin_c {z rb tb:Nat}{LL:List Tk}{c:Int}{o:Nat}(hz:z<=9223372036854775807){X:Option Rdf}(HX:InQ z rb tb LL c o X)(q:Cl)(hn:q.2.2=0)(hk:q.2.1≠12)(hk1:0<=q.2.1/\q.2.1<=100)(a:Nat)(ha:a<=z)(S:Sr)(w:World)(hr:Rr z w rb tb LL c S o):
 Calls Tryz.prog 165 #[.pointer (some ⟨rb,0,none⟩),.agg #[.string q.1,.int .i64 q.2.1,.int .i64 q.2.2],.int .i64 (a:Nat)] w (QtP w.heap.size z w rb tb LL c o (winR c X.isNone q.2.1 a S)):=by
 have HX0:=hid2 HX
 have hz0:=hid2 hz
 have ha0:=hid2 ha
 obtain⟨R,hR⟩:∃ R,Hid (R=winR c X.isNone q.2.1 a S):=⟨_,rfl⟩
 rw[<-hR.out]
 have hP:Hid (∀ w' t u S',Turn [rb] w w'/\Rr z w' rb tb LL c S' o/\SitB w.heap.size z w' t u->R=(t,S')->QtP w.heap.size z w rb tb LL c o R (.returned (tmV t u)) w'):=fun w' t u S' h h3=>⟨h.1,⟨_,rfl,u,by rw[h3],by rw[h3];exact h.2.2⟩,by rw[h3];exact h.2.1⟩
 generalize QtP w.heap.size z w rb tb LL c o R=Post at *
 have HC0:=hid2 (InS.made hr q a)
 clear HX hz ha hr
 obtain⟨xq,kq,nq⟩:=q
 simp only at *
 subst hn
 have kk:(kq==12)=false:=by simpa using hk
 unfold winR at hR
 rw[if_neg hk] at hR
 go_enter Tryz.func165,Tryz.ntmps165
 go_wp2_with fail
 refine Calls.mono (open_any HX0.out _ HC0.out.re) ?_
 rintro e w1 ⟨o1,⟨rfl,t1,r1⟩,HO⟩
 have HC1:=hid2 (HC0.out.turn t1 r1)
 have HO1:=hid2 HO
 clear HC0 t1 r1 HO HX0
 obtain⟨c0,c1,c2⟩:=HC1.out.ca.trio
 have cl:=HC1.out.ca.lt
 obtain⟨g0,g1,g2,g3,g4,g5,h0,h1,h2,h3,h4,h5⟩:=HC1.out.gx.six
 have gl:=HC1.out.gx.lt
 go_wp2_with fail
 have fd1:=fld1
 have fd2:=fld2
 go_loopw [8] (fun p wr=>p=.int .i64 0/\wr=w1) (fun _ _=>0)
 ·exact⟨rfl,rfl⟩
 obtain⟨rfl,rfl⟩:=hrel
 go_wp2_with fail
 refine Calls.mono (qTake_c 1 (by decide) _ HC1.out.re) ?_
 rintro e w2 ⟨rfl,ta,ra⟩
 have Hk2:=hid2 (take_tk (c:=c) (k:=1) HC1.out.re.tl)
 have HC2a:=hid2 (HC1.out.turn ta ra)
 have HO2:=hid2 (HO1.out.to (S':=(takeR c 1 (openR c k_lp X.isNone S)).2) (fun h=>by rw[take_bad h];exact h))
 clear ta ra HC1 HO1 c0 c1 c2 cl g0 g1 g2 g3 g4 g5 h0 h1 h2 h3 h4 h5 gl
 obtain⟨c0,c1,c2⟩:=HC2a.out.ca.trio
 have cl:=HC2a.out.ca.lt
 obtain⟨g0,g1,g2,g3,g4,g5,h0,h1,h2,h3,h4,h5⟩:=HC2a.out.gx.six
 have gl:=HC2a.out.gx.lt
 have HC2:=hid2 (HC2a.out.set 1 (by simp) (.string (takeR c 1 (openR c k_lp X.isNone S)).1.text))
 simp only[tkW]
 go_wp2_with fail
 refine Calls.mono (qMust_c k_com ⟨ba_neL [40] (by decide),ba_neL [123] (by decide),ba_neL [41] (by decide),ba_neL [125] (by decide)⟩ _ HC2.out.re) ?_
 rintro e w3 ⟨rfl,ta,ra⟩
 have HC3:=hid2 (HC2.out.turn ta ra)
 have HO3:=hid2 (HO2.out.to (S':=mustR c k_com ((takeR c 1 (openR c k_lp X.isNone S)).2)) (fun h=>by rw[must_bad h];exact h))
 clear ta ra HC2 HO2 c0 c1 c2 cl g0 g1 g2 g3 g4 g5 h0 h1 h2 h3 h4 h5 gl HC2a
 obtain⟨c0,c1,c2⟩:=HC3.out.ca.trio
 have cl:=HC3.out.ca.lt
 obtain⟨g0,g1,g2,g3,g4,g5,h0,h1,h2,h3,h4,h5⟩:=HC3.out.gx.six
 have gl:=HC3.out.gx.lt
 go_wp2_with fail
 refine Calls.mono (qTake_c 3 (by decide) _ HC3.out.re) ?_
 rintro e w4 ⟨rfl,ta,ra⟩
 have Hk4:=hid2 (take_tk (c:=c) (k:=3) HC3.out.re.tl)
 have HC4a:=hid2 (HC3.out.turn ta ra)
 have HO4:=hid2 (HO3.out.to (S':=(takeR c 3 (mustR c k_com (takeR c 1 (openR c k_lp X.isNone S)).2)).2) (fun h=>by rw[take_bad h];exact h))
 clear ta ra HC3 HO3 c0 c1 c2 cl g0 g1 g2 g3 g4 g5 h0 h1 h2 h3 h4 h5 gl
 obtain⟨c0,c1,c2⟩:=HC4a.out.ca.trio
 have cl:=HC4a.out.ca.lt
 obtain⟨g0,g1,g2,g3,g4,g5,h0,h1,h2,h3,h4,h5⟩:=HC4a.out.gx.six
 have gl:=HC4a.out.gx.lt
 have HC4:=hid2 (HC4a.out.set 2 (by simp) (.int .i64 (takeR c 3 (mustR c k_com (takeR c 1 (openR c k_lp X.isNone S)).2)).1.n))
 simp only[tkW]
 go_wp2_with fail
 refine Calls.mono (close_any HO4.out _ HC4.out.re) ?_
 rintro e w9 ⟨rfl,ta,ra⟩
 have HC9:=hid2 (HC4.out.turn ta ra)
 clear ta ra HC4 HO4 c0 c1 c2 cl g0 g1 g2 g3 g4 g5 h0 h1 h2 h3 h4 h5 gl HC4a
 obtain⟨g0,g1,g2,g3,g4,g5,h0,h1,h2,h3,h4,h5⟩:=HC9.out.gx.six
 have gl:=HC9.out.gx.lt
 obtain⟨x0,x1,x2,x3,x4,x5,y0,y1,y2,y3,y4,y5⟩:=HC9.out.rs.six
 have xl:=HC9.out.rs.lt
 go_wp2_with fail
 refine bodyPost_ret (v:=tmV ⟨kq,(takeR c 1 (openR c k_lp X.isNone S)).1.text,(takeR c 3 (mustR c k_com (takeR c 1 (openR c k_lp X.isNone S)).2)).1.n,0,(a:Int),[]⟩ (.slice none 0 0)) (by simp[results,Tryz.results165,go_sem, *]) rfl (hP.out _ _ _ (mustR c k_rp ((takeR c 3 (mustR c k_com (takeR c 1 (openR c k_lp X.isNone S)).2)).2)) ?_ hR.out)
 exact HC9.out.back (fit_of _ _ _ _ _ _ hz0.out hk1.1 hk1.2 Hk2.out.1 Hk4.out.2.1 zero64 ha0.out) rfl _ _ _ _ _ _
set_option maxHeartbeats 16000000 in
set_option maxRecDepth 20000 in
theorem qInRank_c {z rb tb:Nat}{LL:List Tk}{c:Int}{o:Nat}(hz:z<=9223372036854775807){X:Option Rdf}(HX:InQ z rb tb LL c o X)(q:Cl)(hn:q.2.2=0)(hk:q.2.1=12)(a:Nat)(ha:a<=z)(S:Sr)(w:World)(hr:Rr z w rb tb LL c S o):
 Calls Tryz.prog 165 #[.pointer (some ⟨rb,0,none⟩),.agg #[.string q.1,.int .i64 q.2.1,.int .i64 q.2.2],.int .i64 (a:Nat)] w (QtP w.heap.size z w rb tb LL c o (winR c X.isNone q.2.1 a S)):=by
 have HX0:=hid2 HX
 have hz0:=hid2 hz
 have ha0:=hid2 ha
 obtain⟨R,hR⟩:∃ R,Hid (R=winR c X.isNone q.2.1 a S):=⟨_,rfl⟩
 rw[<-hR.out]
 have hP:Hid (∀ w' t u S',Turn [rb] w w'/\Rr z w' rb tb LL c S' o/\SitB w.heap.size z w' t u->R=(t,S')->QtP w.heap.size z w rb tb LL c o R (.returned (tmV t u)) w'):=fun w' t u S' h h3=>⟨h.1,⟨_,rfl,u,by rw[h3],by rw[h3];exact h.2.2⟩,by rw[h3];exact h.2.1⟩
 generalize QtP w.heap.size z w rb tb LL c o R=Post at *
 have HC0:=hid2 (InS.made hr q a)
 clear HX hz ha hr
 obtain⟨xq,kq,nq⟩:=q
 simp only at *
 subst hn hk
 unfold winR at hR
 rw[if_pos rfl] at hR
 go_enter Tryz.func165,Tryz.ntmps165
 go_wp2_with fail
 refine Calls.mono (open_any HX0.out _ HC0.out.re) ?_
 rintro e w1 ⟨o1,⟨rfl,t1,r1⟩,HO⟩
 have HC1:=hid2 (HC0.out.turn t1 r1)
 have HO1:=hid2 HO
 clear HC0 t1 r1 HO HX0
 obtain⟨c0,c1,c2⟩:=HC1.out.ca.trio
 have cl:=HC1.out.ca.lt
 obtain⟨g0,g1,g2,g3,g4,g5,h0,h1,h2,h3,h4,h5⟩:=HC1.out.gx.six
 have gl:=HC1.out.gx.lt
 go_wp2_with fail
 have fd1:=fld1
 have fd2:=fld2
 go_loopw [8] (fun p wr=>p=.int .i64 0/\wr=w1) (fun _ _=>0)
 ·exact⟨rfl,rfl⟩
 obtain⟨rfl,rfl⟩:=hrel
 go_wp2_with fail
 refine Calls.mono (qTake_c 1 (by decide) _ HC1.out.re) ?_
 rintro e w2 ⟨rfl,ta,ra⟩
 have Hk2:=hid2 (take_tk (c:=c) (k:=1) HC1.out.re.tl)
 have HC2a:=hid2 (HC1.out.turn ta ra)
 have HO2:=hid2 (HO1.out.to (S':=(takeR c 1 (openR c k_lp X.isNone S)).2) (fun h=>by rw[take_bad h];exact h))
 clear ta ra HC1 HO1 c0 c1 c2 cl g0 g1 g2 g3 g4 g5 h0 h1 h2 h3 h4 h5 gl
 obtain⟨c0,c1,c2⟩:=HC2a.out.ca.trio
 have cl:=HC2a.out.ca.lt
 obtain⟨g0,g1,g2,g3,g4,g5,h0,h1,h2,h3,h4,h5⟩:=HC2a.out.gx.six
 have gl:=HC2a.out.gx.lt
 have HC2:=hid2 (HC2a.out.set 1 (by simp) (.string (takeR c 1 (openR c k_lp X.isNone S)).1.text))
 simp only[tkW]
 go_wp2_with fail
 refine Calls.mono (qMust_c k_com ⟨ba_neL [40] (by decide),ba_neL [123] (by decide),ba_neL [41] (by decide),ba_neL [125] (by decide)⟩ _ HC2.out.re) ?_
 rintro e w3 ⟨rfl,ta,ra⟩
 have HC3:=hid2 (HC2.out.turn ta ra)
 have HO3:=hid2 (HO2.out.to (S':=mustR c k_com ((takeR c 1 (openR c k_lp X.isNone S)).2)) (fun h=>by rw[must_bad h];exact h))
 clear ta ra HC2 HO2 c0 c1 c2 cl g0 g1 g2 g3 g4 g5 h0 h1 h2 h3 h4 h5 gl HC2a
 obtain⟨c0,c1,c2⟩:=HC3.out.ca.trio
 have cl:=HC3.out.ca.lt
 obtain⟨g0,g1,g2,g3,g4,g5,h0,h1,h2,h3,h4,h5⟩:=HC3.out.gx.six
 have gl:=HC3.out.gx.lt
 go_wp2_with fail
 refine Calls.mono (qTake_c 3 (by decide) _ HC3.out.re) ?_
 rintro e w4 ⟨rfl,ta,ra⟩
 have Hk4:=hid2 (take_tk (c:=c) (k:=3) HC3.out.re.tl)
 have HC4a:=hid2 (HC3.out.turn ta ra)
 have HO4:=hid2 (HO3.out.to (S':=(takeR c 3 (mustR c k_com (takeR c 1 (openR c k_lp X.isNone S)).2)).2) (fun h=>by rw[take_bad h];exact h))
 clear ta ra HC3 HO3 c0 c1 c2 cl g0 g1 g2 g3 g4 g5 h0 h1 h2 h3 h4 h5 gl
 obtain⟨c0,c1,c2⟩:=HC4a.out.ca.trio
 have cl:=HC4a.out.ca.lt
 obtain⟨g0,g1,g2,g3,g4,g5,h0,h1,h2,h3,h4,h5⟩:=HC4a.out.gx.six
 have gl:=HC4a.out.gx.lt
 have HC4:=hid2 (HC4a.out.set 2 (by simp) (.int .i64 (takeR c 3 (mustR c k_com (takeR c 1 (openR c k_lp X.isNone S)).2)).1.n))
 simp only[tkW]
 go_wp2_with fail
 refine Calls.mono (qMust_c k_com ⟨ba_neL [40] (by decide),ba_neL [123] (by decide),ba_neL [41] (by decide),ba_neL [125] (by decide)⟩ _ HC4.out.re) ?_
 rintro e w5 ⟨rfl,ta,ra⟩
 have HC5:=hid2 (HC4.out.turn ta ra)
 have HO5:=hid2 (HO4.out.to (S':=mustR c k_com ((takeR c 3 (mustR c k_com (takeR c 1 (openR c k_lp X.isNone S)).2)).2)) (fun h=>by rw[must_bad h];exact h))
 clear ta ra HC4 HO4 c0 c1 c2 cl g0 g1 g2 g3 g4 g5 h0 h1 h2 h3 h4 h5 gl HC4a
 obtain⟨c0,c1,c2⟩:=HC5.out.ca.trio
 have cl:=HC5.out.ca.lt
 obtain⟨g0,g1,g2,g3,g4,g5,h0,h1,h2,h3,h4,h5⟩:=HC5.out.gx.six
 have gl:=HC5.out.gx.lt
 go_wp2_with fail
 refine Calls.mono (qTake_c 2 (by decide) _ HC5.out.re) ?_
 rintro e w6 ⟨rfl,ta,ra⟩
 have Hk6:=hid2 (take_tk (c:=c) (k:=2) HC5.out.re.tl)
 have HC6a:=hid2 (HC5.out.turn ta ra)
 have HO6:=hid2 (HO5.out.to (S':=(takeR c 2 (mustR c k_com (takeR c 3 (mustR c k_com (takeR c 1 (openR c k_lp X.isNone S)).2)).2)).2) (fun h=>by rw[take_bad h];exact h))
 clear ta ra HC5 HO5 c0 c1 c2 cl g0 g1 g2 g3 g4 g5 h0 h1 h2 h3 h4 h5 gl
 obtain⟨c0,c1,c2⟩:=HC6a.out.ca.trio
 have cl:=HC6a.out.ca.lt
 obtain⟨g0,g1,g2,g3,g4,g5,h0,h1,h2,h3,h4,h5⟩:=HC6a.out.gx.six
 have gl:=HC6a.out.gx.lt
 have HC6:=hid2 (HC6a.out.set 3 (by simp) (.int .i64 (takeR c 2 (mustR c k_com (takeR c 3 (mustR c k_com (takeR c 1 (openR c k_lp X.isNone S)).2)).2)).1.n))
 simp only[tkW]
 go_wp2_with fail
 refine Calls.mono (close_any HO6.out _ HC6.out.re) ?_
 rintro e w9 ⟨rfl,ta,ra⟩
 have HC9:=hid2 (HC6.out.turn ta ra)
 clear ta ra HC6 HO6 c0 c1 c2 cl g0 g1 g2 g3 g4 g5 h0 h1 h2 h3 h4 h5 gl HC6a
 obtain⟨g0,g1,g2,g3,g4,g5,h0,h1,h2,h3,h4,h5⟩:=HC9.out.gx.six
 have gl:=HC9.out.gx.lt
 obtain⟨x0,x1,x2,x3,x4,x5,y0,y1,y2,y3,y4,y5⟩:=HC9.out.rs.six
 have xl:=HC9.out.rs.lt
 go_wp2_with fail
 refine bodyPost_ret (v:=tmV ⟨12,(takeR c 1 (openR c k_lp X.isNone S)).1.text,(takeR c 3 (mustR c k_com (takeR c 1 (openR c k_lp X.isNone S)).2)).1.n,(takeR c 2 (mustR c k_com (takeR c 3 (mustR c k_com (takeR c 1 (openR c k_lp X.isNone S)).2)).2)).1.n,(a:Int),[]⟩ (.slice none 0 0)) (by simp[results,Tryz.results165,go_sem, *]) rfl (hP.out _ _ _ (mustR c k_rp ((takeR c 2 (mustR c k_com (takeR c 3 (mustR c k_com (takeR c 1 (openR c k_lp X.isNone S)).2)).2)).2)) ?_ hR.out)
 exact HC9.out.back (fit_of _ _ _ _ _ _ hz0.out (by decide) (by decide) Hk2.out.1 Hk4.out.2.1 Hk6.out.2.1 ha0.out) rfl _ _ _ _ _ _
def argsR (c:Int)(E:Rdf):Nat->Nat->List Tm->Sr->List Tm×Sr
 | 0,_,ps,S=>(ps,S)
 | r+1,j,ps,S=>if (if j=0 then S else mustR c k_com S).good=true then argsR c E r (j+1) (ps++[(E (if j=0 then S else mustR c k_com S)).1]) (E (if j=0 then S else mustR c k_com S)).2 else argsR c E r (j+1) ps (if j=0 then S else mustR c k_com S)
theorem args_parts (c:Int)(E:Rdf):∀ (r j:Nat) (ps:List Tm) (S:Sr),1<=j->argsR c E r j ps S=partsR c E r ps S
 | 0,_,_,_,_=>rfl
 | r+1,j,ps,S,hj=>by
   rw[argsR,partsR,if_neg (by omega:¬ j=0)]
   split
   ·exact args_parts c E r (j+1) _ _ (by omega)
   ·exact args_parts c E r (j+1) _ _ (by omega)
theorem args_bad (c:Int)(E:Rdf):∀ (r j:Nat) (ps:List Tm) (S:Sr),S.good=false->argsR c E r j ps S=(ps,S)
 | 0,_,_,_,_=>rfl
 | r+1,j,ps,S,hb=>by
   have h1:(if j=0 then S else mustR c k_com S)=S:=by
    split
    ·rfl
    ·exact must_bad hb
   rw[argsR,h1,if_neg (by rw[hb];simp)]
   exact args_bad c E r (j+1) ps S hb
def finR (c k:Int)(a:Nat)(y:List Tm×Sr):Tm×Sr:=(tm k a y.1,mustR c k_rp y.2)
theorem call_args {z rb tb:Nat}{LL:List Tk}{c:Int}{o o1:Nat}{X:Option Rdf}{S:Sr}(k:Int)(n a:Nat)(h:Opn z rb tb LL c o X o1 (openR c k_lp X.isNone S)):
 ∃ E,callR c X k n a S=finR c k a (argsR c E (n+1) 0 [] (openR c k_lp X.isNone S))/\((o1=o+1/\RdC z rb tb LL c o1 22 E)\/(openR c k_lp X.isNone S).good=false):=by
 rcases h with ⟨rfl,E,rfl,HE⟩ | ⟨rfl,rfl,rfl,hb⟩
 ·refine⟨E,?_,.inl ⟨rfl,HE⟩⟩
  unfold callR finR
  simp only[Option.isNone_some]
  cases hg:(openR c k_lp false S).good with
  | true=>
    rw[if_pos rfl,argsR,if_pos rfl,if_pos hg,args_parts c E n _ _ _ (by omega)]
    rfl
  | false=>
    rw[if_neg (by simp),args_bad c E _ _ _ _ hg,must_bad hg]
 ·refine⟨numberR c,?_,.inr hb⟩
  unfold callR finR
  rw[args_bad c _ _ _ _ _ hb,must_bad hb]
  rfl
theorem step_qt {ops:Array Oper}{op:Oper}{a:Act}{w:World}{K:Act->World->Prop}{Q:Exit->Act->World->Prop}{Ee:Prop}{B z rb tb:Nat}{LL:List Tk}{c:Int}{o:Nat}{y:Tm×Sr}(hgd:op.guard=none){f:FuncId}{args:Array Value}
 (C:Calls Tryz.prog f args w (QtP B z w rb tb LL c o y)) (he:(execOp a.eval op).run Tryz.prog w=.ok (.enter f args) w)
 (hK:∀ v w',Turn [rb] w w'->VTm B z y.1 v w'->Rr z w' rb tb LL c y.2 o->K (a.put op.dst v) w') :
 if Region.wanted op (yielded ops a.tmps)=true then Oper.wp Tryz.prog op a w K Q else Ee:=by
 have hwd:Region.wanted op (yielded ops a.tmps)=true:=by simp[Region.wanted,hgd]
 rw[if_pos hwd]
 unfold Oper.wp
 rw[he,Oper.upon_enter]
 refine C.mono fun e w' h=>?_
 obtain⟨ht,⟨v,rfl,hv⟩,hr'⟩:=h
 exact hK v w' ht hv hr'
theorem RrX.later {z:Nat}{w w':World}{rb tb:Nat}{LL:List Tk}{c:Int}{S:Sr}{o off cap i B:Nat}{ov:Int}(h:RrX z w rb tb LL c S o off cap i ov)(k:Below B w w')(h1:rb<B/\tb<B):RrX z w' rb tb LL c S o off cap i ov:=
 ⟨h.box.later k h1.1,h.le,h.mx,fun q u hu=>(k.cell (p:=⟨tb,off+q,none⟩) h1.2).trans (h.toks q u hu),h.nt,Nat.lt_of_lt_of_le h.lt k.size,h.il,h.dr,h.tl,h.er,h.op,h.oi,h.dp,h.ci⟩
theorem Rr.later {z:Nat}{w w':World}{rb tb:Nat}{LL:List Tk}{c:Int}{S:Sr}{o B:Nat}(h:Rr z w rb tb LL c S o)(k:Below B w w')(h1:rb<B/\tb<B):Rr z w' rb tb LL c S o:=by
 obtain⟨off,cap,i,ov,h⟩:=h
 exact⟨off,cap,i,ov,h.later k h1⟩
theorem Rr.errc {z:Nat}{w:World}{rb tb:Nat}{LL:List Tk}{c:Int}{S:Sr}{o:Nat}(h:Rr z w rb tb LL c S o):∃ er:Int,w.cell? ⟨rb,4,none⟩=some (.int .i64 er)/\rb<w.heap.size/\S.good=decide (er=0):=by
 have hg:=h.good
 obtain⟨off,cap,i,ov,h⟩:=h
 exact⟨_,h.box.cell 4 _ rfl,h.box.lt,hg⟩
theorem Opn.good {z rb tb:Nat}{LL:List Tk}{c:Int}{o o1:Nat}{X:Option Rdf}{S:Sr}(h:Opn z rb tb LL c o X o1 S)(hg:S.good=true)(S':Sr):Opn z rb tb LL c o X o1 S':=by
 rcases h with h | ⟨_,_,_,h4⟩
 ·exact .inl h
 ·rw[hg] at h4
  cases h4
structure IpS (z:Nat)(w W:World)(rb tb:Nat)(LL:List Tk)(c:Int)(o:Nat)(q:Cl)(a:Nat)(S:Sr)(v:Value)(ts:List (Tm×Value)):Prop where
 i:InS z w W rb tb LL c o q S [.int .i64 q.2.1,.string ⟨#[]⟩,.int .i64 0,.int .i64 0,.int .i64 (a:Nat),v]
 pa:PaO (w.heap.size+1+1+1) z W v ts
theorem IpS.turn {z:Nat}{w W W':World}{rb tb:Nat}{LL:List Tk}{c:Int}{o o':Nat}{q:Cl}{a:Nat}{S S':Sr}{v:Value}{ts:List (Tm×Value)}(h:IpS z w W rb tb LL c o q a S v ts)(k:Turn [rb] W W')(r:Rr z W' rb tb LL c S' o'):IpS z w W' rb tb LL c o' q a S' v ts:=by
 have hl:=h.i.rl
 exact⟨h.i.turn k r,h.pa.turn k (by simp;omega)⟩
theorem IpS.next {z:Nat}{w W W':World}{rb tb:Nat}{LL:List Tk}{c:Int}{o:Nat}{q:Cl}{a:Nat}{S:Sr}{v:Value}{ts:List (Tm×Value)}(h:IpS z w W rb tb LL c o q a S v ts)(k:Below W.heap.size W W'):IpS z w W' rb tb LL c o q a S v ts:=h.turn (Turn.of_below k) (h.i.re.next k)
theorem IpS.added {z:Nat}{w W W':World}{rb tb:Nat}{LL:List Tk}{c:Int}{o:Nat}{q:Cl}{a:Nat}{S:Sr}{v v':Value}{ts us:List (Tm×Value)}(h:IpS z w W rb tb LL c o q a S v ts)(p:PaO (w.heap.size+1+1+1) z W' v' us)(k:Below (w.heap.size+1+1+1) W W'):IpS z w (W'.setCell ⟨w.heap.size+1+1,5,none⟩ v') rb tb LL c o q a S v' us:=by
 have hl:=h.i.rl
 have kk:=turn_set W' (w.heap.size+1+1) 5 v'
 exact⟨⟨(h.i.re.later k (by omega)).turn kk (by simp;omega) (by simp;omega),(turn_later h.i.tn k (by omega)).andSet _ _ (.inr (by simp;omega)),(h.i.ca.later k (by omega)).turn kk (by simp;omega),(h.i.rs.later k (by omega)).turn kk (by simp),(h.i.gx.later k (by omega)).set 5 (by simp) v',hl⟩,p.turn kk (by simp)⟩
set_option maxHeartbeats 16000000 in
set_option maxRecDepth 20000 in
theorem qInCall_c {z rb tb:Nat}{LL:List Tk}{c:Int}{o:Nat}(hz:z<=9223372036854775807){X:Option Rdf}(HX:InQ z rb tb LL c o X)(q:Cl)(n:Nat)(hn:q.2.2=(n:Int)+1)(hn2:n<=2)(hk:q.2.1≠12)(hk1:0<=q.2.1/\q.2.1<=100)(a:Nat)(ha:a<=z)(S:Sr)(w:World)(hr:Rr z w rb tb LL c S o):
 Calls Tryz.prog 165 #[.pointer (some ⟨rb,0,none⟩),.agg #[.string q.1,.int .i64 q.2.1,.int .i64 q.2.2],.int .i64 (a:Nat)] w (QtP w.heap.size z w rb tb LL c o (callR c X q.2.1 n a S)):=by
 have HX0:=hid2 HX
 have hz0:=hid2 hz
 have ha0:=hid2 ha
 obtain⟨R,hR⟩:∃ R,Hid (R=callR c X q.2.1 n a S):=⟨_,rfl⟩
 rw[<-hR.out]
 have hP:Hid (∀ w' t u S',Turn [rb] w w'/\Rr z w' rb tb LL c S' o/\SitB w.heap.size z w' t u->R=(t,S')->QtP w.heap.size z w rb tb LL c o R (.returned (tmV t u)) w'):=fun w' t u S' h h3=>⟨h.1,⟨_,rfl,u,by rw[h3],by rw[h3];exact h.2.2⟩,by rw[h3];exact h.2.1⟩
 generalize QtP w.heap.size z w rb tb LL c o R=Post at *
 have HC0:=hid2 (InS.made hr q a)
 clear HX hz ha hr
 obtain⟨xq,kq,nq⟩:=q
 simp only at *
 subst hn
 have kk:(kq==12)=false:=by simpa using hk
 go_enter Tryz.func165,Tryz.ntmps165
 go_wp2_with fail
 refine Calls.mono (open_any HX0.out _ HC0.out.re) ?_
 rintro e w1 ⟨o1,⟨rfl,t1,r1⟩,HO⟩
 have HC1:=hid2 (HC0.out.turn t1 r1)
 have HO1:=hid2 HO
 clear HC0 t1 r1 HO HX0
 obtain⟨c0,c1,c2⟩:=HC1.out.ca.trio
 have cl:=HC1.out.ca.lt
 obtain⟨g0,g1,g2,g3,g4,g5,h0,h1,h2,h3,h4,h5⟩:=HC1.out.gx.six
 have gl:=HC1.out.gx.lt
 go_wp2_with fail
 obtain⟨E,hE1,hE2⟩:=call_args kq n a HO1.out
 have hR1:Hid (R=finR c kq a (argsR c E (n+1) 0 [] (openR c k_lp X.isNone S))):=hR.out.trans hE1
 have HE0:Hid ((o1=o+1/\RdC z rb tb LL c o1 22 E)\/(openR c k_lp X.isNone S).good=false):=hE2
 have HP1:Hid (IpS z w w1 rb tb LL c o1 (xq,kq,(n:Int)+1) a (openR c k_lp X.isNone S) (.slice none 0 0) []):=⟨HC1.out,PaO.nil _ _ _⟩
 clear hR hE1 hE2 HC1 c0 c1 c2 cl g0 g1 g2 g3 g4 g5 h0 h1 h2 h3 h4 h5 gl
 generalize openR c k_lp X.isNone S=S1 at *
 go_loopw [8] (fun p wr=>∃ (j:Nat) (S2:Sr) (v:Value) (ts:List (Tm×Value)),p=.int .i64 j/\j<=n+1/\ts.length<=j/\Hid (IpS z w wr rb tb LL c o1 (xq,kq,(n:Int)+1) a S2 v ts)/\Hid (Opn z rb tb LL c o X o1 S2)/\Hid ((o1=o+1/\RdC z rb tb LL c o1 22 E)\/S2.good=false)/\Hid (R=finR c kq a (argsR c E (n+1-j) j (ts.map Prod.fst) S2))) (fun p _=>n+1-(RowKit.intOf p).toNat)
 ·exact⟨0,_,_,[],rfl,Nat.zero_le _,Nat.le_refl _,HP1,HO1,HE0,hR1⟩
 obtain⟨j,S2,v,ts,rfl,hj,hts,HP,HO,HEx,HR⟩:=hrel
 clear HP1 HO1 HE0 hR1
 obtain⟨c0,c1,c2⟩:=HP.out.i.ca.trio
 have cl:=HP.out.i.ca.lt
 by_cases hlt:j<n+1
 ·have hlt':(j:Int)<(n:Int)+1:=by omega
  have HR2:Hid (R=finR c kq a (argsR c E (n+1-(j+1)+1) j (ts.map Prod.fst) S2)):=by
   show _=_
   rw[HR.out,show n+1-(j+1)+1=n+1-j by omega]
  clear HR
  rw[argsR] at HR2
  by_cases hj0:j=0
  ·subst hj0
   rw[if_pos rfl] at HR2
   obtain⟨er,e4,el,eg⟩:=HP.out.i.re.errc
   by_cases er0:er=0
   ·have hg:S2.good=true:=by rw[eg];exact decide_eq_true er0
    rw[if_pos hg] at HR2
    obtain⟨ho1,HE1⟩:o1=o+1/\RdC z rb tb LL c o1 22 E:=by
     rcases HEx.out with h | h
     ·exact h
     ·rw[hg] at h;cases h
    have g5:=HP.out.i.gx.cell 5 _ rfl
    have gl:=HP.out.i.gx.lt
    go_wp2_with fail
    go_region_law (first
     | (refine step_qt rfl (HE1 S2 _ (HP.out.i.re.next (Below.refl _ _).drew)) (by first | rfl | go_simp) ?_;rintro _ w60 t60 ⟨u60,rfl,S60⟩ r60;have z60:Hid (wr.heap.size<=w60.heap.size):=t60.size;have C60:=hid2 ((HP.out.next (Below.refl _ _).drew).turn t60 r60);have q60:=hid2 (HP.out.next (Below.refl _ wr).drew).pa.blk;have c560:=C60.out.i.gx.cell 5 _ rfl;have l560:=C60.out.i.gx.lt;have X60:=hid2 S60;clear S60 t60 r60)
     | (refine step_append_tm w60 (w.heap.size+1+1+1) rfl (.tmp 31) (.tmp 34) rfl v ts [((E S2).1,u60)] rfl (by simp[Act.eval]) C60.out.pa (fun p hp=>by obtain rfl:=List.mem_singleton.1 hp;exact sit_apart X60.out (by have:=HP.out.i.gx.lt;simp<;>omega) (fun g' hg'=>(q60.out g' hg').2)) (by simp<;>omega) (by have:=HP.out.i.gx.lt;have:=z60.out;omega) (by simp[Act.eval]) ?_;intro a60 d60 wa60 p60 b60;have CA60:=hid2 (C60.out.added p60 b60);have l60:=(C60.out.i.gx.later b60 (by omega)).lt;have e560:=(C60.out.i.gx.later b60 (by omega)).cell 5 _ rfl;have f560:=(C60.out.i.gx.later b60 (by omega)).free 5 (by simp);clear p60 b60))
    all_goals go_wp2_with fail
    all_goals go_roundw
    all_goals first
     | (refine⟨0+1,(E S2).2,_,_,by simp,by omega,by rw[List.length_append];simp only[List.length_singleton];omega,CA60,Opn.good HO.out hg _,.inl ⟨ho1,HE1⟩,?_⟩
        show _=_
        rw[List.map_append]
        exact HR2.out)
     | (simp[RowKit.intOf];done)
     | (simp[RowKit.intOf];omega)
   ·have hg:S2.good=false:=by rw[eg];exact decide_eq_false er0
    rw[if_neg (by rw[hg];simp)] at HR2
    have k0:(er==0)=false:=by simpa using er0
    go_wp2_with fail
    go_roundw
    ·exact⟨0+1,S2,v,ts,by simp,by omega,by omega,HP,HO,HEx,HR2⟩
    ·first|(simp[RowKit.intOf];done)|(simp[RowKit.intOf];omega)
  ·have hj1:(0:Int)<(j:Int):=by omega
   rw[if_neg hj0] at HR2
   go_wp2_with fail
   refine Calls.mono (qMust_c k_com ⟨ba_neL [40] (by decide),ba_neL [123] (by decide),ba_neL [41] (by decide),ba_neL [125] (by decide)⟩ _ HP.out.i.re) ?_
   rintro e w2 ⟨rfl,ta,ra⟩
   have HP3:=hid2 (HP.out.turn ta ra)
   have HO3:=hid2 (HO.out.to (S':=mustR c k_com S2) (fun h=>by rw[must_bad h];exact h))
   have HEx3:Hid ((o1=o+1/\RdC z rb tb LL c o1 22 E)\/(mustR c k_com S2).good=false):=HEx.out.imp id (fun h=>by rw[must_bad h];exact h)
   clear ta ra HP HO HEx c0 c1 c2 cl
   generalize mustR c k_com S2=S3 at *
   obtain⟨er,e4,el,eg⟩:=HP3.out.i.re.errc
   by_cases er0:er=0
   ·have hg:S3.good=true:=by rw[eg];exact decide_eq_true er0
    rw[if_pos hg] at HR2
    obtain⟨ho1,HE1⟩:o1=o+1/\RdC z rb tb LL c o1 22 E:=by
     rcases HEx3.out with h | h
     ·exact h
     ·rw[hg] at h;cases h
    have g5:=HP3.out.i.gx.cell 5 _ rfl
    have gl:=HP3.out.i.gx.lt
    go_wp2_with fail
    go_region_law (first
     | (refine step_qt rfl (HE1 S3 _ (HP3.out.i.re.next (Below.refl _ _).drew)) (by first | rfl | go_simp) ?_;rintro _ w60 t60 ⟨u60,rfl,S60⟩ r60;have z60:Hid (w2.heap.size<=w60.heap.size):=t60.size;have C60:=hid2 ((HP3.out.next (Below.refl _ _).drew).turn t60 r60);have q60:=hid2 (HP3.out.next (Below.refl _ w2).drew).pa.blk;have c560:=C60.out.i.gx.cell 5 _ rfl;have l560:=C60.out.i.gx.lt;have X60:=hid2 S60;clear S60 t60 r60)
     | (refine step_append_tm w60 (w.heap.size+1+1+1) rfl (.tmp 31) (.tmp 34) rfl v ts [((E S3).1,u60)] rfl (by simp[Act.eval]) C60.out.pa (fun p hp=>by obtain rfl:=List.mem_singleton.1 hp;exact sit_apart X60.out (by have:=HP3.out.i.gx.lt;simp<;>omega) (fun g' hg'=>(q60.out g' hg').2)) (by simp<;>omega) (by have:=HP3.out.i.gx.lt;have:=z60.out;omega) (by simp[Act.eval]) ?_;intro a60 d60 wa60 p60 b60;have CA60:=hid2 (C60.out.added p60 b60);have l60:=(C60.out.i.gx.later b60 (by omega)).lt;have e560:=(C60.out.i.gx.later b60 (by omega)).cell 5 _ rfl;have f560:=(C60.out.i.gx.later b60 (by omega)).free 5 (by simp);clear p60 b60))
    all_goals go_wp2_with fail
    all_goals go_roundw
    all_goals first
     | (refine⟨j+1,(E S3).2,_,_,by simp,by omega,by rw[List.length_append];simp only[List.length_singleton];omega,CA60,Opn.good HO3.out hg _,.inl ⟨ho1,HE1⟩,?_⟩
        show _=_
        rw[List.map_append]
        exact HR2.out)
     | (simp[RowKit.intOf];done)
     | (simp[RowKit.intOf];omega)
   ·have hg:S3.good=false:=by rw[eg];exact decide_eq_false er0
    rw[if_neg (by rw[hg];simp)] at HR2
    have k0:(er==0)=false:=by simpa using er0
    go_wp2_with fail
    go_roundw
    ·exact⟨j+1,S3,v,ts,by simp,by omega,by omega,HP3,HO3,HEx3,HR2⟩
    ·first|(simp[RowKit.intOf];done)|(simp[RowKit.intOf];omega)
 ·have hjn:j=n+1:=by omega
  subst hjn
  have HR2:Hid (R=(tm kq a (ts.map Prod.fst),mustR c k_rp S2)):=by
   show _=_
   rw[HR.out,Nat.sub_self]
   rfl
  have nn0:((n:Int)+1==0)=false:=by simp;omega
  have nn1:¬(n:Int)+1<0:=by omega
  clear HR HEx
  go_wp2_with fail
  refine Calls.mono (close_any HO.out _ HP.out.i.re) ?_
  rintro e w3 ⟨rfl,ta,ra⟩
  have HC9:=hid2 (HP.out.turn ta ra)
  clear ta ra HP HO c0 c1 c2 cl
  obtain⟨av,cv,rfl⟩:=HC9.out.pa.val
  obtain⟨g0,g1,g2,g3,g4,g5,h0,h1,h2,h3,h4,h5⟩:=HC9.out.i.gx.six
  have gl:=HC9.out.i.gx.lt
  obtain⟨x0,x1,x2,x3,x4,x5,y0,y1,y2,y3,y4,y5⟩:=HC9.out.i.rs.six
  have xl:=HC9.out.i.rs.lt
  go_wp2_with fail
  have hrl:=HC9.out.i.rl
  have k6:=turn_six w3 (w.heap.size+1) (.int .i64 kq) (.string ⟨#[]⟩) (.int .i64 0) (.int .i64 0) (.int .i64 (a:Nat)) (.slice av ts.length cv)
  refine bodyPost_ret (v:=tmV (tm kq a (ts.map Prod.fst)) (.slice av ts.length cv)) (by simp[results,Tryz.results165,go_sem, *]) rfl (hP.out _ _ _ (mustR c k_rp S2) ⟨?_,?_,?_⟩ HR2.out)
  ·exact HC9.out.i.tn.trans k6 (fun i hi=>.inr (by simp at hi;omega))
  ·exact HC9.out.i.re.turn k6 (by simp;omega) (by simp;omega)
  ·exact SitB.lower ((HC9.out.pa.turn k6 (by simp)).sits (fit_of _ _ _ _ _ _ hz0.out hk1.1 hk1.2 (Nat.zero_le _) zero64 zero64 ha0.out) rfl) (by omega)
theorem qInside_c {z rb tb:Nat}{LL:List Tk}{c:Int}{o:Nat}(hz:z<=9223372036854775807){X:Option Rdf}(HX:InQ z rb tb LL c o X):InsC z rb tb LL c o X:=by
 intro q hq a ha S w hr
 unfold callT at hq
 simp only[List.mem_cons,List.not_mem_nil,or_false] at hq
 rcases hq with rfl | rfl | rfl | rfl | rfl | rfl | rfl | rfl | rfl | rfl | rfl | rfl | rfl | rfl
 ·exact qInCall_c hz HX _ 2 rfl (by decide) (by decide) (by decide) a ha S w hr
 ·exact qInCall_c hz HX _ 1 rfl (by decide) (by decide) (by decide) a ha S w hr
 ·exact qInCall_c hz HX _ 1 rfl (by decide) (by decide) (by decide) a ha S w hr
 ·exact qInCall_c hz HX _ 1 rfl (by decide) (by decide) (by decide) a ha S w hr
 ·exact qInCall_c hz HX _ 0 rfl (by decide) (by decide) (by decide) a ha S w hr
 ·exact qInCall_c hz HX _ 0 rfl (by decide) (by decide) (by decide) a ha S w hr
 ·exact qInCall_c hz HX _ 0 rfl (by decide) (by decide) (by decide) a ha S w hr
 ·exact qInWin_c hz HX _ rfl (by decide) (by decide) a ha S w hr
 ·exact qInWin_c hz HX _ rfl (by decide) (by decide) a ha S w hr
 ·exact qInWin_c hz HX _ rfl (by decide) (by decide) a ha S w hr
 ·exact qInWin_c hz HX _ rfl (by decide) (by decide) a ha S w hr
 ·exact qInWin_c hz HX _ rfl (by decide) (by decide) a ha S w hr
 ·exact qInRank_c hz HX _ rfl rfl a ha S w hr
 ·exact qInCron_c hz HX _ rfl rfl a ha S w hr
theorem qRv0_c {z rb tb:Nat}{LL:List Tk}{c:Int}{o:Nat}(hz:z<=9223372036854775807){X:Option Rdf}(HX:InQ z rb tb LL c o X)(hL:LenO X):RdC z rb tb LL c o 22 (rv0 c X):=
 have l5:LenE (rv5 c X):=len_fac (len_atom hL)
 have l4:LenE (rv4 c X):=len_left l5
 have l3:LenE (rv3 c X):=len_left l4
 have l2:LenE (rv2 c X):=len_rel l3
 have l1:LenE (rv1 c X):=len_left l2
 qExpr_c hz (qConj_c hz (qRel_c hz (qSum_c hz (qProd_c hz (qFac_c hz (qAtom_c hz HX (qInside_c hz HX))) l5) l4)) l2) l1
theorem qExprD_c {z rb tb:Nat}{LL:List Tk}{c:Int}(hz:z<=9223372036854775807):∀ d o:Nat,o+d=64->RdC z rb tb LL c o 22 (exprR c d)
 | 0,o,h=>qRv0_c hz (.inl ⟨by omega,rfl⟩) (fun E h=>by cases h)
 | d+1,o,h=>qRv0_c hz (.inr ⟨by omega,_,rfl,qExprD_c hz d (o+1) (by omega)⟩) (fun E h=>by cases h;exact len_expr c d)
def endRd (c:Int)(S:Sr):Sr:=if S.good=true/\((hdT S.L).kind≠7\/c≠0) then wrR c 16 S else S
set_option maxHeartbeats 4000000 in
theorem qEnd_c {z rb tb:Nat}{LL:List Tk}{c:Int}{S:Sr}{o:Nat}(w:World)(hr:Rr z w rb tb LL c S o):
 Calls Tryz.prog 19 #[.pointer (some ⟨rb,0,none⟩)] w (WrP z w rb tb LL c (endRd c S) o):=by
 have hgood:=hr.good
 have HW:=hid2 (fun W (k:Below w.heap.size w W)=>qWrong_c 16 ⟨by decide,by unfold In64;omega⟩ W (hr.next k))
 have hN:Hid (∀ w',Below w.heap.size w w'->WrP z w rb tb LL c S o (.returned (.tuple #[])) w'):=fun w' b=>⟨rfl,Turn.of_below b,hr.next b⟩
 have hY:Hid (∀ w',Turn [rb] w w'->Rr z w' rb tb LL c (wrR c 16 S) o->WrP z w rb tb LL c (wrR c 16 S) o (.returned (.tuple #[])) w'):=fun w' h1 h2=>⟨rfl,h1,h2⟩
 unfold endRd
 obtain⟨off,cap,i,ov,h⟩:=hr
 obtain⟨t0,t1,t2,t3⟩:=h.hd
 obtain⟨c0,c1,c2,c3,c4,c5,f0,f1,f2,f3,f4,f5⟩:=h.box.six
 have hl:=h.box.lt
 have htl:=h.lt
 have hil:(i:Int)<(LL.length:Int):=by have:=h.il;omega
 have hmx:=h.mx
 have hle:=h.le
 generalize hdT S.L=t at *
 generalize hn:LL.length=n at *
 by_cases e1:erI S.er=0
 ·have hg:S.good=true:=by rw[hgood];exact decide_eq_true e1
  by_cases e2:t.kind=7
  ·have k2:(t.kind != 7)=false:=by simp[e2]
   by_cases e3:c=0
   ·rw[if_neg (by rintro⟨_,h | h⟩;exact h e2;exact h e3)]
    have k3:(c != 0)=false:=by simp[e3]
    generalize erI S.er=er at *
    generalize erW S.er=wh at *
    generalize WrP z w rb tb LL c S o=Post at *
    clear h hn hgood
    go_enter Tryz.func19,Tryz.ntmps19
    go_wp2_with fail
    go_quiet (fail)
    go_wp2_with fail
    refine bodyPost_ret (v:=.tuple #[]) (by simp[results,Tryz.results19,go_sem]) rfl ?_
    exact hN.out _ (below_drewN (Below.refl _ _) _)
   ·rw[if_pos ⟨hg,.inr e3⟩]
    have k3:(c != 0)=true:=by simpa using e3
    generalize WrP z w rb tb LL c (wrR c 16 S) o=Post at *
    generalize wrR c 16 S=S1 at *
    generalize erI S.er=er at *
    generalize erW S.er=wh at *
    clear h hn hgood
    go_enter Tryz.func19,Tryz.ntmps19
    go_wp2_with fail
    go_quiet (fail)
    go_wp2_with fail
    refine Calls.mono (HW.out _ (below_drewN (Below.refl _ _) _)) ?_
    rintro e w2 ⟨rfl,t2',r2⟩
    have T2:=hid2 ((Turn.of_below (S:=[rb]) (below_drewN (Below.refl w.heap.size w) nq)).trans t2' (fun _ hi=>.inl hi))
    go_wp2_with fail
    refine bodyPost_ret (v:=.tuple #[]) (by simp[results,Tryz.results19,go_sem]) rfl ?_
    exact hY.out _ T2.out r2
  ·rw[if_pos ⟨hg,.inl e2⟩]
   have k2:(t.kind != 7)=true:=by simpa using e2
   generalize WrP z w rb tb LL c (wrR c 16 S) o=Post at *
   generalize wrR c 16 S=S1 at *
   generalize erI S.er=er at *
   generalize erW S.er=wh at *
   clear h hn hgood
   go_enter Tryz.func19,Tryz.ntmps19
   go_wp2_with fail
   go_quiet (fail)
   go_wp2_with fail
   refine Calls.mono (HW.out _ (below_drewN (Below.refl _ _) _)) ?_
   rintro e w2 ⟨rfl,t2',r2⟩
   have T2:=hid2 ((Turn.of_below (S:=[rb]) (below_drewN (Below.refl w.heap.size w) nq)).trans t2' (fun _ hi=>.inl hi))
   go_wp2_with fail
   refine bodyPost_ret (v:=.tuple #[]) (by simp[results,Tryz.results19,go_sem]) rfl ?_
   exact hY.out _ T2.out r2
 ·rw[if_neg (by rintro⟨h,_⟩;rw[hgood,decide_eq_false e1] at h;cases h)]
  generalize erI S.er=er at *
  generalize erW S.er=wh at *
  have k1:(er==0)=false:=by simpa using e1
  generalize WrP z w rb tb LL c S o=Post at *
  clear h hn hgood
  go_enter Tryz.func19,Tryz.ntmps19
  go_wp2_with fail
  go_quiet (fail)
  go_wp2_with fail
  refine bodyPost_ret (v:=.tuple #[]) (by simp[results,Tryz.results19,go_sem]) rfl ?_
  exact hN.out _ (below_drewN (Below.refl _ _) _)
theorem doc_end {α : Type}{c:Int}{r:Rs α}{y : α × Sr}(h:Eqv c r y):match bnd r (endP c) with
 | .ok t=>y.1=t/\(endRd c y.2).er=none
 | .error f=>(endRd c y.2).er=some f:=by
 cases r with
 | error f=>
   show (endRd c y.2).er=some f
   have hb:Bad c f y.2:=h
   unfold endRd
   rcases hb.h with h1 | ⟨h1,h2,h3,h4⟩
   ·rw[if_neg (by rintro⟨hg,_⟩;unfold Sr.good at hg;rw[h1] at hg;cases hg)]
    exact h1
   ·have hg:y.2.good=true:=by unfold Sr.good;rw[h1];rfl
    rw[if_pos ⟨hg,.inr h3⟩]
    unfold wrR
    rw[if_pos hg,if_pos ⟨h2,h3⟩,h4]
 | ok q=>
   have h1:y=(q.1,⟨none,q.2⟩):=h.1
   rw[h1]
   show match endP c q with
    | .ok t=>q.1=t/\(endRd c ⟨none,q.2⟩).er=none
    | .error f=>(endRd c ⟨none,q.2⟩).er=some f
   unfold endP endRd nxt wrR
   by_cases k7:(hdT q.2).kind=7
   ·by_cases kc:c=0
    ·rw[if_neg (fun hh=>hh.2 kc),bnd_ok,if_pos k7,if_neg (by rintro⟨_,hh | hh⟩;exact hh k7;exact hh kc)]
     exact⟨rfl,rfl⟩
    ·rw[if_pos ⟨k7,kc⟩,if_pos ⟨good_none _,.inr kc⟩,if_pos (good_none _)]
     show (some ((hdT q.2).at_,if (hdT q.2).kind=7/\c≠0 then c else 16):Option Flt)=some ((hdT q.2).at_,c)
     rw[if_pos ⟨k7,kc⟩]
   ·rw[if_neg (fun hh=>k7 hh.1),bnd_ok,if_neg k7,if_pos ⟨good_none _,.inl k7⟩,if_pos (good_none _)]
    show (some ((hdT q.2).at_,if (hdT q.2).kind=7/\c≠0 then c else 16):Option Flt)=some ((hdT q.2).at_,16)
    rw[if_neg (fun hh=>k7 hh.1)]
end Go.Proofs.YtecdfnpbcabdnaaGreatDoor
