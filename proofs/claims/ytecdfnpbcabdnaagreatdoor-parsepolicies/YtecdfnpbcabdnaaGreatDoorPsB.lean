import Derived.Test.YtecdfnpbcabdnaaGreatDoorPsA
import Derived.Test.YtecdfnpbcabdnaaGreatDoorMhI
import Derived.Test.YtecdfnpbcabdnaaGreatDoorMiA
namespace Go.Proofs.YtecdfnpbcabdnaaGreatDoor
open Go.RowKit Go.Lib
theorem behind_bad {A:Rdf}{ps:List Tm}{S:Sr}(h:S.good=false):behindR A ps S=(ps,S):=by
 unfold behindR
 rw[if_neg (by rw[h];simp)]
theorem behind_good {A:Rdf}{ps:List Tm}{S:Sr}(h:S.good=true):behindR A ps S=(ps++[(A S).1],(A S).2):=by
 unfold behindR
 rw[if_pos h]
theorem rungs_bad {c:Int}{A:Rdf}{n:Nat}{ps:List Tm}{S:Sr}(h:S.good=false):rungsR c A n ps S=(ps,S):=by
 cases n with
 | zero=>rfl
 | succ n=>rw[rungsR,if_neg (by rw[h];simp)]
theorem rung_less {c:Int}{A:Rdf}(hA:LenE A)(ps:List Tm){S:Sr}(hl:S.L≠[]):(rungR c A ps S).2.L.length<S.L.length\/(rungR c A ps S).2.good=false:=by
 rcases bound_less c S with h | h | h
 ·left
  have:=len_rungB (c:=c) hA (ps++[(boundR c S).1]) (boundR c S).2
  unfold rungR
  omega
 ·right
  unfold rungR rungB
  rw[must_bad h,behind_bad h,must_bad h]
  exact h
 ·exact absurd h hl
def qG (w:World)(rb:Nat):Nat:=match w.cell? ⟨rb,4,none⟩ with
 | some (.int _ e)=>if e=0 then 1 else 0
 | _=>0
theorem Rr.gd {z:Nat}{w:World}{rb tb:Nat}{LL:List Tk}{c:Int}{S:Sr}{o:Nat}(h:Rr z w rb tb LL c S o):qG w rb=if S.good=true then 1 else 0:=by
 obtain⟨er,h1,_,h3⟩:=h.errc
 unfold qG
 rw[h1,h3]
 simp only[decide_eq_true_eq]
def finL (c:Int)(A:Rdf)(a:Nat)(y:List Tm×Sr):Tm×Sr:=(tm 36 a (lastR c A y).1,(lastR c A y).2)
def InL (z rb tb:Nat)(LL:List Tk)(c:Int)(o:Nat)(X:Option Rdf):Prop:=(o=64/\X=none)\/(o≠64/\∃ A,X=some A/\RdC z rb tb LL c (o+1) 34 A/\LenE A)
def Dpr (z rb tb:Nat)(LL:List Tk)(c:Int)(o o1:Nat)(A:Rdf)(S:Sr):Prop:=(o1=o+1/\RdC z rb tb LL c o1 34 A)\/S.good=false
theorem lad_open {z rb tb:Nat}{LL:List Tk}{c:Int}{o:Nat}{X:Option Rdf}(HX:InL z rb tb LL c o X)(a:Nat)(x:Tm){S:Sr}(w:World)(hr:Rr z w rb tb LL c S o):Calls Tryz.prog 16 #[.pointer (some ⟨rb,0,none⟩),.string k_lb] w fun e w'=>∃ o1 A,WrP z w rb tb LL c (openR c k_lb X.isNone S) o1 e w'/\LenE A/\Dpr z rb tb LL c o o1 A (openR c k_lb X.isNone S)/\ladR c X a x S=finL c A a (rungsR c A (openR c k_lb X.isNone S).L.length [x] (openR c k_lb X.isNone S)):=by
 rcases HX with ⟨rfl,rfl⟩ | ⟨h,A,rfl,HA,hl⟩
 ·refine(qMustLbF_c w hr).mono fun e w' h=>⟨64,numberR c,h,len_number c,.inr openR_full,?_⟩
  unfold ladR finL lastR
  have hb:(openR c k_lb (none:Option Rdf).isNone S).good=false:=openR_full
  rw[rungs_bad hb,must_bad hb,behind_bad hb,must_bad hb]
  rfl
 ·exact(qMustLb_c h w hr).mono fun e w' h=>⟨o+1,A,h,hl,.inl ⟨rfl,HA⟩,rfl⟩
theorem lad_close {z rb tb:Nat}{LL:List Tk}{c:Int}{o o1:Nat}{A:Rdf}{S:Sr}(ho:o<=64)(h:Dpr z rb tb LL c o o1 A S)(w:World)(hr:Rr z w rb tb LL c S o1):Calls Tryz.prog 16 #[.pointer (some ⟨rb,0,none⟩),.string k_rb] w (WrP z w rb tb LL c (mustR c k_rb S) o):=by
 rcases h with ⟨rfl,_⟩ | h
 ·exact qMustRb_c w hr
 ·by_cases h0:o=64
  ·have hr1:Rr z w rb tb LL c S (63+1):=hr.any h (by omega)
   refine(qMustRb_c w hr1).mono fun e w' ⟨h1,h2,h3⟩=>⟨h1,h2,h3.any (by rw[must_bad h];exact h) ho⟩
  ·exact qMustRb_c w (hr.any h (by omega))
structure LdS (z:Nat)(w W:World)(rb tb:Nat)(LL:List Tk)(c:Int)(o g a:Nat)(S:Sr)(v:Value)(ts:List (Tm×Value)):Prop where
 rs:Box W w.heap.size zs6
 lt:Box W g [.int .i64 36,.string ⟨#[]⟩,.int .i64 0,.int .i64 0,.int .i64 (a:Nat),v]
 pa:PaG (w.heap.size+1) g z W v ts
 re:Rr z W rb tb LL c S o
 tn:Turn [rb] w W
 gg:w.heap.size<g
 rl:rb<w.heap.size/\tb<w.heap.size
theorem LdS.turn {z:Nat}{w W W':World}{rb tb:Nat}{LL:List Tk}{c:Int}{o o' g a:Nat}{S S':Sr}{v:Value}{ts:List (Tm×Value)}(h:LdS z w W rb tb LL c o g a S v ts)(k:Turn [rb] W W')(r:Rr z W' rb tb LL c S' o'):LdS z w W' rb tb LL c o' g a S' v ts:=by
 have h1:=h.gg
 have h2:=h.rl
 exact⟨h.rs.turn k (by simp;omega),h.lt.turn k (by simp;omega),h.pa.turn k (by simp;omega),r,turn_one h.tn k,h.gg,h.rl⟩
theorem LdS.next {z:Nat}{w W W':World}{rb tb:Nat}{LL:List Tk}{c:Int}{o g a:Nat}{S:Sr}{v:Value}{ts:List (Tm×Value)}(h:LdS z w W rb tb LL c o g a S v ts)(k:Below W.heap.size W W'):LdS z w W' rb tb LL c o g a S v ts:=
 h.turn (Turn.of_below k) (h.re.next k)
theorem LdS.added {z:Nat}{w W W':World}{rb tb:Nat}{LL:List Tk}{c:Int}{o g a k:Nat}{S:Sr}{v v':Value}{ts us:List (Tm×Value)}(h:LdS z w W rb tb LL c o g a S v ts)(p:PaG (w.heap.size+1) g z W' v' us)(hk:w.heap.size+1<=k)(hkg:k≠g)(t:Turn [k] W W'):LdS z w (W'.setCell ⟨g,5,none⟩ v') rb tb LL c o g a S v' us:=by
 have h1:=h.gg
 have h2:=h.rl
 have hs:=t.size
 refine⟨(h.rs.turn t (by simp;omega)).other (by omega),(h.lt.turn t (by simp;omega)).set 5 (by simp) v',p.turn (turn_set W' g 5 v') (by simp),(h.re.turn1 t (by omega)).turn1 (turn_set W' g 5 v') (by omega),?_,h1,h2⟩
 exact(h.tn.trans t (fun i hi=>.inr (by simp at hi;omega))).andSet _ _ (.inr (by show w.heap.size<=g;omega))
theorem sit_neg {z B C g a:Nat}{W:World}{v:Value}{x:Tm}{u:Value}(s:SitB C z W x u)(hB:B<=C)(hC:C<=W.heap.size)(hg:g<C)(hv:∀ q,v.ownBlock=some q->q<C)(hf:Fit z (tm 13 a [x])):
 SitQ (fun b=>(B<=b/\b≠g)/\v.ownBlock≠some b) z (W.alloc (.cells (tmQ x u).toArray 33)) (tm 13 a [x]) (.slice (some ⟨W.heap.size,0,none⟩) 1 1):=by
 have ka:=(Below.refl W.heap.size W).alloc (Nat.le_refl _) (.cells (tmQ x u).toArray 33)
 have X:=Box.new W (tmQ x u) 33
 have s2:SitB C z (W.alloc (.cells (tmQ x u).toArray 33)) x u:=SitQ.keep ka.size (fun b hb hq=>⟨hq,fun j=>cell_of_below ka hb j⟩) _ _ s
 exact sit_apartG (sitb_one hf rfl X.lt hC ⟨X.cell 0 _ rfl,X.cell 1 _ rfl,X.cell 2 _ rfl,X.cell 3 _ rfl,X.cell 4 _ rfl,X.cell 5 _ rfl⟩ s2) hB hg hv
theorem LdS.made {z:Nat}{w W:World}{rb tb:Nat}{LL:List Tk}{c:Int}{o B:Nat}{S:Sr}{x:Tm}{u:Value}(h:RsS z w W rb tb LL c o S)(s:SitB B z W x u)(hB:w.heap.size<B)(a:Nat):
 LdS z w ((W.alloc (.cells (tmQ x u).toArray 33)).alloc (.cells (tmQ ⟨36,⟨#[]⟩,0,0,(a:Int),[]⟩ (.slice (some ⟨W.heap.size,0,none⟩) 1 1)).toArray 33)) rb tb LL c o (W.heap.size+1) a S (.slice (some ⟨W.heap.size,0,none⟩) 1 1) [(x,u)]:=by
 have hws:=h.rs.lt
 have k1:=(Below.refl W.heap.size W).alloc (Nat.le_refl _) (.cells (tmQ x u).toArray 33)
 generalize hY:(W.alloc (.cells (tmQ x u).toArray 33))=Y at *
 have hs:Y.heap.size=W.heap.size+1:=by rw[<-hY];simp
 have Ow:Y.ownsRow (w.heap.size+1) 33 6 (.slice (some ⟨W.heap.size,0,none⟩) 1 1) 1 (flQ [(x,u)]):=by
  rw[<-hY]
  exact⟨rfl,.inr ⟨_,1,_,rfl,by omega,heap_alloc_last _ _,Nat.le_refl _,by unfold maxLen;decide,rfl,rfl⟩⟩
 have k2:=(Below.refl Y.heap.size Y).alloc (Nat.le_refl _) (.cells (tmQ ⟨36,⟨#[]⟩,0,0,(a:Int),[]⟩ (.slice (some ⟨W.heap.size,0,none⟩) 1 1)).toArray 33)
 have X:=Box.new Y (tmQ ⟨36,⟨#[]⟩,0,0,(a:Int),[]⟩ (.slice (some ⟨W.heap.size,0,none⟩) 1 1)) 33
 rw[hs] at X
 have hr:=(h.next k1).next k2
 have s1:SitB B z Y x u:=SitQ.keep k1.size (fun b hb hq=>⟨hq,fun j=>cell_of_below k1 hb j⟩) _ _ s
 have s2:SitQ (fun b=>(w.heap.size+1<=b/\b≠W.heap.size+1)/\(Value.slice (some ⟨W.heap.size,0,none⟩) 1 1).ownBlock≠some b) z Y x u:=SitQ.keep k1.size (fun b hb hq=>⟨⟨⟨by have hq':B<=b:=hq;omega,by omega⟩,by show some W.heap.size≠some b;intro he;cases he;omega⟩,fun j=>cell_of_below k1 hb j⟩) _ _ s
 refine⟨hr.rs,X,?_,hr.re,hr.tn,by omega,hr.rl⟩
 have P1:PaG (w.heap.size+1) (W.heap.size+1) z Y (.slice (some ⟨W.heap.size,0,none⟩) 1 1) [(x,u)]:=⟨Ow,(by show some W.heap.size≠some (W.heap.size+1);simp),fun p hp=>by obtain rfl:=List.mem_singleton.1 hp;exact s2⟩
 exact P1.turn (S:=[]) (Turn.of_below k2) (by simp)
theorem LdS.back {z:Nat}{w W:World}{rb tb:Nat}{LL:List Tk}{c:Int}{o g a:Nat}{S:Sr}{v:Value}{ts:List (Tm×Value)}(h:LdS z w W rb tb LL c o g a S v ts)(hf:Fit z (tm 36 a (ts.map Prod.fst)))(v0 v1 v2 v3 v4 v5:Value):
 let W':=(((((W.setCell ⟨w.heap.size,0,none⟩ v0).setCell ⟨w.heap.size,1,none⟩ v1).setCell ⟨w.heap.size,2,none⟩ v2).setCell ⟨w.heap.size,3,none⟩ v3).setCell ⟨w.heap.size,4,none⟩ v4).setCell ⟨w.heap.size,5,none⟩ v5
 Turn [rb] w W'/\Rr z W' rb tb LL c S o/\SitB w.heap.size z W' (tm 36 a (ts.map Prod.fst)) v:=by
 intro W'
 have hl:=h.rl
 have k6:=turn_six W w.heap.size v0 v1 v2 v3 v4 v5
 exact⟨h.tn.trans k6 (fun i hi=>.inr (by simp at hi;omega)),h.re.turn k6 (by simp;omega) (by simp;omega),SitB.lower ((h.pa.turn k6 (by simp)).sits hf rfl) (by omega)⟩
set_option maxHeartbeats 32000000 in
set_option maxRecDepth 20000 in
theorem qAction_c {z rb tb:Nat}{LL:List Tk}{c:Int}{o:Nat}(hz:z<=9223372036854775807)(hN:LL.length<=1000000)(ho:o<=64){E:Rdf}(HE:RdC z rb tb LL c o 22 E){X:Option Rdf}(HX:InL z rb tb LL c o X):RdC z rb tb LL c o 34 (actR c E X):=fun S w hr=>by
 have H1:=hid2 HE
 have HX0:=hid2 HX
 have HC0:=hid2 (RsS.made hr)
 have hat:=hr.tl.ok.a
 have hz0:=hid2 hz
 obtain⟨R,hR⟩:∃ R,Hid (R=actR c E X S):=⟨_,rfl⟩
 rw[<-hR.out]
 have hP:Hid (∀ w' t u S',Turn [rb] w w'/\Rr z w' rb tb LL c S' o/\SitB w.heap.size z w' t u->R=(t,S')->QtP w.heap.size z w rb tb LL c o R (.returned (tmV t u)) w'):=fun w' t u S' h h3=>⟨h.1,⟨_,rfl,u,by rw[h3],by rw[h3];exact h.2.2⟩,by rw[h3];exact h.2.1⟩
 generalize QtP w.heap.size z w rb tb LL c o R=Post at *
 have hl0:=hr.lts
 clear HE hz hr HX
 go_enter Tryz.func34,Tryz.ntmps34
 go_wp2_with fail
 refine Calls.mono (qAt_c _ HC0.out.re) ?_
 rintro e w1 ⟨rfl,b1⟩
 have HC1:=hid2 (HC0.out.next b1)
 clear HC0 b1
 go_wp2_with fail
 refine Calls.mono (qMay_c k_hold ⟨ba_neL [40] (by decide),ba_neL [123] (by decide),ba_neL [41] (by decide),ba_neL [125] (by decide)⟩ _ HC1.out.re) ?_
 rintro e wHC2 ⟨rfl,t2,r2⟩
 have HC2:=hid2 (HC1.out.turn t2 r2)
 clear HC1 t2 r2
 cases h2:isR k_hold S with
 | true=>
   rw[may_adv h2] at HC2
   have hR1:Hid (R=(tm 33 (hdT S.L).at_ [],adv S)):=by show _=_;rw[hR.out];unfold actR;rw[if_pos h2]
   clear hR
   obtain⟨x0,x1,x2,x3,x4,x5,y0,y1,y2,y3,y4,y5⟩:=HC2.out.rs.six
   have xl:=HC2.out.rs.lt
   go_wp2_with fail
   refine bodyPost_ret (v:=tmV (tm 33 (hdT S.L).at_ []) (.slice none 0 0)) (by simp[results,Tryz.results34,go_sem, *]) rfl (hP.out _ _ _ (adv S) ?_ hR1.out)
   exact leaf_back HC2.out (fit_of _ _ _ _ _ _ hz0.out (by decide) (by decide) (Nat.zero_le _) zero64 zero64 hat) rfl _ _ _ _ _ _
 | false=>
   rw[may_not h2] at HC2
   have n1:¬ isR k_hold S=true:=by rw[h2];simp
   clear h2
   go_wp2_with fail
   refine Calls.mono (qMay_c k_to ⟨ba_neL [40] (by decide),ba_neL [123] (by decide),ba_neL [41] (by decide),ba_neL [125] (by decide)⟩ _ HC2.out.re) ?_
   rintro e wHC3 ⟨rfl,t2,r2⟩
   have HC3:=hid2 (HC2.out.turn t2 r2)
   clear HC2 t2 r2
   cases h2:isR k_to S with
   | true=>
     rw[may_adv h2] at HC3
     have hR1:Hid (R=(tm 34 (hdT S.L).at_ [(E (adv S)).1],(E (adv S)).2)):=by show _=_;rw[hR.out];unfold actR;rw[if_neg n1,if_pos h2]
     clear hR
     go_wp2_with fail
     refine Calls.mono (H1.out (adv S) _ HC3.out.re) ?_
     rintro e w4 ⟨t4,⟨v,rfl,u,rfl,s4⟩,r4⟩
     have HC4:=hid2 (HC3.out.turn t4 r4)
     have hsz:=HC3.out.rs.lt
     obtain⟨ad,cp,rfl,hcp1,hcp2⟩:=s4.parts.shape
     have HS4:=hid2 s4
     obtain⟨x0,x1,x2,x3,x4,x5,y0,y1,y2,y3,y4,y5⟩:=HC4.out.rs.six
     have xl:=HC4.out.rs.lt
     simp only[tmV]
     clear t4 r4 s4
     go_wp2_with fail
     refine bodyPost_ret (v:=tmV (tm 34 (hdT S.L).at_ [(E (adv S)).1]) (.slice (some ⟨w4.heap.size,0,none⟩) 1 1)) (by simp[results,Tryz.results34,go_sem, *]) rfl (hP.out _ _ _ (E (adv S)).2 ?_ hR1.out)
     exact one_back HC4.out HS4.out hsz (fit_of _ _ _ _ _ _ hz0.out (by decide) (by decide) (Nat.zero_le _) zero64 zero64 hat) _ _ _ _ _ _
   | false=>
     rw[may_not h2] at HC3
     have n2:¬ isR k_to S=true:=by rw[h2];simp
     clear h2
     go_wp2_with fail
     refine Calls.mono (qMay_c k_by ⟨ba_neL [40] (by decide),ba_neL [123] (by decide),ba_neL [41] (by decide),ba_neL [125] (by decide)⟩ _ HC3.out.re) ?_
     rintro e wHC4 ⟨rfl,t2,r2⟩
     have HC4:=hid2 (HC3.out.turn t2 r2)
     clear HC3 t2 r2
     cases h2:isR k_by S with
     | true=>
       rw[may_adv h2] at HC4
       have hR1:Hid (R=(tm 35 (hdT S.L).at_ [(E (adv S)).1],(E (adv S)).2)):=by show _=_;rw[hR.out];unfold actR;rw[if_neg n1,if_neg n2,if_pos h2]
       clear hR
       go_wp2_with fail
       refine Calls.mono (H1.out (adv S) _ HC4.out.re) ?_
       rintro e w4 ⟨t4,⟨v,rfl,u,rfl,s4⟩,r4⟩
       have HC5:=hid2 (HC4.out.turn t4 r4)
       have hsz:=HC4.out.rs.lt
       obtain⟨ad,cp,rfl,hcp1,hcp2⟩:=s4.parts.shape
       have HS4:=hid2 s4
       obtain⟨x0,x1,x2,x3,x4,x5,y0,y1,y2,y3,y4,y5⟩:=HC5.out.rs.six
       have xl:=HC5.out.rs.lt
       simp only[tmV]
       clear t4 r4 s4
       go_wp2_with fail
       refine bodyPost_ret (v:=tmV (tm 35 (hdT S.L).at_ [(E (adv S)).1]) (.slice (some ⟨w4.heap.size,0,none⟩) 1 1)) (by simp[results,Tryz.results34,go_sem, *]) rfl (hP.out _ _ _ (E (adv S)).2 ?_ hR1.out)
       exact one_back HC5.out HS4.out hsz (fit_of _ _ _ _ _ _ hz0.out (by decide) (by decide) (Nat.zero_le _) zero64 zero64 hat) _ _ _ _ _ _
     | false=>
       rw[may_not h2] at HC4
       have n3:¬ isR k_by S=true:=by rw[h2];simp
       clear h2
       go_wp2_with fail
       refine Calls.mono (qMust_c k_ladder ⟨ba_neL [40] (by decide),ba_neL [123] (by decide),ba_neL [41] (by decide),ba_neL [125] (by decide)⟩ _ HC4.out.re) ?_
       rintro e w5 ⟨rfl,t2,r2⟩
       have HC5:=hid2 (HC4.out.turn t2 r2)
       clear HC4 t2 r2
       cases h2:isR k_ladder S with
       | false=>
         have hm:mustR c k_ladder S=wrR c 16 S:=by unfold mustR;rw[if_neg (by rw[h2];simp)]
         rw[hm] at HC5
         have hR1:Hid (R=(nilM,wrR c 16 S)):=by show _=_;rw[hR.out];unfold actR;rw[if_neg n1,if_neg n2,if_neg n3,if_neg (by rw[h2];simp)]
         clear hR
         obtain⟨er,e4,el,eg⟩:=HC5.out.re.errc
         have er0:er≠0:=fun h=>by rw[wr_good,h] at eg;simp at eg
         have k0:(er != 0)=true:=by simpa using er0
         obtain⟨x0,x1,x2,x3,x4,x5,y0,y1,y2,y3,y4,y5⟩:=HC5.out.rs.six
         have xl:=HC5.out.rs.lt
         go_wp2_with fail
         refine bodyPost_ret (v:=.agg (zs6).toArray) (by simp[results,Tryz.results34,go_sem, *]) rfl (hP.out _ _ _ (wrR c 16 S) ?_ hR1.out)
         exact leaf_back HC5.out fit_nil rfl _ _ _ _ _ _
       | true=>
         have hm:mustR c k_ladder S=adv S:=by unfold mustR;rw[if_pos h2]
         rw[hm] at HC5
         have hR1:Hid (R=ladR c X (hdT S.L).at_ (E (adv S)).1 (E (adv S)).2):=by show _=_;rw[hR.out];unfold actR;rw[if_neg n1,if_neg n2,if_neg n3,if_pos h2]
         clear hR
         obtain⟨er,e4,el,eg⟩:=HC5.out.re.errc
         have hga:(adv S).good=true:=by
          have:=(isR_good h2).1
          show (Sr.mk S.er S.L.tail).good=true
          unfold Sr.good
          rw[this]
          rfl
         obtain rfl:er=0:=by rw[hga] at eg;simpa using eg.symm
         go_wp2_with fail
         refine Calls.mono (H1.out (adv S) _ HC5.out.re) ?_
         rintro e w6 ⟨t4,⟨v,rfl,u,rfl,s4⟩,r4⟩
         have HC6:=hid2 (HC5.out.turn t4 r4)
         have hsz:=HC5.out.rs.lt
         obtain⟨ad,cp,rfl,hcp1,hcp2⟩:=s4.parts.shape
         have HL0:=hid2 (LdS.made HC6.out s4 hsz (hdT S.L).at_)
         simp only[tmV]
         clear t4 r4 s4 HC5 HC6 e4 el eg hga h2
         generalize (E (adv S)).1=x at *
         generalize (E (adv S)).2=S1 at *
         go_wp2_with fail
         obtain⟨g,hg⟩:∃ g,Hid (g=w6.heap.size+1):=⟨_,rfl⟩
         obtain⟨W6,hW6⟩:∃ W6,Hid (W6=((w6.alloc (.cells (tmQ x (.slice ad x.parts.length cp)).toArray 33)).alloc (.cells (tmQ ⟨36,⟨#[]⟩,0,0,(((hdT S.L).at_:Nat):Int),[]⟩ (.slice (some ⟨w6.heap.size,0,none⟩) 1 1)).toArray 33))):=⟨_,rfl⟩
         simp only[tmQ] at hW6 HL0 ⊢
         rw[<-hg.out,<-hW6.out] at HL0
         rw[<-hW6.out]
         try rw[<-hg.out]
         refine Calls.mono (lad_open HX0.out (hdT S.L).at_ x _ HL0.out.re) ?_
         rintro e w7 ⟨o1,A,⟨rfl,t7,r7⟩,hlA,HD,hRl⟩
         have HL1:=hid2 (HL0.out.turn t7 r7)
         have HD1:=hid2 HD
         have hlA0:=hid2 hlA
         have hR2:Hid (R=finL c A (hdT S.L).at_ (rungsR c A (openR c k_lb X.isNone S1).L.length ([(x,Value.slice ad x.parts.length cp)].map Prod.fst) (openR c k_lb X.isNone S1))):=hR1.out.trans hRl
         have hS2:(openR c k_lb X.isNone S1).L.length<=LL.length:=by have:=HL1.out.re.left;omega
         clear HL0 t7 r7 HD hlA hRl hR1 HX0 H1
         generalize openR c k_lb X.isNone S1=S2 at *
         generalize Value.slice (some ⟨w6.heap.size,0,none⟩) 1 1=v1 at *
         generalize hts:[(x,Value.slice ad x.parts.length cp)]=ts1 at *
         have hts1:ts1.length=1:=by rw[<-hts];rfl
         clear hts hW6 hg
         go_wp2_with fail
         go_loopw [] (fun wr=>∃ (S3:Sr) (v:Value) (ts:List (Tm×Value)) (f:Nat),(S3.good=false\/S3.L.length<=f)/\ts.length+2*f<=2*LL.length+1/\Hid (LdS z w wr rb tb LL c o1 g (hdT S.L).at_ S3 v ts)/\Hid (Dpr z rb tb LL c o o1 A S3)/\Hid (R=finL c A (hdT S.L).at_ (rungsR c A f (ts.map Prod.fst) S3))) (fun wr=>2*(LL.length-qI wr rb)+qG wr rb)
         ·exact⟨S2,v1,ts1,S2.L.length,.inr (Nat.le_refl _),by omega,HL1,HD1,hR2⟩
         obtain⟨S3,v,ts,f,hf,hts,HL,HD,HR⟩:=hrel
         clear HL1 HD1 hR2 hS2 hts1
         have hme:=HL.out.re.left
         have hmg:=HL.out.re.gd
         have hne:=HL.out.re.tl.ne
         have hpos:=HL.out.re.tl.pos
         obtain⟨er,e4,el,eg⟩:=HL.out.re.errc
         by_cases er0:er=0
         ·have hg3:S3.good=true:=by rw[eg];exact decide_eq_true er0
          subst er0
          obtain⟨f',rfl⟩:∃ f',f=f'+1:=by
           rcases hf with h | h
           ·rw[hg3] at h;cases h
           ·exact⟨f-1,by omega⟩
          rw[rungsR,if_pos hg3] at HR
          obtain⟨ho1,HA1⟩:o1=o+1/\RdC z rb tb LL c o1 34 A:=by
           rcases HD.out with h | h
           ·exact h
           ·rw[hg3] at h;cases h
          have HA:=hid2 HA1
          clear HA1
          go_wp2_with fail
          refine Calls.mono (qMay_c k_else ⟨ba_neL [40] (by decide),ba_neL [123] (by decide),ba_neL [41] (by decide),ba_neL [125] (by decide)⟩ _ HL.out.re) ?_
          rintro e w8 ⟨rfl,t8,r8⟩
          have HL8:=hid2 (HL.out.turn t8 r8)
          clear HL t8 r8 e4 el eg
          cases h2:isR k_else S3 with
          | true=>
            rw[may_adv h2] at HL8
            rw[if_pos h2] at HR
            have HD8:Hid (Dpr z rb tb LL c o o1 A (adv S3)):=.inl ⟨ho1,HA.out⟩
            clear h2 HD
            generalize adv S3=S8 at *
            go_wp2_with fail
            refine Calls.mono (qMust_c k_col ⟨ba_neL [40] (by decide),ba_neL [123] (by decide),ba_neL [41] (by decide),ba_neL [125] (by decide)⟩ _ HL8.out.re) ?_
            rintro e w20 ⟨rfl,t8,r8⟩
            have HL20:=hid2 (HL8.out.turn t8 r8)
            have HD20:Hid (Dpr z rb tb LL c o o1 A (mustR c k_col S8)):=HD8.out.imp id (fun h=>by rw[must_bad h];exact h)
            have HR20:Hid (R=(tm 36 (hdT S.L).at_ (behindR A (ts.map Prod.fst) (mustR c k_col S8)).1,mustR c k_rb (behindR A (ts.map Prod.fst) (mustR c k_col S8)).2)):=HR.out
            clear HL8 t8 r8 HD8 HR
            generalize mustR c k_col S8=S20 at *
            obtain⟨er,e4,el,eg⟩:=HL20.out.re.errc
            by_cases er0:er=0
            ·have hg20:S20.good=true:=by rw[eg];exact decide_eq_true er0
             rw[behind_good hg20] at HR20
             obtain⟨ho2,HA2⟩:o1=o+1/\RdC z rb tb LL c o1 34 A:=by
              rcases HD20.out with h | h
              ·exact h
              ·rw[hg20] at h;cases h
             have HD21:Hid (Dpr z rb tb LL c o o1 A (A S20).2):=.inl ⟨ho2,HA2⟩
             have l5:=HL20.out.lt.cell 5 _ rfl
             have ll:=HL20.out.lt.lt
             subst er0
             go_wp2_with fail
             go_region_law (first
              | (refine step_qt rfl (HA2 S20 _ (HL20.out.re.next (Below.refl _ _).drew)) (by first | rfl | go_simp) ?_;rintro _ w60 t60 ⟨u60,rfl,S60⟩ r60;have z60:Hid (w20.heap.size<=w60.heap.size):=t60.size;have C60:=hid2 ((HL20.out.next (Below.refl _ _).drew).turn t60 r60);have q60:=hid2 (HL20.out.next (Below.refl _ w20).drew).pa.blk;have c560:=C60.out.lt.cell 5 _ rfl;have l560:=C60.out.lt.lt;have X60:=hid2 S60;clear S60 t60 r60)
              | (refine step_append_tg w60 (w.heap.size+1) g rfl _ _ rfl v ts [((A S20).1,u60)] rfl (by simp[Act.eval]) C60.out.pa (by have:=C60.out.lt.lt;omega) (fun p hp=>by obtain rfl:=List.mem_singleton.1 hp;exact sit_apartG X60.out (by have:=HL20.out.gg;have:=HL20.out.lt.lt;simp<;>omega) (by have:=HL20.out.lt.lt;simp<;>omega) (fun q hq=>(q60.out q hq).2)) (by simp<;>omega) (by have:=z60.out;have:=HL20.out.gg;have:=HL20.out.lt.lt;omega) (by simp[Act.eval]) ?_;intro a60 d60 wa60 k60 p60 hk60 hg60 b60;have CA60:=hid2 (C60.out.added p60 hk60 hg60 b60);have l60:=(C60.out.lt.turn b60 (by simp;omega)).lt;have e560:=(C60.out.lt.turn b60 (by simp;omega)).cell 5 _ rfl;have f560:=(C60.out.lt.turn b60 (by simp;omega)).free 5 (by simp);clear p60 b60))
             all_goals (
              have HR21:Hid (R=(tm 36 (hdT S.L).at_ ((ts++[((A S20).1,u60)]).map Prod.fst),mustR c k_rb (A S20).2)):=by show _=_;rw[HR20.out,List.map_append];rfl
              have HL21:=CA60
              clear CA60 C60 c560 l560 q60 X60 z60 l60 e560 f560 HL20 HR20 e4 el eg l5 ll HD20 HA2
              generalize hW1:wa60.setCell _ _=W1 at *
              clear hW1
              go_wp2_with fail
              refine Calls.mono (lad_close ho HD21.out _ HL21.out.re) ?_
              rintro e w30 ⟨rfl,t8,r8⟩
              have HL30:=hid2 (HL21.out.turn t8 r8)
              clear t8 r8 HL21 HD21
              obtain⟨p0,p1,p2,p3,p4,p5,q0,q1,q2,q3,q4,q5⟩:=HL30.out.rs.six
              obtain⟨x0,x1,x2,x3,x4,x5,y0,y1,y2,y3,y4,y5⟩:=HL30.out.lt.six
              have xl:=HL30.out.lt.lt
              have pl:=HL30.out.rs.lt
              have hg1:g≠w.heap.size:=by have:=HL30.out.gg;omega
              go_wp2_with fail
              refine bodyPost_ret (v:=tmV (tm 36 (hdT S.L).at_ ((ts++[((A S20).1,u60)]).map Prod.fst)) (.slice a60 (ts.length+1) d60)) (by simp[results,Tryz.results34,go_sem, *]) rfl (hP.out _ _ _ (mustR c k_rb (A S20).2) ?_ HR21.out)
              exact HL30.out.back (fit_of _ _ _ _ _ _ hz0.out (by decide) (by decide) (Nat.zero_le _) zero64 zero64 hat) _ _ _ _ _ _
              )
            ·have hg20:S20.good=false:=by rw[eg];exact decide_eq_false er0
             have k20:(er==0)=false:=by simpa using er0
             rw[behind_bad hg20] at HR20
             have HR21:Hid (R=(tm 36 (hdT S.L).at_ (ts.map Prod.fst),mustR c k_rb S20)):=HR20.out
             clear HR20
             go_wp2_with fail
             refine Calls.mono (lad_close ho HD20.out _ HL20.out.re) ?_
             rintro e w30 ⟨rfl,t8,r8⟩
             have HL30:=hid2 (HL20.out.turn t8 r8)
             clear t8 r8 HL20 HD20
             obtain⟨av,cv,rfl⟩:=HL30.out.pa.val
             obtain⟨p0,p1,p2,p3,p4,p5,q0,q1,q2,q3,q4,q5⟩:=HL30.out.rs.six
             obtain⟨x0,x1,x2,x3,x4,x5,y0,y1,y2,y3,y4,y5⟩:=HL30.out.lt.six
             have xl:=HL30.out.lt.lt
             have pl:=HL30.out.rs.lt
             have hg1:g≠w.heap.size:=by have:=HL30.out.gg;omega
             go_wp2_with fail
             refine bodyPost_ret (v:=tmV (tm 36 (hdT S.L).at_ (ts.map Prod.fst)) (.slice av ts.length cv)) (by simp[results,Tryz.results34,go_sem, *]) rfl (hP.out _ _ _ (mustR c k_rb S20) ?_ HR21.out)
             exact HL30.out.back (fit_of _ _ _ _ _ _ hz0.out (by decide) (by decide) (Nat.zero_le _) zero64 zero64 hat) _ _ _ _ _ _
          | false=>
            rw[may_not h2] at HL8
            rw[if_neg (by rw[h2];simp)] at HR
            clear h2
            have hrl:=rung_less (c:=c) hlA0.out (ts.map Prod.fst) (S:=S3) hne
            have hrn:=len_rung (c:=c) hlA0.out (ts.map Prod.fst) S3
            go_wp2_with fail
            refine Calls.mono (qAt_c _ HL8.out.re) ?_
            rintro e w9 ⟨rfl,b9⟩
            have HL9:=hid2 (HL8.out.next b9)
            have hat3:=HL8.out.re.tl.ok.a
            clear HL8 b9
            go_wp2_with fail
            refine Calls.mono (qMay_c k_sub ⟨ba_neL [40] (by decide),ba_neL [123] (by decide),ba_neL [41] (by decide),ba_neL [125] (by decide)⟩ _ HL9.out.re) ?_
            rintro e w10 ⟨rfl,t8,r8⟩
            have HL10:=hid2 (HL9.out.turn t8 r8)
            clear HL9 t8 r8
            cases h2:isR k_sub S3 with
            | true=>
              rw[may_adv h2] at HL10
              have hb:Hid (boundR c S3=(tm 13 (hdT S3.L).at_ [(numberR c (adv S3)).1],(numberR c (adv S3)).2)):=by show _=_;unfold boundR;rw[if_pos h2]
              clear h2
              have l5:=HL10.out.lt.cell 5 _ rfl
              have ll:=HL10.out.lt.lt
              go_wp2_with fail
              go_region_law (first
               | (refine step_qt rfl (qNumber_c hz0.out _ (HL10.out.re.next (Below.refl _ _).drew)) (by first | rfl | go_simp) ?_;rintro _ w60 t60 ⟨u60,rfl,S60⟩ r60;have z60:Hid (w10.heap.size<=w60.heap.size):=t60.size;have C60:=hid2 ((HL10.out.next (Below.refl _ _).drew).turn t60 r60);have q60:=hid2 (HL10.out.next (Below.refl _ w10).drew).pa.blk;have c560:=C60.out.lt.cell 5 _ rfl;have l560:=C60.out.lt.lt;have X60:=hid2 S60;clear S60 t60 r60)
               | (have D60:=hid2 (C60.out.next ((Below.refl _ _).alloc (Nat.le_refl _) (.cells (tmQ (numberR c (adv S3)).1 u60).toArray 33)));refine step_append_tg (w60.alloc (.cells (tmQ (numberR c (adv S3)).1 u60).toArray 33)) (w.heap.size+1) g rfl _ _ rfl v ts [(tm 13 (hdT S3.L).at_ [(numberR c (adv S3)).1],.slice (some ⟨w60.heap.size,0,none⟩) 1 1)] rfl (by simp[Act.eval]) D60.out.pa (by have:=D60.out.lt.lt;omega) (fun p hp=>by obtain rfl:=List.mem_singleton.1 hp;exact sit_neg X60.out (by have:=HL10.out.gg;have:=HL10.out.lt.lt;simp<;>omega) (by have:=z60.out;simp<;>omega) (by have:=HL10.out.lt.lt;simp<;>omega) (fun q hq=>(q60.out q hq).2) (fit_of _ _ _ _ _ _ hz0.out (by decide) (by decide) (Nat.zero_le _) zero64 zero64 hat3)) (by simp<;>omega) (by have:=z60.out;have:=HL10.out.gg;have:=HL10.out.lt.lt;simp;omega) (by simp[Act.eval]) ?_;intro a60 d60 wa60 k60 p60 hk60 hg60 b60;have CA60:=hid2 (D60.out.added p60 hk60 hg60 b60);have l60:=(D60.out.lt.turn b60 (by simp;omega)).lt;have e560:=(D60.out.lt.turn b60 (by simp;omega)).cell 5 _ rfl;have f560:=(D60.out.lt.turn b60 (by simp;omega)).free 5 (by simp);clear p60 b60))
              all_goals (
              have HLb:=CA60
              obtain⟨tb2,htb⟩:∃ tb2,Hid (tb2=ts++[(tm 13 (hdT S3.L).at_ [(numberR c (adv S3)).1],Value.slice (some ⟨w60.heap.size,0,none⟩) 1 1)]):=⟨_,rfl⟩
              have hRg:rungR c A (ts.map Prod.fst) S3=rungB c A (tb2.map Prod.fst) (numberR c (adv S3)).2:=by unfold rungR;rw[hb.out,htb.out,List.map_append];rfl
              have htl:Hid (tb2.length=ts.length+1):=by show _=_;rw[htb.out];simp
              rw[hRg] at HR hrl hrn
              rw[<-htb.out] at HLb
              clear CA60 C60 c560 l560 q60 X60 z60 l60 e560 f560 l5 ll hRg hb HL10 D60
              generalize hW1:wa60.setCell _ _=W1 at *
              clear hW1 htb
              generalize (numberR c (adv S3)).2=Sb at *
              go_wp2_with fail
              refine Calls.mono (qMust_c k_col ⟨ba_neL [40] (by decide),ba_neL [123] (by decide),ba_neL [41] (by decide),ba_neL [125] (by decide)⟩ _ HLb.out.re) ?_
              rintro e w20 ⟨rfl,t8,r8⟩
              have HL20:=hid2 (HLb.out.turn t8 r8)
              unfold rungB at HR hrl hrn
              clear HLb t8 r8
              generalize mustR c k_col Sb=S20 at *
              obtain⟨er,e4,el,eg⟩:=HL20.out.re.errc
              by_cases er0:er=0
              ·have hg20:S20.good=true:=by rw[eg];exact decide_eq_true er0
               rw[behind_good hg20] at HR hrl hrn
               have HA2:=HA.out
               have l5:=HL20.out.lt.cell 5 _ rfl
               have ll:=HL20.out.lt.lt
               subst er0
               go_wp2_with fail
               go_region_law (first
                | (refine step_qt rfl (HA2 S20 _ (HL20.out.re.next (Below.refl _ _).drew)) (by first | rfl | go_simp) ?_;rintro _ w70 t70 ⟨u70,rfl,S70⟩ r70;have z70:Hid (w20.heap.size<=w70.heap.size):=t70.size;have C70:=hid2 ((HL20.out.next (Below.refl _ _).drew).turn t70 r70);have q70:=hid2 (HL20.out.next (Below.refl _ w20).drew).pa.blk;have c570:=C70.out.lt.cell 5 _ rfl;have l570:=C70.out.lt.lt;have X70:=hid2 S70;clear S70 t70 r70)
                | (refine step_append_tg w70 (w.heap.size+1) g rfl _ _ rfl _ tb2 [((A S20).1,u70)] rfl (by simp[Act.eval]) C70.out.pa (by have:=C70.out.lt.lt;omega) (fun p hp=>by obtain rfl:=List.mem_singleton.1 hp;exact sit_apartG X70.out (by have:=HL20.out.gg;have:=HL20.out.lt.lt;simp<;>omega) (by have:=HL20.out.lt.lt;simp<;>omega) (fun q hq=>(q70.out q hq).2)) (by have:=htl.out;simp<;>omega) (by have:=z70.out;have:=HL20.out.gg;have:=HL20.out.lt.lt;omega) (by simp[Act.eval]) ?_;intro a70 d70 wa70 k70 p70 hk70 hg70 b70;have CA70:=hid2 (C70.out.added p70 hk70 hg70 b70);have l70:=(C70.out.lt.turn b70 (by simp;omega)).lt;have e570:=(C70.out.lt.turn b70 (by simp;omega)).cell 5 _ rfl;have f570:=(C70.out.lt.turn b70 (by simp;omega)).free 5 (by simp);clear p70 b70))
               all_goals (
                have HL21:=CA70
                clear CA70 C70 c570 l570 q70 X70 z70 l70 e570 f570 HL20 e4 el eg l5 ll HA2
                generalize hW1:wa70.setCell _ _=W1 at *
                clear hW1
                go_wp2_with fail
                refine Calls.mono (qMust_c k_com ⟨ba_neL [40] (by decide),ba_neL [123] (by decide),ba_neL [41] (by decide),ba_neL [125] (by decide)⟩ _ HL21.out.re) ?_
                rintro e w30 ⟨rfl,t8,r8⟩
                have HL30:=hid2 (HL21.out.turn t8 r8)
                have hl3:=HL30.out.re.left
                have hl4:=HL30.out.re.gd
                try simp only at HR hrl hrn
                clear HL21 t8 r8
                generalize mustR c k_com (A S20).2=S30 at *
                go_wp2_with fail
                go_roundw
                ·refine⟨S30,_,_,f',?_,?_,HL30,.inl ⟨ho1,HA.out⟩,?_⟩
                 ·rcases hrl with h | h
                  ·right
                   rcases hf with h' | h'
                   ·rw[hg3] at h';cases h'
                   ·omega
                  ·exact .inl h
                 ·have:=htl.out;simp only[List.length_append,List.length_singleton];omega
                 ·show _=_
                  rw[HR.out,List.map_append]
                  rfl
                ·rw[hl3,hl4,hme,hmg,if_pos hg3]
                 rcases hrl with h | h
                 ·split<;>omega
                 ·rw[h];simp;omega
                )
              ·have hg20:S20.good=false:=by rw[eg];exact decide_eq_false er0
               have k20:(er==0)=false:=by simpa using er0
               rw[behind_bad hg20,must_bad hg20] at HR hrl hrn
               go_wp2_with fail
               refine Calls.mono (qMust_c k_com ⟨ba_neL [40] (by decide),ba_neL [123] (by decide),ba_neL [41] (by decide),ba_neL [125] (by decide)⟩ _ HL20.out.re) ?_
               rintro e w30 ⟨rfl,t8,r8⟩
               have HL30:=hid2 (HL20.out.turn t8 r8)
               rw[must_bad hg20] at HL30
               have hl3:=HL30.out.re.left
               have hl4:=HL30.out.re.gd
               try simp only at HR hrl hrn
               clear HL20 t8 r8
               go_wp2_with fail
               go_roundw
               ·exact⟨S20,_,_,f',.inl hg20,by have:=htl.out;omega,HL30,.inr hg20,HR⟩
               ·rw[hl3,hl4,hme,hmg,if_pos hg3,hg20]
                simp
                omega
              )
            | false=>
              rw[may_not h2] at HL10
              have hb:Hid (boundR c S3=numberR c S3):=by show _=_;unfold boundR;rw[if_neg (by rw[h2];simp)]
              clear h2
              have l5:=HL10.out.lt.cell 5 _ rfl
              have ll:=HL10.out.lt.lt
              go_wp2_with fail
              go_region_law (first
               | (refine step_qt rfl (qNumber_c hz0.out _ (HL10.out.re.next (Below.refl _ _).drew)) (by first | rfl | go_simp) ?_;rintro _ w60 t60 ⟨u60,rfl,S60⟩ r60;have z60:Hid (w10.heap.size<=w60.heap.size):=t60.size;have C60:=hid2 ((HL10.out.next (Below.refl _ _).drew).turn t60 r60);have q60:=hid2 (HL10.out.next (Below.refl _ w10).drew).pa.blk;have c560:=C60.out.lt.cell 5 _ rfl;have l560:=C60.out.lt.lt;have X60:=hid2 S60;clear S60 t60 r60)
               | (refine step_append_tg w60 (w.heap.size+1) g rfl _ _ rfl v ts [((numberR c S3).1,u60)] rfl (by simp[Act.eval]) C60.out.pa (by have:=C60.out.lt.lt;omega) (fun p hp=>by obtain rfl:=List.mem_singleton.1 hp;exact sit_apartG X60.out (by have:=HL10.out.gg;have:=HL10.out.lt.lt;simp<;>omega) (by have:=HL10.out.lt.lt;simp<;>omega) (fun q hq=>(q60.out q hq).2)) (by simp<;>omega) (by have:=z60.out;have:=HL10.out.gg;have:=HL10.out.lt.lt;omega) (by simp[Act.eval]) ?_;intro a60 d60 wa60 k60 p60 hk60 hg60 b60;have CA60:=hid2 (C60.out.added p60 hk60 hg60 b60);have l60:=(C60.out.lt.turn b60 (by simp;omega)).lt;have e560:=(C60.out.lt.turn b60 (by simp;omega)).cell 5 _ rfl;have f560:=(C60.out.lt.turn b60 (by simp;omega)).free 5 (by simp);clear p60 b60))
              all_goals (
              have HLb:=CA60
              obtain⟨tb2,htb⟩:∃ tb2,Hid (tb2=ts++[((numberR c S3).1,u60)]):=⟨_,rfl⟩
              have hRg:rungR c A (ts.map Prod.fst) S3=rungB c A (tb2.map Prod.fst) (numberR c S3).2:=by unfold rungR;rw[hb.out,htb.out,List.map_append];rfl
              have htl:Hid (tb2.length=ts.length+1):=by show _=_;rw[htb.out];simp
              rw[hRg] at HR hrl hrn
              rw[<-htb.out] at HLb
              clear CA60 C60 c560 l560 q60 X60 z60 l60 e560 f560 l5 ll hRg hb HL10
              generalize hW1:wa60.setCell _ _=W1 at *
              clear hW1 htb
              generalize (numberR c S3).2=Sb at *
              go_wp2_with fail
              refine Calls.mono (qMust_c k_col ⟨ba_neL [40] (by decide),ba_neL [123] (by decide),ba_neL [41] (by decide),ba_neL [125] (by decide)⟩ _ HLb.out.re) ?_
              rintro e w20 ⟨rfl,t8,r8⟩
              have HL20:=hid2 (HLb.out.turn t8 r8)
              unfold rungB at HR hrl hrn
              clear HLb t8 r8
              generalize mustR c k_col Sb=S20 at *
              obtain⟨er,e4,el,eg⟩:=HL20.out.re.errc
              by_cases er0:er=0
              ·have hg20:S20.good=true:=by rw[eg];exact decide_eq_true er0
               rw[behind_good hg20] at HR hrl hrn
               have HA2:=HA.out
               have l5:=HL20.out.lt.cell 5 _ rfl
               have ll:=HL20.out.lt.lt
               subst er0
               go_wp2_with fail
               go_region_law (first
                | (refine step_qt rfl (HA2 S20 _ (HL20.out.re.next (Below.refl _ _).drew)) (by first | rfl | go_simp) ?_;rintro _ w70 t70 ⟨u70,rfl,S70⟩ r70;have z70:Hid (w20.heap.size<=w70.heap.size):=t70.size;have C70:=hid2 ((HL20.out.next (Below.refl _ _).drew).turn t70 r70);have q70:=hid2 (HL20.out.next (Below.refl _ w20).drew).pa.blk;have c570:=C70.out.lt.cell 5 _ rfl;have l570:=C70.out.lt.lt;have X70:=hid2 S70;clear S70 t70 r70)
                | (refine step_append_tg w70 (w.heap.size+1) g rfl _ _ rfl _ tb2 [((A S20).1,u70)] rfl (by simp[Act.eval]) C70.out.pa (by have:=C70.out.lt.lt;omega) (fun p hp=>by obtain rfl:=List.mem_singleton.1 hp;exact sit_apartG X70.out (by have:=HL20.out.gg;have:=HL20.out.lt.lt;simp<;>omega) (by have:=HL20.out.lt.lt;simp<;>omega) (fun q hq=>(q70.out q hq).2)) (by have:=htl.out;simp<;>omega) (by have:=z70.out;have:=HL20.out.gg;have:=HL20.out.lt.lt;omega) (by simp[Act.eval]) ?_;intro a70 d70 wa70 k70 p70 hk70 hg70 b70;have CA70:=hid2 (C70.out.added p70 hk70 hg70 b70);have l70:=(C70.out.lt.turn b70 (by simp;omega)).lt;have e570:=(C70.out.lt.turn b70 (by simp;omega)).cell 5 _ rfl;have f570:=(C70.out.lt.turn b70 (by simp;omega)).free 5 (by simp);clear p70 b70))
               all_goals (
                have HL21:=CA70
                clear CA70 C70 c570 l570 q70 X70 z70 l70 e570 f570 HL20 e4 el eg l5 ll HA2
                generalize hW1:wa70.setCell _ _=W1 at *
                clear hW1
                go_wp2_with fail
                refine Calls.mono (qMust_c k_com ⟨ba_neL [40] (by decide),ba_neL [123] (by decide),ba_neL [41] (by decide),ba_neL [125] (by decide)⟩ _ HL21.out.re) ?_
                rintro e w30 ⟨rfl,t8,r8⟩
                have HL30:=hid2 (HL21.out.turn t8 r8)
                have hl3:=HL30.out.re.left
                have hl4:=HL30.out.re.gd
                try simp only at HR hrl hrn
                clear HL21 t8 r8
                generalize mustR c k_com (A S20).2=S30 at *
                go_wp2_with fail
                go_roundw
                ·refine⟨S30,_,_,f',?_,?_,HL30,.inl ⟨ho1,HA.out⟩,?_⟩
                 ·rcases hrl with h | h
                  ·right
                   rcases hf with h' | h'
                   ·rw[hg3] at h';cases h'
                   ·omega
                  ·exact .inl h
                 ·have:=htl.out;simp only[List.length_append,List.length_singleton];omega
                 ·show _=_
                  rw[HR.out,List.map_append]
                  rfl
                ·rw[hl3,hl4,hme,hmg,if_pos hg3]
                 rcases hrl with h | h
                 ·split<;>omega
                 ·rw[h];simp;omega
                )
              ·have hg20:S20.good=false:=by rw[eg];exact decide_eq_false er0
               have k20:(er==0)=false:=by simpa using er0
               rw[behind_bad hg20,must_bad hg20] at HR hrl hrn
               go_wp2_with fail
               refine Calls.mono (qMust_c k_com ⟨ba_neL [40] (by decide),ba_neL [123] (by decide),ba_neL [41] (by decide),ba_neL [125] (by decide)⟩ _ HL20.out.re) ?_
               rintro e w30 ⟨rfl,t8,r8⟩
               have HL30:=hid2 (HL20.out.turn t8 r8)
               rw[must_bad hg20] at HL30
               have hl3:=HL30.out.re.left
               have hl4:=HL30.out.re.gd
               try simp only at HR hrl hrn
               clear HL20 t8 r8
               go_wp2_with fail
               go_roundw
               ·exact⟨S20,_,_,f',.inl hg20,by have:=htl.out;omega,HL30,.inr hg20,HR⟩
               ·rw[hl3,hl4,hme,hmg,if_pos hg3,hg20]
                simp
                omega
              )
         ·have hg3:S3.good=false:=by rw[eg];exact decide_eq_false er0
          have k0:(er==0)=false:=by simpa using er0
          rw[rungs_bad hg3] at HR
          have HD8:Hid (Dpr z rb tb LL c o o1 A S3):=.inr hg3
          have HL8:=HL
          clear HD HL eg
          go_wp2_with fail
          refine Calls.mono (qMust_c k_col ⟨ba_neL [40] (by decide),ba_neL [123] (by decide),ba_neL [41] (by decide),ba_neL [125] (by decide)⟩ _ HL8.out.re) ?_
          rintro e w20 ⟨rfl,t8,r8⟩
          have HL20:=hid2 (HL8.out.turn t8 r8)
          have HD20:Hid (Dpr z rb tb LL c o o1 A (mustR c k_col S3)):=HD8.out.imp id (fun h=>by rw[must_bad h];exact h)
          have HR20:Hid (R=(tm 36 (hdT S.L).at_ (behindR A (ts.map Prod.fst) (mustR c k_col S3)).1,mustR c k_rb (behindR A (ts.map Prod.fst) (mustR c k_col S3)).2)):=HR.out
          clear HL8 t8 r8 HD8 HR
          generalize mustR c k_col S3=S20 at *
          obtain⟨er,e4,el,eg⟩:=HL20.out.re.errc
          by_cases er0:er=0
          ·have hg20:S20.good=true:=by rw[eg];exact decide_eq_true er0
           rw[behind_good hg20] at HR20
           obtain⟨ho2,HA2⟩:o1=o+1/\RdC z rb tb LL c o1 34 A:=by
            rcases HD20.out with h | h
            ·exact h
            ·rw[hg20] at h;cases h
           have HD21:Hid (Dpr z rb tb LL c o o1 A (A S20).2):=.inl ⟨ho2,HA2⟩
           have l5:=HL20.out.lt.cell 5 _ rfl
           have ll:=HL20.out.lt.lt
           subst er0
           go_wp2_with fail
           go_region_law (first
            | (refine step_qt rfl (HA2 S20 _ (HL20.out.re.next (Below.refl _ _).drew)) (by first | rfl | go_simp) ?_;rintro _ w60 t60 ⟨u60,rfl,S60⟩ r60;have z60:Hid (w20.heap.size<=w60.heap.size):=t60.size;have C60:=hid2 ((HL20.out.next (Below.refl _ _).drew).turn t60 r60);have q60:=hid2 (HL20.out.next (Below.refl _ w20).drew).pa.blk;have c560:=C60.out.lt.cell 5 _ rfl;have l560:=C60.out.lt.lt;have X60:=hid2 S60;clear S60 t60 r60)
            | (refine step_append_tg w60 (w.heap.size+1) g rfl _ _ rfl v ts [((A S20).1,u60)] rfl (by simp[Act.eval]) C60.out.pa (by have:=C60.out.lt.lt;omega) (fun p hp=>by obtain rfl:=List.mem_singleton.1 hp;exact sit_apartG X60.out (by have:=HL20.out.gg;have:=HL20.out.lt.lt;simp<;>omega) (by have:=HL20.out.lt.lt;simp<;>omega) (fun q hq=>(q60.out q hq).2)) (by simp<;>omega) (by have:=z60.out;have:=HL20.out.gg;have:=HL20.out.lt.lt;omega) (by simp[Act.eval]) ?_;intro a60 d60 wa60 k60 p60 hk60 hg60 b60;have CA60:=hid2 (C60.out.added p60 hk60 hg60 b60);have l60:=(C60.out.lt.turn b60 (by simp;omega)).lt;have e560:=(C60.out.lt.turn b60 (by simp;omega)).cell 5 _ rfl;have f560:=(C60.out.lt.turn b60 (by simp;omega)).free 5 (by simp);clear p60 b60))
           all_goals (
            have HR21:Hid (R=(tm 36 (hdT S.L).at_ ((ts++[((A S20).1,u60)]).map Prod.fst),mustR c k_rb (A S20).2)):=by show _=_;rw[HR20.out,List.map_append];rfl
            have HL21:=CA60
            clear CA60 C60 c560 l560 q60 X60 z60 l60 e560 f560 HL20 HR20 e4 el eg l5 ll HD20 HA2
            generalize hW1:wa60.setCell _ _=W1 at *
            clear hW1
            go_wp2_with fail
            refine Calls.mono (lad_close ho HD21.out _ HL21.out.re) ?_
            rintro e w30 ⟨rfl,t8,r8⟩
            have HL30:=hid2 (HL21.out.turn t8 r8)
            clear t8 r8 HL21 HD21
            obtain⟨p0,p1,p2,p3,p4,p5,q0,q1,q2,q3,q4,q5⟩:=HL30.out.rs.six
            obtain⟨x0,x1,x2,x3,x4,x5,y0,y1,y2,y3,y4,y5⟩:=HL30.out.lt.six
            have xl:=HL30.out.lt.lt
            have pl:=HL30.out.rs.lt
            have hg1:g≠w.heap.size:=by have:=HL30.out.gg;omega
            go_wp2_with fail
            refine bodyPost_ret (v:=tmV (tm 36 (hdT S.L).at_ ((ts++[((A S20).1,u60)]).map Prod.fst)) (.slice a60 (ts.length+1) d60)) (by simp[results,Tryz.results34,go_sem, *]) rfl (hP.out _ _ _ (mustR c k_rb (A S20).2) ?_ HR21.out)
            exact HL30.out.back (fit_of _ _ _ _ _ _ hz0.out (by decide) (by decide) (Nat.zero_le _) zero64 zero64 hat) _ _ _ _ _ _
            )
          ·have hg20:S20.good=false:=by rw[eg];exact decide_eq_false er0
           have k20:(er==0)=false:=by simpa using er0
           rw[behind_bad hg20] at HR20
           have HR21:Hid (R=(tm 36 (hdT S.L).at_ (ts.map Prod.fst),mustR c k_rb S20)):=HR20.out
           clear HR20
           go_wp2_with fail
           refine Calls.mono (lad_close ho HD20.out _ HL20.out.re) ?_
           rintro e w30 ⟨rfl,t8,r8⟩
           have HL30:=hid2 (HL20.out.turn t8 r8)
           clear t8 r8 HL20 HD20
           obtain⟨av,cv,rfl⟩:=HL30.out.pa.val
           obtain⟨p0,p1,p2,p3,p4,p5,q0,q1,q2,q3,q4,q5⟩:=HL30.out.rs.six
           obtain⟨x0,x1,x2,x3,x4,x5,y0,y1,y2,y3,y4,y5⟩:=HL30.out.lt.six
           have xl:=HL30.out.lt.lt
           have pl:=HL30.out.rs.lt
           have hg1:g≠w.heap.size:=by have:=HL30.out.gg;omega
           go_wp2_with fail
           refine bodyPost_ret (v:=tmV (tm 36 (hdT S.L).at_ (ts.map Prod.fst)) (.slice av ts.length cv)) (by simp[results,Tryz.results34,go_sem, *]) rfl (hP.out _ _ _ (mustR c k_rb S20) ?_ HR21.out)
           exact HL30.out.back (fit_of _ _ _ _ _ _ hz0.out (by decide) (by decide) (Nat.zero_le _) zero64 zero64 hat) _ _ _ _ _ _
theorem qActD_c {z rb tb:Nat}{LL:List Tk}{c:Int}(hz:z<=9223372036854775807)(hN:LL.length<=1000000):∀ d o:Nat,o+d=64->RdC z rb tb LL c o 34 (actRD c d)
 | 0,o,h=>qAction_c hz hN (by omega) (qExprD_c hz 0 o h) (.inl ⟨by omega,rfl⟩)
 | d+1,o,h=>qAction_c hz hN (by omega) (qExprD_c hz (d+1) o h) (.inr ⟨by omega,_,rfl,qActD_c hz hN d (o+1) (by omega),len_actRD c d⟩)
end Go.Proofs.YtecdfnpbcabdnaaGreatDoor
