import Derived.Test.YtbgomckkockemaaGreatDoorMhF
import Derived.Deep.RegionLaw
namespace Go.Proofs.YtbgomckkockemaaGreatDoor
open Go.RowKit
structure RkIs (w:World)(b g:Nat)(lv:Value)(S:List Int):Prop where
 box:Box w b [lv]
 sl:(lv=.slice none 0 0/\S=[]/\g=b)\/(g≠b/\∃ J,BAt w g lv S J)
def Rk (w:World)(b g:Nat)(S:List Int):Prop:=∃ lv,RkIs w b g lv S
theorem Box.single {w:World}{g:Nat}{v0:Value}(h:Box w g [v0]):w.cell? ⟨g,0,none⟩=some v0/\w.frozen? ⟨g,0,none⟩=false:=⟨h.cell 0 _ rfl,h.free 0 (by simp)⟩
theorem RkIs.shape {w:World}{b g:Nat}{lv:Value}{S:List Int}(h:RkIs w b g lv S):∃ a c,lv=.slice a S.length c:=by
 rcases h.sl with ⟨rfl,rfl,_⟩ | ⟨_,J,h⟩
 ·exact⟨none,0,rfl⟩
 ·exact⟨_,_,h.val⟩
theorem RkIs.rd {w:World}{b g:Nat}{lv:Value}{S:List Int}(h:RkIs w b g lv S):Rd w lv S:=by
 rcases h.sl with ⟨rfl,rfl,_⟩ | ⟨_,J,h⟩
 ·exact⟨none,0,rfl,.inl rfl⟩
 ·exact h.rd
theorem Rk.turn {T:List Nat}{w w':World}{b g:Nat}{S:List Int}(h:Rk w b g S)(t:Turn T w w')(hb:b∉T)(hg:g∉T):Rk w' b g S:=by
 obtain⟨lv,h⟩:=h
 refine⟨lv,h.box.turn t hb,?_⟩
 rcases h.sl with h | ⟨hn,J,h⟩
 ·exact .inl h
 ·exact .inr ⟨hn,J,h.turn t hg⟩
theorem Rk.next {w w':World}{b g:Nat}{S:List Int}(h:Rk w b g S)(t:Below w.heap.size w w'):Rk w' b g S:=h.turn (T:=[]) (Turn.of_below t) (by simp) (by simp)
theorem Rk.lt {w:World}{b g:Nat}{S:List Int}(h:Rk w b g S):b<w.heap.size:=by obtain⟨lv,h⟩:=h;exact h.box.lt
theorem Rk.glt {w:World}{b g:Nat}{S:List Int}(h:Rk w b g S):g<w.heap.size:=by
 obtain⟨lv,h⟩:=h
 rcases h.sl with ⟨_,_,e⟩ | ⟨_,J,e⟩
 ·rw[e];exact h.box.lt
 ·exact e.blk.lt
theorem rLen (b g:Nat)(S:List Int)(w:World)(x:Rk w b g S):
 Calls Tryz.prog 314 #[.pointer (some ⟨b,0,none⟩)] w fun e w'=>e=.returned (.int .i64 (S.length:Nat))/\w=w':=by
 obtain⟨lv,x⟩:=x
 obtain⟨c0,f0⟩:=x.box.single
 have hlt:=x.box.lt
 obtain⟨a,c,hv⟩:=x.shape
 subst hv
 clear x
 go_enter Tryz.func314,Tryz.ntmps314
 go_wp2_with fail
 go_ret
 exact⟨rfl,rfl⟩
theorem rLen_nil (w:World):Calls Tryz.prog 314 #[.pointer none] w fun e w'=>e=.returned (.int .i64 0)/\w=w':=by
 go_enter Tryz.func314,Tryz.ntmps314
 go_wp2_with fail
 go_ret
 exact⟨rfl,rfl⟩
theorem rNew (w:World):Calls Tryz.prog 231 #[] w fun e w'=>e=.returned (.pointer (some ⟨w.heap.size,0,none⟩))/\Rk w' w.heap.size w.heap.size []/\Below w.heap.size w w':=by
 go_enter Tryz.func231,Tryz.ntmps231
 go_wp2_with fail
 go_ret
 exact⟨rfl,⟨.slice none 0 0,Box.new w [.slice none 0 0] _,.inl ⟨rfl,rfl,rfl⟩⟩,(Below.refl _ _).alloc (Nat.le_refl _) _⟩
theorem upTo_asks (br bv b g n cap:Nat)(v x:Int)(i:Nat)(w:World)(hi:i<n)(hr:w.cell? ⟨br,0,none⟩=some (.pointer (some ⟨b,0,none⟩)))(hv:w.cell? ⟨bv,0,none⟩=some (.int .i64 v))
 (hb:w.cell? ⟨b,0,none⟩=some (.slice (some ⟨g,0,none⟩) n cap)) (hc:w.cell? ⟨g,i,none⟩=some (.int .i64 x)) :
 Calls Tryz.prog 323 #[.int .i64 (i:Nat),.pointer (some ⟨br,0,none⟩),.pointer (some ⟨bv,0,none⟩)] w fun e w'=>e=.returned (.bool (decide (v<x)))/\∃ q,w'=w.drewN q:=by
 have hi':(i:Int)<(n:Int):=by omega
 go_enter Tryz.func323,Tryz.ntmps323
 go_wp2_with fail
 go_quiet (fail)
 go_wp2_with fail
 go_ret
 exact⟨rfl,_,rfl⟩
def Cut (p:Nat->Bool)(n c:Nat):Prop:=c<=n/\(∀ t,t<c->p t=false)/\∀ t,c<=t->t<n->p t=true
def Nears (p:Nat->Bool)(n lo hi:Nat):Prop:=lo<=hi/\hi<=n/\(∀ t,t<lo->p t=false)/\∀ t,hi<=t->t<n->p t=true
theorem nears_low {p:Nat->Bool}{n c lo hi m:Nat}(hc:Cut p n c)(h:Nears p n lo hi)(hm:lo<=m/\m<hi)(hp:p m=false):Nears p n (m+1) hi:=by
 obtain⟨h1,h2,h3,h4⟩:=h
 obtain⟨c1,c2,c3⟩:=hc
 have hmc:m<c:=by
  rcases Nat.lt_or_ge m c with h | h
  ·exact h
  ·have:=c3 m h (by omega);rw[hp] at this;cases this
 exact⟨by omega,h2,fun t ht=>c2 t (by omega),h4⟩
theorem nears_high {p:Nat->Bool}{n c lo hi m:Nat}(hc:Cut p n c)(h:Nears p n lo hi)(hm:lo<=m/\m<hi)(hp:p m=true):Nears p n lo m:=by
 obtain⟨h1,h2,h3,h4⟩:=h
 obtain⟨c1,c2,c3⟩:=hc
 have hmc:c<=m:=by
  rcases Nat.lt_or_ge m c with h | h
  ·have:=c2 m h;rw[hp] at this;cases this
  ·exact h
 exact⟨hm.1,by omega,h3,fun t h5 h6=>c3 t (by omega) h6⟩
theorem nears_end {p:Nat->Bool}{n c k:Nat}(hc:Cut p n c)(h:Nears p n k k):k=c:=by
 obtain⟨h1,h2,h3,h4⟩:=h
 obtain⟨c1,c2,c3⟩:=hc
 rcases Nat.lt_trichotomy k c with h | h | h
 ·have a:=h4 k (Nat.le_refl _) (by omega);rw[c2 k h] at a;cases a
 ·exact h
 ·have a:=h3 c h;rw[c3 c (Nat.le_refl _) (by omega)] at a;cases a
set_option maxRecDepth 20000 in
set_option maxHeartbeats 1000000 in
theorem search (cb:Array Value)(n c:Nat)(p:Nat->Bool)(w:World)(hn:n<4611686018427387904)(hc:Cut p n c)
 (hf:∀ m i,i<n->Calls Tryz.prog 323 (#[.int .i64 (i:Nat)]++cb) (w.drewN m) fun e w'=>e=.returned (.bool (p i))/\∃ q,w'=(w.drewN m).drewN q) :
 Calls Tryz.prog 322 #[.int .i64 (n:Nat),.func (.func 323) #[] cb] w fun e w'=>e=.returned (.int .i64 (c:Nat))/\∃ q,w'=w.drewN q:=by
 have HF:=hid hf
 have HC:=hid hc
 clear hf hc
 go_enter Tryz.func322,Tryz.ntmps322
 go_wp2_with fail
 go_loopw [5,6] (fun x y wr=>∃ lo hi m:Nat,x=.int .i64 (lo:Nat)/\y=.int .i64 (hi:Nat)/\Nears p n lo hi/\wr=w.drewN m) (fun x y _=>(intOf y).toNat-(intOf x).toNat)
 case atStart=>exact⟨0,n,0,rfl,rfl,⟨Nat.zero_le _,Nat.le_refl _,fun t ht=>absurd ht (Nat.not_lt_zero _),fun t h1 h2=>absurd h2 (by omega)⟩,rfl⟩
 case round=>
  obtain⟨lo,hi,m,rfl,rfl,hN,rfl⟩:=hrel
  have h1:lo<=hi:=hN.1
  have h2:hi<=n:=hN.2.1
  have HN:=hid hN
  clear hN
  by_cases hlt:lo<hi
  ·have hq:=HF.out m ((lo+hi)/2) (by omega)
   have hlt':(lo:Int)<(hi:Int):=by omega
   rw[show (((lo+hi)/2:Nat):Int)=((lo:Int)+(hi:Int))/2 by omega] at hq
   have HQ:=hid hq
   clear hq
   go_wp2_with fail
   refine Calls.mono HQ.out ?_
   rintro e w1 ⟨rfl,q,rfl⟩
   cases hp:p ((lo+hi)/2) with
   | false=>
     have HP:=hid hp
     clear hp
     go_wp2_with fail
     go_roundw
     case rel=>exact⟨(lo+hi)/2+1,hi,m+q,by rw[show ((lo:Int)+(hi:Int))/2+1=(((lo+hi)/2+1:Nat):Int) by omega],rfl,nears_low HC.out HN.out (by omega) HP.out,rfl⟩
     case measure=>simp[intOf];omega
   | true=>
     have HP:=hid hp
     clear hp
     go_wp2_with fail
     go_roundw
     case rel=>exact⟨lo,(lo+hi)/2,m+q,rfl,by rw[show ((lo:Int)+(hi:Int))/2=(((lo+hi)/2:Nat):Int) by omega],nears_high HC.out HN.out (by omega) HP.out,rfl⟩
     case measure=>simp[intOf];omega
  ·obtain rfl:hi=lo:=by omega
   go_wp2_with fail
   go_ret
   obtain rfl:=nears_end HC.out HN.out
   exact⟨rfl,_,rfl⟩
theorem cut_of_asc {S:List Int}(h:Asc S)(v:Int):Cut (fun i=>decide (v<S.getD i 0)) S.length (cnt v S):=by
 have hg:∀ t,t<S.length->S[t]? = some (S.getD t 0):=fun t ht=>by rw[List.getElem?_eq_getElem ht];simp[ht]
 have hl:=cnt_le v S
 refine⟨hl,fun t ht=>?_,fun t h1 h2=>?_⟩
 ·have:=(asc_cnt h v t _ (hg t (by omega))).2 ht
  simp only[decide_eq_false_iff_not]
  omega
 ·have:=asc_cnt h v t _ (hg t h2)
  simp only[decide_eq_true_eq]
  omega
theorem Box.drewN {w:World}{g:Nat}{vs:List Value}(h:Box w g vs)(m:Nat):Box (w.drewN m) g vs:=h.alike rfl
set_option maxRecDepth 20000 in
set_option maxHeartbeats 1000000 in
theorem rUpTo (b g:Nat)(S:List Int)(v:Int)(w:World)(x:Rk w b g S)(ha:Asc S)(hl:S.length<4611686018427387904):
 Calls Tryz.prog 310 #[.pointer (some ⟨b,0,none⟩),.int .i64 v] w fun e w'=>e=.returned (.int .i64 (cnt v S:Nat))/\Below w.heap.size w w':=by
 obtain⟨B1,B2,hB⟩:=two_boxes w 231 2 [.pointer (some ⟨b,0,none⟩)] [.int .i64 v]
 obtain⟨W,hW⟩:∃ W,W=(w.alloc (.cells #[.pointer (some ⟨b,0,none⟩)] 231)).alloc (.cells #[.int .i64 v] 2):=⟨_,rfl⟩
 have hX:=x.next (w':=W) (by rw[hW];exact hB)
 have hasks:∀ m i,i<S.length->Calls Tryz.prog 323 (#[.int .i64 (i:Nat)]++#[.pointer (some ⟨w.heap.size,0,none⟩),.pointer (some ⟨w.heap.size+1,0,none⟩)]) (W.drewN m) fun e w'=>e=.returned (.bool (decide (v<S.getD i 0)))/\∃ q,w'=(W.drewN m).drewN q:=by
  intro m i hi
  obtain⟨lv,hx⟩:=hX.next (drewN_below W m)
  rcases hx.sl with ⟨_,e,_⟩ | ⟨_,J,hs⟩
  ·rw[e] at hi;simp at hi
  ·have c0:=hx.box.single.1
   rw[hs.val] at c0
   exact upTo_asks w.heap.size (w.heap.size+1) b g S.length _ v _ i (W.drewN m) hi ((B1.drewN m).cell 0 _ rfl |> fun e=>by rw[hW];exact e) ((B2.drewN m).cell 0 _ rfl |> fun e=>by rw[hW];exact e) c0 (hs.cell (by rw[List.getElem?_eq_getElem hi];simp[hi]))
 have HS:=hid (search #[.pointer (some ⟨w.heap.size,0,none⟩),.pointer (some ⟨w.heap.size+1,0,none⟩)] S.length (cnt v S) (fun i=>decide (v<S.getD i 0)) W hl (cut_of_asc ha v) hasks)
 have HX:=hid hX
 have HB:=hid (show Below w.heap.size w W by rw[hW];exact hB)
 have hlt:=x.lt
 have d1:=B1.cell 0 _ rfl
 have HW:=hid hW
 clear B1 B2 hB hX hasks x hW
 go_enter Tryz.func310,Tryz.ntmps310
 go_wp2_with fail
 rw[<-HW.out]
 refine Calls.mono (rLen b g S W HX.out) ?_
 rintro e w1 ⟨rfl,rfl⟩
 go_wp2_with fail
 refine Calls.mono HS.out ?_
 rintro e w1 ⟨rfl,q,rfl⟩
 go_wp2_with fail
 go_ret
 exact⟨rfl,HB.out.trans ((drewN_turn [] W q).below (by simp) HB.out.size)⟩
set_option maxRecDepth 20000 in
theorem rUpTo_nil (v:Int)(w:World):Calls Tryz.prog 310 #[.pointer none,.int .i64 v] w fun e w'=>e=.returned (.int .i64 0)/\Below w.heap.size w w':=by
 obtain⟨B1,B2,hB⟩:=two_boxes w 231 2 [.pointer none] [.int .i64 v]
 obtain⟨W,hW⟩:∃ W,W=(w.alloc (.cells #[.pointer none] 231)).alloc (.cells #[.int .i64 v] 2):=⟨_,rfl⟩
 have HS:=hid (search #[.pointer (some ⟨w.heap.size,0,none⟩),.pointer (some ⟨w.heap.size+1,0,none⟩)] 0 0 (fun _=>false) W (by omega) ⟨Nat.le_refl _,fun _ _=>rfl,fun _ _ h=>absurd h (Nat.not_lt_zero _)⟩ (fun _ _ h=>absurd h (Nat.not_lt_zero _)))
 have HB:=hid (show Below w.heap.size w W by rw[hW];exact hB)
 have d1:=B1.cell 0 _ rfl
 have HW:=hid hW
 clear B1 B2 hB hW
 go_enter Tryz.func310,Tryz.ntmps310
 go_wp2_with fail
 rw[<-HW.out]
 refine Calls.mono (rLen_nil W) ?_
 rintro e w1 ⟨rfl,rfl⟩
 go_wp2_with fail
 refine Calls.mono HS.out ?_
 rintro e w1 ⟨rfl,q,rfl⟩
 go_wp2_with fail
 go_ret
 exact⟨rfl,HB.out.trans ((drewN_turn [] W q).below (by simp) HB.out.size)⟩
def Made (w:World)(lv:Value)(S:List Int)(w':World):Prop:=((lv=.slice none 0 0/\S=[])\/∃ g J,BAt w' g lv S J/\w.heap.size<=g)/\Below w.heap.size w w'
theorem made_of_apd {w w':World}{g:Nat}{lv:Value}{S:List Int}(h:Apd w g (.slice none 0 0) lv S w'):Made w lv S w':=by
 rcases h with ⟨rfl,rfl,rfl⟩ | ⟨J,_,_,h⟩ | ⟨g',J,h1,h2,h3⟩
 ·exact⟨.inl ⟨rfl,rfl⟩,Below.refl _ _⟩
 ·exact absurd rfl h
 ·exact⟨.inr ⟨g',J,h1,h3⟩,h2⟩
theorem Made.rd {w w':World}{lv:Value}{S:List Int}(h:Made w lv S w'):Rd w' lv S:=by
 rcases h with ⟨⟨rfl,rfl⟩ | ⟨g,J,h,_⟩,_⟩
 ·exact⟨none,0,rfl,.inl rfl⟩
 ·exact h.rd
theorem rMoved (lv:Value)(S:List Int)(w:World)(h:Rd w lv S)(hl:S.length<17592186044416):
 Calls Tryz.prog 324 #[lv] w fun e w'=>∃ lv',e=.returned lv'/\Made w lv' S w':=by
 have HX:=hid h
 obtain⟨a,c,hv,_⟩:=h
 subst hv
 go_enter Tryz.func324,Tryz.ntmps324
 go_wp2_with (at_builtin;refine wpList_append_b _ rfl _ _ rfl w.heap.size (.slice none 0 0) [] rfl (.inl ⟨rfl,rfl⟩) (.slice a S.length c) S rfl HX.out (by simpa using hl) ?_;intro lv1 w1 h1;rw[List.nil_append] at h1;have HA:=hid (made_of_apd h1);obtain⟨a1,c1,hv1⟩:=h1.shape;subst hv1;clear h1)
 go_ret
 exact⟨_,rfl,HA.out⟩
theorem rAt_nil (i:Int)(w:World):Calls Tryz.prog 315 #[.pointer none,.int .i64 i] w fun e w'=>e=.returned (.tuple #[.int .i64 0,.bool false])/\w=w':=by
 by_cases hi:i<0
 ·go_enter Tryz.func315,Tryz.ntmps315
  go_wp2_with fail
  go_ret2
  exact⟨rfl,rfl⟩
 ·go_enter Tryz.func315,Tryz.ntmps315
  go_wp2_with fail
  refine Calls.mono (rLen_nil w) ?_
  rintro e w1 ⟨rfl,rfl⟩
  go_wp2_with fail
  go_ret2
  exact⟨rfl,rfl⟩
theorem rAt_no (b g:Nat)(S:List Int)(i:Int)(w:World)(x:Rk w b g S)(hi:i<0\/(S.length:Int)<=i):
 Calls Tryz.prog 315 #[.pointer (some ⟨b,0,none⟩),.int .i64 i] w fun e w'=>e=.returned (.tuple #[.int .i64 0,.bool false])/\w=w':=by
 have HL:=hid (rLen b g S w x)
 clear x
 by_cases hi0:i<0
 ·clear hi
  go_enter Tryz.func315,Tryz.ntmps315
  go_wp2_with fail
  go_ret2
  exact⟨rfl,rfl⟩
 ·have hi1:(S.length:Int)<=i:=by omega
  clear hi
  go_enter Tryz.func315,Tryz.ntmps315
  go_wp2_with fail
  refine Calls.mono HL.out ?_
  rintro e w1 ⟨rfl,rfl⟩
  go_wp2_with fail
  go_ret2
  exact⟨rfl,rfl⟩
set_option maxRecDepth 20000 in
theorem rAt_yes (b g:Nat)(S:List Int)(k:Nat)(y:Int)(w:World)(x:Rk w b g S)(hy:S[k]? = some y):
 Calls Tryz.prog 315 #[.pointer (some ⟨b,0,none⟩),.int .i64 (k:Nat)] w fun e w'=>e=.returned (.tuple #[.int .i64 y,.bool true])/\w=w':=by
 have HL:=hid (rLen b g S w x)
 have hk:k<S.length:=(List.getElem?_eq_some_iff.1 hy).1
 obtain⟨lv,x⟩:=x
 obtain⟨c0,f0⟩:=x.box.single
 have hlt:=x.box.lt
 rcases x.sl with ⟨_,e,_⟩ | ⟨_,J,hs⟩
 ·rw[e] at hk;simp at hk
 rw[hs.val] at c0
 have d0:=hs.cell hy
 obtain⟨n,hn⟩:∃ n,n=S.length:=⟨_,rfl⟩
 rw[<-hn] at HL c0 hk
 have hk':(k:Int)<(n:Int):=by omega
 have hk0:¬(k:Int)<0:=by omega
 clear x hs hn hy
 go_enter Tryz.func315,Tryz.ntmps315
 go_wp2_with fail
 refine Calls.mono HL.out ?_
 rintro e w1 ⟨rfl,rfl⟩
 go_wp2_with fail
 go_ret2
 exact⟨rfl,rfl⟩
theorem rBy_nil (p:Int)(w:World):Calls Tryz.prog 290 #[.pointer none,.int .i64 p] w fun e w'=>e=.returned (.tuple #[.int .i64 0,.bool false])/\w=w':=by
 go_enter Tryz.func290,Tryz.ntmps290
 go_wp2_with fail
 refine Calls.mono (rLen_nil w) ?_
 rintro e w1 ⟨rfl,rfl⟩
 go_wp2_with fail
 go_ret2
 exact⟨rfl,rfl⟩
theorem rBy_no (b g:Nat)(S:List Int)(p:Int)(w:World)(x:Rk w b g S)(hp:S=[]\/p<1\/100000000<p):
 Calls Tryz.prog 290 #[.pointer (some ⟨b,0,none⟩),.int .i64 p] w fun e w'=>e=.returned (.tuple #[.int .i64 0,.bool false])/\w=w':=by
 have HL:=hid (rLen b g S w x)
 clear x
 obtain⟨n,hn⟩:∃ n,n=S.length:=⟨_,rfl⟩
 have hp':n=0\/p<1\/100000000<p:=hp.imp_left (fun e=>by rw[hn,e];rfl)
 rw[<-hn] at HL
 clear hn hp
 by_cases h0:n=0
 ·subst h0
  go_enter Tryz.func290,Tryz.ntmps290
  go_wp2_with fail
  refine Calls.mono HL.out ?_
  rintro e w1 ⟨rfl,rfl⟩
  go_wp2_with fail
  go_ret2
  exact⟨rfl,rfl⟩
 ·have hb:((n:Int)==0)=false:=by simp;omega
  by_cases h1:p<1
  ·go_enter Tryz.func290,Tryz.ntmps290
   go_wp2_with fail
   refine Calls.mono HL.out ?_
   rintro e w1 ⟨rfl,rfl⟩
   go_wp2_with fail
   go_ret2
   exact⟨rfl,rfl⟩
  ·have h2:100000000<p:=by omega
   clear hp'
   go_enter Tryz.func290,Tryz.ntmps290
   go_wp2_with fail
   refine Calls.mono HL.out ?_
   rintro e w1 ⟨rfl,rfl⟩
   go_wp2_with fail
   go_ret2
   exact⟨rfl,rfl⟩
def nearest (p:Int)(n:Nat):Nat:=((p*(n:Int)+99999999)/100000000).toNat
theorem nearest_bounds {p:Int}{n:Nat}(h1:1<=p)(h2:p<=100000000)(hn:0<n):1<=nearest p n/\nearest p n<=n/\((nearest p n:Nat):Int)=(p*(n:Int)+99999999)/100000000:=by
 have h3:(n:Int)<=p*(n:Int):=by
  have:=Int.mul_le_mul_of_nonneg_right h1 (show (0:Int)<=(n:Int) by omega)
  omega
 have h4:p*(n:Int)<=100000000*(n:Int):=Int.mul_le_mul_of_nonneg_right h2 (by omega)
 unfold nearest
 generalize p*(n:Int)=m at h3 h4
 omega
set_option maxRecDepth 20000 in
theorem rBy_yes (b g:Nat)(S:List Int)(p:Int)(y:Int)(w:World)(x:Rk w b g S)(h1:1<=p)(h2:p<=100000000)(hl:S.length<2147483648)(hy:S[nearest p S.length-1]? = some y):
 Calls Tryz.prog 290 #[.pointer (some ⟨b,0,none⟩),.int .i64 p] w fun e w'=>e=.returned (.tuple #[.int .i64 y,.bool true])/\w=w':=by
 have HL:=hid (rLen b g S w x)
 have HA:=hid (rAt_yes b g S _ y w x hy)
 have hk:nearest p S.length-1<S.length:=(List.getElem?_eq_some_iff.1 hy).1
 obtain⟨n1,n2,n3⟩:=nearest_bounds h1 h2 (show 0<S.length by omega)
 have h4:p*(S.length:Int)<=100000000*(S.length:Int):=Int.mul_le_mul_of_nonneg_right h2 (by omega)
 have h3:(S.length:Int)<=p*(S.length:Int):=by
  have:=Int.mul_le_mul_of_nonneg_right h1 (show (0:Int)<=(S.length:Int) by omega)
  omega
 obtain⟨n,hn⟩:∃ n,n=S.length:=⟨_,rfl⟩
 rw[<-hn] at HL HA hk n1 n2 n3 h3 h4 hl
 obtain⟨k,hkk⟩:∃ k,k=nearest p n:=⟨_,rfl⟩
 rw[<-hkk] at HA hk n1 n2 n3
 have hb:((n:Int)==0)=false:=by simp;omega
 have h5:¬ p<1:=by omega
 have h6:¬ 100000000<p:=by omega
 have hpn:0<=p*(n:Int):=by omega
 have hpm:p*(n:Int)<214748364800000000:=by omega
 rw[show ((k-1:Nat):Int)=(p*(n:Int)+100000000-1)/100000000-1 by rw[show p*(n:Int)+100000000-1=p*(n:Int)+99999999 by omega,<-n3];omega] at HA
 clear x hn hkk hy n3
 go_enter Tryz.func290,Tryz.ntmps290
 go_wp2_with fail
 refine Calls.mono HL.out ?_
 rintro e w1 ⟨rfl,rfl⟩
 go_wp2_with fail
 refine Calls.mono HL.out ?_
 rintro e w1 ⟨rfl,rfl⟩
 go_wp2_with fail
 refine Calls.mono HA.out ?_
 rintro e w1 ⟨rfl,rfl⟩
 go_wp2_with fail
 go_ret2
 exact⟨rfl,rfl⟩
theorem cell_new_one (w:World)(v:Int):Rd (w.alloc (.cells #[.int .i64 v] 2)) (.slice (some ⟨w.heap.size,0,none⟩) 1 1) [v]:=by
 refine⟨_,1,rfl,.inr ⟨w.heap.size,0,rfl,by simp,fun i x hx=>?_⟩⟩
 have hi:i<1:=(List.getElem?_eq_some_iff.1 hx).1
 obtain rfl:i=0:=by omega
 simp at hx
 subst hx
 exact(Box.new w [.int .i64 v] 2).cell 0 _ rfl
def Turns (w:World)(b g:Nat)(S:List Int)(w':World):Prop:=∃ g',Rk w' b g' S/\Turn [b,g] w w'/\(g'=g\/g'=b\/w.heap.size<=g')
theorem RkIs.next {w w':World}{b g:Nat}{lv:Value}{S:List Int}(h:RkIs w b g lv S)(t:Below w.heap.size w w'):RkIs w' b g lv S:=
 ⟨h.box.next t,h.sl.imp_right (fun x=>⟨x.1,x.2.elim fun J y=>⟨J,y.next t⟩⟩)⟩
theorem Turn.undrew {T:List Nat}{w w':World}(h:Turn T w.drew w'):Turn T w w':=⟨h.os,h.tape,h.output,h.size,h.block⟩
theorem put_grown {w w1 w2:World}{b g:Nat}{lv lv2:Value}{S:List Int}{v:Int}(x:RkIs w1 b g lv S)(hB:Below w.heap.size w w1)(hA:Apd w1 g lv lv2 (S++[v]) w2):
 ∃ g2 J,g2≠b/\BAt w2 g2 lv2 (S++[v]) J/\Box w2 b [lv]/\Turn [b,g] w w2/\(g2=g\/w.heap.size<=g2):=by
 have sz:=hB.size
 rcases hA with ⟨_,e,_⟩ | ⟨J,h1,h2,h3⟩ | ⟨g',J,h1,h2,h3⟩
 ·simp at e
 ·rcases x.sl with ⟨e,_⟩ | ⟨hn,_⟩
  ·exact absurd e h3
  ·exact⟨g,J,hn,h1,x.box.turn h2 (by simpa using Ne.symm hn),(Turn.of_below (S:=[b,g]) hB).trans h2 (by simp),.inl rfl⟩
 ·have:=x.box.lt
  exact⟨g',J,by omega,h1,x.box.next h2,(Turn.of_below (S:=[b,g]) hB).andBelow h2,.inr (by omega)⟩
theorem put_stored {w w2:World}{b g g2:Nat}{lv lv2:Value}{S J:List Int}{v:Int}(hA:BAt w2 g2 lv2 (S++[v]) J)(hb:Box w2 b [lv])(ht:Turn [b,g] w w2)(hne:g2≠b):
 Box (w2.setCell ⟨b,0,none⟩ lv2) b [lv2]/\BAt (w2.setCell ⟨b,0,none⟩ lv2) g2 lv2 (S++[v]) J/\Turn [b,g] w (w2.setCell ⟨b,0,none⟩ lv2):=
 ⟨hb.set 0 (by simp) _,hA.turn (Turn.set (S:=[b]) _ _ _ (by simp)) (by simpa using hne),ht.andSet _ _ (.inl (by simp))⟩
theorem put_end {w w3 w4:World}{b g g2 c n:Nat}{lv2:Value}{S J:List Int}{v:Int}(hA:BAt w3 g2 lv2 (S++[v]) J)(hb:Box w3 b [lv2])(ht:Turn [b,g] w w3)(hne:g2≠b)(hg:g2=g\/w.heap.size<=g2)(hc:c=cnt v S)(hn:n=S.length-c)
 (hm:Blk w4 g2 (mv ((S++[v])++J) (c+1) c n)) (h4:Turn [g2] w3 w4) :
 Box w4 b [lv2]/\(∃ u,w4.cell? ⟨g2,c,none⟩=some (.int .i64 u))/\w4.frozen? ⟨g2,c,none⟩=false/\Turns w b g (ins v S) (w4.setCell ⟨g2,c,none⟩ (.int .i64 v)):=by
 subst hc hn
 have hcl:=cnt_le v S
 have hb4:=hb.turn h4 (by simpa using Ne.symm hne)
 have hlen:(mv ((S++[v])++J) (cnt v S+1) (cnt v S) (S.length-cnt v S)).length=S.length+1+J.length:=by
  have:=congrArg List.length (mv_ins (S:=S) (J:=J) (v:=v))
  simpa[ins_length] using this
 have hput:=hm.put (cnt v S) v
 rw[mv_ins] at hput
 have tset:Turn [b,g] w (w4.setCell ⟨g2,cnt v S,none⟩ (.int .i64 v)):=by
  refine(ht.trans h4 (fun i hi=>?_)).andSet _ _ ?_
  ·simp at hi
   subst hi
   rcases hg with e | e
   ·exact .inl (by simp[e])
   ·exact .inr e
  ·rcases hg with e | e
   ·exact .inl (by simp[e])
   ·exact .inr e
 refine⟨hb4,⟨_,box_cell hm.box (List.getElem?_eq_getElem (by omega))⟩,box_free hm.box (by omega),g2,⟨lv2,hb4.other (Ne.symm hne),.inr ⟨hne,J,?_,hput,?_⟩⟩,tset,?_⟩
 ·rw[hA.val,ins_length]
  simp
 ·have:=hA.most
  rw[ins_length]
  simpa using this
 ·rcases hg with e | e
  ·exact .inl e
  ·exact .inr (.inr e)
set_option maxRecDepth 20000 in
set_option maxHeartbeats 1000000 in
theorem rPut (b g:Nat)(S:List Int)(v:Int)(w:World)(x:Rk w b g S)(ha:Asc S)(hl:S.length<17592186044415):
 Calls Tryz.prog 285 #[.pointer (some ⟨b,0,none⟩),.int .i64 v] w fun e w'=>e=.returned (.tuple #[])/\Turns w b g (ins v S) w':=by
 have hlt:=x.lt
 have HU:=hid (rUpTo b g S v w x ha (by omega))
 have HX:=hid x
 have hcl:=cnt_le v S
 obtain⟨c,hc⟩:∃ c,c=cnt v S:=⟨_,rfl⟩
 rw[<-hc] at HU hcl
 have HC:=hid hc
 clear x ha hc
 go_enter Tryz.func285,Tryz.ntmps285
 go_wp2_with fail
 refine Calls.mono HU.out ?_
 rintro e w1 ⟨rfl,hB⟩
 obtain⟨lv,hx⟩:=HX.out.next hB
 obtain⟨c0,f0⟩:=hx.box.single
 have hlt1:=hx.box.lt
 have HI:=hid hx
 have HB:=hid hB
 obtain⟨a,k,hv⟩:=hx.shape
 subst hv
 clear hx hB
 go_wp2_with (at_builtin;refine wpList_append_b _ rfl _ _ rfl g (.slice a S.length k) S rfl (HI.out.sl.elim (fun h=>.inl ⟨h.1,h.2.1⟩) (fun h=>.inr (h.2.elim fun J h=>⟨J,h.next ((Below.refl _ _).alloc (Nat.le_refl _) _)⟩))) (.slice (some ⟨w1.heap.size,0,none⟩) 1 1) [v] rfl (cell_new_one w1 v) (by simp;omega) ?_;intro lv2 w2 h2;obtain⟨g2,J,hne,hA2,hb2,ht2,hg2⟩:=put_grown (HI.out.next ((Below.refl _ _).alloc (Nat.le_refl _) _)) (HB.out.trans (((Below.refl _ _).alloc (Nat.le_refl _) _).mono HB.out.size)) h2;have hv2:=hA2.val;subst hv2;obtain⟨d0,e0⟩:=hb2.single;have hlt2:=hb2.lt;have HA2:=hid hA2;have HT2:=hid ht2;have HB2:=hid hb2;clear h2 hA2 ht2 hb2)
 obtain⟨hb3,hA3,ht3⟩:=put_stored HA2.out HB2.out HT2.out hne
 simp only[List.length_append,List.length_cons,List.length_nil,Nat.zero_add] at hb3 hA3 ht3
 revert hb3 hA3 ht3
 generalize w2.setCell {block:=b,off:=0} (Value.slice (some {block:=g2,off:=0}) (S.length+1) (S.length+1+J.length))=w3
 intro hb3 hA3 ht3
 clear d0 e0 hlt2 HA2 HT2 HB2
 obtain⟨d0,e0⟩:=hb3.single
 have hlt3:=hb3.lt
 have HB3:=hid hb3
 have HA3:=hid hA3
 have HT3:=hid ht3
 obtain⟨n,hn⟩:∃ n,n=S.length:=⟨_,rfl⟩
 rw[<-hn] at HB3 HA3 d0 hcl hl
 rw[<-hn]
 obtain⟨q,hq⟩:∃ q,q=n+1+J.length:=⟨_,rfl⟩
 rw[<-hq] at HB3 HA3 d0
 rw[<-hq]
 have HNN:=hid hn
 have HQ:=hid hq
 have hqn:n+1<=q:=by omega
 clear hb3 hA3 ht3 hn hq
 have hwr:IntKind.i64.wrap ((c:Int)+1)=(c:Int)+1:=wrap_small _ (by omega) (by omega)
 have hnat:((c:Int)+1).toNat=c+1:=by omega
 have hle:(c:Int)<=(n:Int):=by omega
 have hle1:(c:Int)<=(n:Int)+1:=by omega
 have hge:0<=(c:Int)+1:=by omega
 have hqc:¬ q=c:=by omega
 have hci:(c:Int)<(n:Int)+1:=by omega
 by_cases hcn:c<n
 ·have hqd:¬ q=c+1:=by omega
  go_region_law (refine step_copy_b rfl (.tmp 26) (.tmp 32) rfl (some ⟨g2,c+1,none⟩) (some ⟨g2,c,none⟩) (n-c) (q-(c+1)) (n+1-c) (q-c) (by simp[Act.eval,Act.put]) (by simp[Act.eval,Act.put]) g2 ((S++[v])++J) (HA3.out.blk.alike rfl) (c+1) c (n-c) (by simp only[Nat.min_def];split<;>omega) (fun _=>⟨rfl,rfl⟩) (by have:=HNN.out;simp;omega) (by have:=HNN.out;simp;omega) ?_;intro w4 hm4 ht4;obtain⟨hb4,⟨u4,hu4⟩,hf4,hend⟩:=put_end HA3.out HB3.out HT3.out hne hg2 HC.out (by rw[HNN.out]) hm4.out ht4.undrew;obtain⟨d4,e4⟩:=hb4.single;have hlt4:=hb4.lt;have HE:=hid hend;clear hend hm4 ht4 hb4)
  all_goals go_wp2_with fail
  all_goals go_end0
  all_goals exact⟨rfl,HE.out⟩
 ·by_cases hqd:q=c+1
  ·subst hqd
   go_region_law (refine step_copy_b rfl (.tmp 26) (.tmp 32) rfl (some ⟨g2,0,none⟩) (some ⟨g2,c,none⟩) (n-c) 0 (n+1-c) 1 (by first|(simp[Act.eval,Act.put];done)|(simp[Act.eval,Act.put];omega)) (by first|(simp[Act.eval,Act.put];done)|(simp[Act.eval,Act.put];omega)) g2 ((S++[v])++J) (HA3.out.blk.alike rfl) (c+1) c (n-c) (by simp only[Nat.min_def];split<;>omega) (fun h=>absurd h (by omega)) (by have:=HNN.out;simp;omega) (by have:=HNN.out;simp;omega) ?_;intro w4 hm4 ht4;obtain⟨hb4,⟨u4,hu4⟩,hf4,hend⟩:=put_end HA3.out HB3.out HT3.out hne hg2 HC.out (by rw[HNN.out]) hm4.out ht4.undrew;obtain⟨d4,e4⟩:=hb4.single;have hlt4:=hb4.lt;have HE:=hid hend;clear hend hm4 ht4 hb4)
   all_goals go_wp2_with fail
   all_goals go_end0
   all_goals exact⟨rfl,HE.out⟩
  ·go_region_law (refine step_copy_b rfl (.tmp 26) (.tmp 32) rfl (some ⟨g2,c+1,none⟩) (some ⟨g2,c,none⟩) (n-c) (q-(c+1)) (n+1-c) (q-c) (by first|(simp[Act.eval,Act.put];done)|(simp[Act.eval,Act.put];omega)) (by first|(simp[Act.eval,Act.put];done)|(simp[Act.eval,Act.put];omega)) g2 ((S++[v])++J) (HA3.out.blk.alike rfl) (c+1) c (n-c) (by simp only[Nat.min_def];split<;>omega) (fun h=>absurd h (by omega)) (by have:=HNN.out;simp;omega) (by have:=HNN.out;simp;omega) ?_;intro w4 hm4 ht4;obtain⟨hb4,⟨u4,hu4⟩,hf4,hend⟩:=put_end HA3.out HB3.out HT3.out hne hg2 HC.out (by rw[HNN.out]) hm4.out ht4.undrew;obtain⟨d4,e4⟩:=hb4.single;have hlt4:=hb4.lt;have HE:=hid hend;clear hend hm4 ht4 hb4)
   all_goals go_wp2_with fail
   all_goals go_end0
   all_goals exact⟨rfl,HE.out⟩
theorem rPut_nil (v:Int)(w:World):Calls Tryz.prog 285 #[.pointer none,.int .i64 v] w fun e w'=>e=.returned (.tuple #[])/\w=w':=by
 go_enter Tryz.func285,Tryz.ntmps285
 go_wp2_with fail
 exact bodyPost_ret (results_none rfl _ _ _) rfl ⟨rfl,rfl⟩
theorem rTake_nil (v:Int)(w:World):Calls Tryz.prog 282 #[.pointer none,.int .i64 v] w fun e w'=>e=.returned (.bool false)/\Below w.heap.size w w':=by
 go_enter Tryz.func282,Tryz.ntmps282
 go_wp2_with fail
 refine Calls.mono (rUpTo_nil v w) ?_
 rintro e w1 ⟨rfl,hB⟩
 have HB:=hid hB
 clear hB
 go_wp2_with fail
 go_ret
 exact⟨rfl,HB.out⟩
theorem give_kept {w w1:World}{b g:Nat}{S:List Int}(x:Rk w b g S)(h:Below w.heap.size w w1):Turns w b g S w1:=⟨g,x.next h,Turn.of_below h,.inl rfl⟩
theorem give_moved {w w1:World}{b g:Nat}{lv lv1:Value}{S:List Int}(x:RkIs w b g lv S)(h:Made w lv1 S w1):Box w1 b [lv]/\Turns w b g S (w1.setCell ⟨b,0,none⟩ lv1):=by
 obtain⟨h,hB⟩:=h
 have hb:=x.box.next hB
 have hlt:=x.box.lt
 refine⟨hb,?_⟩
 have hset:=hb.set 0 (by simp) lv1
 have ht:Turn [b,g] w (w1.setCell ⟨b,0,none⟩ lv1):=(Turn.of_below hB).andSet _ _ (.inl (by simp))
 rcases h with ⟨rfl,rfl⟩ | ⟨g',J,h1,h2⟩
 ·exact⟨b,⟨_,hset,.inl ⟨rfl,rfl,rfl⟩⟩,ht,.inr (.inl rfl)⟩
 ·exact⟨g',⟨_,hset,.inr ⟨by omega,J,h1.turn (Turn.set (S:=[b]) _ _ _ (by simp)) (by simp;omega)⟩⟩,ht,.inr (.inr h2)⟩
theorem Made.shape {w w':World}{lv:Value}{S:List Int}(h:Made w lv S w'):∃ a c,lv=.slice a S.length c:=by
 obtain⟨a,c,e,_⟩:=h.rd
 exact⟨a,c,e⟩
theorem Made.undrew {w w':World}{lv:Value}{S:List Int}{m:Nat}(h:Made (w.drewN m) lv S w'):Made w lv S w':=⟨h.1,⟨h.2.os,h.2.tape,h.2.output,h.2.size,h.2.block⟩⟩
set_option maxRecDepth 20000 in
set_option maxHeartbeats 1000000 in
theorem rGive (b g:Nat)(S:List Int)(w:World)(x:Rk w b g S)(hl:S.length<17592186044416):
 Calls Tryz.prog 311 #[.pointer (some ⟨b,0,none⟩)] w fun e w'=>e=.returned (.tuple #[])/\Turns w b g S w':=by
 obtain⟨lv,x⟩:=x
 obtain⟨c0,f0⟩:=x.box.single
 have hlt:=x.box.lt
 have HI:=hid x
 have hm:∃ a k,lv=.slice a S.length k/\k<=maxLen:=by
  rcases x.sl with ⟨rfl,rfl,_⟩ | ⟨_,J,h⟩
  ·exact⟨none,0,rfl,by simp[maxLen]⟩
  ·exact⟨_,_,h.val,h.most⟩
 obtain⟨a,k,hv,hk⟩:=hm
 subst hv
 obtain⟨n,hn⟩:∃ n,n=S.length:=⟨_,rfl⟩
 have HM:=hid (fun m=>rMoved _ S (w.drewN m) (x.rd.alike rfl) hl)
 rw[<-hn] at c0 HI HM
 simp only[maxLen] at hk
 clear x hn
 by_cases hlk:(n:Int)<(k:Int)/4
 ·go_enter Tryz.func311,Tryz.ntmps311
  go_wp2_with fail
  go_quiet (fail)
  go_wp2_with fail
  refine Calls.mono (HM.out nq) ?_
  rintro e w1 ⟨lv1,rfl,h1⟩
  obtain⟨hbx,hend⟩:=give_moved HI.out h1.undrew
  obtain⟨a1,k1,hv1⟩:=h1.shape
  subst hv1
  obtain⟨d0,e0⟩:=hbx.single
  have hlt1:=hbx.lt
  have HE:=hid hend
  clear h1 hend hbx
  go_wp2_with fail
  go_end0
  exact⟨rfl,HE.out⟩
 ·go_enter Tryz.func311,Tryz.ntmps311
  go_wp2_with fail
  go_quiet (fail)
  go_wp2_with fail
  go_end0
  exact⟨rfl,give_kept ⟨_,HI.out⟩ (drewN_below w _)⟩
set_option maxRecDepth 20000 in
set_option maxHeartbeats 1000000 in
theorem rTake_no (b g:Nat)(S:List Int)(v:Int)(w:World)(x:Rk w b g S)(ha:Asc S)(hl:S.length<17592186044415)(hv:v∉S):
 Calls Tryz.prog 282 #[.pointer (some ⟨b,0,none⟩),.int .i64 v] w fun e w'=>e=.returned (.bool false)/\Below w.heap.size w w':=by
 have hlt:=x.lt
 have HU:=hid (rUpTo b g S v w x ha (by omega))
 have HX:=hid x
 have hcl:=cnt_le v S
 have hno:=rem_no ha hv
 obtain⟨c,hc⟩:∃ c,c=cnt v S:=⟨_,rfl⟩
 rw[<-hc] at HU hcl hno
 clear x ha hc hv
 rcases Nat.eq_zero_or_pos c with h0 | h0
 ·subst h0
  clear hno
  go_enter Tryz.func282,Tryz.ntmps282
  go_wp2_with fail
  refine Calls.mono HU.out ?_
  rintro e w1 ⟨rfl,hB⟩
  have HB:=hid hB
  clear hB
  go_wp2_with fail
  go_ret
  exact⟨rfl,HB.out⟩
 ·obtain⟨y,hy,hyv⟩:∃ y,S[c-1]? = some y/\y≠v:=by
   rcases hno with e | e
   ·omega
   ·exact e
  have HY:=hid hy
  have hyb:(y != v)=true:=by simpa using hyv
  obtain⟨m,rfl⟩:∃ m,c=m+1:=⟨c-1,by omega⟩
  clear hno hy h0
  go_enter Tryz.func282,Tryz.ntmps282
  go_wp2_with fail
  refine Calls.mono HU.out ?_
  rintro e w1 ⟨rfl,hB⟩
  obtain⟨lv,hx⟩:=HX.out.next hB
  obtain⟨c0,f0⟩:=hx.box.single
  have hlt1:=hx.box.lt
  rcases hx.sl with ⟨_,e,_⟩ | ⟨_,J,hs⟩
  ·rw[e] at hcl;simp at hcl
  have d0:=hs.cell (HY.out)
  rw[Nat.add_sub_cancel] at d0
  rw[hs.val] at c0
  have hmi:(m:Int)<(S.length:Int):=by omega
  have HB:=hid hB
  clear hB hx hs
  go_wp2_with fail
  go_ret
  exact⟨rfl,HB.out⟩
theorem take_moved {w w3 w4:World}{b g m n q k:Nat}{S J:List Int}{v:Int}(hA:BAt w3 g (.slice (some ⟨g,0,none⟩) n q) S J)(hb:Box w3 b [.slice (some ⟨g,0,none⟩) n q])(hB:Below w.heap.size w w3)(hne:g≠b)(hc:m+1=cnt v S)(hn:n=S.length)(hk:k=n-(m+1))
 (hm:Blk w4 g (mv (S++J) m (m+1) k)) (h4:Turn [g] w3 w4) (ha:Asc S) (hv:v∈S) :
 Box w4 b [.slice (some ⟨g,0,none⟩) n q]/\∀ d,Rk ((w4.drewN d).setCell ⟨b,0,none⟩ (.slice (some ⟨g,0,none⟩) (n-1) q)) b g (rem v S)/\Turn [b,g] w ((w4.drewN d).setCell ⟨b,0,none⟩ (.slice (some ⟨g,0,none⟩) (n-1) q)):=by
 subst hk
 have hb4:=hb.turn h4 (by simpa using Ne.symm hne)
 refine⟨hb4,fun d=>?_⟩
 have hl:=rem_length ha hv
 have hq:q=S.length+J.length:=by have:=hA.val;cases this;rfl
 have e:=mv_rem (S:=S) (J:=J) (v:=v) (by omega)
 rw[<-hc,Nat.add_sub_cancel,<-hn] at e
 rw[e] at hm
 have hb5:=(hb4.drewN d).set 0 (by simp) (.slice (some ⟨g,0,none⟩) (n-1) q)
 have hlen:((S++J).drop (n-1)).length=J.length+1:=by simp;omega
 refine⟨⟨_,hb5,.inr ⟨hne,(S++J).drop (n-1),?_,?_,?_⟩⟩,?_⟩
 ·rw[hlen]
  congr 1<;>omega
 ·exact((hm.alike (w':=w4.drewN d) rfl).turn (Turn.set (S:=[b]) _ _ _ (by simp)) (by simpa using hne))
 ·rw[hlen]
  have:=hA.most
  omega
 ·refine((((Turn.of_below (S:=[b,g]) hB).trans h4 ?_).trans (drewN_turn [] w4 d) (by simp)).andSet _ _ (.inl (by simp)))
  intro i hi
  simp at hi
  subst hi
  exact .inl (by simp)
theorem take_end {w w5 w6:World}{b g:Nat}{S:List Int}(x:Turn [b,g] w w5)(h:Turns w5 b g S w6):Turns w b g S w6:=by
 obtain⟨g',h1,h2,h3⟩:=h
 have sz:=x.size
 refine⟨g',h1,x.trans h2 (fun i hi=>.inl hi),?_⟩
 rcases h3 with e | e | e
 ·exact .inl e
 ·exact .inr (.inl e)
 ·exact .inr (.inr (by omega))
set_option maxRecDepth 20000 in
set_option maxHeartbeats 1000000 in
theorem rTake_yes (b g:Nat)(S:List Int)(v:Int)(w:World)(x:Rk w b g S)(ha:Asc S)(hl:S.length<17592186044415)(hv:v∈S):
 Calls Tryz.prog 282 #[.pointer (some ⟨b,0,none⟩),.int .i64 v] w fun e w'=>e=.returned (.bool true)/\Turns w b g (rem v S) w':=by
 have hlt:=x.lt
 have HU:=hid (rUpTo b g S v w x ha (by omega))
 have HX:=hid x
 have hcl:=cnt_le v S
 obtain⟨hpos,hy⟩:=rem_yes ha hv
 obtain⟨m,hc⟩:∃ m,m+1=cnt v S:=⟨cnt v S-1,by omega⟩
 rw[<-hc] at HU hcl hy
 rw[Nat.add_sub_cancel] at hy
 have HC:=hid hc
 have HY:=hid hy
 have HAS:=hid ha
 have HV:=hid hv
 clear x ha hc hv hy hpos
 go_enter Tryz.func282,Tryz.ntmps282
 go_wp2_with fail
 refine Calls.mono HU.out ?_
 rintro e w1 ⟨rfl,hB⟩
 obtain⟨lv,hx⟩:=HX.out.next hB
 obtain⟨c0,f0⟩:=hx.box.single
 have hlt1:=hx.box.lt
 rcases hx.sl with ⟨_,e,_⟩ | ⟨hne,J,hs⟩
 ·rw[e] at hcl;simp at hcl
 have d0:=hs.cell (HY.out)
 have hval:=hs.val
 have hmost:=hs.most
 obtain⟨n,hn⟩:∃ n,n=S.length:=⟨_,rfl⟩
 obtain⟨q,hq⟩:∃ q,q=n+J.length:=⟨_,rfl⟩
 rw[<-hn] at hval hcl hl hmost
 rw[<-hq] at hval hmost
 subst hval
 simp only[maxLen] at hmost
 have hbx:=hx.box
 have HS:=hid hs
 have HBX:=hid hbx
 have HB:=hid hB
 have HN:=hid hn
 have hnq:n<=q:=by omega
 have hmi:(m:Int)<(n:Int):=by omega
 have hwr:IntKind.i64.wrap ((m:Int)+1)=(m:Int)+1:=wrap_small _ (by omega) (by omega)
 have hnat:((m:Int)+1).toNat=m+1:=by omega
 have hle:(m:Int)<=(n:Int):=by omega
 have hle1:(m:Int)+1<=(n:Int):=by omega
 have hge:0<=(m:Int)+1:=by omega
 have hqc:¬ q=m:=by omega
 have hn1:((n:Int)-1).toNat=n-1:=by omega
 have hn2:0<=(n:Int)-1:=by omega
 have hn3:(n:Int)-1<=(q:Int):=by omega
 have hvb:(v != v)=false:=by simp
 clear hB hx hs hbx hn hq
 go_wp2_with fail
 by_cases hqd:q=m+1
 ·subst hqd
  go_region_law (refine step_copy_b rfl (.tmp 28) (.tmp 35) rfl (some ⟨g,m,none⟩) (some ⟨g,0,none⟩) (n-m) (1) (n-(m+1)) (0) (by first|(simp[Act.eval,Act.put];done)|(simp[Act.eval,Act.put];omega)) (by first|(simp[Act.eval,Act.put];done)|(simp[Act.eval,Act.put];omega)) g (S++J) (HS.out.blk.alike rfl) m (m+1) (n-(m+1)) (by simp only[Nat.min_def];split<;>omega) (fun h=>absurd h (by omega)) (by have:=HN.out;simp;omega) (by have:=HN.out;simp;omega) ?_;intro w4 hm4 ht4;obtain⟨hb4,hend⟩:=take_moved HS.out HBX.out HB.out hne HC.out HN.out rfl hm4.out ht4.undrew HAS.out HV.out;obtain⟨d4,e4⟩:=hb4.single;have hlt4:=hb4.lt;have HE:=hid (hend 1);clear hend hm4 ht4 hb4)
  all_goals go_wp2_with fail
  all_goals go_region
  all_goals go_wp2_with fail
  all_goals refine Calls.mono (rGive b g (rem v S) _ HE.out.1 (by have:=rem_length HAS.out HV.out;have:=HN.out;omega)) ?_
  all_goals rintro e w6 ⟨rfl,hend⟩
  all_goals have HF:=hid (take_end HE.out.2 hend)
  all_goals clear hend HE
  all_goals go_wp2_with fail
  all_goals go_ret
  all_goals exact⟨rfl,HF.out⟩
 ·go_region_law (refine step_copy_b rfl (.tmp 28) (.tmp 35) rfl (some ⟨g,m,none⟩) (some ⟨g,m+1,none⟩) (n-m) (q-m) (n-(m+1)) (q-(m+1)) (by first|(simp[Act.eval,Act.put];done)|(simp[Act.eval,Act.put];omega)) (by first|(simp[Act.eval,Act.put];done)|(simp[Act.eval,Act.put];omega)) g (S++J) (HS.out.blk.alike rfl) m (m+1) (n-(m+1)) (by simp only[Nat.min_def];split<;>omega) (fun _=>⟨rfl,rfl⟩) (by have:=HN.out;simp;omega) (by have:=HN.out;simp;omega) ?_;intro w4 hm4 ht4;obtain⟨hb4,hend⟩:=take_moved HS.out HBX.out HB.out hne HC.out HN.out rfl hm4.out ht4.undrew HAS.out HV.out;obtain⟨d4,e4⟩:=hb4.single;have hlt4:=hb4.lt;have HE:=hid (hend 1);clear hend hm4 ht4 hb4)
  all_goals go_wp2_with fail
  all_goals go_region
  all_goals go_wp2_with fail
  all_goals refine Calls.mono (rGive b g (rem v S) _ HE.out.1 (by have:=rem_length HAS.out HV.out;have:=HN.out;omega)) ?_
  all_goals rintro e w6 ⟨rfl,hend⟩
  all_goals have HF:=hid (take_end HE.out.2 hend)
  all_goals clear hend HE
  all_goals go_wp2_with fail
  all_goals go_ret
  all_goals exact⟨rfl,HF.out⟩
end Go.Proofs.YtbgomckkockemaaGreatDoor
