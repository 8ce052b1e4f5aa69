import Derived.Test.YtecdfnpbcabdnaaGreatDoorMgG
import Derived.Test.YtecdfnpbcabdnaaGreatDoorMiJ
import Derived.Test.YtecdfnpbcabdnaaGreatDoorLbC
import Derived.Test.YtecdfnpbcabdnaaGreatDoorMiC
namespace Go.Proofs.YtecdfnpbcabdnaaGreatDoor
open Go.RowKit Go.Lib
theorem levels_c (w:World):Calls Tryz.prog 42 #[] w fun e w'=>e=.returned (.slice (some ⟨w.heap.size,0,none⟩) 5 5)/\w'=w.alloc (.cells lvC.toArray 92):=by
 go_enter Tryz.func42,Tryz.ntmps42
 go_wp2_with fail
 go_ret
 exact⟨rfl,rfl⟩
def NewP (s:ByteArray)(w:World)(e:Ending)(w':World):Prop:=Below w.heap.size w w' /\
 match rdS s with
 | none=>e=.returned (.tuple #[.pointer none,.int .i64 ((cutS s).2.1:Nat),.int .i64 (cutS s).2.2])
 | some r=>∃ rb tb lb,e=.returned (.tuple #[.pointer (some ⟨rb,0,none⟩),.int .i64 0,.int .i64 0])/\w.heap.size<=rb/\Rea s.size w' rb tb lb r.2 r.1 0
theorem rea_new {z:Nat}{w1:World}{B:Nat}{v:Value}{L:List Tk}{c:Int}(hT:Toks w1 B v L)(hL:TL z L)(hc:In64 c):
 ∃ g cap,v=.slice (some ⟨g,0,none⟩) L.length cap/\Rea z ((w1.alloc (.cells lvC.toArray 92)).alloc (.cells #[.slice (some ⟨g,0,none⟩) L.length cap,.int .i64 c,.int .i64 0,.slice (some ⟨w1.heap.size,0,none⟩) 5 5] 72)) (w1.heap.size+1) g w1.heap.size c L 0:=by
 have hpos:=hL.pos
 have hcl:=fun (g:Nat) h=>hT.cells (g:=g) h
 have hlt:=hT.lt
 obtain⟨h1,h2⟩:=hT
 rcases h2 with ⟨_,h3⟩ | ⟨g,cap,cur,rfl,h3,h4,h5,h6,h7,h8⟩
 ·omega
 ·have hg:=(hlt g rfl).2
  refine⟨g,cap,rfl,0,cap,?_,h5,by unfold maxLen at h6;omega,fun q u hu=>?_,fun q u hu=>?_,by omega,by omega,by simp;omega,by simp;omega,hL,by omega,hc⟩
  ·have:=Box.new (w1.alloc (.cells lvC.toArray 92)) (rdL g 0 L.length cap c 0 w1.heap.size) 72
   rw[World.size_alloc] at this
   exact this
  ·have hc0:=hcl g rfl q u hu
   have hadd:(⟨g,0,none⟩:Addr).add q=⟨g,q,none⟩:=by unfold Addr.add;split<;>simp_all
   rw[hadd] at hc0
   rw[Nat.zero_add,World.cell?_alloc_lt _ _ _ (by simp;omega),World.cell?_alloc_lt _ _ _ hg]
   exact hc0
  ·have:=(Box.new w1 lvC 92).onO (ob:=.cells #[.slice (some ⟨g,0,none⟩) L.length cap,.int .i64 c,.int .i64 0,.slice (some ⟨w1.heap.size,0,none⟩) 5 5] 72)
   exact this.cell q u hu
theorem tok_err64 {s:ByteArray}{i:Nat}:∀ e,tok s i=.error e->0<=e/\e<=100:=by
 intro e h
 have val:∀ k a c (o:Option Nat),valT k s a c o=.error e->0<=e/\e<=100:=fun k a c o h=>by
  cases o with
  | none=>cases h;decide
  | some v=>cases h
 have enc:∀ k nv d,encT k nv d s i=.error e->0<=e/\e<=100:=fun k nv d h=>by
  unfold encT at h
  split at h
  ·cases h
  ·cases h;decide
 unfold tok at h
 split at h
 ·unfold wordT at h
  split at h
  ·cases h
  ·split at h
   ·cases h
   ·cases h;decide
 ·split at h
  ·unfold numT at h
   split at h
   ·exact val _ _ _ _ h
   ·exact val _ _ _ _ h
  ·split at h
   ·exact enc _ _ _ h
   ·split at h
    ·exact enc _ _ _ h
    ·unfold sigT at h
     split at h
     ·cases h
     ·split at h
      ·cases h
      ·cases h;decide
set_option maxHeartbeats 2000000 in
set_option maxRecDepth 20000 in
theorem newReader_c (s:ByteArray)(w:World)(hT:TabsAt w):Calls Tryz.prog 23 #[.string s] w (NewP s w):=by
 have HC:=cut_all s w hT
 have hTL:=fun (L:List Tk) (c:Int) (h:rdS s=some (L,c))=>rdS_tl h
 have hF:=cutS_fault (s:=s)
 have hG:=cutS_good (s:=s)
 unfold CutP at HC
 have hP1:Hid (((cutS s).2.2=2\/(cutS s).2.2=10\/(cutS s).2.2=11)->∀ w',Below w.heap.size w w'->NewP s w (.returned (.tuple #[.pointer none,.int .i64 ((cutS s).2.1:Nat),.int .i64 (cutS s).2.2])) w'):=fun h w' hb=>⟨hb,by unfold rdS;rw[if_pos h]⟩
 have hP2:Hid (∀ L c,rdS s=some (L,c)->∀ w' rb tb lb,Below w.heap.size w w'->w.heap.size<=rb->Rea s.size w' rb tb lb c L 0->NewP s w (.returned (.tuple #[.pointer (some ⟨rb,0,none⟩),.int .i64 0,.int .i64 0])) w'):=fun L c h w' rb tb lb hb hge hr=>⟨hb,by rw[h];exact⟨rb,tb,lb,rfl,hge,hr⟩⟩
 generalize NewP s w=Post at *
 have hrd:rdS s=(if (cutS s).2.2=2\/(cutS s).2.2=10\/(cutS s).2.2=11 then none else if (cutS s).2.2=0 then some ((cutS s).1,0) else some ((cutS (s.extract 0 (cutS s).2.1)).1,(cutS s).2.2)):=rfl
 generalize rdS s=R at *
 have hcut2:=fun (x:ByteArray) (W:World) (h:TabsAt W)=>cut_all x W h
 generalize hcs:cutS s=cs at *
 clear hcs
 have HH:=hid2 HC
 have HFF:=hid2 hF
 have HGG:=hid2 hG
 clear HC hF hG
 have HL:=fun W=>levels_c W
 by_cases hn:cs.2.2=2\/cs.2.2=10\/cs.2.2=11
 ·have hq:=hP1.out hn
  have HQ:=hid2 hq
  clear hP1 hP2 hq hrd hcut2 HFF HGG hTL hT
  generalize cs.2.2=ee at *
  rcases hn with rfl | rfl | rfl
  all_goals
   go_enter Tryz.func23,Tryz.ntmps23
   go_wp2_with fail
   refine Calls.mono HH.out ?_
   rintro e w1 ⟨v,rfl,hv,b1⟩
   go_wp2_with fail
   try go_ret3
   exact HQ.out _ b1
 ·have n2:(cs.2.2==2)=false:=by simpa using fun h=>hn (.inl h)
  have n10:(cs.2.2==10)=false:=by simpa using fun h=>hn (.inr (.inl h))
  have n11:(cs.2.2==11)=false:=by simpa using fun h=>hn (.inr (.inr h))
  rw[if_neg hn] at hrd
  by_cases h0:cs.2.2=0
  ·rw[if_pos h0] at hrd
   have htl:=hTL _ _ hrd
   have hq:=hid2 (hP2.out _ _ hrd)
   clear hP1 hP2 hrd hcut2 HFF HGG hTL hT hn n2 n10 n11
   rw[h0] at HH
   simp only[if_true] at HH
   have HH2:=HH
   clear HH h0
   go_enter Tryz.func23,Tryz.ntmps23
   go_wp2_with fail
   refine Calls.mono HH2.out ?_
   rintro e w1 ⟨v,rfl,hv,b1⟩
   obtain⟨g,cap,rfl,hr⟩:=rea_new hv htl zero64
   have HR:=hid2 hr
   have b3:Hid (Below w.heap.size w ((w1.alloc (.cells lvC.toArray 92)).alloc (.cells #[.slice (some ⟨g,0,none⟩) cs.1.length cap,.int .i64 0,.int .i64 0,.slice (some ⟨w1.heap.size,0,none⟩) 5 5] 72))):=(b1.alloc b1.size _).alloc (by have:=b1.size;simp;omega) _
   have hs1:=b1.size
   clear hr hv b1 htl
   go_wp2_with fail
   refine Calls.mono (HL _) ?_
   rintro e w2 ⟨rfl,rfl⟩
   go_wp2_with fail
   try go_ret3
   exact hq.out _ _ _ _ b3.out (by omega) HR.out
  ·rw[if_neg h0] at hrd
   have htl:=hTL _ _ hrd
   have hq:=hid2 (hP2.out _ _ hrd)
   have n0:(cs.2.2==0)=false:=by simpa using h0
   obtain⟨hz,hv,l,k,k1,k2,k3,k4,k5,k6⟩:=HFF.out h0 (fun h=>hn (.inl h)) (fun h=>hn (.inr (.inl h))) (fun h=>hn (.inr (.inr h)))
   have he64:In64 cs.2.2:=by
    rcases k5 with ⟨_,h⟩ | ⟨_,h⟩
    ·rw[h];exact k64 (by decide) (by decide)
    ·have:=tok_err64 _ h;exact k64 this.1 this.2
   have hsl:=fun W=>sl_h s cs.2.1 (by omega) W
   have HC2:Hid (∀ W,Below w.heap.size w W->Calls Tryz.prog 41 #[.string (s.extract 0 cs.2.1)] W (fun e w'=>∃ v,e=.returned (.tuple #[v,.int .i64 ((0:Nat):Int),.int .i64 0])/\Toks w' W.heap.size v (cutS (s.extract 0 cs.2.1)).1/\Below W.heap.size W w')):=fun W hW=>by
    refine(hcut2 _ W (hT.next hW)).mono ?_
    intro e w' hh
    unfold CutP at hh
    rw[k6] at hh ⊢
    simpa using hh
   clear hP1 hP2 hrd hcut2 HFF HGG hTL hT k1 k2 k3 k4 k5 k6 hv hz
   have HH2:Hid (Calls Tryz.prog 41 #[.string s] w fun e w'=>∃ v,e=.returned (.tuple #[v,.int .i64 (cs.2.1:Nat),.int .i64 cs.2.2])/\Below w.heap.size w w'):=HH.out.mono fun e w' ⟨v,h1,_,h3⟩=>⟨v,h1,h3⟩
   clear HH hn
   generalize (cutS (s.extract 0 cs.2.1)).1=LL at *
   go_enter Tryz.func23,Tryz.ntmps23
   go_wp2_with fail
   refine Calls.mono HH2.out ?_
   rintro e w1 ⟨v,rfl,b1⟩
   go_wp2_with fail
   refine Calls.mono (HC2.out _ b1) ?_
   rintro e w2 ⟨v2,rfl,hv2,b2⟩
   obtain⟨g,cap,rfl,hr⟩:=rea_new hv2 htl he64
   have HR:=hid2 hr
   have b12:=below_on b1 b2 b1.size
   have b3:Hid (Below w.heap.size w ((w2.alloc (.cells lvC.toArray 92)).alloc (.cells #[.slice (some ⟨g,0,none⟩) LL.length cap,.int .i64 cs.2.2,.int .i64 0,.slice (some ⟨w2.heap.size,0,none⟩) 5 5] 72))):=(b12.alloc b12.size _).alloc (by have:=b12.size;simp;omega) _
   have hs1:=b12.size
   clear hr hv2 b1 b2 b12 htl
   go_wp2_with fail
   refine Calls.mono (HL _) ?_
   rintro e w3 ⟨rfl,rfl⟩
   go_wp2_with fail
   try go_ret3
   exact hq.out _ _ _ _ b3.out (by omega) HR.out
def ExP (s:ByteArray)(w:World)(e:Ending)(w':World):Prop:=Below w.heap.size w w' /\
 match exprS s with
 | .ok t=>∃ u,e=.returned (.tuple #[tmV t u,.int .i64 0,.int .i64 0])/\SitB w.heap.size s.size w' t u
 | .error f=>e=.returned (.tuple #[.agg (zs6).toArray,.int .i64 (f.1:Nat),.int .i64 f.2])
theorem rdS_small {s:ByteArray}{L:List Tk}{c:Int}(h:rdS s=some (L,c)):s.size<=1048576:=by
 have hf:=cutS_fault (s:=s)
 have hg:=cutS_good (s:=s)
 unfold rdS at h
 generalize cutS s=cs at *
 by_cases hn:cs.2.2=2\/cs.2.2=10\/cs.2.2=11
 ·rw[if_pos hn] at h
  cases h
 ·by_cases h0:cs.2.2=0
  ·exact(hg h0).1
  ·exact(hf h0 (fun h=>hn (.inl h)) (fun h=>hn (.inr (.inl h))) (fun h=>hn (.inr (.inr h)))).1
set_option maxHeartbeats 2000000 in
set_option maxRecDepth 20000 in
theorem wholeT_c (s:ByteArray)(w:World)(hT:TabsAt w)(hE:ErrT w):Calls Tryz.prog 20 #[.string s,.func (.func 21) #[] #[]] w (ExP s w):=by
 obtain⟨X0,X1,XB⟩:=two_boxes w 56 33 [.func (.func 21) #[] #[]] zs6
 have HN:=newReader_c s _ (hT.next XB)
 have lg:0<w.heap.size:=World.block_lt_of_cell? w _ hE
 unfold NewP at HN
 rcases hrd:rdS s with _ | r
 ·rw[hrd] at HN
  have hP:Hid (∀ w',Below w.heap.size w w'->ExP s w (.returned (.tuple #[.agg (zs6).toArray,.int .i64 ((cutS s).2.1:Nat),.int .i64 (cutS s).2.2])) w'):=fun w' hb=>⟨hb,by unfold exprS;rw[hrd]⟩
  generalize ExP s w=Post at *
  have hne:(cutS s).2.2≠0:=fun h=>by
   unfold rdS at hrd
   rw[h] at hrd
   simp at hrd
  clear hrd
  generalize cutS s=cs at *
  have hn0:(cs.2.2 != 0)=true:=by simpa using hne
  have HH:=hid2 HN
  clear HN
  go_enter Tryz.func20,Tryz.ntmps20
  go_wp2_with fail
  refine Calls.mono HH.out ?_
  rintro e w1 ⟨b1,rfl⟩
  have Y0:=X0.next b1
  have Y1:=X1.next b1
  have bb:=below_on XB b1 XB.size
  obtain⟨a0,a1,a2,a3,a4,a5,f0,f1,f2,f3,f4,f5⟩:=Y1.six
  have l1:=Y1.lt
  have sz:=bb.size
  have q1:w.heap.size+1≠w1.heap.size:=by omega
  have q2:w.heap.size+1≠w1.heap.size+1:=by omega
  have q3:w.heap.size+1<w1.heap.size+1:=by omega
  have q4:w.heap.size≠w1.heap.size:=by omega
  clear X0 X1 XB HH Y0 hT hE
  go_wp2_with fail
  refine bodyPost_ret (v:=.tuple #[.agg (zs6).toArray,.int .i64 (cs.2.1:Nat),.int .i64 cs.2.2]) (by simp[results,Tryz.results20,go_sem, *]) rfl (hP.out _ ?_)
  have b6:=bb.trans ((turn_six w1 (w.heap.size+1) (.int .i64 0) (.string ⟨#[]⟩) (.int .i64 0) (.int .i64 0) (.int .i64 0) (.slice none 0 0)).below (B:=w.heap.size) (by simp) sz)
  exact(b6.alloc b6.size _).alloc (by have:=b6.size;simp;simp at this;omega) _
 ·rw[hrd] at HN
  have hP:Hid (∀ e w' rb,Below w.heap.size w w'->w.heap.size<=rb->(match bnd (exprD r.2 64 r.1) (endP r.2) with | .ok t=>∃ u,e=.returned (.tuple #[tmV t u,.int .i64 0,.int .i64 0])/\SitB w.heap.size s.size w' t u | .error f=>e=.returned (.tuple #[.agg (zs6).toArray,.int .i64 (f.1:Nat),.int .i64 f.2]))->ExP s w e w'):=fun e w' rb hb _ hm=>⟨hb,by unfold exprS;rw[hrd];exact hm⟩
  have hsm:=rdS_small (L:=r.1) (c:=r.2) hrd
  generalize ExP s w=Post at *
  have HH:=hid2 HN
  clear HN
  go_enter Tryz.func20,Tryz.ntmps20
  go_wp2_with fail
  refine Calls.mono HH.out ?_
  rintro e w1 ⟨b1,rb,tb,lb,rfl,hge,hr⟩
  have Y0:=X0.next b1
  have Y1:=X1.next b1
  have bb:=below_on XB b1 XB.size
  have hge2:w.heap.size+2<=rb:=by simpa using hge
  have hrl:=hr.rlt
  have E1:ErrT w1:=(bb.cell (p:=⟨0,0,none⟩) lg).trans hE
  clear X0 X1 XB HH hT hE
  go_wp2_with fail
  have bw2:=bb.alloc bb.size (.cells #[.pointer (some ⟨rb,0,none⟩)] 41)
  have R2:=hr.onO (ob:=.cells #[.pointer (some ⟨rb,0,none⟩)] 41)
  have V2:=Box.new w1 [.pointer (some ⟨rb,0,none⟩)] 41
  have Z0:=Y0.onO (ob:=.cells #[.pointer (some ⟨rb,0,none⟩)] 41)
  have Z1:=Y1.onO (ob:=.cells #[.pointer (some ⟨rb,0,none⟩)] 41)
  have E2:ErrT (w1.alloc (.cells #[.pointer (some ⟨rb,0,none⟩)] 41)):=(World.cell?_alloc_lt _ _ _ (World.block_lt_of_cell? w1 _ E1)).trans E1
  have sz2:=World.size_alloc w1 (.cells #[.pointer (some ⟨rb,0,none⟩)] 41)
  clear hr Y0 Y1 E1
  generalize hW2:w1.alloc _=w2 at *
  clear hW2
  have HC:=hid2 (caughtT_c (z:=s.size) (rb:=rb) (bnd (exprD r.2 64 r.1) (endP r.2)) w.heap.size w1.heap.size w2 E2 (by omega) (fun W hW=>wholeT1_c rfl (expr_c (by omega) 64 0 rfl) w.heap.size w1.heap.size W ((Z0.next hW).cell 0 _ rfl) ((V2.next hW).cell 0 _ rfl) ⟨by omega,by omega⟩ (R2.next hW)) (by omega))
  refine Calls.mono HC.out ?_
  intro e w3 h3
  obtain⟨t3,hm⟩:=h3
  have hne1:w.heap.size+1∉[rb]:=by simp;omega
  obtain⟨a0,a1,a2,a3,a4,a5,f0,f1,f2,f3,f4,f5⟩:=(Z1.turn t3 hne1).six
  have l1:=(Z1.turn t3 hne1).lt
  have b3:=t3.below (B:=w.heap.size) (by simp;omega) bw2.size
  have bw3:=bw2.trans b3
  clear HC
  rcases hpe:bnd (exprD r.2 64 r.1) (endP r.2) with f | t
  ·rw[hpe] at hm hP
   obtain rfl:=hm
   clear Z0 Z1 V2 R2 E2
   go_wp2_with fail
   exact bodyPost_ret (v:=.tuple #[.agg (zs6).toArray,.int .i64 (f.1:Nat),.int .i64 f.2]) (by simp[results,Tryz.results20,go_sem, *]) rfl (hP.out _ _ rb (bw3.trans ((turn_six _ _ _ _ _ _ _ _).below (B:=w.heap.size) (by simp) bw3.size)) (by omega) rfl)
  ·rw[hpe] at hm hP
   obtain⟨u,rfl,hs⟩:=hm
   clear Z0 Z1 V2 R2 E2
   obtain⟨av,cv,hu,-,-⟩:=hs.parts.shape
   subst hu
   have HS:=hid2 hs
   generalize hnn:t.parts.length=nn at *
   clear hs
   simp only[tmV]
   go_wp2_with fail
   exact bodyPost_ret (v:=.tuple #[tmV t (.slice av nn cv),.int .i64 0,.int .i64 0]) (by simp[results,Tryz.results20,go_sem, *]) rfl (hP.out _ _ rb (bw3.trans ((turn_six _ _ _ _ _ _ _ _).below (B:=w.heap.size) (by simp) bw3.size)) (by omega) ⟨_,rfl,SitB.lower (SitB.turn HS.out (turn_six _ _ _ _ _ _ _ _) (by simp;omega)) (by omega)⟩)
set_option maxHeartbeats 2000000 in
set_option maxRecDepth 20000 in
theorem exprF_c (s:ByteArray)(w:World)(hT:TabsAt w)(hE:ErrT w):Calls Tryz.prog 10 #[.string s] w (ExP s w):=by
 have XB:=(Below.refl w.heap.size w).alloc (Nat.le_refl _) (.cells (zs6).toArray 33)
 have X0:=Box.new w zs6 33
 have HW:=wholeT_c s _ (hT.next XB) ((World.cell?_alloc_lt _ _ _ (World.block_lt_of_cell? w _ hE)).trans hE)
 have hP:Hid (∀ e w',Below w.heap.size w w'->(match exprS s with | .ok t=>∃ u,e=.returned (.tuple #[tmV t u,.int .i64 0,.int .i64 0])/\SitB w.heap.size s.size w' t u | .error f=>e=.returned (.tuple #[.agg (zs6).toArray,.int .i64 (f.1:Nat),.int .i64 f.2]))->ExP s w e w'):=fun e w' hb hm=>⟨hb,hm⟩
 have sz0:(w.alloc (.cells (zs6).toArray 33)).heap.size=w.heap.size+1:=by simp
 generalize ExP s w=Post at *
 unfold ExP at HW
 have HH:=hid2 HW
 clear HW hT hE
 go_enter Tryz.func10,Tryz.ntmps10
 go_wp2_with fail
 refine Calls.mono HH.out ?_
 rintro e w1 ⟨b1,hm⟩
 obtain⟨a0,a1,a2,a3,a4,a5,f0,f1,f2,f3,f4,f5⟩:=(X0.next b1).six
 have l1:=(X0.next b1).lt
 have bb:=below_on XB b1 XB.size
 clear HH X0 b1
 rcases hpe:exprS s with f | t
 ·rw[hpe] at hm hP
  obtain rfl:=hm
  go_wp2_with fail
  exact bodyPost_ret (v:=.tuple #[.agg (zs6).toArray,.int .i64 (f.1:Nat),.int .i64 f.2]) (by simp[results,Tryz.results10,go_sem, *]) rfl (hP.out _ _ (bb.trans ((turn_six _ _ _ _ _ _ _ _).below (B:=w.heap.size) (by simp) bb.size)) rfl)
 ·rw[hpe] at hm hP
  obtain⟨u,rfl,hs⟩:=hm
  obtain⟨av,cv,hu,-,-⟩:=hs.parts.shape
  subst hu
  rw[sz0] at hs
  have HS:=hid2 hs
  generalize hnn:t.parts.length=nn at *
  clear hs
  simp only[tmV]
  go_wp2_with fail
  exact bodyPost_ret (v:=.tuple #[tmV t (.slice av nn cv),.int .i64 0,.int .i64 0]) (by simp[results,Tryz.results10,go_sem, *]) rfl (hP.out _ _ (bb.trans ((turn_six _ _ _ _ _ _ _ _).below (B:=w.heap.size) (by simp) bb.size)) ⟨_,rfl,SitB.lower (SitB.turn HS.out (turn_six _ _ _ _ _ _ _ _) (by simp)) (by omega)⟩)
abbrev awT:Tm:=tm 18 2 [⟨2,⟨#[97]⟩,0,0,0,[]⟩,tm 20 6 [⟨2,⟨#[98]⟩,0,0,4,[]⟩,⟨1,⟨#[]⟩,2000000,0,8,[]⟩]]
theorem aw_expr:exprS ⟨#[97,32,43,32,98,32,42,32,50]⟩=.ok awT:=by kernel_rfl
theorem two_parts {Q:Nat->Prop}{z:Nat}{w:World}{t x y:Tm}{v:Value}(h:SitQ Q z w t v)(hp:t.parts=[x,y]):∃ b off cap u1 u2,v=.slice (some ⟨b,off,none⟩) 2 cap/\b<w.heap.size/\Six w b off x u1/\SitQ Q z w x u1/\Six w b (off+6) y u2/\SitQ Q z w y u2:=by
 obtain⟨ad,cap,hv,hl,hc,hq⟩:=h.parts
 rw[hp] at hv hq
 rcases hq with hq | ⟨b,off,rfl,hb,_,hx⟩
 ·simp at hq
 ·obtain⟨u1,s1,t1⟩:=hx 0 (by simp)
  obtain⟨u2,s2,t2⟩:=hx 1 (by simp)
  refine⟨b,off,cap,u1,u2,hv,hb,?_,t1,?_,t2⟩
  ·simpa using s1
  ·simpa using s2
set_option maxHeartbeats 1000000 in
set_option maxRecDepth 20000 in
theorem awake13_c (w:World)(hT:TabsAt w)(hE:ErrT w):Calls Tryz.prog 6 #[] w fun e w'=>e=.returned (.bool true)/\Below w.heap.size w w':=by
 have HX:=hid2 (exprF_c ⟨#[97,32,43,32,98,32,42,32,50]⟩ w hT hE)
 clear hT hE
 go_enter Tryz.func6,Tryz.ntmps6
 go_wp2_with fail
 refine Calls.mono HX.out ?_
 intro e w1 h1
 unfold ExP at h1
 rw[aw_expr] at h1
 obtain⟨b1,u,rfl,hs⟩:=h1
 obtain⟨b,off,cap,u1,u2,rfl,hb,_,_,s2,_⟩:=two_parts hs rfl
 have c0:w1.cell? ⟨b,off+6,none⟩=some (.int .i64 20):=s2.c0
 clear hs s2 HX
 simp only[tmV]
 go_wp2_with fail
 go_ret
 exact⟨rfl,b1.alloc b1.size _⟩
theorem Box.duo {w:World}{g:Nat}{v0 v1:Value}(h:Box w g [v0,v1]):w.cell? ⟨g,0,none⟩=some v0/\w.cell? ⟨g,1,none⟩=some v1/\w.frozen? ⟨g,0,none⟩=false/\w.frozen? ⟨g,1,none⟩=false:=⟨h.cell 0 _ rfl,h.cell 1 _ rfl,h.free 0 (by simp),h.free 1 (by simp)⟩
theorem Box.put_duo {w:World}{g:Nat}{u0 u1:Value}(h:Box w g [u0,u1])(v0 v1:Value):Box ((w.setCell ⟨g,0,none⟩ v0).setCell ⟨g,1,none⟩ v1) g [v0,v1]:=(h.set 0 (by simp) v0).set 1 (by simp) v1
theorem PoB.turn {S:List Nat}{B z:Nat}{w w':World}{p:ByteArray×List It}{u:Value}(h:PoB B z w p u)(k:Turn S w w')(hS:∀ i∈S,i<B):PoB B z w' p u:=by
 obtain⟨l,h1,h2⟩:=h.it
 exact⟨⟨l,h1,h2.turn k hS⟩,h.nm⟩
theorem PoB.lower {B B' z:Nat}{w:World}{p:ByteArray×List It}{u:Value}(h:PoB B z w p u)(hB:B'<=B):PoB B' z w p u:=by
 obtain⟨l,h1,h2⟩:=h.it
 exact⟨⟨l,h1,h2.lower hB⟩,h.nm⟩
theorem PoB.shape {B z:Nat}{w:World}{p:ByteArray×List It}{u:Value}(h:PoB B z w p u):∃ a c,u=.slice a p.2.length c:=by
 obtain⟨l,h1,h2⟩:=h.it
 obtain⟨a,c,rfl⟩:=h2.val
 exact⟨a,c,by rw[h1,List.length_map]⟩
abbrev poV (p:ByteArray×List It)(u:Value):Value:=.agg #[.string p.1,u]
set_option maxHeartbeats 1000000 in
set_option maxRecDepth 20000 in
theorem catchP_p (p q:Nat)(x y:Value)(f:Flt)(older:List PanicEntry)(w:World)(hp:Box w p [x])(hq:Box w q [y])(hne:p≠q)(hg:ErrT w):
 CallsD Tryz.prog 43 #[.pointer (some ⟨p,0,none⟩),.pointer (some ⟨q,0,none⟩)] (.panicking (fltE f::older)) w fun e u' w'=>
  e=.returned (.tuple #[])/\u'=.panicking ({v:=.iface 74 (fltV f),recovered:=true}::older)/\∃ W,Below w.heap.size w W/\w'=(W.setCell ⟨p,0,none⟩ (.int .i64 (f.1:Nat))).setCell ⟨q,0,none⟩ (.int .i64 f.2):=by
 have ta:=assert_err
 refine callsD_of_wpS Tryz.func43 rfl fun c₀ cs hu=>?_
 apply wpS_seq
 apply wpS_region
 simp[wpOpsS,go_sem,recoverD,hu,Tryz.ntmps43,Exit.thenS]
 obtain⟨Q,hQ1,hQ2⟩:∃ Q:Exit->Act->World->Prop,Hid (∀ (a':Act) W,a'.defers=[]->Below w.heap.size w W->Q .normal a' ((W.setCell ⟨p,0,none⟩ (.int .i64 (f.1:Nat))).setCell ⟨q,0,none⟩ (.int .i64 f.2)))/\Hid (∀ e a' w',Q e a' w'->e=.normal/\a'.defers=[]/\∃ W,Below w.heap.size w W/\w'=(W.setCell ⟨p,0,none⟩ (.int .i64 (f.1:Nat))).setCell ⟨q,0,none⟩ (.int .i64 f.2)):=
  ⟨fun e a' w'=>e=.normal/\a'.defers=[]/\∃ W,Below w.heap.size w W/\w'=(W.setCell ⟨p,0,none⟩ (.int .i64 (f.1:Nat))).setCell ⟨q,0,none⟩ (.int .i64 f.2),fun a' W hd hW=>⟨rfl,hd,W,hW,rfl⟩,fun e a' w' h=>h⟩
 refine wpS_of_wp (wp_mono (Q:=Q) ?_ ?_)
 ·have HA:=hid2 (As_c w.heap.size (f.1:Nat) f.2 (.int .i64 0) (.int .i64 1) (w.alloc (.cells #[.int .i64 0,.int .i64 1] 74)) ((World.cell?_alloc_lt _ _ _ (World.block_lt_of_cell? w _ hg)).trans hg) (Box.new w [.int .i64 0,.int .i64 1] 74))
  clear hQ2 hu hg
  have ea:(#[.pointer (some ⟨p,0,none⟩),.pointer (some ⟨q,0,none⟩)]++((Array.replicate 21 undef).setIfInBounds 4 (.iface 74 (fltV f))).setIfInBounds 0 (.iface 74 (fltV f)):Array Value)=#[.pointer (some ⟨p,0,none⟩),.pointer (some ⟨q,0,none⟩),.iface 74 (fltV f),undef,undef,undef,.iface 74 (fltV f),undef,undef,undef,undef,undef,undef,undef,undef,undef,undef,undef,undef,undef,undef,undef,undef]:=by kernel_rfl
  rw[ea]
  clear ea
  simp only[fltV]
  go_wp2_with fail
  refine Calls.mono HA.out ?_
  rintro e w1 ⟨rfl,W,hW,rfl⟩
  have bW:Below w.heap.size w W:=below_on ((Below.refl _ _).alloc (Nat.le_refl _) _) hW (by simp)
  have P1:=(hp.onO.next hW)
  have Q1:=(hq.onO.next hW)
  have G1:=((Box.new w [.int .i64 0,.int .i64 1] 74).next hW)
  have hpl:=hp.lt
  have hql:=hq.lt
  have G2:=(G1.set 0 (by simp) (.int .i64 (f.1:Nat))).set 1 (by simp) (.int .i64 f.2)
  have P2:=(P1.other (q:=w.heap.size) (j:=0) (v:=.int .i64 (f.1:Nat)) (by omega)).other (q:=w.heap.size) (j:=1) (v:=.int .i64 f.2) (by omega)
  have Q2:=(Q1.other (q:=w.heap.size) (j:=0) (v:=.int .i64 (f.1:Nat)) (by omega)).other (q:=w.heap.size) (j:=1) (v:=.int .i64 f.2) (by omega)
  have bF:Hid (Below w.heap.size w ((W.setCell ⟨w.heap.size,0,none⟩ (.int .i64 (f.1:Nat))).setCell ⟨w.heap.size,1,none⟩ (.int .i64 f.2))):=(bW.setCell (Nat.le_refl _) _).setCell (Nat.le_refl _) _
  clear P1 Q1 G1 bW hW HA hp hq
  generalize (W.setCell ⟨w.heap.size,0,none⟩ (.int .i64 (f.1:Nat))).setCell ⟨w.heap.size,1,none⟩ (.int .i64 f.2)=W2 at *
  have g0:=G2.cell 0 _ rfl
  have g1:=G2.cell 1 _ rfl
  have p0:=P2.cell 0 _ rfl
  have pf:=P2.free 0 (by simp)
  have pl:=P2.lt
  have q0:=Q2.cell 0 _ rfl
  have qf:=Q2.free 0 (by simp)
  have ql:=Q2.lt
  have gl:=G2.lt
  clear G2 P2 Q2
  go_wp2_with fail
  exact hQ1.out _ _ rfl bF.out
 ·rintro e a' w' hh
  obtain⟨rfl,hd,W,hW,rfl⟩:=hQ2.out _ _ _ hh
  simp[bodyPostS,results,Tryz.results43]
  exact⟨hd,W,hW,rfl⟩
theorem catchP_idle (p q:Addr)(w:World):
 CallsD Tryz.prog 43 #[.pointer (some p),.pointer (some q)] .returning w fun e u' w'=>e=.returned (.tuple #[])/\u'=.returning/\w'=w:=by
 refine callsD_of_wpS Tryz.func43 rfl fun c₀ cs hu=>?_
 apply wpS_seq
 apply wpS_region
 simp[wpOpsS,go_sem,recoverD,hu,Tryz.ntmps43,Exit.thenS]
 obtain⟨Q,hQ1,hQ2⟩:∃ Q:Exit->Act->World->Prop,Hid (∀ (a':Act),a'.defers=[]->Q .ret a' w)/\Hid (∀ e a' w',Q e a' w'->e=.ret/\a'.defers=[]/\w'=w):=
  ⟨fun e a' w'=>e=.ret/\a'.defers=[]/\w'=w,fun a' hd=>⟨rfl,hd,rfl⟩,fun e a' w' h=>h⟩
 refine wpS_of_wp (wp_mono (Q:=Q) ?_ ?_)
 ·clear hQ2
  have ea:(#[.pointer (some p),.pointer (some q)]++((Array.replicate 21 undef).setIfInBounds 4 .nilIface).setIfInBounds 0 .nilIface:Array Value)=#[.pointer (some p),.pointer (some q),.nilIface,undef,undef,undef,.nilIface,undef,undef,undef,undef,undef,undef,undef,undef,undef,undef,undef,undef,undef,undef,undef,undef]:=by kernel_rfl
  rw[ea]
  clear ea hu
  go_wp2_with fail
  exact hQ1.out _ rfl
 ·rintro e a' w' hh
  obtain⟨rfl,hd,rfl⟩:=hQ2.out _ _ _ hh
  cases c₀
  simp_all[bodyPostS,results,Tryz.results43]
def WhQ (z B:Nat)(w:World)(rb:Nat)(pe:Except Flt (ByteArray×List It))(e:Ending)(w':World):Prop:=
 Turn [rb] w w'/\match pe with
  | .ok t=>∃ u,e=.returned (poV t u)/\PoB B z w' t u
  | .error f=>e=.panicked [fltE f]
set_option maxHeartbeats 1000000 in
set_option maxRecDepth 20000 in
theorem wholeP1_c {z rb tb lb:Nat}{c:Int}{L:List Tk}{o:Nat}{fn:Nat}{p:List Tk->Rs (ByteArray×List It)}(hfn:fn=14)(HP:∀ w,Rea z w rb tb lb c L o->Calls Tryz.prog fn #[.pointer (some ⟨rb,0,none⟩)] w (Out (VPo w.heap.size z) z w rb tb lb c o (p L)))(fb rv:Nat)(w:World)(hf:w.cell? ⟨fb,0,none⟩=some (.func (.func fn) #[] #[]))(hv:w.cell? ⟨rv,0,none⟩=some (.pointer (some ⟨rb,0,none⟩)))(hfv:fb≠rb/\rv≠rb)(hr:Rea z w rb tb lb c L o):
 Calls Tryz.prog 25 #[.pointer (some ⟨fb,0,none⟩),.pointer (some ⟨rv,0,none⟩)] w (WhQ z w.heap.size w rb (bnd (p L) (endP c))):=by
 subst hfn
 obtain⟨pr,hpr⟩:∃ pr,Hid (pr=bnd (p L) (endP c)):=⟨_,rfl⟩
 rw[<-hpr.out]
 have hE:Hid (∀ f w',pr=.error f->Turn [rb] w w'->WhQ z w.heap.size w rb pr (.panicked [fltE f]) w'):=fun f w' h ht=>by subst h;exact⟨ht,rfl⟩
 have hO:Hid (∀ t w' v u,pr=.ok t->Turn [rb] w w'->v=poV t u->PoB w.heap.size z w' t u->WhQ z w.heap.size w rb pr (.returned v) w'):=fun t w' v u h ht hv hs=>by subst h;exact⟨ht,u,by rw[hv],hs⟩
 generalize WhQ z w.heap.size w rb pr=Post at *
 have hL:=hr.lts
 have hne:w.heap.size∉[rb]:=by simp;omega
 have lf:=World.block_lt_of_cell? w _ hf
 have lv:=World.block_lt_of_cell? w _ hv
 have Z0:=Box.new w zs2 25
 have T0:=tnO (ob:=.cells (zs2).toArray 25) (Turn.refl [rb] w)
 have r0:=hr.onO (ob:=.cells (zs2).toArray 25)
 have zsz:w.heap.size<(w.alloc (.cells (zs2).toArray 25)).heap.size:=by simp
 have hv0:(w.alloc (.cells (zs2).toArray 25)).cell? ⟨rv,0,none⟩=some (.pointer (some ⟨rb,0,none⟩)):=(World.cell?_alloc_lt _ _ _ lv).trans hv
 go_enter Tryz.func25,Tryz.ntmps25
 go_wp2_with fail
 clear hr
 generalize hW0:w.alloc _=w0 at *
 clear hW0
 refine Calls.mono (HP _ r0) ?_
 intro e w1 h1
 rcases hy:p L with f | y
 ·obtain⟨rfl,t1⟩:=Out.of_err hy h1
  go_wp2_with fail
  exact⟨rfl,hE.out _ _ (by rw[hpr.out,hy];rfl) (tn T0 t1)⟩
 obtain⟨t1,_,rfl,⟨u1,rfl,S1⟩,r1⟩:=Out.of_ok hy h1
 obtain⟨av,cv,hu⟩:=S1.shape
 subst hu
 have hpr1:Hid (pr=bnd (endP c ((),y.2):Except Flt Unit) fun _=>.ok y.1):=by show _=_;rw[hpr.out,hy,bnd_ok];exact endP_of
 have T1:=tn T0 t1
 have Z1:=Z0.turn t1 hne
 have hv1:=(turn_cell t1 (World.block_lt_of_cell? w0 _ hv0) (by simp;exact hfv.2)).trans hv0
 have s1:=t1.size
 clear h1 t1 Z0 T0 r0 hv0 hf hv
 generalize hnn:y.1.2.length=nn at *
 have lv1:=World.block_lt_of_cell? w1 _ hv1
 go_wp2_with fail
 have T2:=tnO (ob:=.cells [.string y.1.1,.slice av nn cv].toArray 25) T1
 have r2:=r1.onO (ob:=.cells [.string y.1.1,.slice av nn cv].toArray 25)
 have Z2:=Z1.onO (ob:=.cells [.string y.1.1,.slice av nn cv].toArray 25)
 have L2:=Box.new w1 [.string y.1.1,.slice av nn cv] 25
 have S2:=hid2 (PoB.turn (S:=[]) S1 (Turn.of_below ((Below.refl _ w1).alloc (Nat.le_refl _) (.cells [.string y.1.1,.slice av nn cv].toArray 25))) (by simp))
 have s2:=World.size_alloc w1 (.cells [.string y.1.1,.slice av nn cv].toArray 25)
 clear S1 T1 r1 Z1
 generalize hW2:w1.alloc _=w2 at *
 clear hW2
 refine Calls.mono (end_c _ r2) ?_
 intro e w3 h3
 rcases hz:(endP c ((),y.2):Except Flt Unit) with f | q
 ·obtain⟨rfl,b3⟩:=end_err hz h3
  go_wp2_with fail
  exact⟨rfl,hE.out _ _ (by rw[hpr1.out,hz];rfl) (T2.andBelow b3)⟩
 obtain⟨rfl,b3⟩:=end_ok hz h3
 obtain⟨p0,p1,q0,q1⟩:=(Z2.next b3).duo
 obtain⟨x0,x1,y0,y1⟩:=(L2.next b3).duo
 have pl:=(Z2.next b3).lt
 have xl:=(L2.next b3).lt
 have T3:=T2.andBelow b3
 have S3:=hid2 (PoB.turn (S:=[]) S2.out (Turn.of_below b3) (by simp))
 have hg:w1.heap.size≠w.heap.size:=by omega
 clear Z2 L2 b3 h3 T2 r2 S2
 go_wp2_with fail
 refine bodyPost_ret (v:=poV y.1 (.slice av nn cv)) (by simp[results,Tryz.results25,go_sem, *]) rfl (hO.out y.1 _ _ (.slice av nn cv) (by rw[hpr1.out,hz];rfl) ?_ rfl ?_)
 ·exact T3.trans (turn_two _ _ _ _) (fun i hi=>.inr (by simp at hi;omega))
 ·exact PoB.lower (PoB.turn S3.out (turn_two _ _ _ _) (by simp;omega)) (by omega)
def CaQ (z B:Nat)(w:World)(rb:Nat)(pe:Except Flt (ByteArray×List It))(e:Ending)(w':World):Prop:=
 Turn [rb] w w'/\match pe with
  | .ok t=>∃ u,e=.returned (.tuple #[poV t u,.int .i64 0,.int .i64 0])/\PoB B z w' t u
  | .error f=>e=.returned (.tuple #[.agg (zs2).toArray,.int .i64 (f.1:Nat),.int .i64 f.2])
set_option maxHeartbeats 2000000 in
set_option maxRecDepth 20000 in
theorem caughtP_c {z rb:Nat}(pe:Except Flt (ByteArray×List It))(fb rv:Nat)(w:World)(hg:ErrT w)(hlr:rb<w.heap.size)
 (C:∀ W,Below w.heap.size w W->Calls Tryz.prog 25 #[.pointer (some ⟨fb,0,none⟩),.pointer (some ⟨rv,0,none⟩)] W (WhQ z W.heap.size W rb pe)) (h0:rb≠0) :
 Calls Tryz.prog 24 #[.func (.func 25) #[] #[.pointer (some ⟨fb,0,none⟩),.pointer (some ⟨rv,0,none⟩)]] w (CaQ z w.heap.size w rb pe):=by
 have hmf:∀ (fn:Fn) (first cap:Array Value) (w:World),(Instr.makeFunc fn first cap).run Tryz.prog w=.ok (.func fn first cap) w:=fun _ _ _ _=>rfl
 obtain⟨X0,X1,X2,XB⟩:=three_boxes w 25 3 26 zs2 [.int .i64 0] [.int .i64 0]
 have HC:=hid2 (C _ XB)
 have lg:0<w.heap.size:=World.block_lt_of_cell? w _ hg
 have hB3:(((w.alloc (.cells (zs2).toArray 25)).alloc (.cells ([Value.int .i64 0]).toArray 3)).alloc (.cells ([Value.int .i64 0]).toArray 26)).heap.size=w.heap.size+1+1+1:=by simp
 rcases pe with f | t
 ·have hP:Hid (∀ w',Turn [rb] w w'->CaQ z w.heap.size w rb (.error f) (.returned (.tuple #[.agg (zs2).toArray,.int .i64 (f.1:Nat),.int .i64 f.2])) w'):=fun w' ht=>⟨ht,rfl⟩
  generalize CaQ z w.heap.size w rb (.error f)=Post at *
  go_enter_defers Tryz.func24,Tryz.ntmps24
  go_wp2_with fail
  refine Calls.mono HC.out ?_
  rintro e w1 ⟨t1,rfl⟩
  have hne0:w.heap.size∉[rb]:=by simp;omega
  have hne1:w.heap.size+1∉[rb]:=by simp;omega
  have hne2:w.heap.size+1+1∉[rb]:=by simp;omega
  have Y0:=X0.turn t1 hne0
  have Y1:=X1.turn t1 hne1
  have Y2:=X2.turn t1 hne2
  have hg1:ErrT w1:=(turn_cell t1 (Nat.lt_of_lt_of_le lg XB.size) (by simp;omega)).trans ((XB.cell (p:=⟨0,0,none⟩) lg).trans hg)
  have T1:=(Turn.of_below (S:=[rb]) XB).trans t1 (fun i hi=>.inl hi)
  refine leaves_cons (f:=43) (args:=#[.pointer (some ⟨w.heap.size+1,0,none⟩),.pointer (some ⟨w.heap.size+1+1,0,none⟩)]) (by simp) (by simp[go_sem]) ?_
  refine(catchP_p (w.heap.size+1) (w.heap.size+1+1) (.int .i64 0) (.int .i64 0) f [] w1 Y1 Y2 (by omega) hg1).mono ?_
  rintro e u' w'' ⟨rfl,rfl,W,hW,rfl⟩
  have Z0:=((Y0.next hW).other (q:=w.heap.size+1) (j:=0) (v:=.int .i64 (f.1:Nat)) (by omega)).other (q:=w.heap.size+1+1) (j:=0) (v:=.int .i64 f.2) (by omega)
  have Z1:=((Y1.next hW).set 0 (by simp) (.int .i64 (f.1:Nat))).other (q:=w.heap.size+1+1) (j:=0) (v:=.int .i64 f.2) (by omega)
  have Z2:=((Y2.next hW).other (q:=w.heap.size+1) (j:=0) (v:=.int .i64 (f.1:Nat)) (by omega)).set 0 (by simp) (.int .i64 f.2)
  have T2:Turn [rb] w ((W.setCell ⟨w.heap.size+1,0,none⟩ (.int .i64 (f.1:Nat))).setCell ⟨w.heap.size+1+1,0,none⟩ (.int .i64 f.2)):=((T1.andBelow hW).andSet _ _ (.inr (by simp))).andSet _ _ (.inr (by simp;omega))
  have HF:=hP.out _ T2
  generalize (W.setCell ⟨w.heap.size+1,0,none⟩ (.int .i64 (f.1:Nat))).setCell ⟨w.heap.size+1+1,0,none⟩ (.int .i64 f.2)=WF at *
  obtain⟨a0,a1,_⟩:=Z0.duo
  have b0:=Z1.cell 0 _ rfl
  have c0:=Z2.cell 0 _ rfl
  have HFF:=hid2 HF
  clear HF
  simp[Leaves,settle,results,Tryz.results24,go_sem, *]
  exact HFF.out
 ·have hP:Hid (∀ w' u,Turn [rb] w w'->PoB w.heap.size z w' t u->CaQ z w.heap.size w rb (.ok t) (.returned (.tuple #[poV t u,.int .i64 0,.int .i64 0])) w'):=fun w' u ht hs=>⟨ht,u,rfl,hs⟩
  generalize CaQ z w.heap.size w rb (.ok t)=Post at *
  go_enter_defers Tryz.func24,Tryz.ntmps24
  go_wp2_with fail
  refine Calls.mono HC.out ?_
  rintro e w1 ⟨t1,u,rfl,S1⟩
  have hne0:w.heap.size∉[rb]:=by simp;omega
  have hne1:w.heap.size+1∉[rb]:=by simp;omega
  have hne2:w.heap.size+1+1∉[rb]:=by simp;omega
  have Y0:=X0.turn t1 hne0
  have Y1:=X1.turn t1 hne1
  have Y2:=X2.turn t1 hne2
  have T1:=(Turn.of_below (S:=[rb]) XB).trans t1 (fun i hi=>.inl hi)
  obtain⟨a0,a1,b0,b1⟩:=Y0.duo
  have c0:=Y1.cell 0 _ rfl
  have d0:=Y1.free 0 (by simp)
  have e0:=Y2.cell 0 _ rfl
  have g0:=Y2.free 0 (by simp)
  have l0:=Y0.lt
  have l1:=Y1.lt
  have l2:=Y2.lt
  obtain⟨av,cv,hu⟩:=S1.shape
  subst hu
  have HS:=hid2 S1
  generalize hnn:t.2.length=nn at *
  simp only[poV]
  rw[hB3] at HS
  clear S1 X0 X1 X2 XB HC t1 C hB3
  go_wp2_with fail
  refine leaves_cons (f:=43) (args:=#[.pointer (some ⟨w.heap.size+1,0,none⟩),.pointer (some ⟨w.heap.size+1+1,0,none⟩)]) (by simp) (by simp[go_sem]) ?_
  refine(catchP_idle ⟨w.heap.size+1,0,none⟩ ⟨w.heap.size+1+1,0,none⟩ _).mono ?_
  rintro e u' w'' ⟨rfl,rfl,rfl⟩
  have T6:=T1.trans (turn_two w1 w.heap.size (.string t.1) (.slice av nn cv)) (fun i hi=>.inr (by simp at hi;omega))
  have T8:=(T6.andSet ⟨w.heap.size+1,0,none⟩ (.int .i64 0) (.inr (by simp))).andSet ⟨w.heap.size+1+1,0,none⟩ (.int .i64 0) (.inr (by simp;omega))
  have S6:=PoB.turn HS.out (turn_two w1 w.heap.size (.string t.1) (.slice av nn cv)) (by simp;omega)
  have S8:=PoB.turn (PoB.turn S6 (turn_set _ (w.heap.size+1) 0 (.int .i64 0)) (by simp)) (turn_set _ (w.heap.size+1+1) 0 (.int .i64 0)) (by simp)
  have Z0:=((Y0.put_duo (.string t.1) (.slice av nn cv)).other (q:=w.heap.size+1) (j:=0) (v:=.int .i64 0) (by omega)).other (q:=w.heap.size+1+1) (j:=0) (v:=.int .i64 0) (by omega)
  have Z1:=((Y1.turn (turn_two w1 w.heap.size (.string t.1) (.slice av nn cv)) (by simp)).set 0 (by simp) (.int .i64 0)).other (q:=w.heap.size+1+1) (j:=0) (v:=.int .i64 0) (by omega)
  have Z2:=((Y2.turn (turn_two w1 w.heap.size (.string t.1) (.slice av nn cv)) (by simp;omega)).other (q:=w.heap.size+1) (j:=0) (v:=.int .i64 0) (by omega)).set 0 (by simp) (.int .i64 0)
  have HF:=hid2 (hP.out _ _ T8 (PoB.lower S8 (by omega)))
  clear T6 T8 S6 S8 Y0 Y1 Y2 T1 HS hP a0 a1 b0 b1 c0 d0 e0 g0 l0 l1 l2
  simp only[poV] at HF
  generalize ((((w1.setCell _ _).setCell _ _).setCell _ _).setCell _ _)=WF at *
  obtain⟨a0,a1,_⟩:=Z0.duo
  have b0:=Z1.cell 0 _ rfl
  have c0:=Z2.cell 0 _ rfl
  clear Z0 Z1 Z2
  simp[Leaves,settle,results,Tryz.results24,go_sem, *]
  exact HF.out
def PoP (s:ByteArray)(w:World)(e:Ending)(w':World):Prop:=Below w.heap.size w w' /\
 match polS s with
 | .ok t=>∃ u,e=.returned (.tuple #[poV t u,.int .i64 0,.int .i64 0])/\PoB w.heap.size s.size w' t u
 | .error f=>e=.returned (.tuple #[.agg (zs2).toArray,.int .i64 (f.1:Nat),.int .i64 f.2])
set_option maxHeartbeats 2000000 in
set_option maxRecDepth 20000 in
theorem wholeP_c (s:ByteArray)(w:World)(hT:TabsAt w)(hE:ErrT w):Calls Tryz.prog 13 #[.string s,.func (.func 14) #[] #[]] w (PoP s w):=by
 obtain⟨X0,X1,XB⟩:=two_boxes w 39 25 [.func (.func 14) #[] #[]] zs2
 have HN:=newReader_c s _ (hT.next XB)
 have lg:0<w.heap.size:=World.block_lt_of_cell? w _ hE
 unfold NewP at HN
 rcases hrd:rdS s with _ | r
 ·rw[hrd] at HN
  have hP:Hid (∀ w',Below w.heap.size w w'->PoP s w (.returned (.tuple #[.agg (zs2).toArray,.int .i64 ((cutS s).2.1:Nat),.int .i64 (cutS s).2.2])) w'):=fun w' hb=>⟨hb,by unfold polS;rw[hrd]⟩
  generalize PoP s w=Post at *
  have hne:(cutS s).2.2≠0:=fun h=>by
   unfold rdS at hrd
   rw[h] at hrd
   simp at hrd
  clear hrd
  generalize cutS s=cs at *
  have hn0:(cs.2.2 != 0)=true:=by simpa using hne
  have HH:=hid2 HN
  clear HN
  go_enter Tryz.func13,Tryz.ntmps13
  go_wp2_with fail
  refine Calls.mono HH.out ?_
  rintro e w1 ⟨b1,rfl⟩
  have Y0:=X0.next b1
  have Y1:=X1.next b1
  have bb:=below_on XB b1 XB.size
  obtain⟨a0,a1,f0,f1⟩:=Y1.duo
  have l1:=Y1.lt
  have sz:=bb.size
  have q1:w.heap.size+1≠w1.heap.size:=by omega
  have q2:w.heap.size+1≠w1.heap.size+1:=by omega
  have q3:w.heap.size+1<w1.heap.size+1:=by omega
  have q4:w.heap.size≠w1.heap.size:=by omega
  clear X0 X1 XB HH Y0 hT hE
  go_wp2_with fail
  refine bodyPost_ret (v:=.tuple #[.agg (zs2).toArray,.int .i64 (cs.2.1:Nat),.int .i64 cs.2.2]) (by simp[results,Tryz.results13,go_sem, *]) rfl (hP.out _ ?_)
  have b6:=bb.trans ((turn_two w1 (w.heap.size+1) (.string ⟨#[]⟩) (.slice none 0 0)).below (B:=w.heap.size) (by simp) sz)
  exact(b6.alloc b6.size _).alloc (by have:=b6.size;simp;simp at this;omega) _
 ·rw[hrd] at HN
  have hP:Hid (∀ e w' rb,Below w.heap.size w w'->w.heap.size<=rb->(match bnd (polP r.2 (exprD r.2 64) (actD r.2 64) r.1) (endP r.2) with | .ok t=>∃ u,e=.returned (.tuple #[poV t u,.int .i64 0,.int .i64 0])/\PoB w.heap.size s.size w' t u | .error f=>e=.returned (.tuple #[.agg (zs2).toArray,.int .i64 (f.1:Nat),.int .i64 f.2]))->PoP s w e w'):=fun e w' rb hb _ hm=>⟨hb,by unfold polS;rw[hrd];exact hm⟩
  have hsm:=rdS_small (L:=r.1) (c:=r.2) hrd
  generalize PoP s w=Post at *
  have HH:=hid2 HN
  clear HN
  go_enter Tryz.func13,Tryz.ntmps13
  go_wp2_with fail
  refine Calls.mono HH.out ?_
  rintro e w1 ⟨b1,rb,tb,lb,rfl,hge,hr⟩
  have Y0:=X0.next b1
  have Y1:=X1.next b1
  have bb:=below_on XB b1 XB.size
  have hge2:w.heap.size+2<=rb:=by simpa using hge
  have hrl:=hr.rlt
  have E1:ErrT w1:=(bb.cell (p:=⟨0,0,none⟩) lg).trans hE
  clear X0 X1 XB HH hT hE
  go_wp2_with fail
  have bw2:=bb.alloc bb.size (.cells #[.pointer (some ⟨rb,0,none⟩)] 41)
  have R2:=hr.onO (ob:=.cells #[.pointer (some ⟨rb,0,none⟩)] 41)
  have V2:=Box.new w1 [.pointer (some ⟨rb,0,none⟩)] 41
  have Z0:=Y0.onO (ob:=.cells #[.pointer (some ⟨rb,0,none⟩)] 41)
  have Z1:=Y1.onO (ob:=.cells #[.pointer (some ⟨rb,0,none⟩)] 41)
  have E2:ErrT (w1.alloc (.cells #[.pointer (some ⟨rb,0,none⟩)] 41)):=(World.cell?_alloc_lt _ _ _ (World.block_lt_of_cell? w1 _ E1)).trans E1
  have sz2:=World.size_alloc w1 (.cells #[.pointer (some ⟨rb,0,none⟩)] 41)
  clear hr Y0 Y1 E1
  generalize hW2:w1.alloc _=w2 at *
  clear hW2
  have HC:=hid2 (caughtP_c (z:=s.size) (rb:=rb) (bnd (polP r.2 (exprD r.2 64) (actD r.2 64) r.1) (endP r.2)) w.heap.size w1.heap.size w2 E2 (by omega) (fun W hW=>wholeP1_c rfl (fun W1 h1=>policy_c (by omega) (expr_c (by omega) 64 0 rfl) (dec_expr _ 64) (dec_actD _ 64) (actD_c (by omega) (Nat.le_refl 1000000) 64 0 rfl) (by have:=(rdS_tg (L:=r.1) (c:=r.2) hrd).2;omega) (Nat.le_refl _) W1 h1) w.heap.size w1.heap.size W ((Z0.next hW).cell 0 _ rfl) ((V2.next hW).cell 0 _ rfl) ⟨by omega,by omega⟩ (R2.next hW)) (by omega))
  refine Calls.mono HC.out ?_
  intro e w3 h3
  obtain⟨t3,hm⟩:=h3
  have hne1:w.heap.size+1∉[rb]:=by simp;omega
  obtain⟨a0,a1,f0,f1⟩:=(Z1.turn t3 hne1).duo
  have l1:=(Z1.turn t3 hne1).lt
  have b3:=t3.below (B:=w.heap.size) (by simp;omega) bw2.size
  have bw3:=bw2.trans b3
  clear HC
  rcases hpe:bnd (polP r.2 (exprD r.2 64) (actD r.2 64) r.1) (endP r.2) with f | t
  ·rw[hpe] at hm hP
   obtain rfl:=hm
   clear Z0 Z1 V2 R2 E2
   go_wp2_with fail
   exact bodyPost_ret (v:=.tuple #[.agg (zs2).toArray,.int .i64 (f.1:Nat),.int .i64 f.2]) (by simp[results,Tryz.results13,go_sem, *]) rfl (hP.out _ _ rb (bw3.trans ((turn_two _ _ _ _).below (B:=w.heap.size) (by simp) bw3.size)) (by omega) rfl)
  ·rw[hpe] at hm hP
   obtain⟨u,rfl,hs⟩:=hm
   clear Z0 Z1 V2 R2 E2
   obtain⟨av,cv,hu⟩:=hs.shape
   subst hu
   have HS:=hid2 hs
   generalize hnn:t.2.length=nn at *
   clear hs
   simp only[poV]
   go_wp2_with fail
   exact bodyPost_ret (v:=.tuple #[poV t (.slice av nn cv),.int .i64 0,.int .i64 0]) (by simp[results,Tryz.results13,go_sem, *]) rfl (hP.out _ _ rb (bw3.trans ((turn_two _ _ _ _).below (B:=w.heap.size) (by simp) bw3.size)) (by omega) ⟨_,rfl,PoB.lower (PoB.turn HS.out (turn_two _ _ _ _) (by simp;omega)) (by omega)⟩)
set_option maxHeartbeats 2000000 in
set_option maxRecDepth 20000 in
theorem polF_c (s:ByteArray)(w:World)(hT:TabsAt w)(hE:ErrT w):Calls Tryz.prog 7 #[.string s] w (PoP s w):=by
 have XB:=(Below.refl w.heap.size w).alloc (Nat.le_refl _) (.cells (zs2).toArray 25)
 have X0:=Box.new w zs2 25
 have HW:=wholeP_c s _ (hT.next XB) ((World.cell?_alloc_lt _ _ _ (World.block_lt_of_cell? w _ hE)).trans hE)
 have hP:Hid (∀ e w',Below w.heap.size w w'->(match polS s with | .ok t=>∃ u,e=.returned (.tuple #[poV t u,.int .i64 0,.int .i64 0])/\PoB w.heap.size s.size w' t u | .error f=>e=.returned (.tuple #[.agg (zs2).toArray,.int .i64 (f.1:Nat),.int .i64 f.2]))->PoP s w e w'):=fun e w' hb hm=>⟨hb,hm⟩
 have sz0:(w.alloc (.cells (zs2).toArray 25)).heap.size=w.heap.size+1:=by simp
 generalize PoP s w=Post at *
 unfold PoP at HW
 have HH:=hid2 HW
 clear HW hT hE
 go_enter Tryz.func7,Tryz.ntmps7
 go_wp2_with fail
 refine Calls.mono HH.out ?_
 rintro e w1 ⟨b1,hm⟩
 obtain⟨a0,a1,f0,f1⟩:=(X0.next b1).duo
 have l1:=(X0.next b1).lt
 have bb:=below_on XB b1 XB.size
 clear HH X0 b1
 rcases hpe:polS s with f | t
 ·rw[hpe] at hm hP
  obtain rfl:=hm
  go_wp2_with fail
  exact bodyPost_ret (v:=.tuple #[.agg (zs2).toArray,.int .i64 (f.1:Nat),.int .i64 f.2]) (by simp[results,Tryz.results7,go_sem, *]) rfl (hP.out _ _ (bb.trans ((turn_two _ _ _ _).below (B:=w.heap.size) (by simp) bb.size)) rfl)
 ·rw[hpe] at hm hP
  obtain⟨u,rfl,hs⟩:=hm
  obtain⟨av,cv,hu⟩:=hs.shape
  subst hu
  rw[sz0] at hs
  have HS:=hid2 hs
  generalize hnn:t.2.length=nn at *
  clear hs
  simp only[poV]
  go_wp2_with fail
  exact bodyPost_ret (v:=.tuple #[poV t (.slice av nn cv),.int .i64 0,.int .i64 0]) (by simp[results,Tryz.results7,go_sem, *]) rfl (hP.out _ _ (bb.trans ((turn_two _ _ _ _).below (B:=w.heap.size) (by simp) bb.size)) ⟨_,rfl,PoB.lower (PoB.turn HS.out (turn_two _ _ _ _) (by simp)) (by omega)⟩)
end Go.Proofs.YtecdfnpbcabdnaaGreatDoor
