import Derived.Test.YtepncopdjodfgaaGreatDoorMfD
import Derived.Test.YtepncopdjodfgaaGreatDoorMhX
import Derived.Test.YtepncopdjodfgaaGreatDoorMgZ
namespace Go.Proofs.YtepncopdjodfgaaGreatDoor
open Go.RowKit
set_option maxHeartbeats 1000000 in
set_option maxRecDepth 20000 in
theorem become_c (ok:Nat->Prop)(c:Co)(v:Value)(w:World)(hz:sM c≠0)(hn:cnodes c<=8192)(hs:CSP ok w c v)(hg:GlE w):
 Calls Tryz.prog 89 #[coV c v] w (FoOut ok w (becF c)):=by
 have HCs:=chid hs
 cases hp:c.parts with
 | nil=>
   rw[becF_nil hp]
   obtain⟨ad,cap,rfl,k1,k2⟩:=hs.parts.shape
   rw[hp] at HCs k1 ⊢
   simp only[List.length_nil] at HCs k1 ⊢
   have HA2:Hid (∀ o o',Below w.heap.size w ((w.alloc o).alloc o')):=fun o o'=>((Below.refl _ _).alloc (Nat.le_refl _) _).alloc (by simp) _
   clear hs hg hz
   go_enter Tryz.func89,Tryz.ntmps89
   go_wp2_with fail
   refine bodyPost_ret (v:=coV c (.slice ad 0 cap)) (by simp[results,Tryz.results89,go_sem, *]) rfl ?_
   exact⟨_,rfl,HCs.out,HA2.out _ _⟩
 | cons a r=>
   have hln:=fo_len hn
   have HCo:Hid (cst a=true->∀ W,Below w.heap.size w W->Calls Tryz.prog 148 #[coV c v] W (fun e w'=>∃ u,e=.returned (coV (knownF c a) u)/\CSP ok w (knownF c a) u/\Below W.heap.size W w')):=fun ha W hW=>(ofConstant_c _ c v W a r hp ha hz hn (hs.low hW) (GlE.next hg hW)).mono (fun e w' h=>by
    obtain⟨u,h1,h2,h3⟩:=h
    exact⟨u,h1,CSP.back hW _ _ h2,h3⟩)
   have HFl:Hid (a.op=6->∀ W,Below w.heap.size w W->Calls Tryz.prog 149 #[coV c v] W (fun e w'=>∃ u,e=.returned (coV (failedF c a) u)/\CSP ok w (failedF c a) u/\Below W.heap.size W w')):=fun ha W hW=>(ofFail_c _ c v W a r hp ha hz hn (hs.low hW)).mono (fun e w' h=>by
    obtain⟨u,h1,h2,h3⟩:=h
    exact⟨u,h1,CSP.back hW _ _ h2,h3⟩)
   rw[becF_cons hp]
   obtain⟨pb,off,cap,rfl,k1,k2,lp,hx⟩:=hs.at (by rw[hp];simp)
   have hxa:∃ a1 n1,Four w pb off a (.slice a1 a.parts.length n1):=by
    obtain⟨a1,n1,h6,-⟩:=hx 0 (by rw[hp];simp)
    have e:c.parts[0]'(by rw[hp];simp)=a:=by simp[hp]
    rw[e,Nat.zero_mul,Nat.add_zero] at h6
    exact⟨a1,n1,h6⟩
   obtain⟨a1,n1,f6⟩:=hxa
   have HK:=chid (fun W=>constant_c a a1 a.parts.length n1 W)
   obtain⟨L,hL⟩:∃ L,c.parts.length=L+1:=⟨r.length,by rw[hp];rfl⟩
   rw[hL] at k1 hln HCs HCo HFl ⊢
   have hL0:((L:Int)+1==0)=false:=by simp;omega
   clear hx hp hs hg hz hL
   obtain⟨Y0,Y1,Y2⟩:=two_boxes w 30 30 (coL c (.slice (some ⟨pb,off,none⟩) (L+1) cap)) [.int .i64 0,.int .i64 0,.int .i64 0,.slice none 0 0]
   have x0:=Y0.cell 0 _ rfl
   have x1:=Y0.cell 1 _ rfl
   have x2:=Y0.cell 2 _ rfl
   have x3:=Y0.cell 3 _ rfl
   have xl:=Y0.lt
   have y0:=Y1.cell 0 _ rfl
   have y1:=Y1.cell 1 _ rfl
   have y2:=Y1.cell 2 _ rfl
   have y3:=Y1.cell 3 _ rfl
   have g0:=Y1.free 0 (by simp)
   have g1:=Y1.free 1 (by simp)
   have g2:=Y1.free 2 (by simp)
   have g3:=Y1.free 3 (by simp)
   have yl:=Y1.lt
   have HY0:=chid Y0
   have HY1:=chid Y1
   have B0:=chid Y2
   have HA2:Hid (∀ o o',Below w.heap.size w ((w.alloc o).alloc o')):=fun o o'=>((Below.refl _ _).alloc (Nat.le_refl _) _).alloc (by simp) _
   obtain⟨p0,p1,p2,p3⟩:=f6.keep (w':=(w.alloc (.cells (coL c (.slice (some ⟨pb,off,none⟩) (L+1) cap)).toArray 30)).alloc (.cells [.int .i64 0,.int .i64 0,.int .i64 0,.slice none 0 0].toArray 30)) (fun j=>Y2.cell (p:=⟨pb,j,none⟩) lp)
   have P0:=chid f6
   have lpw:=Nat.lt_of_lt_of_le lp Y2.size
   clear Y0 Y1 Y2 f6
   cases hc:cst a with
   | true=>
     rw[hc] at HK
     have HW:=chid (HCo.out hc)
     rw[if_pos rfl]
     generalize knownF c a=D at *
     clear HCo HFl hc
     go_enter Tryz.func89,Tryz.ntmps89
     go_wp2_with fail
     refine Calls.mono (HK.out _) ?_
     rintro e w2 ⟨rfl,b2⟩
     have B2:=chid (cbelow_on B0.out b2 B0.out.size)
     have Y1:=chid (HY1.out.next b2)
     have Y0:=chid (HY0.out.next b2)
     clear x0 x1 x2 x3 xl y0 y1 y2 y3 g0 g1 g2 g3 yl p0 p1 p2 p3 b2 HK lpw
     have x0:=Y0.out.cell 0 _ rfl
     have x1:=Y0.out.cell 1 _ rfl
     have x2:=Y0.out.cell 2 _ rfl
     have x3:=Y0.out.cell 3 _ rfl
     have xl:=Y0.out.lt
     go_wp2_with fail
     refine Calls.mono (HW.out _ B2.out) ?_
     rintro e w3 ⟨u,rfl,hu,b3⟩
     have B3:=chid (cbelow_on B2.out b3 B2.out.size)
     replace Y1:=chid (Y1.out.next b3)
     have HU:=chid hu
     obtain⟨ua,uc,rfl,-,-⟩:=hu.parts.shape
     clear x0 x1 x2 x3 xl b3 hu HW Y0
     have y0:=Y1.out.cell 0 _ rfl
     have y1:=Y1.out.cell 1 _ rfl
     have y2:=Y1.out.cell 2 _ rfl
     have y3:=Y1.out.cell 3 _ rfl
     have g0:=Y1.out.free 0 (by simp)
     have g1:=Y1.out.free 1 (by simp)
     have g2:=Y1.out.free 2 (by simp)
     have g3:=Y1.out.free 3 (by simp)
     have yl:=Y1.out.lt
     go_wp2_with fail
     refine bodyPost_ret (v:=coV D (.slice ua D.parts.length uc)) (by simp[results,Tryz.results89,go_sem, *]) rfl ?_
     exact⟨_,rfl,HU.out,((((B3.out.setCell (p:=⟨w.heap.size+1,0,none⟩) (by simp) _).setCell (p:=⟨w.heap.size+1,1,none⟩) (by simp) _).setCell (p:=⟨w.heap.size+1,2,none⟩) (by simp) _).setCell (p:=⟨w.heap.size+1,3,none⟩) (by simp) _)⟩
   | false=>
     rw[hc] at HK
     rw[if_neg (by decide)]
     by_cases h6:a.op=6
     ·have HW:=chid (HFl.out h6)
      rw[if_pos h6]
      generalize failedF c a=D at *
      have H6:=chid h6
      clear HCo HFl hc h6
      go_enter Tryz.func89,Tryz.ntmps89
      go_wp2_with fail
      refine Calls.mono (HK.out _) ?_
      rintro e w2 ⟨rfl,b2⟩
      have B2:=chid (cbelow_on B0.out b2 B0.out.size)
      have Y1:=chid (HY1.out.next b2)
      have Y0:=chid (HY0.out.next b2)
      have p0:=(P0.out.keep (w':=w2) (fun j=>B2.out.cell (p:=⟨pb,j,none⟩) lp)).c0
      rw[H6.out] at p0
      have lpw:=Nat.lt_of_lt_of_le lp B2.out.size
      clear x0 x1 x2 x3 xl y0 y1 y2 y3 g0 g1 g2 g3 yl p1 p2 p3 b2 HK
      have x0:=Y0.out.cell 0 _ rfl
      have x1:=Y0.out.cell 1 _ rfl
      have x2:=Y0.out.cell 2 _ rfl
      have x3:=Y0.out.cell 3 _ rfl
      have xl:=Y0.out.lt
      go_wp2_with fail
      refine Calls.mono (HW.out _ B2.out) ?_
      rintro e w3 ⟨u,rfl,hu,b3⟩
      have B3:=chid (cbelow_on B2.out b3 B2.out.size)
      replace Y1:=chid (Y1.out.next b3)
      have HU:=chid hu
      obtain⟨ua,uc,rfl,-,-⟩:=hu.parts.shape
      clear x0 x1 x2 x3 xl b3 hu HW Y0 p0
      have y0:=Y1.out.cell 0 _ rfl
      have y1:=Y1.out.cell 1 _ rfl
      have y2:=Y1.out.cell 2 _ rfl
      have y3:=Y1.out.cell 3 _ rfl
      have g0:=Y1.out.free 0 (by simp)
      have g1:=Y1.out.free 1 (by simp)
      have g2:=Y1.out.free 2 (by simp)
      have g3:=Y1.out.free 3 (by simp)
      have yl:=Y1.out.lt
      go_wp2_with fail
      refine bodyPost_ret (v:=coV D (.slice ua D.parts.length uc)) (by simp[results,Tryz.results89,go_sem, *]) rfl ?_
      exact⟨_,rfl,HU.out,((((B3.out.setCell (p:=⟨w.heap.size+1,0,none⟩) (by simp) _).setCell (p:=⟨w.heap.size+1,1,none⟩) (by simp) _).setCell (p:=⟨w.heap.size+1,2,none⟩) (by simp) _).setCell (p:=⟨w.heap.size+1,3,none⟩) (by simp) _)⟩
     ·rw[if_neg h6]
      have n6:(a.op==6)=false:=by simpa using h6
      clear HCo HFl hc
      go_enter Tryz.func89,Tryz.ntmps89
      go_wp2_with fail
      refine Calls.mono (HK.out _) ?_
      rintro e w2 ⟨rfl,b2⟩
      have B2:=chid (cbelow_on B0.out b2 B0.out.size)
      have Y1:=chid (HY1.out.next b2)
      have Y0:=chid (HY0.out.next b2)
      have p0:=(P0.out.keep (w':=w2) (fun j=>B2.out.cell (p:=⟨pb,j,none⟩) lp)).c0
      have lpw:=Nat.lt_of_lt_of_le lp B2.out.size
      clear x0 x1 x2 x3 xl y0 y1 y2 y3 g0 g1 g2 g3 yl p1 p2 p3 b2 HK
      have x0:=Y0.out.cell 0 _ rfl
      have x1:=Y0.out.cell 1 _ rfl
      have x2:=Y0.out.cell 2 _ rfl
      have x3:=Y0.out.cell 3 _ rfl
      have xl:=Y0.out.lt
      have y0:=Y1.out.cell 0 _ rfl
      have y1:=Y1.out.cell 1 _ rfl
      have y2:=Y1.out.cell 2 _ rfl
      have y3:=Y1.out.cell 3 _ rfl
      have g0:=Y1.out.free 0 (by simp)
      have g1:=Y1.out.free 1 (by simp)
      have g2:=Y1.out.free 2 (by simp)
      have g3:=Y1.out.free 3 (by simp)
      have yl:=Y1.out.lt
      go_wp2_with fail
      refine bodyPost_ret (v:=coV c (.slice (some ⟨pb,off,none⟩) (L+1) cap)) (by simp[results,Tryz.results89,go_sem, *]) rfl ?_
      exact⟨_,rfl,HCs.out,((((B2.out.setCell (p:=⟨w.heap.size+1,0,none⟩) (by simp) _).setCell (p:=⟨w.heap.size+1,1,none⟩) (by simp) _).setCell (p:=⟨w.heap.size+1,2,none⟩) (by simp) _).setCell (p:=⟨w.heap.size+1,3,none⟩) (by simp) _)⟩
abbrev foV (fb:Nat):Value:=.func (.func 88) #[] #[.pointer (some ⟨fb,0,none⟩)]
def FolC (t:Co):Prop:=∀ (v:Value) (fb:Nat) (w:World),CSits w t v->Box w fb [foV fb]->GlE w->sM t≠0->cnodes t<=8192->Calls Tryz.prog 88 #[coV t v,.pointer (some ⟨fb,0,none⟩)] w fun e w'=>∃ u,e=.returned (coV (foldF t) u)/\CSP (fun b=>w.heap.size<=b) w' (foldF t) u/\Below w.heap.size w w'
set_option maxHeartbeats 1000000 in
set_option maxRecDepth 20000 in
theorem fold_step (t:Co)(ih:∀ x,x∈t.parts->FolC x):FolC t:=by
 intro v fb w hs hb hg hz hn
 have HIh:=chid ih
 have HL:=chid hs.parts
 have HS:=chid hs
 have HFb:=chid hb
 have HG:=chid hg
 have HZ:=chid hz
 have hln:=fo_len hn
 obtain⟨q,hop,h1,h2,-,hpz,-⟩:=formed_w hz
 have HPz:=chid hpz
 have HN:=chid hn
 obtain⟨ad,cap,rfl,k1,k2⟩:=hs.parts.shape
 obtain⟨i0,hi,hz0,hz1,hz2⟩:=info_core'
 obtain⟨N,hN⟩:∃ N,Hid (N=t.parts.length):=⟨_,rfl⟩
 rw[<-hN.out] at k1 hln HL HS ⊢
 obtain⟨Y0,Y1,Y2⟩:=two_boxes w 30 30 (coL t (.slice ad N cap)) [.int .i64 0,.int .i64 0,.int .i64 0,.slice none 0 0]
 have HY0:=chid Y0
 have HY1:=chid Y1
 have B0:=chid Y2
 have x3:=Y0.cell 3 _ rfl
 have xl:=Y0.lt
 clear hs hb hg hz hn ih Y0 Y1 Y2 hop h1 h2 hpz
 have H2:Hid (w.heap.size+1+1=((w.alloc (.cells (coL t (.slice ad N cap)).toArray 30)).alloc (.cells [.int .i64 0,.int .i64 0,.int .i64 0,.slice none 0 0].toArray 30)).heap.size):=chid (by simp)
 have H2:Hid (w.heap.size+1+1=((w.alloc (.cells (coL t (.slice ad N cap)).toArray 30)).alloc (.cells [.int .i64 0,.int .i64 0,.int .i64 0,.slice none 0 0].toArray 30)).heap.size):=chid (by simp)
 go_enter Tryz.func88,Tryz.ntmps88
 go_wp2_with fail
 generalize hW1:(w.alloc _).alloc _=w1 at *
 clear hW1 x3 xl
 go_loopw [4,10] (fun pv i wr=>∃ (k:Nat) (xs:List (Co×Value)) (av:Option Addr) (cv:Nat),pv=.slice av k cv/\i=.int .i64 (k:Nat)/\k<=N/\Hid (xs.length=k)/\Hid (xs.map (·.1)=(t.parts.take k).map foldF)/\Hid (FRow (w.heap.size+1+1) wr (.slice av k cv) xs)/\Hid (Below (w.heap.size+1+1) w1 wr)) (fun _ i _=>match i with | .int _ p=>((N:Int)-p).toNat | _=>0)
 case atStart=>exact⟨0,[],none,0,rfl,rfl,by omega,chid rfl,chid rfl,chid (FRow.nil _ _),chid (Below.refl _ _)⟩
 case round=>
  obtain⟨k,xs,av,cv,rfl,rfl,hk,HXl,HXs,HRw,HBr⟩:=hrel
  have HBw:Hid (Below w.heap.size w wr):=chid (B0.out.trans (HBr.out.mono (by omega)))
  by_cases hlt:k<N
  ·have hlt':(k:Int)<(N:Int):=by omega
   have hl1:k<t.parts.length:=by rw[<-hN.out];exact hlt
   obtain⟨b,off,cap',hv,-,-,hbl,hx⟩:=HL.out.open (by omega)
   simp only[Value.slice.injEq] at hv
   obtain⟨rfl,-,rfl⟩:=hv
   obtain⟨u,h6,hu⟩:=hx k hl1
   have y0:=keepc HBw.out h6.c0
   have y1:=keepc HBw.out h6.c1
   have y2:=keepc HBw.out h6.c2
   have y3:=keepc HBw.out h6.c3
   have lbr:b<wr.heap.size:=World.block_lt_of_cell? wr _ y0
   have HCl:=chid (fun W (hW:Below w.heap.size w W)=>HIh.out _ (List.getElem_mem hl1) u fb W (hu.next hW) (HFb.out.next hW) (GlE.next HG.out hW) (HPz.out _ (List.getElem_mem hl1)) (by have:=cnodes_part (List.getElem_mem hl1);have:=HN.out;omega))
   have HTk:Hid (t.parts.take (k+1)=t.parts.take k++[t.parts[k]]):=chid (List.take_succ_eq_append_getElem hl1)
   have fbc:=(HFb.out.next HBw.out).cell 0 _ rfl
   have fbl:=(HFb.out.next HBw.out).lt
   obtain⟨au,cu,rfl,-,-⟩:=hu.parts.shape
   clear h6 hu hx
   generalize t.parts[k]=x at *
   have ba:=(Below.refl wr.heap.size wr).alloc (Nat.le_refl _) (.cells #[.int .i64 x.op,.int .i64 x.n,.int .i64 x.m,.slice au x.parts.length cu] 30)
   have BA:=chid ba
   have hwr:Hid (w.heap.size+1+1<=wr.heap.size):=chid (by have:=HBr.out.size;have:=H2.out;omega)
   clear ba
   go_wp2_with fail
   refine Calls.mono (HCl.out _ (cbelow_on HBw.out BA.out HBw.out.size)) ?_
   rintro e w2 ⟨u,rfl,su,b2⟩
   have B2:=chid (cbelow_on BA.out b2 BA.out.size)
   have FR2:=chid (HRw.out.next B2.out)
   have SU:Hid (CSP (fun b=>w.heap.size+1+1<=b/\(Value.slice av k cv).ownBlock≠some b) w2 (foldF x) u):=chid (su.weak (fun b _ hb=>⟨by have:=hwr.out;simp at hb;omega,fun e=>by
    have:=(HRw.out.own.lt b e).2
    simp at hb
    omega⟩))
   obtain⟨a4,c4,rfl,-,-⟩:=su.parts.shape
   clear su b2 BA HCl y0 y1 y2 y3 fbc fbl
   obtain⟨d,hd⟩:∃ d,Hid (d=foldF x):=⟨_,rfl⟩
   rw[<-hd.out] at SU ⊢
   have ba:=(Below.refl w2.heap.size w2).alloc (Nat.le_refl _) (.cells #[.int .i64 d.op,.int .i64 d.n,.int .i64 d.m,.slice a4 d.parts.length c4] 30)
   have FR3:=chid (FR2.out.next ba)
   have SU3:=chid (SU.out.next ba)
   have B3:=chid (cbelow_on B2.out ba B2.out.size)
   have hkx:Hid (k=xs.length):=HXl.out.symm
   clear ba FR2 SU B2
   go_wp2_with (at_builtin;refine wpList_append_lies _ rfl _ _ 28 rfl (w.heap.size+1+1) 30 i0 (coV ⟨0,0,0,[]⟩ (.slice none 0 0)) 4 48 Tryz.underlying28 hi hz0 hz1 hz2 rfl (by decide) (.slice av k cv) xs.length (flC xs) rfl FR3.out.own ⟨w2.heap.size,0,none⟩ 1 1 (coL d (.slice a4 d.parts.length c4)) rfl rfl (ce_four_new _ _ _ _ _ _) (by intro u hu;simp at hu;rcases hu with rfl | rfl | rfl | rfl<;>rfl) (by decide) (by have:=HXl.out;unfold maxLen;omega) (by have:=HXl.out;omega) (by have:=B3.out.size;have:=hwr.out;simp at *;omega) _ rfl ?_;intro g1 cap1 w4 o1 k4 a1 l1)
   have FR4:=chid (FR3.out.more SU3.out o1 k4 a1)
   have B4:Hid (Below (w.heap.size+1+1) w1 w4):=by
    have h:=HBr.out.trans (B3.out.mono hwr.out)
    refine chid (h.trans ⟨k4.os,k4.tape,k4.output,k4.size,fun q hq=>k4.block q (by have:=B3.out.size;have:=hwr.out;omega) (fun e=>by have:=(FR3.out.own.lt q e.symm).1;omega)⟩)
   have HXl2:Hid ((xs++[(d,Value.slice a4 d.parts.length c4)]).length=k+1):=chid (by rw[List.length_append,HXl.out];rfl)
   have HXs2:Hid ((xs++[(d,Value.slice a4 d.parts.length c4)]).map (·.1)=(t.parts.take (k+1)).map foldF):=chid (by rw[HTk.out,List.map_append,List.map_append,HXs.out,hd.out];rfl)
   have FR5:Hid (FRow (w.heap.size+1+1) w4 (.slice (some ⟨g1,0,none⟩) (k+1) cap1) (xs++[(d,Value.slice a4 d.parts.length c4)])):=by rw[hkx.out];exact FR4
   clear FR3 SU3 o1 k4 a1 FR4 HBr HRw HXs
   have hxk:xs.length=k:=HXl.out
   clear HXl hkx
   go_wp2_with fail
   go_roundw
   case rel=>exact⟨k+1,_,some ⟨g1,0,none⟩,cap1,by rw[hxk],by go_num,by omega,HXl2,HXs2,FR5,B4⟩
   case measure=>simp;omega
  ·have hlt':¬(k:Int)<(N:Int):=by omega
   obtain rfl:k=N:=by omega
   have hxs:xs.map (·.1)=t.parts.map foldF:=by
    have:=HXs.out
    rw[hN.out,List.take_length] at this
    exact this
   have hCA:=HRw.out.done
   rw[hxs] at hCA
   have hplen:(t.parts.map foldF).length=k:=by rw[List.length_map];exact hN.out.symm
   obtain⟨c',hc'⟩:∃ c':Co,Hid (c'=⟨t.op,t.n,t.m,t.parts.map foldF⟩):=⟨_,rfl⟩
   have HFit:=HS.out.fit
   have HSo:=mid_sort (wn:=256) (cn:=256) (ln:=256) HZ.out (fun x hx=>fold_sort (by decide) (by decide) (by decide) x (HPz.out x hx))
   have HNo:=mid_nodes t (fun x _=>fold_nodes x)
   rw[<-hc'.out] at HSo HNo
   have HBe:=chid (fun W (hb:CSP (fun b=>w.heap.size+1+1<=b) W c' (.slice av k cv)) (hg:GlE W)=>become_c _ c' (.slice av k cv) W (by have h:sM c'=sM t:=HSo;rw[h];exact HZ.out) (by have:=HN.out;omega) hb hg)
   have hCS:CSP (fun b=>w.heap.size+1+1<=b) wr c' (.slice av k cv):=by
    rw[hc'.out]
    exact csp_iff.2 ⟨⟨HFit.k,HFit.n,HFit.m⟩,hCA⟩
   have HCS:=chid hCS
   have HD:Hid (foldF t=becF c'):=chid (by rw[foldF_eq,hc'.out])
   have ho:Hid (c'.op=t.op/\c'.n=t.n/\c'.m=t.m):=by rw[hc'.out];exact chid ⟨rfl,rfl,rfl⟩
   have Y0:=HY0.out.later HBr.out (by omega)
   have Y1:=HY1.out.later HBr.out (by omega)
   have x0:=Y0.cell 0 _ rfl
   have x1:=Y0.cell 1 _ rfl
   have x2:=Y0.cell 2 _ rfl
   have x3:=Y0.cell 3 _ rfl
   have f3:=Y0.free 3 (by simp)
   have xl:=Y0.lt
   have Z0:=chid (Y0.set 3 (by simp) (.slice av k cv))
   have Z1:=chid (Y1.other (j:=3) (v:=.slice av k cv) (q:=w.heap.size) (by omega))
   have BZ:=chid (HBw.out.setCell (p:=⟨w.heap.size,3,none⟩) (Nat.le_refl _) (.slice av k cv))
   have HC2:Hid (CSP (fun b=>w.heap.size+1+1<=b) (wr.setCell ⟨w.heap.size,3,none⟩ (.slice av k cv)) c' (.slice av k cv)):=chid (CSP.keep (by simp) (fun b hb hB=>⟨hB,fun j=>cturn_cell (cturn_set wr w.heap.size 3 _) hb (by simp at *;omega)⟩) _ _ HCS.out)
   clear HXs HXl HRw hCA hxs hplen hCS HCS HBr Y0 Y1 HIh HSo HNo HFit HPz hc'
   go_wp2_with fail
   generalize hW3:wr.setCell _ _=w3 at *
   clear hW3 x0 x1 x2 x3 f3 xl
   rw[<-ho.out.1,<-ho.out.2.1,<-ho.out.2.2]
   refine Calls.mono (HBe.out _ HC2.out (GlE.next HG.out BZ.out)) ?_
   rintro e w4 ⟨u,rfl,hu,b4⟩
   have B4:=chid (cbelow_on BZ.out b4 BZ.out.size)
   have Y1:=Z1.out.next b4
   have HU4:=chid (hu.next b4)
   obtain⟨ua,uc,rfl,-,-⟩:=hu.parts.shape
   clear hu b4 HBe HC2 Z0 Z1 BZ HBw
   obtain⟨D,hD⟩:∃ D,Hid (D=becF c'):=⟨_,rfl⟩
   rw[<-hD.out] at HD HU4 ⊢
   have y0:=Y1.cell 0 _ rfl
   have y1:=Y1.cell 1 _ rfl
   have y2:=Y1.cell 2 _ rfl
   have y3:=Y1.cell 3 _ rfl
   have g0:=Y1.free 0 (by simp)
   have g1:=Y1.free 1 (by simp)
   have g2:=Y1.free 2 (by simp)
   have g3:=Y1.free 3 (by simp)
   have yl:=Y1.lt
   clear Y1
   go_wp2_with fail
   refine bodyPost_ret (v:=coV D (.slice ua D.parts.length uc)) (by simp[results,Tryz.results88,go_sem, *]) rfl ?_
   have T:Turn [w.heap.size+1] w4 ((((w4.setCell ⟨w.heap.size+1,0,none⟩ (.int .i64 D.op)).setCell ⟨w.heap.size+1,1,none⟩ (.int .i64 D.n)).setCell ⟨w.heap.size+1,2,none⟩ (.int .i64 D.m)).setCell ⟨w.heap.size+1,3,none⟩ (.slice ua D.parts.length uc)):=
    cturn_one (cturn_one (cturn_one (cturn_set w4 _ _ _) (cturn_set _ _ _ _)) (cturn_set _ _ _ _)) (cturn_set _ _ _ _)
   refine⟨_,by rw[HD.out],?_,((((B4.out.setCell (p:=⟨w.heap.size+1,0,none⟩) (by simp) _).setCell (p:=⟨w.heap.size+1,1,none⟩) (by simp) _).setCell (p:=⟨w.heap.size+1,2,none⟩) (by simp) _).setCell (p:=⟨w.heap.size+1,3,none⟩) (by simp) _)⟩
   rw[HD.out]
   exact CSP.keep T.size (fun b hb hB=>⟨by omega,fun j=>cturn_cell T hb (by simp;omega)⟩) _ _ HU4.out
theorem fold_all (t:Co):FolC t:=by
 induction t using Co.ind with
 | h t ih=>exact fold_step t ih
set_option maxHeartbeats 1000000 in
theorem folder_c (w:World):Calls Tryz.prog 50 #[] w fun e w'=>∃ fb,e=.returned (foV fb)/\Box w' fb [foV fb]/\Below w.heap.size w w':=by
 have B:=chid ((Below.refl w.heap.size w).alloc (Nat.le_refl _) (.cells #[foV w.heap.size] 92))
 go_enter Tryz.func50,Tryz.ntmps50
 go_wp2_with fail
 go_ret
 exact⟨_,rfl,Box.new w [foV w.heap.size] _,B.out⟩
def coreF (c:Co):Co×Int:=if cnodes c<=4096/\sM c≠0 then (foldF c,0) else (co0,1)
set_option maxHeartbeats 1000000 in
set_option maxRecDepth 20000 in
theorem fCore_c (c:Co)(v:Value)(w:World)(hs:CSits w c v)(hg:GlE w):Calls Tryz.prog 23 #[coV c v] w fun e w'=>∃ u,e=.returned (.tuple #[coV (coreF c).1 u,.int .i64 (coreF c).2])/\CSits w' (coreF c).1 u/\Below w.heap.size w w':=by
 have HNo:=chid (fun W (hW:Below w.heap.size w W)=>cnodes_c c v W (hs.next hW))
 have HSo:=chid (fun W (hn:cnodes c<=8192) (hW:Below w.heap.size w W)=>sortOf_c c v W (hs.next hW) hn)
 have HFo:=chid (fun W fb (hn:cnodes c<=8192) (hz:sM c≠0) (hb:Box W fb [foV fb]) (hW:Below w.heap.size w W)=>fold_all c v fb W (hs.next hW) hb (GlE.next hg hW) hz hn)
 obtain⟨ad,cap,rfl,-,-⟩:=hs.parts.shape
 obtain⟨Y0,Y1,Y2⟩:=two_boxes w 30 30 (coL c (.slice ad c.parts.length cap)) [.int .i64 0,.int .i64 0,.int .i64 0,.slice none 0 0]
 have HY0:=chid Y0
 have HY1:=chid Y1
 have B0:=chid Y2
 clear hs hg Y0 Y1 Y2
 obtain⟨q,hq⟩:∃ q,Hid (q=coreF c):=⟨_,rfl⟩
 rw[<-hq.out]
 have hbad:Hid (¬(cnodes c<=4096/\sM c≠0)->q=(co0,1)):=fun h=>by rw[hq.out];exact if_neg h
 have hgood:Hid (cnodes c<=4096->sM c≠0->q=(foldF c,0)):=fun h1 h2=>by rw[hq.out];exact if_pos ⟨h1,h2⟩
 clear hq
 by_cases h4:cnodes c<=4096
 case neg=>
  obtain rfl:=hbad.out (fun h=>h4 h.1)
  have e1:cndsV c=.int .i64 4097:=by unfold cndsV;rw[show min (cnodes c) 4097=4097 by omega];rfl
  rw[e1] at HNo
  clear hbad hgood HSo HFo e1
  go_enter Tryz.func23,Tryz.ntmps23
  go_wp2_with fail
  refine Calls.mono (HNo.out _ B0.out) ?_
  rintro e w1 ⟨rfl,b1⟩
  have B1:=chid (cbelow_on B0.out b1 B0.out.size)
  have Y1:=HY1.out.next b1
  clear b1 HNo
  have y0:=Y1.cell 0 _ rfl
  have y1:=Y1.cell 1 _ rfl
  have y2:=Y1.cell 2 _ rfl
  have y3:=Y1.cell 3 _ rfl
  have g0:=Y1.free 0 (by simp)
  have g1:=Y1.free 1 (by simp)
  have g2:=Y1.free 2 (by simp)
  have g3:=Y1.free 3 (by simp)
  have yl:=Y1.lt
  clear Y1
  go_wp2_with fail
  refine bodyPost_ret (v:=.tuple #[coV co0 (.slice none 0 0),.int .i64 1]) (by simp[results,Tryz.results23,go_sem, *]) rfl ?_
  exact⟨_,rfl,(CSP.leaf (ok:=fun _=>True) _ ⟨zero_64,zero_64,zero_64⟩).sits,((((B1.out.setCell (p:=⟨w.heap.size+1,0,none⟩) (by simp) _).setCell (p:=⟨w.heap.size+1,1,none⟩) (by simp) _).setCell (p:=⟨w.heap.size+1,2,none⟩) (by simp) _).setCell (p:=⟨w.heap.size+1,3,none⟩) (by simp) _)⟩
 obtain⟨N,hN⟩:∃ N:Nat,N=cnodes c:=⟨_,rfl⟩
 have e1:cndsV c=.int .i64 (N:Nat):=by unfold cndsV;rw[show min (cnodes c) 4097=N by omega]
 rw[e1] at HNo
 have hN4:¬(4096:Int)<(N:Int):=by omega
 have HS2:=chid (fun W=>HSo.out W (by omega))
 have HF2:=chid (fun W fb=>HFo.out W fb (by omega))
 have hg2:=chid (hgood.out h4)
 clear HSo HFo hgood e1 hN
 by_cases hz:sM c=0
 ·obtain rfl:=hbad.out (fun h=>h.2 hz)
  rw[hz] at HS2
  clear hbad hg2 HF2 hz
  go_enter Tryz.func23,Tryz.ntmps23
  go_wp2_with fail
  refine Calls.mono (HNo.out _ B0.out) ?_
  rintro e w1 ⟨rfl,b1⟩
  have B1:=chid (cbelow_on B0.out b1 B0.out.size)
  have Y1:=chid (HY1.out.next b1)
  have Y0:=chid (HY0.out.next b1)
  clear b1 HNo
  have x0:=Y0.out.cell 0 _ rfl
  have x1:=Y0.out.cell 1 _ rfl
  have x2:=Y0.out.cell 2 _ rfl
  have x3:=Y0.out.cell 3 _ rfl
  have xl:=Y0.out.lt
  go_wp2_with fail
  refine Calls.mono (HS2.out _ B1.out) ?_
  rintro e w2 ⟨rfl,b2⟩
  have B2:=chid (cbelow_on B1.out b2 B1.out.size)
  replace Y1:=chid (Y1.out.next b2)
  clear x0 x1 x2 x3 xl b2 HS2 Y0
  have y0:=Y1.out.cell 0 _ rfl
  have y1:=Y1.out.cell 1 _ rfl
  have y2:=Y1.out.cell 2 _ rfl
  have y3:=Y1.out.cell 3 _ rfl
  have g0:=Y1.out.free 0 (by simp)
  have g1:=Y1.out.free 1 (by simp)
  have g2:=Y1.out.free 2 (by simp)
  have g3:=Y1.out.free 3 (by simp)
  have yl:=Y1.out.lt
  go_wp2_with fail
  refine bodyPost_ret (v:=.tuple #[coV co0 (.slice none 0 0),.int .i64 1]) (by simp[results,Tryz.results23,go_sem, *]) rfl ?_
  exact⟨_,rfl,(CSP.leaf (ok:=fun _=>True) _ ⟨zero_64,zero_64,zero_64⟩).sits,((((B2.out.setCell (p:=⟨w.heap.size+1,0,none⟩) (by simp) _).setCell (p:=⟨w.heap.size+1,1,none⟩) (by simp) _).setCell (p:=⟨w.heap.size+1,2,none⟩) (by simp) _).setCell (p:=⟨w.heap.size+1,3,none⟩) (by simp) _)⟩
 obtain rfl:=hg2.out hz
 have HF3:=chid (fun W fb=>HF2.out W fb hz)
 have hz':(sM c==0)=false:=by simpa using hz
 clear hbad hg2 HF2 hz
 generalize sM c=sm at *
 go_enter Tryz.func23,Tryz.ntmps23
 go_wp2_with fail
 refine Calls.mono (HNo.out _ B0.out) ?_
 rintro e w1 ⟨rfl,b1⟩
 have B1:=chid (cbelow_on B0.out b1 B0.out.size)
 have Y1:=chid (HY1.out.next b1)
 have Y0:=chid (HY0.out.next b1)
 clear b1 HNo
 have x0:=Y0.out.cell 0 _ rfl
 have x1:=Y0.out.cell 1 _ rfl
 have x2:=Y0.out.cell 2 _ rfl
 have x3:=Y0.out.cell 3 _ rfl
 have xl:=Y0.out.lt
 go_wp2_with fail
 refine Calls.mono (HS2.out _ B1.out) ?_
 rintro e w2 ⟨rfl,b2⟩
 have B2:=chid (cbelow_on B1.out b2 B1.out.size)
 replace Y1:=chid (Y1.out.next b2)
 replace Y0:=chid (Y0.out.next b2)
 clear x0 x1 x2 x3 xl b2 HS2
 have x0:=Y0.out.cell 0 _ rfl
 have x1:=Y0.out.cell 1 _ rfl
 have x2:=Y0.out.cell 2 _ rfl
 have x3:=Y0.out.cell 3 _ rfl
 have xl:=Y0.out.lt
 go_wp2_with fail
 obtain⟨D,hD⟩:∃ D,Hid (D=foldF c):=⟨_,rfl⟩
 rw[<-hD.out] at HF3
 have hD2:Hid (foldF c=D):=hD.out.symm
 clear hD
 go_region_held3 (fun w'=>w'.cell? ⟨w.heap.size,0,none⟩=some (.int .i64 c.op)/\w'.cell? ⟨w.heap.size,1,none⟩=some (.int .i64 c.n)/\w'.cell? ⟨w.heap.size,2,none⟩=some (.int .i64 c.m)/\w'.cell? ⟨w.heap.size,3,none⟩=some (.slice ad c.parts.length cap)) (simp[go_sem, *]) (first|(go_at_call 50;refine Calls.mono (folder_c _) ?_;rintro e w3 ⟨fb,rfl,hfb,b3⟩;have gg:=fun p v hp hv=>(b3.cell (p:=p) hp).trans (hv:w2.cell? p=some v);replace x0:=gg _ _ xl x0;replace x1:=gg _ _ xl x1;replace x2:=gg _ _ xl x2;replace x3:=gg _ _ xl x3;replace xl:w.heap.size<w3.heap.size:=Nat.lt_of_lt_of_le xl b3.size;have B3:=chid (cbelow_on B2.out (b:=w3) (⟨b3.os,b3.tape,b3.output,b3.size,b3.block⟩) B2.out.size);have Y3:=chid (Y1.out.next (w':=w3) (⟨b3.os,b3.tape,b3.output,b3.size,b3.block⟩));have HFb:=chid hfb;clear gg b3 hfb)|(go_at_call 88;refine Calls.mono (HF3.out _ fb HFb.out B3.out) ?_;rintro e w4 ⟨u,rfl,hu,b4⟩;have gg:=fun p v hp hv=>(b4.cell (p:=p) hp).trans (hv:w3.cell? p=some v);replace x0:=gg _ _ xl x0;replace x1:=gg _ _ xl x1;replace x2:=gg _ _ xl x2;replace x3:=gg _ _ xl x3;replace xl:w.heap.size<w4.heap.size:=Nat.lt_of_lt_of_le xl b4.size;have B4:=chid (cbelow_on B3.out b4 B3.out.size);have Y4:=Y3.out.next b4;have y0:=Y4.cell 0 _ rfl;have g0:=Y4.free 0 (by simp);have y1:=Y4.cell 1 _ rfl;have g1:=Y4.free 1 (by simp);have y2:=Y4.cell 2 _ rfl;have g2:=Y4.free 2 (by simp);have y3:=Y4.cell 3 _ rfl;have g3:=Y4.free 3 (by simp);have yl:=Y4.lt;have HU:=chid hu;obtain⟨ua,uc,rfl,-,-⟩:=hu.parts.shape;have hyo:w.heap.size+1<w3.heap.size:=Y3.out.lt;have HYo:=chid hyo;clear gg b4 hu Y4 hyo))
 clear x0 x1 x2 x3 xl
 go_wp2_with fail
 refine bodyPost_ret (v:=.tuple #[coV D (.slice ua D.parts.length uc),.int .i64 0]) (by simp[results,Tryz.results23,go_sem, *]) rfl ?_
 have T:Turn [w.heap.size+1] w4 ((((w4.setCell ⟨w.heap.size+1,0,none⟩ (.int .i64 D.op)).setCell ⟨w.heap.size+1,1,none⟩ (.int .i64 D.n)).setCell ⟨w.heap.size+1,2,none⟩ (.int .i64 D.m)).setCell ⟨w.heap.size+1,3,none⟩ (.slice ua D.parts.length uc)):=
  cturn_one (cturn_one (cturn_one (cturn_set w4 _ _ _) (cturn_set _ _ _ _)) (cturn_set _ _ _ _)) (cturn_set _ _ _ _)
 refine⟨_,by rw[hD2.out],?_,((((B4.out.setCell (p:=⟨w.heap.size+1,0,none⟩) (by simp) _).setCell (p:=⟨w.heap.size+1,1,none⟩) (by simp) _).setCell (p:=⟨w.heap.size+1,2,none⟩) (by simp) _).setCell (p:=⟨w.heap.size+1,3,none⟩) (by simp) _)⟩
 show CSits _ (foldF c) _
 rw[hD2.out]
 exact(CSP.keep (ok':=fun _=>True) T.size (fun b hb hB=>⟨trivial,fun j=>cturn_cell T hb (by have:=HYo.out;simp at *;omega)⟩) _ _ HU.out).sits
end Go.Proofs.YtepncopdjodfgaaGreatDoor
