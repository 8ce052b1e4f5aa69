import Derived.Test.YtepncopdjodfgaaGreatDoorFwB
namespace Go.Proofs.YtepncopdjodfgaaGreatDoor
open Go.RowKit
theorem whole_c (E:EnvP)(hE:EnvOk E)(t:Co):Lies t->cnodes t<=8192->(srt E t=1\/srt E t=2)->WhC E t:=by
 induction t using Co.ind with
 | h t ih=>
   intro hl hn h12
   have hz:csort ladF E.wins.length E.crons.length 256 t≠0:=fun e=>by have e':srt E t=0:=e;omega
   obtain⟨k,hop,h1,h2,hb,hp,hs⟩:=shp_of hz
   by_cases h4:k=4
   ·subst h4
    have hf:(belowB t.n E.wins.length&&decide (t.m=0))=true:=hb
    exact whole_win E t hop (by simp[belowB] at hf;omega)
   by_cases h5:k=5
   ·subst h5
    have hf:(belowB t.n E.crons.length&&decide (t.m=0))=true:=hb
    exact whole_cron E t hop (by simp[belowB] at hf;omega)
   by_cases h3:k=3
   ·subst h3
    exact whole_rep E t hop (rEval_all E hE t hl h12) (good_all E hE t hl hz).1
   refine whole_step E t ⟨by omega,by omega,by omega⟩ (fo_len hn) (fun x hx=>ih x hx (hl.parts hx) (by have:=cnodes_part hx;omega) ?_)
   exact whole_parts h12 hs hx
theorem core_good18 {c:Co}(hn:cnodes c<=4096)(hz:sM c≠0):coreF c=(foldF c,0):=if_pos ⟨hn,hz⟩
set_option maxHeartbeats 1000000 in
set_option maxRecDepth 20000 in
theorem foldWhole_c (t:Co)(v:Value)(E:EnvP)(v1 v2:Value)(w:World)(hs:CSits w t v)(he:EnvAt w E v1 v2)(hg:GlE w):Calls Tryz.prog 11 #[coV t v,envV E v1 v2] w fun e w'=>e=.returned (.bool true)/\Below w.heap.size w w':=by
 have HS:=chid hs
 have HE:=chid he
 have HG:=chid hg
 have HAw:=chid (fun W (hW:Below w.heap.size w W)=>awake18_c W (GlE.next hg hW))
 have HSm:=chid (fun W (hW:Below w.heap.size w W)=>small18_c t v W (hs.next hW))
 have H64:Hid (C64 E.wins.length/\C64 E.crons.length/\C64 256):=chid ⟨⟨by omega,by have:=he.ok.wl;omega⟩,⟨by omega,by have:=he.ok.cl;omega⟩,by unfold C64;decide⟩
 have hL1:E.wins.length<=9223372036854775807:=he.ok.wl
 have hL2:E.crons.length<=9223372036854775807:=he.ok.cl
 obtain⟨ad,cap,rfl,-,-⟩:=hs.parts.shape
 obtain⟨a1,c1,a2,c2,rfl,rfl⟩:=he.shape
 obtain⟨Y0,Y1,B0⟩:=two_boxes w 30 40 (coL t (.slice ad t.parts.length cap)) [.int .i64 E.rep,.slice a1 E.wins.length c1,.slice a2 E.crons.length c2]
 have HY0:=chid Y0
 have HY1:=chid Y1
 have HB0:=chid B0
 clear hs he hg Y0 Y1 B0
 go_enter Tryz.func11,Tryz.ntmps11
 go_wp2_with fail
 refine Calls.mono (HAw.out _ HB0.out) ?_
 rintro e w1 ⟨rfl,b1⟩
 have B1:=chid (cbelow_on HB0.out b1 HB0.out.size)
 replace HY0:=chid (HY0.out.next b1)
 replace HY1:=chid (HY1.out.next b1)
 clear b1 HB0
 have x0:=HY0.out.cell 0 _ rfl
 have x1:=HY0.out.cell 1 _ rfl
 have x2:=HY0.out.cell 2 _ rfl
 have x3:=HY0.out.cell 3 _ rfl
 have xl:=HY0.out.lt
 go_wp2_with fail
 refine Calls.mono (HSm.out _ B1.out) ?_
 rintro e w2 ⟨rfl,b2⟩
 have B2:=chid (cbelow_on B1.out b2 B1.out.size)
 replace HY0:=chid (HY0.out.next b2)
 replace HY1:=chid (HY1.out.next b2)
 clear b2 B1 x0 x1 x2 x3 xl HSm
 by_cases hn:cnodes t<=4096
 case neg=>
  rw[decide_eq_false hn]
  go_wp2_with fail
  refine Calls.mono (HAw.out _ B2.out) ?_
  rintro e w3 ⟨rfl,b3⟩
  have B3:=chid (cbelow_on B2.out b3 B2.out.size)
  clear b3
  go_wp2_with fail
  go_ret
  exact⟨rfl,B3.out⟩
 rw[decide_eq_true hn]
 clear HAw
 have x0:=HY0.out.cell 0 _ rfl
 have x1:=HY0.out.cell 1 _ rfl
 have x2:=HY0.out.cell 2 _ rfl
 have x3:=HY0.out.cell 3 _ rfl
 have xl:=HY0.out.lt
 have v0:=HY1.out.cell 0 _ rfl
 have v1:=HY1.out.cell 1 _ rfl
 have v2:=HY1.out.cell 2 _ rfl
 have vl:=HY1.out.lt
 go_wp2_with fail
 obtain⟨L,hL⟩:∃ L,Hid (L=E.wins.length):=⟨_,rfl⟩
 rw[<-hL.out] at v1 hL1 HY1 ⊢
 have HX:Hid (∀ i,i<L->∃ b off,a1=some ⟨b,off,none⟩/\b<w.heap.size/\w.cell? ⟨b,off+i*2,none⟩=some (.int .i64 (E.wins.getD i (0,0)).1)):=fun i hi=>by
  obtain⟨ad',cap',e,hx⟩:=HE.out.wins
  simp only[Value.slice.injEq] at e
  obtain⟨rfl,-,rfl⟩:=e
  rcases hx with h | ⟨b,off,rfl,hbl,hc⟩
  ·rw[hL.out,h] at hi;simp at hi
  ·exact⟨b,off,rfl,hbl,(hc i (by rw[<-hL.out];exact hi)).1⟩
 go_loopw [5] (fun i wr=>∃ k:Nat,i=.int .i64 (k:Nat)/\k<=L/\Hid (∀ j,j<k->0<=(E.wins.getD j (0,0)).1/\(E.wins.getD j (0,0)).1<=3)/\Hid (Below w2.heap.size w2 wr)) (fun i _=>match i with | .int _ p=>((L:Int)-p).toNat | _=>0)
 case atStart=>exact⟨0,rfl,by omega,chid (fun j hj=>by omega),chid (Below.refl _ _)⟩
 case round=>
  obtain⟨k,rfl,hk,HQ,HWr⟩:=hrel
  have BW:=chid (cbelow_on B2.out HWr.out B2.out.size)
  have v1w:=(HWr.out.cell (p:=⟨w.heap.size+1,1,none⟩) vl).trans v1
  have v2w:=(HWr.out.cell (p:=⟨w.heap.size+1,2,none⟩) vl).trans v2
  have vlw:=Nat.lt_of_lt_of_le vl HWr.out.size
  by_cases hlt:k<L
  ·have hlt':(k:Int)<(L:Int):=by omega
   obtain⟨b,off,rfl,hbl,hc⟩:=HX.out k hlt
   have r0:=keepc BW.out hc
   have lbr:b<wr.heap.size:=World.block_lt_of_cell? wr _ r0
   have HNx:Hid (0<=(E.wins.getD k (0,0)).1->(E.wins.getD k (0,0)).1<=3->∀ j,j<k+1->0<=(E.wins.getD j (0,0)).1/\(E.wins.getD j (0,0)).1<=3):=fun h1 h2 j hj=>by
    by_cases e:j=k
    ·rw[e];exact⟨h1,h2⟩
    ·exact HQ.out j (by omega)
   generalize (E.wins.getD k (0,0)).1=q at *
   by_cases hq0:0<=q
   case neg=>
    have hq0':q<0:=by omega
    have hq0d:decide (q<0)=true:=decide_eq_true hq0'
    clear HNx HQ
    go_wp2_with fail
    go_ret
    exact⟨rfl,by first | exact BW.out | exact BW.out.drew | exact cdrewN BW.out _⟩
   have hq0':¬ q<0:=by omega
   have hq0d:decide (q<0)=false:=decide_eq_false hq0'
   by_cases hq3:q<=3
   case neg=>
    have hq3':3<q:=by omega
    have hq3d:decide (3<q)=true:=decide_eq_true hq3'
    clear HNx HQ
    go_wp2_with fail
    go_ret
    exact⟨rfl,by first | exact BW.out | exact BW.out.drew | exact cdrewN BW.out _⟩
   have hq3':¬ 3<q:=by omega
   have hq3d:decide (3<q)=false:=decide_eq_false hq3'
   have HN2:=chid (HNx.out hq0 hq3)
   clear HNx HQ hq0 hq3
   go_wp2_with fail
   go_roundw
   case rel=>exact⟨k+1,by go_num,by omega,HN2,by first | exact HWr | exact chid HWr.out.drew | exact chid (cdrewN HWr.out _)⟩
   case measure=>simp;omega
  ·have hlt':¬(k:Int)<(L:Int):=by omega
   have hF3:Fine3 E:=fun i=>by
    by_cases hi:i<L
    ·exact HQ.out i (by omega)
    ·have e:E.wins.getD i (0,0)=(0,0):=by rw[List.getD_eq_getElem?_getD,List.getElem?_eq_none (by rw[<-hL.out];omega)];rfl
     rw[e];decide
   have HSo:=chid (fun W (hW:Below w.heap.size w W)=>rSort_f E.wins.length E.crons.length 256 H64.out t _ W (HS.out.next hW) (by omega))
   rw[<-hL.out] at HSo
   have x0w:=(HWr.out.cell (p:=⟨w.heap.size,0,none⟩) xl).trans x0
   have x1w:=(HWr.out.cell (p:=⟨w.heap.size,1,none⟩) xl).trans x1
   have x2w:=(HWr.out.cell (p:=⟨w.heap.size,2,none⟩) xl).trans x2
   have x3w:=(HWr.out.cell (p:=⟨w.heap.size,3,none⟩) xl).trans x3
   have xlw:=Nat.lt_of_lt_of_le xl HWr.out.size
   replace HY0:=chid (HY0.out.next HWr.out)
   replace HY1:=chid (HY1.out.next HWr.out)
   clear x0 x1 x2 x3 xl v0 v1 v2 vl HWr HQ HX
   go_wp2_with fail
   refine Calls.mono (HSo.out _ BW.out) ?_
   rintro e w4 ⟨rfl,b4⟩
   have B4:=chid (cbelow_on BW.out b4 BW.out.size)
   replace HY0:=chid (HY0.out.next b4)
   replace HY1:=chid (HY1.out.next b4)
   clear b4 HSo x0w x1w x2w x3w xlw v1w v2w vlw
   obtain⟨sr,hsr⟩:∃ sr,Hid (sr=csort ladF E.wins.length E.crons.length 256 t):=⟨_,rfl⟩
   have hsr2:csort ladF L E.crons.length 256 t=sr:=by rw[hsr.out,hL.out]
   rw[hsr2]
   clear hsr2
   by_cases h12:sr=1\/sr=2
   case neg=>
    have e1:(sr != 1)=true:=by simp;omega
    have e2:(sr != 2)=true:=by simp;omega
    go_wp2_with fail
    go_ret
    exact⟨rfl,B4.out⟩
   have h12s:srt E t=1\/srt E t=2:=by show csort _ _ _ _ _=1\/csort _ _ _ _ _=2;rw[<-hsr.out];exact h12
   obtain⟨hw1,hw2⟩:=whole_all E hF3 t h12s
   have hwn:=whole_nodes E t
   have HWh:=chid (fun W (hW:Below w.heap.size w W)=>whole_c E HE.out.ok t ⟨w,_,HS.out⟩ (by omega) h12s _ _ _ W (HS.out.next hW) (HE.out.next hW))
   have HFc:=chid (fun W u (hW:Below w.heap.size w W) (hu:CSits W (wholeF E t) u)=>fCore_c (wholeF E t) u W hu (GlE.next HG.out hW))
   rw[core_good18 (by omega) (by rw[hw1];omega),hw2] at HFc
   have HEv:=chid (fun W (hW:Below w.heap.size w W)=>rEval_all E HE.out.ok t ⟨w,_,HS.out⟩ h12s _ _ _ W (HS.out.next hW) (HE.out.next hW))
   have hsk:srt E t=sr:=hsr.out.symm
   rw[hsk] at HFc
   have hT:=good_all E HE.out.ok t ⟨w,_,HS.out⟩ (by rw[hsk];omega)
   have hT0:=tel_zero E t
   dsimp only at HFc
   rw[<-hL.out] at HEv HWh
   clear hw1 hw2 hwn hn h12s hsk hsr HS HG H64 HE
   generalize wholeF E t=D at *
   generalize telV E t=tv at *
   obtain⟨tn,tr⟩:=tv
   rcases h12 with rfl | rfl
   ·have x0:=HY0.out.cell 0 _ rfl
    have x1:=HY0.out.cell 1 _ rfl
    have x2:=HY0.out.cell 2 _ rfl
    have x3:=HY0.out.cell 3 _ rfl
    have xl:=HY0.out.lt
    have v0:=HY1.out.cell 0 _ rfl
    have v1:=HY1.out.cell 1 _ rfl
    have v2:=HY1.out.cell 2 _ rfl
    have vl:=HY1.out.lt
    go_wp2_with fail
    refine Calls.mono (HWh.out _ B4.out) ?_
    rintro e w5 ⟨u,rfl,hu,b5⟩
    have B5:=chid (cbelow_on B4.out b5 B4.out.size)
    have HU:=chid (CSP.sits _ _ hu)
    obtain⟨ua,uc,rfl,-,-⟩:=hu.parts.shape
    replace HY0:=chid (HY0.out.next b5)
    replace HY1:=chid (HY1.out.next b5)
    clear hu b5 B4 HWh x0 x1 x2 x3 xl v0 v1 v2 vl
    go_wp2_with fail
    refine Calls.mono (HFc.out _ _ B5.out HU.out) ?_
    rintro e w6 ⟨u,rfl,hu,b6⟩
    obtain⟨va,vc,rfl,-,-⟩:=hu.parts.shape
    obtain⟨K,hK⟩:∃ K,Hid (K=kon 1 (tn,tr)):=⟨_,rfl⟩
    rw[<-hK.out] at hu ⊢
    have BD:Below w6.heap.size w6 (w6.alloc (.cells (coL K (.slice va K.parts.length vc)).toArray 30)):=(Below.refl _ _).alloc (Nat.le_refl _) _
    have B6:=chid (cbelow_on (cbelow_on B5.out b6 B5.out.size) BD (Nat.le_trans B5.out.size b6.size))
    have XD:=chid (Box.new w6 (coL K (.slice va K.parts.length vc)) 30)
    have HV:=chid (hu.next BD)
    replace HY0:=chid ((HY0.out.next b6).next BD)
    replace HY1:=chid ((HY1.out.next b6).next BD)
    obtain⟨db,hdb⟩:∃ rb,Hid (rb=w6.heap.size):=⟨_,rfl⟩
    rw[<-hdb.out] at XD
    clear hu b6 BD B5 HFc HU
    have x0:=HY0.out.cell 0 _ rfl
    have x1:=HY0.out.cell 1 _ rfl
    have x2:=HY0.out.cell 2 _ rfl
    have x3:=HY0.out.cell 3 _ rfl
    have xl:=HY0.out.lt
    have v0:=HY1.out.cell 0 _ rfl
    have v1:=HY1.out.cell 1 _ rfl
    have v2:=HY1.out.cell 2 _ rfl
    have vl:=HY1.out.lt
    go_wp2_with fail
    rw[<-hdb.out]
    generalize hW7:w6.alloc _=w7 at *
    clear hW7
    refine Calls.mono (HEv.out _ B6.out) ?_
    rintro e w8 ⟨rfl,b8⟩
    have B8:=chid (cbelow_on B6.out b8 B6.out.size)
    replace XD:=chid (XD.out.next b8)
    replace HV:=chid (HV.out.next b8)
    clear b8 HEv B6 x0 x1 x2 x3 xl v0 v1 v2 vl
    by_cases htr:tr=0
    ·subst htr
     have hK2:K=⟨1,tn,0,[]⟩:=hK.out.trans (kon_ok rfl)
     subst hK2
     have d0:=XD.out.cell 0 _ rfl
     have d1:=XD.out.cell 1 _ rfl
     have d2:=XD.out.cell 2 _ rfl
     have d3:=XD.out.cell 3 _ rfl
     have dl:=XD.out.lt
     have HSa:=chid (fun o1 o2=>crSame_c (⟨1,tn,0,[]⟩:Co) (⟨1,tn,0,[]⟩:Co) (.slice va 0 vc) (.slice none 0 0) ((w8.alloc o1).alloc o2) true ⟨fun _=>rfl,fun _=>rfl⟩ (HV.out.next (((Below.refl _ _).alloc (Nat.le_refl _) o1).alloc (by simp) o2)) (CSP.leaf (ok:=fun _=>True) _ HV.out.fit).sits)
     have HAl:=chid (fun o1 o2=>(B8.out.alloc B8.out.size o1).alloc (by have:=B8.out.size;simp;omega) o2)
     go_wp2_with fail
     refine Calls.mono (HSa.out _ _) ?_
     rintro e w9 ⟨rfl,b9⟩
     have B9:=chid (cbelow_on (HAl.out _ _) b9 (HAl.out _ _).size)
     go_wp2_with fail
     go_ret
     exact⟨rfl,B9.out⟩
    ·have hK2:K=⟨6,tr,1,[]⟩:=hK.out.trans (kon_no htr)
     have htb:(tr != 0)=true:=by simpa using htr
     have htb2:(tr==0)=false:=by simpa using htr
     subst hK2
     have d0:=XD.out.cell 0 _ rfl
     have d1:=XD.out.cell 1 _ rfl
     have d2:=XD.out.cell 2 _ rfl
     have d3:=XD.out.cell 3 _ rfl
     have dl:=XD.out.lt
     have HSa:=chid (fun o1 o2=>crSame_c (⟨6,tr,1,[]⟩:Co) (⟨6,tr,1,[]⟩:Co) (.slice va 0 vc) (.slice none 0 0) ((w8.alloc o1).alloc o2) true ⟨fun _=>rfl,fun _=>rfl⟩ (HV.out.next (((Below.refl _ _).alloc (Nat.le_refl _) o1).alloc (by simp) o2)) (CSP.leaf (ok:=fun _=>True) _ HV.out.fit).sits)
     have HAl:=chid (fun o1 o2=>(B8.out.alloc B8.out.size o1).alloc (by have:=B8.out.size;simp;omega) o2)
     go_wp2_with fail
     refine Calls.mono (HSa.out _ _) ?_
     rintro e w9 ⟨rfl,b9⟩
     have B9:=chid (cbelow_on (HAl.out _ _) b9 (HAl.out _ _).size)
     go_wp2_with fail
     go_ret
     exact⟨rfl,B9.out⟩
   ·have x0:=HY0.out.cell 0 _ rfl
    have x1:=HY0.out.cell 1 _ rfl
    have x2:=HY0.out.cell 2 _ rfl
    have x3:=HY0.out.cell 3 _ rfl
    have xl:=HY0.out.lt
    have v0:=HY1.out.cell 0 _ rfl
    have v1:=HY1.out.cell 1 _ rfl
    have v2:=HY1.out.cell 2 _ rfl
    have vl:=HY1.out.lt
    go_wp2_with fail
    refine Calls.mono (HWh.out _ B4.out) ?_
    rintro e w5 ⟨u,rfl,hu,b5⟩
    have B5:=chid (cbelow_on B4.out b5 B4.out.size)
    have HU:=chid (CSP.sits _ _ hu)
    obtain⟨ua,uc,rfl,-,-⟩:=hu.parts.shape
    replace HY0:=chid (HY0.out.next b5)
    replace HY1:=chid (HY1.out.next b5)
    clear hu b5 B4 HWh x0 x1 x2 x3 xl v0 v1 v2 vl
    go_wp2_with fail
    refine Calls.mono (HFc.out _ _ B5.out HU.out) ?_
    rintro e w6 ⟨u,rfl,hu,b6⟩
    obtain⟨va,vc,rfl,-,-⟩:=hu.parts.shape
    obtain⟨K,hK⟩:∃ K,Hid (K=kon 2 (tn,tr)):=⟨_,rfl⟩
    rw[<-hK.out] at hu ⊢
    have BD:Below w6.heap.size w6 (w6.alloc (.cells (coL K (.slice va K.parts.length vc)).toArray 30)):=(Below.refl _ _).alloc (Nat.le_refl _) _
    have B6:=chid (cbelow_on (cbelow_on B5.out b6 B5.out.size) BD (Nat.le_trans B5.out.size b6.size))
    have XD:=chid (Box.new w6 (coL K (.slice va K.parts.length vc)) 30)
    have HV:=chid (hu.next BD)
    replace HY0:=chid ((HY0.out.next b6).next BD)
    replace HY1:=chid ((HY1.out.next b6).next BD)
    obtain⟨db,hdb⟩:∃ rb,Hid (rb=w6.heap.size):=⟨_,rfl⟩
    rw[<-hdb.out] at XD
    clear hu b6 BD B5 HFc HU
    have x0:=HY0.out.cell 0 _ rfl
    have x1:=HY0.out.cell 1 _ rfl
    have x2:=HY0.out.cell 2 _ rfl
    have x3:=HY0.out.cell 3 _ rfl
    have xl:=HY0.out.lt
    have v0:=HY1.out.cell 0 _ rfl
    have v1:=HY1.out.cell 1 _ rfl
    have v2:=HY1.out.cell 2 _ rfl
    have vl:=HY1.out.lt
    go_wp2_with fail
    rw[<-hdb.out]
    generalize hW7:w6.alloc _=w7 at *
    clear hW7
    refine Calls.mono (HEv.out _ B6.out) ?_
    rintro e w8 ⟨rfl,b8⟩
    have B8:=chid (cbelow_on B6.out b8 B6.out.size)
    replace XD:=chid (XD.out.next b8)
    replace HV:=chid (HV.out.next b8)
    clear b8 HEv B6 x0 x1 x2 x3 xl v0 v1 v2 vl
    by_cases htr:tr=0
    ·subst htr
     have hK2:K=⟨2,tn,0,[]⟩:=hK.out.trans (kon_ok rfl)
     subst hK2
     have d0:=XD.out.cell 0 _ rfl
     have d1:=XD.out.cell 1 _ rfl
     have d2:=XD.out.cell 2 _ rfl
     have d3:=XD.out.cell 3 _ rfl
     have dl:=XD.out.lt
     have HSa:=chid (fun o1 o2=>crSame_c (⟨2,tn,0,[]⟩:Co) (⟨2,tn,0,[]⟩:Co) (.slice va 0 vc) (.slice none 0 0) ((w8.alloc o1).alloc o2) true ⟨fun _=>rfl,fun _=>rfl⟩ (HV.out.next (((Below.refl _ _).alloc (Nat.le_refl _) o1).alloc (by simp) o2)) (CSP.leaf (ok:=fun _=>True) _ HV.out.fit).sits)
     have HAl:=chid (fun o1 o2=>(B8.out.alloc B8.out.size o1).alloc (by have:=B8.out.size;simp;omega) o2)
     go_wp2_with fail
     refine Calls.mono (HSa.out _ _) ?_
     rintro e w9 ⟨rfl,b9⟩
     have B9:=chid (cbelow_on (HAl.out _ _) b9 (HAl.out _ _).size)
     go_wp2_with fail
     go_ret
     exact⟨rfl,B9.out⟩
    ·have hK2:K=⟨6,tr,2,[]⟩:=hK.out.trans (kon_no htr)
     have htb:(tr != 0)=true:=by simpa using htr
     have htb2:(tr==0)=false:=by simpa using htr
     subst hK2
     have d0:=XD.out.cell 0 _ rfl
     have d1:=XD.out.cell 1 _ rfl
     have d2:=XD.out.cell 2 _ rfl
     have d3:=XD.out.cell 3 _ rfl
     have dl:=XD.out.lt
     have HSa:=chid (fun o1 o2=>crSame_c (⟨6,tr,2,[]⟩:Co) (⟨6,tr,2,[]⟩:Co) (.slice va 0 vc) (.slice none 0 0) ((w8.alloc o1).alloc o2) true ⟨fun _=>rfl,fun _=>rfl⟩ (HV.out.next (((Below.refl _ _).alloc (Nat.le_refl _) o1).alloc (by simp) o2)) (CSP.leaf (ok:=fun _=>True) _ HV.out.fit).sits)
     have HAl:=chid (fun o1 o2=>(B8.out.alloc B8.out.size o1).alloc (by have:=B8.out.size;simp;omega) o2)
     go_wp2_with fail
     refine Calls.mono (HSa.out _ _) ?_
     rintro e w9 ⟨rfl,b9⟩
     have B9:=chid (cbelow_on (HAl.out _ _) b9 (HAl.out _ _).size)
     go_wp2_with fail
     go_ret
     exact⟨rfl,B9.out⟩
end Go.Proofs.YtepncopdjodfgaaGreatDoor
