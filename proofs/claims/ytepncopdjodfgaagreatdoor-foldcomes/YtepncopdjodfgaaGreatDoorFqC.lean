import Derived.Test.YtepncopdjodfgaaGreatDoorMfQ
import Derived.Test.YtepncopdjodfgaaGreatDoorFpA
import Derived.Test.YtepncopdjodfgaaGreatDoorChE
namespace Go.Proofs.YtepncopdjodfgaaGreatDoor
open Go.RowKit
theorem core_good {c:Co}(hn:cnodes c<=4096)(hz:sM c≠0):coreF c=(foldF c,0):=if_pos ⟨hn,hz⟩
set_option maxHeartbeats 1000000 in
set_option maxRecDepth 20000 in
theorem foldComes_c (t:Co)(v:Value)(E:EnvP)(v1 v2:Value)(w:World)(hs:CSits w t v)(he:EnvAt w E v1 v2)(hg:GlE w):Calls Tryz.prog 10 #[coV t v,envV E v1 v2] w fun e w'=>e=.returned (.bool true)/\Below w.heap.size w w':=by
 have HS:=chid hs
 have HE:=chid he
 have HG:=chid hg
 have HAw:=chid (fun W (hW:Below w.heap.size w W)=>awake18_c W (GlE.next hg hW))
 have HSm:=chid (fun W (hW:Below w.heap.size w W)=>small18_c t v W (hs.next hW))
 have H64:Hid (C64 E.wins.length/\C64 E.crons.length/\C64 256):=chid ⟨⟨by omega,by have:=he.ok.wl;omega⟩,⟨by omega,by have:=he.ok.cl;omega⟩,by unfold C64;decide⟩
 have hL1:E.wins.length<=9223372036854775807:=he.ok.wl
 have hL2:E.crons.length<=9223372036854775807:=he.ok.cl
 obtain⟨ad,cap,rfl,-,-⟩:=hs.parts.shape
 obtain⟨a1,c1,a2,c2,rfl,rfl⟩:=he.shape
 obtain⟨Y0,Y1,B0⟩:=two_boxes w 30 40 (coL t (.slice ad t.parts.length cap)) [.int .i64 E.rep,.slice a1 E.wins.length c1,.slice a2 E.crons.length c2]
 have HY0:=chid Y0
 have HY1:=chid Y1
 have HB0:=chid B0
 clear hs he hg Y0 Y1 B0
 go_enter Tryz.func10,Tryz.ntmps10
 go_wp2_with fail
 refine Calls.mono (HAw.out _ HB0.out) ?_
 rintro e w1 ⟨rfl,b1⟩
 have B1:=chid (cbelow_on HB0.out b1 HB0.out.size)
 replace HY0:=chid (HY0.out.next b1)
 replace HY1:=chid (HY1.out.next b1)
 clear b1 HB0
 have x0:=HY0.out.cell 0 _ rfl
 have x1:=HY0.out.cell 1 _ rfl
 have x2:=HY0.out.cell 2 _ rfl
 have x3:=HY0.out.cell 3 _ rfl
 have xl:=HY0.out.lt
 go_wp2_with fail
 refine Calls.mono (HSm.out _ B1.out) ?_
 rintro e w2 ⟨rfl,b2⟩
 have B2:=chid (cbelow_on B1.out b2 B1.out.size)
 replace HY0:=chid (HY0.out.next b2)
 replace HY1:=chid (HY1.out.next b2)
 clear b2 B1 x0 x1 x2 x3 xl HSm
 by_cases hn:cnodes t<=4096
 case neg=>
  rw[decide_eq_false hn]
  go_wp2_with fail
  refine Calls.mono (HAw.out _ B2.out) ?_
  rintro e w3 ⟨rfl,b3⟩
  have B3:=chid (cbelow_on B2.out b3 B2.out.size)
  clear b3
  go_wp2_with fail
  go_ret
  exact⟨rfl,B3.out⟩
 rw[decide_eq_true hn]
 clear HAw
 have HSo:=chid (fun W (hW:Below w.heap.size w W)=>rSort_f E.wins.length E.crons.length 256 H64.out t _ W (HS.out.next hW) (by omega))
 have x0:=HY0.out.cell 0 _ rfl
 have x1:=HY0.out.cell 1 _ rfl
 have x2:=HY0.out.cell 2 _ rfl
 have x3:=HY0.out.cell 3 _ rfl
 have xl:=HY0.out.lt
 have v0:=HY1.out.cell 0 _ rfl
 have v1:=HY1.out.cell 1 _ rfl
 have v2:=HY1.out.cell 2 _ rfl
 have vl:=HY1.out.lt
 go_wp2_with fail
 have BR:Below w2.heap.size w2 (w2.alloc (.cells #[.int .i64 E.wins.length,.int .i64 E.crons.length,.int .i64 256] 68)):=(Below.refl _ _).alloc (Nat.le_refl _) _
 have B3:=chid (cbelow_on B2.out BR B2.out.size)
 have HR:=chid (Box.new w2 [.int .i64 E.wins.length,.int .i64 E.crons.length,.int .i64 256] 68)
 replace HY0:=chid (HY0.out.next BR)
 replace HY1:=chid (HY1.out.next BR)
 obtain⟨rb,hrb⟩:∃ rb,Hid (rb=w2.heap.size):=⟨_,rfl⟩
 rw[<-hrb.out] at HR ⊢
 clear BR B2 x0 x1 x2 x3 xl v0 v1 v2 vl
 generalize hW3:w2.alloc _=w3 at *
 clear hW3
 refine Calls.mono (HSo.out _ B3.out) ?_
 rintro e w4 ⟨rfl,b4⟩
 have B4:=chid (cbelow_on B3.out b4 B3.out.size)
 replace HY0:=chid (HY0.out.next b4)
 replace HY1:=chid (HY1.out.next b4)
 replace HR:=chid (HR.out.next b4)
 clear b4 B3 HSo
 obtain⟨sr,hsr⟩:∃ sr,Hid (sr=csort ladF E.wins.length E.crons.length 256 t):=⟨_,rfl⟩
 rw[<-hsr.out]
 have v0:=HY1.out.cell 0 _ rfl
 have v1:=HY1.out.cell 1 _ rfl
 have v2:=HY1.out.cell 2 _ rfl
 have vl:=HY1.out.lt
 by_cases hz:sr=0
 ·subst hz
  go_wp2_with fail
  go_ret
  exact⟨rfl,B4.out⟩
 have hz':(sr==0)=false:=by simpa using hz
 by_cases hw:E.wins.length<=256
 case neg=>
  have hw':(256:Int)<(E.wins.length:Int):=by omega
  go_wp2_with fail
  go_ret
  exact⟨rfl,B4.out⟩
 by_cases hc:E.crons.length<=256
 case neg=>
  have hw':¬(256:Int)<(E.wins.length:Int):=by omega
  have hc':(256:Int)<(E.crons.length:Int):=by omega
  go_wp2_with fail
  go_ret
  exact⟨rfl,B4.out⟩
 have hw':¬(256:Int)<(E.wins.length:Int):=by omega
 have hc':¬(256:Int)<(E.crons.length:Int):=by omega
 have hs0:csort ladF E.wins.length E.crons.length 256 t≠0:=by rw[<-hsr.out];exact hz
 have hw6:(E.wins.length:Int)<=256:=by omega
 have hc6:(E.crons.length:Int)<=256:=by omega
 have hM:sM t≠0:=by show csort ladF 256 256 256 t≠0;rw[csort_more hw6 hc6 (Int.le_refl _) t hs0];exact hs0
 have hF:=fold_sort hw6 hc6 (Int.le_refl 256) t hs0
 have hT:=fold_tel hw6 hc6 (Int.le_refl 256) E t hs0
 have hK:=fold_nodes t
 have hM2:sM (foldF t)≠0:=by rw[show sM (foldF t)=sM t from fold_sort (by decide) (by decide) (by decide) t hM];exact hM
 have hA:=fold_again t
 have HC1:=chid (fun W (hW:Below w.heap.size w W)=>fCore_c t _ W (HS.out.next hW) (GlE.next HG.out hW))
 rw[core_good hn hM] at HC1
 have HC2:=chid (fun W u (hW:Below w.heap.size w W) (hu:CSits W (foldF t) u)=>fCore_c (foldF t) u W hu (GlE.next HG.out hW))
 rw[core_good (by omega) hM2,hA] at HC2
 have HNd:=chid (fun W u (hu:CSits W (foldF t) u)=>crNodes_c (foldF t) u W hu)
 have HNt:=chid (fun W (hW:Below w.heap.size w W)=>crNodes_c t _ W (HS.out.next hW))
 have HSd:=chid (fun W u (hu:CSits W (foldF t) u)=>rSort_f E.wins.length E.crons.length 256 H64.out (foldF t) u W hu (by omega))
 rw[hF,<-hsr.out] at HSd
 have HLe:Hid ((min (cnodes (foldF t)) 4097:Nat)<=(min (cnodes t) 4097:Nat)):=chid (by omega)
 dsimp only at HC1 HC2
 unfold cndsV at HNd HNt
 have HAc:=chid (fun (h3:sr=3) W (hW:Below w.heap.size w W)=>rAct_all E HE.out.ok t ⟨w,_,HS.out⟩ (by show csort _ _ _ _ _=3;rw[<-hsr.out];exact h3) _ _ _ W (HS.out.next hW) (HE.out.next hW))
 have HAd:=chid (fun (h3:sr=3) W u (hW:Below w.heap.size w W) (hu:CSits W (foldF t) u)=>rAct_all E HE.out.ok (foldF t) ⟨W,u,hu⟩ (by show csort _ _ _ _ _=3;rw[hF,<-hsr.out];exact h3) u _ _ W hu (HE.out.next hW))
 have HEc:=chid (fun (h3:sr=1\/sr=2) W (hW:Below w.heap.size w W)=>rEval_all E HE.out.ok t ⟨w,_,HS.out⟩ (by show csort _ _ _ _ _=1\/csort _ _ _ _ _=2;rw[<-hsr.out];exact h3) _ _ _ W (HS.out.next hW) (HE.out.next hW))
 have HEd:=chid (fun (h3:sr=1\/sr=2) W u (hW:Below w.heap.size w W) (hu:CSits W (foldF t) u)=>rEval_all E HE.out.ok (foldF t) ⟨W,u,hu⟩ (by show csort _ _ _ _ _=1\/csort _ _ _ _ _=2;rw[hF,<-hsr.out];exact h3) u _ _ W hu (HE.out.next hW))
 rw[hT] at HAd HEd
 have h123:sr=3\/(sr≠3/\(sr=1\/sr=2)):=by have:=csort_range E.wins.length E.crons.length 256 t;rw[<-hsr.out] at this;omega
 clear hn hM hF hT hK hM2 hA hs0 hz hw hc H64 hsr HS HG
 generalize min (cnodes (foldF t)) 4097=nd at *
 generalize min (cnodes t) 4097=nt at *
 generalize foldF t=D at *
 have hle:¬(nt:Int)<(nd:Int):=by have:=HLe.out;omega
 have x0:=HY0.out.cell 0 _ rfl
 have x1:=HY0.out.cell 1 _ rfl
 have x2:=HY0.out.cell 2 _ rfl
 have x3:=HY0.out.cell 3 _ rfl
 have xl:=HY0.out.lt
 go_wp2_with fail
 refine Calls.mono (HC1.out _ B4.out) ?_
 rintro e w5 ⟨u,rfl,hu,b5⟩
 obtain⟨ua,uc,rfl,-,-⟩:=hu.parts.shape
 have BD:Below w5.heap.size w5 (w5.alloc (.cells (coL D (.slice ua D.parts.length uc)).toArray 30)):=(Below.refl _ _).alloc (Nat.le_refl _) _
 have B5:=chid (cbelow_on (cbelow_on B4.out b5 B4.out.size) BD (Nat.le_trans B4.out.size b5.size))
 have XD:=chid (Box.new w5 (coL D (.slice ua D.parts.length uc)) 30)
 have HU:=chid (hu.next BD)
 replace HY0:=chid ((HY0.out.next b5).next BD)
 replace HY1:=chid ((HY1.out.next b5).next BD)
 replace HR:=chid ((HR.out.next b5).next BD)
 obtain⟨db,hdb⟩:∃ rb,Hid (rb=w5.heap.size):=⟨_,rfl⟩
 rw[<-hdb.out] at XD
 clear b5 hu BD B4 HC1 x0 x1 x2 x3 xl v0 v1 v2 vl
 go_wp2_with fail
 rw[<-hdb.out]
 generalize hW6:w5.alloc _=w6 at *
 clear hW6
 have x0:=HY0.out.cell 0 _ rfl
 have x1:=HY0.out.cell 1 _ rfl
 have x2:=HY0.out.cell 2 _ rfl
 have x3:=HY0.out.cell 3 _ rfl
 have xl:=HY0.out.lt
 have d0:=XD.out.cell 0 _ rfl
 have d1:=XD.out.cell 1 _ rfl
 have d2:=XD.out.cell 2 _ rfl
 have d3:=XD.out.cell 3 _ rfl
 have dl:=XD.out.lt
 have r0:=HR.out.cell 0 _ rfl
 have r1:=HR.out.cell 1 _ rfl
 have r2:=HR.out.cell 2 _ rfl
 have rl:=HR.out.lt
 obtain⟨fw,hf1,hf2⟩:=calm w6
 have HF1:=chid hf1
 have HF2:=chid hf2
 have x0':=fun n=>((hf1 n).cell (p:=⟨w.heap.size,0,none⟩) xl).trans x0
 have x1':=fun n=>((hf1 n).cell (p:=⟨w.heap.size,1,none⟩) xl).trans x1
 have x2':=fun n=>((hf1 n).cell (p:=⟨w.heap.size,2,none⟩) xl).trans x2
 have x3':=fun n=>((hf1 n).cell (p:=⟨w.heap.size,3,none⟩) xl).trans x3
 have d0':=fun n=>((hf1 n).cell (p:=⟨db,0,none⟩) dl).trans d0
 have d1':=fun n=>((hf1 n).cell (p:=⟨db,1,none⟩) dl).trans d1
 have d2':=fun n=>((hf1 n).cell (p:=⟨db,2,none⟩) dl).trans d2
 have d3':=fun n=>((hf1 n).cell (p:=⟨db,3,none⟩) dl).trans d3
 have r0':=fun n=>((hf1 n).cell (p:=⟨rb,0,none⟩) rl).trans r0
 have r1':=fun n=>((hf1 n).cell (p:=⟨rb,1,none⟩) rl).trans r1
 have r2':=fun n=>((hf1 n).cell (p:=⟨rb,2,none⟩) rl).trans r2
 clear hf1 hf2 x0 x1 x2 x3 d0 d1 d2 d3 r0 r1 r2
 refine wp_region_calm fw (by kernel_rfl) (by kernel_rfl) (HF2.out _ (Below.refl _ _).drew) ?_
 repeat (go_big_quiet_step (first|(go_at_call 32;with_reducible refine Calls.mono (HSd.out _ _ (HU.out.next (HF1.out _))) ?_;rintro e W1 ⟨rfl,b5⟩;exact⟨rfl,HF2.out _ (cbelow_on (HF1.out _) b5 (HF1.out _).size)⟩)|(go_at_call 33;with_reducible refine Calls.mono (HNd.out _ _ (HU.out.next (HF1.out _))) ?_;rintro e W1 ⟨rfl,b5⟩;exact⟨rfl,HF2.out _ (cbelow_on (HF1.out _) b5 (HF1.out _).size)⟩)|(go_at_call 33;with_reducible refine Calls.mono (HNt.out _ (cbelow_on B5.out (HF1.out _) B5.out.size)) ?_;rintro e W1 ⟨rfl,b5⟩;exact⟨rfl,HF2.out _ (cbelow_on (HF1.out _) b5 (HF1.out _).size)⟩)))
 refine wpQuiet_nil ?_
 intro w9 hw9
 obtain⟨n9,rfl⟩:=hw9
 have B7:=chid (cbelow_on B5.out (HF1.out n9) B5.out.size)
 have hb9:=HF1.out n9
 clear x0' x1' x2' x3' d0' d1' d2' d3' r0' r1' r2' xl dl rl
 generalize fw n9=w7 at *
 clear HF1 HF2
 replace HY0:=chid (HY0.out.next hb9)
 replace HY1:=chid (HY1.out.next hb9)
 replace XD:=chid (XD.out.next hb9)
 replace HU:=chid (HU.out.next hb9)
 clear hb9 HR B5 HNd HNt HSd
 have d0:=XD.out.cell 0 _ rfl
 have d1:=XD.out.cell 1 _ rfl
 have d2:=XD.out.cell 2 _ rfl
 have d3:=XD.out.cell 3 _ rfl
 have dl:=XD.out.lt
 go_wp2_with fail
 refine Calls.mono (HC2.out _ _ B7.out HU.out) ?_
 rintro e w8 ⟨u,rfl,hu,b8⟩
 obtain⟨va,vc,rfl,-,-⟩:=hu.parts.shape
 have BG:Below w8.heap.size w8 (w8.alloc (.cells (coL D (.slice va D.parts.length vc)).toArray 30)):=(Below.refl _ _).alloc (Nat.le_refl _) _
 have B8:=chid (cbelow_on (cbelow_on B7.out b8 B7.out.size) BG (Nat.le_trans B7.out.size b8.size))
 have HV:=chid (hu.next BG)
 have hlt:Hid (db<w8.heap.size):=chid (Nat.lt_of_lt_of_le XD.out.lt b8.size)
 replace HY0:=chid ((HY0.out.next b8).next BG)
 replace HY1:=chid ((HY1.out.next b8).next BG)
 replace XD:=chid ((XD.out.next b8).next BG)
 replace HU:=chid ((HU.out.next b8).next BG)
 have HSa:=chid (crSame_c D D _ _ _ true ⟨fun _=>rfl,fun _=>rfl⟩ HV.out HU.out)
 clear b8 hu BG B7 HC2 d0 d1 d2 d3 dl
 have d0:=XD.out.cell 0 _ rfl
 have d1:=XD.out.cell 1 _ rfl
 have d2:=XD.out.cell 2 _ rfl
 have d3:=XD.out.cell 3 _ rfl
 have dl:=XD.out.lt
 have dlt:=hlt.out
 go_wp2_with fail
 refine Calls.mono HSa.out ?_
 rintro e w10 ⟨rfl,b10⟩
 have B10:=chid (cbelow_on B8.out b10 B8.out.size)
 replace HY0:=chid (HY0.out.next b10)
 replace HY1:=chid (HY1.out.next b10)
 replace XD:=chid (XD.out.next b10)
 replace HU:=chid (HU.out.next b10)
 clear b10 HSa d0 d1 d2 d3 dl HV B8 dlt
 rcases h123 with h3 | ⟨h3,h12⟩
 ·have HA1:=chid (HAc.out h3)
  have HA2:=chid (HAd.out h3)
  subst h3
  generalize telV E t=tv at *
  obtain⟨rv,hrv⟩:∃ rv,Hid (rv=rawV tv):=⟨_,rfl⟩
  rw[<-hrv.out] at HA1 HA2
  have hsh:∃ x y z,rv=.agg #[.bool x,.int .i64 y,.int .i64 z]:=by rw[hrv.out];unfold rawV;split;exact⟨_,_,_,rfl⟩;exact⟨_,_,_,rfl⟩
  obtain⟨x,y,z,rfl⟩:=hsh
  clear HAc HAd HEc HEd hrv
  go_wp2_with fail
  have x0:=HY0.out.cell 0 _ rfl
  have x1:=HY0.out.cell 1 _ rfl
  have x2:=HY0.out.cell 2 _ rfl
  have x3:=HY0.out.cell 3 _ rfl
  have xl:=HY0.out.lt
  have d0:=XD.out.cell 0 _ rfl
  have d1:=XD.out.cell 1 _ rfl
  have d2:=XD.out.cell 2 _ rfl
  have d3:=XD.out.cell 3 _ rfl
  have dl:=XD.out.lt
  have v0:=HY1.out.cell 0 _ rfl
  have v1:=HY1.out.cell 1 _ rfl
  have v2:=HY1.out.cell 2 _ rfl
  have vl:=HY1.out.lt
  obtain⟨fw,hf1,hf2⟩:=calm w10
  have HF1:=chid hf1
  have HF2:=chid hf2
  have x0':=fun n=>((hf1 n).cell (p:=⟨w.heap.size,0,none⟩) xl).trans x0
  have x1':=fun n=>((hf1 n).cell (p:=⟨w.heap.size,1,none⟩) xl).trans x1
  have x2':=fun n=>((hf1 n).cell (p:=⟨w.heap.size,2,none⟩) xl).trans x2
  have x3':=fun n=>((hf1 n).cell (p:=⟨w.heap.size,3,none⟩) xl).trans x3
  have d0':=fun n=>((hf1 n).cell (p:=⟨db,0,none⟩) dl).trans d0
  have d1':=fun n=>((hf1 n).cell (p:=⟨db,1,none⟩) dl).trans d1
  have d2':=fun n=>((hf1 n).cell (p:=⟨db,2,none⟩) dl).trans d2
  have d3':=fun n=>((hf1 n).cell (p:=⟨db,3,none⟩) dl).trans d3
  have v0':=fun n=>((hf1 n).cell (p:=⟨w.heap.size+1,0,none⟩) vl).trans v0
  have v1':=fun n=>((hf1 n).cell (p:=⟨w.heap.size+1,1,none⟩) vl).trans v1
  have v2':=fun n=>((hf1 n).cell (p:=⟨w.heap.size+1,2,none⟩) vl).trans v2
  clear hf1 hf2 x0 x1 x2 x3 d0 d1 d2 d3 v0 v1 v2
  refine wp_region_calm fw (by kernel_rfl) (by kernel_rfl) (HF2.out _ (Below.refl _ _).drew) ?_
  repeat (go_big_quiet_step (first|(go_at_call 34;with_reducible refine Calls.mono (HA1.out _ (cbelow_on B10.out (HF1.out _) B10.out.size)) ?_;rintro e W1 ⟨rfl,b5⟩;exact⟨rfl,HF2.out _ (cbelow_on (HF1.out _) b5 (HF1.out _).size)⟩)|(go_at_call 34;with_reducible refine Calls.mono (HA2.out _ _ (cbelow_on B10.out (HF1.out _) B10.out.size) (HU.out.next (HF1.out _))) ?_;rintro e W1 ⟨rfl,b5⟩;exact⟨rfl,HF2.out _ (cbelow_on (HF1.out _) b5 (HF1.out _).size)⟩)))
  refine wpQuiet_nil ?_
  intro w9 hw9
  obtain⟨n9,rfl⟩:=hw9
  have B11:=chid (cbelow_on B10.out (HF1.out n9) B10.out.size)
  have hb9:=HF1.out n9
  clear x0' x1' x2' x3' d0' d1' d2' d3' v0' v1' v2' xl dl vl
  generalize fw n9=w11 at *
  clear HF1 HF2
  go_wp2_with fail
  go_ret
  exact⟨rfl,B11.out⟩
 ·have HA1:=chid (HEc.out h12)
  have HA2:=chid (HEd.out h12)
  have h3':(sr==3)=false:=by simpa using h3
  generalize telV E t=tv at *
  obtain⟨y,z⟩:=tv
  clear HAc HAd HEc HEd h12 h3
  go_wp2_with fail
  have x0:=HY0.out.cell 0 _ rfl
  have x1:=HY0.out.cell 1 _ rfl
  have x2:=HY0.out.cell 2 _ rfl
  have x3:=HY0.out.cell 3 _ rfl
  have xl:=HY0.out.lt
  have d0:=XD.out.cell 0 _ rfl
  have d1:=XD.out.cell 1 _ rfl
  have d2:=XD.out.cell 2 _ rfl
  have d3:=XD.out.cell 3 _ rfl
  have dl:=XD.out.lt
  have v0:=HY1.out.cell 0 _ rfl
  have v1:=HY1.out.cell 1 _ rfl
  have v2:=HY1.out.cell 2 _ rfl
  have vl:=HY1.out.lt
  obtain⟨fw,hf1,hf2⟩:=calm w10
  have HF1:=chid hf1
  have HF2:=chid hf2
  have x0':=fun n=>((hf1 n).cell (p:=⟨w.heap.size,0,none⟩) xl).trans x0
  have x1':=fun n=>((hf1 n).cell (p:=⟨w.heap.size,1,none⟩) xl).trans x1
  have x2':=fun n=>((hf1 n).cell (p:=⟨w.heap.size,2,none⟩) xl).trans x2
  have x3':=fun n=>((hf1 n).cell (p:=⟨w.heap.size,3,none⟩) xl).trans x3
  have d0':=fun n=>((hf1 n).cell (p:=⟨db,0,none⟩) dl).trans d0
  have d1':=fun n=>((hf1 n).cell (p:=⟨db,1,none⟩) dl).trans d1
  have d2':=fun n=>((hf1 n).cell (p:=⟨db,2,none⟩) dl).trans d2
  have d3':=fun n=>((hf1 n).cell (p:=⟨db,3,none⟩) dl).trans d3
  have v0':=fun n=>((hf1 n).cell (p:=⟨w.heap.size+1,0,none⟩) vl).trans v0
  have v1':=fun n=>((hf1 n).cell (p:=⟨w.heap.size+1,1,none⟩) vl).trans v1
  have v2':=fun n=>((hf1 n).cell (p:=⟨w.heap.size+1,2,none⟩) vl).trans v2
  clear hf1 hf2 x0 x1 x2 x3 d0 d1 d2 d3 v0 v1 v2
  refine wp_region_calm fw (by kernel_rfl) (by kernel_rfl) (HF2.out _ (Below.refl _ _).drew) ?_
  repeat (go_big_quiet_step (first|(go_at_call 35;with_reducible refine Calls.mono (HA1.out _ (cbelow_on B10.out (HF1.out _) B10.out.size)) ?_;rintro e W1 ⟨rfl,b5⟩;exact⟨rfl,HF2.out _ (cbelow_on (HF1.out _) b5 (HF1.out _).size)⟩)|(go_at_call 35;with_reducible refine Calls.mono (HA2.out _ _ (cbelow_on B10.out (HF1.out _) B10.out.size) (HU.out.next (HF1.out _))) ?_;rintro e W1 ⟨rfl,b5⟩;exact⟨rfl,HF2.out _ (cbelow_on (HF1.out _) b5 (HF1.out _).size)⟩)))
  refine wpQuiet_nil ?_
  intro w9 hw9
  obtain⟨n9,rfl⟩:=hw9
  have B11:=chid (cbelow_on B10.out (HF1.out n9) B10.out.size)
  have hb9:=HF1.out n9
  clear x0' x1' x2' x3' d0' d1' d2' d3' v0' v1' v2' xl dl vl
  generalize fw n9=w11 at *
  clear HF1 HF2
  go_wp2_with fail
  go_ret
  exact⟨rfl,B11.out⟩
end Go.Proofs.YtepncopdjodfgaaGreatDoor
