import Derived.Test.YtepncopdjodfgaaGreatDoorMaC
import Derived.Test.YtepncopdjodfgaaGreatDoorMgG
import Derived.Test.YtepncopdjodfgaaGreatDoorMgZ
import Derived.Test.YtepncopdjodfgaaGreatDoorMhV
import Derived.Test.YtepncopdjodfgaaGreatDoorMjC
import Derived.Test.YtepncopdjodfgaaGreatDoorMjA
namespace Go.Proofs.YtepncopdjodfgaaGreatDoor
open Go.RowKit
set_option maxHeartbeats 4000000 in
set_option maxRecDepth 20000 in
theorem same17_c (l:List EvP)(u v:Value)(w:World)(hu:EvsAt w u l)(hv:EvsAt w v l):Calls Tryz.prog 20 #[u,v] w fun r w'=>r=.returned (.bool true)/\Below w.heap.size w w':=by
 have HU:=chid hu
 have HV:=chid hv
 obtain⟨ad,cap,rfl,h1,h2,-⟩:=hu
 obtain⟨ad',cap',rfl,h1',h2',-⟩:=hv
 obtain⟨N,hN⟩:∃ N,Hid (N=l.length):=⟨_,rfl⟩
 have HU2:Hid (RowsK w (.slice ad l.length cap) l.length 4 (fun i=>evtL (l.getD i ev0))):=HU.out
 have HV2:Hid (RowsK w (.slice ad' l.length cap') l.length 4 (fun i=>evtL (l.getD i ev0))):=HV.out
 rw[<-hN.out] at h1 h1' HU2 HV2 ⊢
 clear HU HV
 go_enter Tryz.func20,Tryz.ntmps20
 go_wp2_with fail
 go_loopw [5] (fun i wr=>∃ k:Nat,i=.int .i64 (k:Nat)/\k<=N/\Hid (Below w.heap.size w wr)) (fun i _=>match i with | .int _ z=>((N:Int)-z).toNat | _=>0)
 case atStart=>exact⟨0,rfl,by omega,Below.refl _ _⟩
 case round=>
  obtain⟨k,rfl,hk,HB⟩:=hrel
  by_cases hlt:k<N
  ·have hlt':(k:Int)<(N:Int):=by omega
   obtain⟨b,off,cap2,hv,hle,-,hbl,hx⟩:=RowsK.open HU2.out (by omega)
   obtain⟨b',off',cap2',hv',hle',-,hbl',hx'⟩:=RowsK.open HV2.out (by omega)
   simp only[Value.slice.injEq] at hv hv'
   obtain⟨rfl,-,rfl⟩:=hv
   obtain⟨rfl,-,rfl⟩:=hv'
   have lb:b<wr.heap.size:=Nat.lt_of_lt_of_le hbl HB.out.size
   have lb':b'<wr.heap.size:=Nat.lt_of_lt_of_le hbl' HB.out.size
   have z0:=keepc HB.out (hx k hlt 0 _ rfl)
   have z1:=keepc HB.out (hx k hlt 1 _ rfl)
   have z2:=keepc HB.out (hx k hlt 2 _ rfl)
   have z3:=keepc HB.out (hx k hlt 3 _ rfl)
   have t0:=keepc HB.out (hx' k hlt 0 _ rfl)
   have t1:=keepc HB.out (hx' k hlt 1 _ rfl)
   have t2:=keepc HB.out (hx' k hlt 2 _ rfl)
   have t3:=keepc HB.out (hx' k hlt 3 _ rfl)
   clear hx hx'
   rw[Nat.add_zero] at z0 t0
   go_wp2_with fail
   go_quiet (fail)
   go_wp2_with fail
   go_roundw
   case rel=>exact⟨k+1,by go_num,by omega,chid (cdrewN HB.out _)⟩
   case measure=>simp;omega
  ·have hlt':¬(k:Int)<(N:Int):=by omega
   go_wp2_with fail
   go_ret
   exact⟨rfl,HB.out⟩
theorem WinsAt.get {w:World}{a:Option Addr}{L c:Nat}{l:List (Int×Int)}(h:WinsAt w (.slice a L c) l){i:Nat}(hi:i<l.length):∃ b off,a=some ⟨b,off,none⟩/\b<w.heap.size/\w.cell? ⟨b,off+i*2,none⟩=some (.int .i64 (l.getD i (0,0)).1)/\w.cell? ⟨b,off+i*2+1,none⟩=some (.int .i64 (l.getD i (0,0)).2):=by
 obtain⟨ad',cap',e,hx⟩:=h
 simp only[Value.slice.injEq] at e
 obtain⟨rfl,-,rfl⟩:=e
 rcases hx with h | ⟨b,off,rfl,hbl,hc⟩
 ·rw[h] at hi;simp at hi
 ·exact⟨b,off,rfl,hbl,hc i hi⟩
theorem CronsAt.get {w:World}{a:Option Addr}{L c:Nat}{l:List Bool}(h:CronsAt w (.slice a L c) l){i:Nat}(hi:i<l.length):∃ b off,a=some ⟨b,off,none⟩/\b<w.heap.size/\w.cell? ⟨b,off+i,none⟩=some (.bool (l.getD i false)):=by
 obtain⟨ad',cap',e,hx⟩:=h
 simp only[Value.slice.injEq] at e
 obtain⟨rfl,-,rfl⟩:=e
 rcases hx with h | ⟨b,off,rfl,hbl,hc⟩
 ·rw[h] at hi;simp at hi
 ·exact⟨b,off,rfl,hbl,hc i hi⟩
set_option maxHeartbeats 1000000 in
set_option maxRecDepth 20000 in
theorem sameEnv_c (E:EnvP)(u1 u2 v1 v2:Value)(w:World)(hu:EnvAt w E u1 u2)(hv:EnvAt w E v1 v2):Calls Tryz.prog 16 #[envV E u1 u2,envV E v1 v2] w fun e w'=>e=.returned (.bool true)/\Below w.heap.size w w':=by
 have HU:=chid hu
 have HV:=chid hv
 have hwl:=hu.ok.wl
 have hcl:=hu.ok.cl
 obtain⟨a1,c1,a2,c2,rfl,rfl⟩:=hu.shape
 obtain⟨b1,d1,b2,d2,rfl,rfl⟩:=hv.shape
 obtain⟨L1,hL1⟩:∃ L,Hid (L=E.wins.length):=⟨_,rfl⟩
 obtain⟨L2,hL2⟩:∃ L,Hid (L=E.crons.length):=⟨_,rfl⟩
 rw[<-hL1.out] at hwl
 rw[<-hL2.out] at hcl
 obtain⟨Y0,Y1,B0⟩:=two_boxes w 40 40 [.int .i64 E.rep,.slice a1 L1 c1,.slice a2 L2 c2] [.int .i64 E.rep,.slice b1 L1 d1,.slice b2 L2 d2]
 have x1:=Y0.cell 1 _ rfl
 have x2:=Y0.cell 2 _ rfl
 have xl:=Y0.lt
 have y1:=Y1.cell 1 _ rfl
 have y2:=Y1.cell 2 _ rfl
 have yl:=Y1.lt
 have HB0:=chid B0
 rw[<-hL1.out,<-hL2.out]
 rw[<-hL1.out,<-hL2.out] at HU HV
 clear hu hv Y0 Y1 B0
 go_enter Tryz.func16,Tryz.ntmps16
 go_wp2_with fail
 generalize hW1:(w.alloc _).alloc _=w1 at *
 clear hW1
 go_loopw [5] (fun i wr=>∃ k:Nat,i=.int .i64 (k:Nat)/\k<=L1/\Hid (Below w1.heap.size w1 wr)) (fun i _=>match i with | .int _ p=>((L1:Int)-p).toNat | _=>0)
 case atStart=>exact⟨0,rfl,by omega,chid (Below.refl _ _)⟩
 case round=>
  obtain⟨k,rfl,hk,HWr⟩:=hrel
  have BW:=chid (cbelow_on HB0.out HWr.out HB0.out.size)
  have x1w:=(HWr.out.cell (p:=⟨w.heap.size,1,none⟩) xl).trans x1
  have x2w:=(HWr.out.cell (p:=⟨w.heap.size,2,none⟩) xl).trans x2
  have xlw:=Nat.lt_of_lt_of_le xl HWr.out.size
  have y1w:=(HWr.out.cell (p:=⟨w.heap.size+1,1,none⟩) yl).trans y1
  have y2w:=(HWr.out.cell (p:=⟨w.heap.size+1,2,none⟩) yl).trans y2
  have ylw:=Nat.lt_of_lt_of_le yl HWr.out.size
  by_cases hlt:k<L1
  ·have hlt':(k:Int)<(L1:Int):=by omega
   obtain⟨b,off,rfl,hbl,q0,q1⟩:=HU.out.wins.get (i:=k) (by rw[<-hL1.out];exact hlt)
   obtain⟨b',off',rfl,hbl',r0,r1⟩:=HV.out.wins.get (i:=k) (by rw[<-hL1.out];exact hlt)
   replace q0:=keepc BW.out q0
   replace q1:=keepc BW.out q1
   replace r0:=keepc BW.out r0
   replace r1:=keepc BW.out r1
   have lb:=Nat.lt_of_lt_of_le hbl BW.out.size
   have lb':=Nat.lt_of_lt_of_le hbl' BW.out.size
   generalize E.wins.getD k (0,0)=x at *
   clear HU HV
   go_wp2_with fail
   go_quiet (fail)
   go_wp2_with fail
   go_roundw
   case rel=>exact⟨k+1,by go_num,by omega,by first | exact HWr | exact chid HWr.out.drew | exact chid (cdrewN HWr.out _)⟩
   case measure=>simp;omega
  ·have hlt':¬(k:Int)<(L1:Int):=by omega
   obtain rfl:k=L1:=by omega
   go_wp2_with fail
   obtain⟨W1,rfl⟩:∃ W1,W1=wr:=⟨_,rfl⟩
   go_loopw [6] (fun i wz=>∃ k:Nat,i=.int .i64 (k:Nat)/\k<=L2/\Hid (Below W1.heap.size W1 wz)) (fun i _=>match i with | .int _ p=>((L2:Int)-p).toNat | _=>0)
   case atStart=>exact⟨0,rfl,by omega,chid (Below.refl _ _)⟩
   case round=>
    obtain⟨j,rfl,hj,HWz⟩:=hrel
    have BZ:=chid (cbelow_on BW.out HWz.out BW.out.size)
    have x2z:=(HWz.out.cell (p:=⟨w.heap.size,2,none⟩) xlw).trans x2w
    have xlz:=Nat.lt_of_lt_of_le xlw HWz.out.size
    have y2z:=(HWz.out.cell (p:=⟨w.heap.size+1,2,none⟩) ylw).trans y2w
    have ylz:=Nat.lt_of_lt_of_le ylw HWz.out.size
    by_cases hlt2:j<L2
    ·have hlt2':(j:Int)<(L2:Int):=by omega
     obtain⟨b,off,rfl,hbl,q0⟩:=HU.out.crons.get (i:=j) (by rw[<-hL2.out];exact hlt2)
     obtain⟨b',off',rfl,hbl',r0⟩:=HV.out.crons.get (i:=j) (by rw[<-hL2.out];exact hlt2)
     replace q0:=keepc BZ.out q0
     replace r0:=keepc BZ.out r0
     have lb:=Nat.lt_of_lt_of_le hbl BZ.out.size
     have lb':=Nat.lt_of_lt_of_le hbl' BZ.out.size
     generalize E.crons.getD j false=x at *
     have hxx:(x != x)=false:=by simp
     clear HU HV
     go_wp2_with fail
     go_quiet (fail)
     go_wp2_with fail
     go_roundw
     case rel=>exact⟨j+1,by go_num,by omega,by first | exact HWz | exact chid HWz.out.drew | exact chid (cdrewN HWz.out _)⟩
     case measure=>simp;omega
    ·have hlt2':¬(j:Int)<(L2:Int):=by omega
     go_wp2_with fail
     go_ret
     exact⟨rfl,BZ.out⟩
theorem takF_again (M:Int):∀ (l:List EvP) (c:Int),takF M c (takF M c l)=takF M c l
 | [],c=>rfl
 | e::r,c=>by
   rw[takF]
   by_cases h:takB M c e=true
   ·rw[if_pos h,takF,if_pos h,takF_again M r e.time]
   ·rw[if_neg h]
    exact takF_again M r c
theorem taken_again (M:Int)(l:List EvP):takenF M (takenF M l)=takenF M l:=takF_again M l minI
theorem mean_taken (q:Co->Co->Bool)(p:PlP)(l:List EvP)(t rep:Int)(nm:Cr->Bool):meanF q p (takenF p.mets.length l) t rep nm=meanF q p l t rep nm:=by
 unfold meanF
 rw[taken_again]
theorem dec_taken (q:Co->Co->Bool)(p:PlP)(l:List EvP)(t rep:Int)(nm:Cr->Bool):decM q p (takenF p.mets.length l) t rep nm=decM q p l t rep nm:=by
 unfold decM
 rw[mean_taken]
theorem dec_form (q:Co->Co->Bool)(p:PlP)(l:List EvP)(t rep:Int)(nm:Cr->Bool):∃ a b c,decM q p l t rep nm=.tuple #[.agg #[.bool a,.int .i64 b,.int .i64 c],.int .i64 (meanF q p l t rep nm).2]:=by
 unfold decM
 by_cases h:(meanF q p l t rep nm).2=0
 ·rw[if_pos h,h]
  have hf:(formedP q p&&fitE (meanF q p l t rep nm).1 p)=true:=by
   unfold meanF at h ⊢
   by_cases h1:formedP q p=false
   ·rw[if_pos h1] at h;cases h
   ·rw[if_neg h1] at h ⊢
    by_cases h2:∃ x,x∈takenF p.mets.length l/\t<x.time
    ·rw[if_pos h2] at h;cases h
    ·rw[if_neg h2]
     have h1':formedP q p=true:=by simpa using h1
     rw[h1']
     simp[fitE]
  rw[hf]
  unfold decV
  rw[if_pos rfl]
  unfold rawV
  split
  ·exact⟨_,_,_,rfl⟩
  ·exact⟨_,_,_,rfl⟩
 ·rw[if_neg h]
  exact⟨_,_,_,rfl⟩
open Classical in
theorem names_ex (t:Int):∃ nm:Cr->Bool,∀ c,nm c=true↔Named c t:=⟨fun c=>decide (Named c t),fun c=>by simp⟩
theorem names_c (t:Int)(ht:In64 t)(nm:Cr->Bool)(hnm:∀ c,nm c=true↔Named c t)(p:PlP)(hf:∀ x,x∈p.crons->x.Fits)(w:World)(hL:LenAt w):∀ c,c∈p.crons->∀ W,Below w.heap.size w W->Calls Tryz.prog 77 #[.agg (crL c).toArray,.int .i64 t] W fun e w'=>e=.returned (.bool (nm c))/\Below W.heap.size W w':=fun c hc W hW=>
 Names_any c (hf c hc) t ht.1 ht.2 (nm c) (hnm c) W (hL.later hW)
theorem PlAt.shapeV {w:World}{p:PlP}{v:PlV}(h:PlAt w p v):∃ a1 c1 a2 c2 a3 c3 a4 c4 a5 c5,v=⟨.slice a1 p.mets.length c1,.slice a2 p.wins.length c2,.slice a3 p.crons.length c3,.slice a4 p.gs.length c4,.slice a5 p.fin.parts.length c5⟩:=by
 obtain⟨a1,c1,a2,c2,a3,c3,a4,c4,a5,c5,e,-⟩:=h.shapes
 exact⟨a1,c1,a2,c2,a3,c3,a4,c4,a5,c5,e⟩
set_option maxHeartbeats 2000000 in
set_option maxRecDepth 20000 in
theorem meanDrops_c (p:PlP)(v:PlV)(l:List EvP)(u:Value)(t rep:Int)(w:World)(hs:PlAt w p v)(hgs:p.gs.length*96<=140737488355328)(hE:EvsAt w u l)(hok:∀ e,e∈l->EvOk e)(hL:l.length*32<=140737488355328)(ht:C64 t)(hrep:C64 rep)(hF:FldAt w)(hLn:LenAt w)(hg:GlE w):
 Calls Tryz.prog 5 #[plV p v,u,.agg #[.int .i64 t,.int .i64 rep]] w fun r w'=>r=.returned (.bool true)/\Below w.heap.size w w':=by
 classical
 obtain⟨q,hq⟩:∃ q:Co->Co->Bool,∀ a b,q a b=true↔a=b:=⟨fun a b=>decide (a=b),fun a b=>by simp⟩
 have ht2:In64 t:=⟨ht.1,by have:=ht.2;omega⟩
 obtain⟨nm,hnm⟩:=names_ex t
 have hT:∀ e,e∈takenF p.mets.length l->EvOk e:=fun e he=>hok e (takF_mem _ _ _ _ he).1
 have hTl:(takenF p.mets.length l).length*32<=140737488355328:=by have:=takF_len p.mets.length l minI;unfold takenF;omega
 have hTle:(takenF p.mets.length l).length<=l.length:=takF_len _ _ _
 have HAw:=chid (fun W (hW:Below w.heap.size w W)=>awake17_c W (hF.later hW) (GlE.next hg hW))
 have HMt:=chid (fun W (hW:Below w.heap.size w W)=>mTaken_c p v l u W hs.shapeV (RowsK.next hE hW) hok hL)
 have HMt2:=chid (fun W x (hx:EvsAt W x (takenF p.mets.length l))=>mTaken_c p v (takenF p.mets.length l) x W hs.shapeV hx hT hTl)
 rw[taken_again] at HMt2
 have HEn:=chid (fun W (hW:Below w.heap.size w W)=>mEnv_c q hq p v l u t rep W (hs.next hW) (hF.later hW) (RowsK.next hE hW) hok hL ht2 hrep nm (names_c t ht2 nm hnm p hs.cok W (hLn.later hW)))
 have HEn2:=chid (fun W x (hW:Below w.heap.size w W) (hx:EvsAt W x (takenF p.mets.length l))=>mEnv_c q hq p v (takenF p.mets.length l) x t rep W (hs.next hW) (hF.later hW) hx hT hTl ht2 hrep nm (names_c t ht2 nm hnm p hs.cok W (hLn.later hW)))
 rw[mean_taken] at HEn2
 have HDe:=chid (fun W (hW:Below w.heap.size w W)=>mDecide_c q hq p v l u t rep W (hs.next hW) (hF.later hW) (GlE.next hg hW) (RowsK.next hE hW) hok hL ht2 hrep nm (names_c t ht2 nm hnm p hs.cok W (hLn.later hW)))
 have HDe2:=chid (fun W x (hW:Below w.heap.size w W) (hx:EvsAt W x (takenF p.mets.length l))=>mDecide_c q hq p v (takenF p.mets.length l) x t rep W (hs.next hW) (hF.later hW) (GlE.next hg hW) hx hT hTl ht2 hrep nm (names_c t ht2 nm hnm p hs.cok W (hLn.later hW)))
 rw[dec_taken] at HDe2
 obtain⟨ka,kb,kc,hdec⟩:=dec_form q p l t rep nm
 rw[hdec] at HDe HDe2
 generalize meanF q p l t rep nm=R at *
 obtain⟨EE,er⟩:=R
 dsimp only at HEn HEn2 HDe HDe2
 have HFw:=chid (fun W (hW:Below w.heap.size w W)=>few17_c p v W (hs.next hW) hgs)
 obtain⟨a1,c1,a2,c2,a3,c3,a4,c4,a5,c5,rfl,g1,g2,g3,g4⟩:=hs.shapes
 obtain⟨ea,ec,rfl,he1,he2,he3⟩:=hE
 have hlm:l.length<=9223372036854775807:=by omega
 obtain⟨T,hTT⟩:∃ T,Hid (T=takenF p.mets.length l):=⟨_,rfl⟩
 rw[<-hTT.out] at HMt HMt2 HEn2 HDe2 hTl hTle
 obtain⟨Y0,Y1,B0⟩:=two_boxes w 32 34 (plL p ⟨.slice a1 p.mets.length c1,.slice a2 p.wins.length c2,.slice a3 p.crons.length c3,.slice a4 p.gs.length c4,.slice a5 p.fin.parts.length c5⟩) [.int .i64 t,.int .i64 rep]
 have HY0:=chid Y0
 have HY1:=chid Y1
 have HB0:=chid B0
 clear hs hF hLn hg hok hL hgs hnm hT Y0 Y1 B0 hdec hq g1 g2 g3 g4 he3
 go_enter Tryz.func5,Tryz.ntmps5
 go_wp2_with fail
 refine Calls.mono (HAw.out _ HB0.out) ?_
 rintro e w1 ⟨rfl,b1⟩
 have B1:=chid (cbelow_on HB0.out b1 HB0.out.size)
 replace HY0:=chid (HY0.out.next b1)
 replace HY1:=chid (HY1.out.next b1)
 clear b1 HB0
 have x0:=HY0.out.cell 0 _ rfl
 have x1:=HY0.out.cell 1 _ rfl
 have x2:=HY0.out.cell 2 _ rfl
 have x3:=HY0.out.cell 3 _ rfl
 have x4:=HY0.out.cell 4 _ rfl
 have x5:=HY0.out.cell 5 _ rfl
 have x6:=HY0.out.cell 6 _ rfl
 have x7:=HY0.out.cell 7 _ rfl
 have x8:=HY0.out.cell 8 _ rfl
 have x9:=HY0.out.cell 9 _ rfl
 have x10:=HY0.out.cell 10 _ rfl
 have x11:=HY0.out.cell 11 _ rfl
 have x12:=HY0.out.cell 12 _ rfl
 have x13:=HY0.out.cell 13 _ rfl
 have xl:=HY0.out.lt
 go_wp2_with fail
 refine Calls.mono (HFw.out _ B1.out _ _ _ hlm) ?_
 rintro e w2 ⟨rfl,b2⟩
 have B2:=chid (cbelow_on B1.out b2 B1.out.size)
 replace HY0:=chid (HY0.out.next b2)
 replace HY1:=chid (HY1.out.next b2)
 clear b2 B1 x0 x1 x2 x3 x4 x5 x6 x7 x8 x9 x10 x11 x12 x13 xl HFw
 cases hfw:(fewL p&&decide (l.length<=20000)) with
 | false=>
   go_wp2_with fail
   refine Calls.mono (HAw.out _ B2.out) ?_
   rintro e w3 ⟨rfl,b3⟩
   have B3:=chid (cbelow_on B2.out b3 B2.out.size)
   clear b3
   go_wp2_with fail
   go_ret
   exact⟨rfl,B3.out⟩
 | true=>
   have hl20:l.length<=20000:=by
    simp only[Bool.and_eq_true,decide_eq_true_eq] at hfw
    exact hfw.2
   clear HAw hfw
   have x0:=HY0.out.cell 0 _ rfl
   have x1:=HY0.out.cell 1 _ rfl
   have x2:=HY0.out.cell 2 _ rfl
   have x3:=HY0.out.cell 3 _ rfl
   have x4:=HY0.out.cell 4 _ rfl
   have x5:=HY0.out.cell 5 _ rfl
   have x6:=HY0.out.cell 6 _ rfl
   have x7:=HY0.out.cell 7 _ rfl
   have x8:=HY0.out.cell 8 _ rfl
   have x9:=HY0.out.cell 9 _ rfl
   have x10:=HY0.out.cell 10 _ rfl
   have x11:=HY0.out.cell 11 _ rfl
   have x12:=HY0.out.cell 12 _ rfl
   have x13:=HY0.out.cell 13 _ rfl
   have xl:=HY0.out.lt
   go_wp2_with fail
   refine Calls.mono (HMt.out _ B2.out) ?_
   rintro r w3 ⟨x,rfl,ox,b3⟩
   have B3:=chid (cbelow_on B2.out b3 B2.out.size)
   obtain⟨xa,xc,rfl⟩:=own_shape ox
   have HX:=chid (evs_of_own ox)
   replace HY0:=chid (HY0.out.next b3)
   replace HY1:=chid (HY1.out.next b3)
   obtain⟨N,hN⟩:∃ N,Hid (N=T.length):=⟨_,rfl⟩
   rw[<-hN.out] at HX hTl hTle ⊢
   clear b3 B2 ox HMt x0 x1 x2 x3 x4 x5 x6 x7 x8 x9 x10 x11 x12 x13 xl
   have x0:=HY0.out.cell 0 _ rfl
   have x1:=HY0.out.cell 1 _ rfl
   have x2:=HY0.out.cell 2 _ rfl
   have x3:=HY0.out.cell 3 _ rfl
   have x4:=HY0.out.cell 4 _ rfl
   have x5:=HY0.out.cell 5 _ rfl
   have x6:=HY0.out.cell 6 _ rfl
   have x7:=HY0.out.cell 7 _ rfl
   have x8:=HY0.out.cell 8 _ rfl
   have x9:=HY0.out.cell 9 _ rfl
   have x10:=HY0.out.cell 10 _ rfl
   have x11:=HY0.out.cell 11 _ rfl
   have x12:=HY0.out.cell 12 _ rfl
   have x13:=HY0.out.cell 13 _ rfl
   have xl:=HY0.out.lt
   go_wp2_with fail
   refine Calls.mono (HMt2.out _ _ HX.out) ?_
   rintro r w4 ⟨z,rfl,oz,b4⟩
   have B4:=chid (cbelow_on B3.out b4 B3.out.size)
   obtain⟨za,zc,rfl⟩:=own_shape oz
   have HZ:=chid (evs_of_own oz)
   replace HX:=chid (RowsK.next HX.out b4)
   replace HY0:=chid (HY0.out.next b4)
   replace HY1:=chid (HY1.out.next b4)
   rw[<-hN.out] at HZ ⊢
   clear b4 B3 oz HMt2 x0 x1 x2 x3 x4 x5 x6 x7 x8 x9 x10 x11 x12 x13 xl
   go_wp2_with fail
   refine Calls.mono (same17_c T _ _ w4 HZ.out HX.out) ?_
   rintro r w5 ⟨rfl,b5⟩
   have B5:=chid (cbelow_on B4.out b5 B4.out.size)
   replace HX:=chid (RowsK.next HX.out b5)
   replace HY0:=chid (HY0.out.next b5)
   replace HY1:=chid (HY1.out.next b5)
   have hle:¬(l.length:Int)<(N:Int):=by omega
   clear b5 B4 HZ
   have x0:=HY0.out.cell 0 _ rfl
   have x1:=HY0.out.cell 1 _ rfl
   have x2:=HY0.out.cell 2 _ rfl
   have x3:=HY0.out.cell 3 _ rfl
   have x4:=HY0.out.cell 4 _ rfl
   have x5:=HY0.out.cell 5 _ rfl
   have x6:=HY0.out.cell 6 _ rfl
   have x7:=HY0.out.cell 7 _ rfl
   have x8:=HY0.out.cell 8 _ rfl
   have x9:=HY0.out.cell 9 _ rfl
   have x10:=HY0.out.cell 10 _ rfl
   have x11:=HY0.out.cell 11 _ rfl
   have x12:=HY0.out.cell 12 _ rfl
   have x13:=HY0.out.cell 13 _ rfl
   have xl:=HY0.out.lt
   have t0:=HY1.out.cell 0 _ rfl
   have t1:=HY1.out.cell 1 _ rfl
   have tl:=HY1.out.lt
   go_wp2_with fail
   refine Calls.mono (HEn.out _ B5.out) ?_
   rintro r w6 ⟨u1,u2,rfl,hen,b6⟩
   obtain⟨ra,rc,sa,sc,rfl,rfl⟩:=hen.shape
   have BX:Below w6.heap.size w6 (w6.alloc (.cells #[.int .i64 EE.rep,.slice ra EE.wins.length rc,.slice sa EE.crons.length sc] 40)):=(Below.refl _ _).alloc (Nat.le_refl _) _
   have B7:=chid (cbelow_on (cbelow_on B5.out b6 B5.out.size) BX (Nat.le_trans B5.out.size b6.size))
   have Xa:=chid (Box.new w6 [.int .i64 EE.rep,.slice ra EE.wins.length rc,.slice sa EE.crons.length sc] 40)
   have Ea:=chid (hen.next BX)
   obtain⟨ab,hab⟩:∃ rb,Hid (rb=w6.heap.size):=⟨_,rfl⟩
   rw[<-hab.out] at Xa
   replace HY0:=chid ((HY0.out.next b6).next BX)
   replace HY1:=chid ((HY1.out.next b6).next BX)
   replace HX:=chid (RowsK.next (RowsK.next HX.out b6) BX)
   clear b6 BX hen x0 x1 x2 x3 x4 x5 x6 x7 x8 x9 x10 x11 x12 x13 xl t0 t1 tl
   have x0:=HY0.out.cell 0 _ rfl
   have x1:=HY0.out.cell 1 _ rfl
   have x2:=HY0.out.cell 2 _ rfl
   have x3:=HY0.out.cell 3 _ rfl
   have x4:=HY0.out.cell 4 _ rfl
   have x5:=HY0.out.cell 5 _ rfl
   have x6:=HY0.out.cell 6 _ rfl
   have x7:=HY0.out.cell 7 _ rfl
   have x8:=HY0.out.cell 8 _ rfl
   have x9:=HY0.out.cell 9 _ rfl
   have x10:=HY0.out.cell 10 _ rfl
   have x11:=HY0.out.cell 11 _ rfl
   have x12:=HY0.out.cell 12 _ rfl
   have x13:=HY0.out.cell 13 _ rfl
   have xl:=HY0.out.lt
   have t0:=HY1.out.cell 0 _ rfl
   have t1:=HY1.out.cell 1 _ rfl
   have tl:=HY1.out.lt
   go_wp2_with fail
   rw[<-hab.out]
   generalize hW:w6.alloc _=w7 at *
   clear hW
   refine Calls.mono (HEn2.out _ _ B7.out HX.out) ?_
   rintro r w8 ⟨u1,u2,rfl,hen,b6⟩
   obtain⟨ra2,rc2,sa2,sc2,rfl,rfl⟩:=hen.shape
   have BX:Below w8.heap.size w8 (w8.alloc (.cells #[.int .i64 EE.rep,.slice ra2 EE.wins.length rc2,.slice sa2 EE.crons.length sc2] 40)):=(Below.refl _ _).alloc (Nat.le_refl _) _
   have B9:=chid (cbelow_on (cbelow_on B7.out b6 B7.out.size) BX (Nat.le_trans B7.out.size b6.size))
   have Xb:=chid (Box.new w8 [.int .i64 EE.rep,.slice ra2 EE.wins.length rc2,.slice sa2 EE.crons.length sc2] 40)
   have Eb:=chid (hen.next BX)
   obtain⟨bb,hbb⟩:∃ rb,Hid (rb=w8.heap.size):=⟨_,rfl⟩
   rw[<-hbb.out] at Xb
   replace HY0:=chid ((HY0.out.next b6).next BX)
   replace HY1:=chid ((HY1.out.next b6).next BX)
   replace HX:=chid (RowsK.next (RowsK.next HX.out b6) BX)
   replace Xa:=chid ((Xa.out.next b6).next BX)
   replace Ea:=chid ((Ea.out.next b6).next BX)
   clear b6 BX hen x0 x1 x2 x3 x4 x5 x6 x7 x8 x9 x10 x11 x12 x13 xl t0 t1 tl
   have x0:=HY0.out.cell 0 _ rfl
   have x1:=HY0.out.cell 1 _ rfl
   have x2:=HY0.out.cell 2 _ rfl
   have x3:=HY0.out.cell 3 _ rfl
   have x4:=HY0.out.cell 4 _ rfl
   have x5:=HY0.out.cell 5 _ rfl
   have x6:=HY0.out.cell 6 _ rfl
   have x7:=HY0.out.cell 7 _ rfl
   have x8:=HY0.out.cell 8 _ rfl
   have x9:=HY0.out.cell 9 _ rfl
   have x10:=HY0.out.cell 10 _ rfl
   have x11:=HY0.out.cell 11 _ rfl
   have x12:=HY0.out.cell 12 _ rfl
   have x13:=HY0.out.cell 13 _ rfl
   have xl:=HY0.out.lt
   have t0:=HY1.out.cell 0 _ rfl
   have t1:=HY1.out.cell 1 _ rfl
   have tl:=HY1.out.lt
   go_wp2_with fail
   rw[<-hbb.out]
   generalize hW:w8.alloc _=w9 at *
   clear hW
   refine Calls.mono (HDe.out _ B9.out) ?_
   rintro r w10 ⟨rfl,b6⟩
   have BX:Below w10.heap.size w10 (w10.alloc (.cells #[.bool ka,.int .i64 kb,.int .i64 kc] 48)):=(Below.refl _ _).alloc (Nat.le_refl _) _
   have B11:=chid (cbelow_on (cbelow_on B9.out b6 B9.out.size) BX (Nat.le_trans B9.out.size b6.size))
   have Xc:=chid (Box.new w10 [.bool ka,.int .i64 kb,.int .i64 kc] 48)
   obtain⟨cb,hcb⟩:∃ rb,Hid (rb=w10.heap.size):=⟨_,rfl⟩
   rw[<-hcb.out] at Xc
   replace HY0:=chid ((HY0.out.next b6).next BX)
   replace HY1:=chid ((HY1.out.next b6).next BX)
   replace HX:=chid (RowsK.next (RowsK.next HX.out b6) BX)
   replace Xa:=chid ((Xa.out.next b6).next BX)
   replace Ea:=chid ((Ea.out.next b6).next BX)
   replace Xb:=chid ((Xb.out.next b6).next BX)
   replace Eb:=chid ((Eb.out.next b6).next BX)
   clear b6 BX x0 x1 x2 x3 x4 x5 x6 x7 x8 x9 x10 x11 x12 x13 xl t0 t1 tl
   have x0:=HY0.out.cell 0 _ rfl
   have x1:=HY0.out.cell 1 _ rfl
   have x2:=HY0.out.cell 2 _ rfl
   have x3:=HY0.out.cell 3 _ rfl
   have x4:=HY0.out.cell 4 _ rfl
   have x5:=HY0.out.cell 5 _ rfl
   have x6:=HY0.out.cell 6 _ rfl
   have x7:=HY0.out.cell 7 _ rfl
   have x8:=HY0.out.cell 8 _ rfl
   have x9:=HY0.out.cell 9 _ rfl
   have x10:=HY0.out.cell 10 _ rfl
   have x11:=HY0.out.cell 11 _ rfl
   have x12:=HY0.out.cell 12 _ rfl
   have x13:=HY0.out.cell 13 _ rfl
   have xl:=HY0.out.lt
   have t0:=HY1.out.cell 0 _ rfl
   have t1:=HY1.out.cell 1 _ rfl
   have tl:=HY1.out.lt
   go_wp2_with fail
   rw[<-hcb.out]
   generalize hW:w10.alloc _=w11 at *
   clear hW
   refine Calls.mono (HDe2.out _ _ B11.out HX.out) ?_
   rintro r w12 ⟨rfl,b6⟩
   have la:=Nat.lt_of_lt_of_le Xa.out.lt b6.size
   have lb:=Nat.lt_of_lt_of_le Xb.out.lt b6.size
   have lc:=Nat.lt_of_lt_of_le Xc.out.lt b6.size
   have BX:Below w12.heap.size w12 (w12.alloc (.cells #[.bool ka,.int .i64 kb,.int .i64 kc] 48)):=(Below.refl _ _).alloc (Nat.le_refl _) _
   have B13:=chid (cbelow_on (cbelow_on B11.out b6 B11.out.size) BX (Nat.le_trans B11.out.size b6.size))
   have Xd:=chid (Box.new w12 [.bool ka,.int .i64 kb,.int .i64 kc] 48)
   obtain⟨db,hdb⟩:∃ rb,Hid (rb=w12.heap.size):=⟨_,rfl⟩
   rw[<-hdb.out] at Xd
   replace HY0:=chid ((HY0.out.next b6).next BX)
   replace HY1:=chid ((HY1.out.next b6).next BX)
   replace HX:=chid (RowsK.next (RowsK.next HX.out b6) BX)
   replace Xa:=chid ((Xa.out.next b6).next BX)
   replace Ea:=chid ((Ea.out.next b6).next BX)
   replace Xb:=chid ((Xb.out.next b6).next BX)
   replace Eb:=chid ((Eb.out.next b6).next BX)
   replace Xc:=chid ((Xc.out.next b6).next BX)
   clear b6 BX x0 x1 x2 x3 x4 x5 x6 x7 x8 x9 x10 x11 x12 x13 xl t0 t1 tl
   have HSe:=chid (sameEnv_c EE _ _ _ _ _ Ea.out Eb.out)
   have e0:=Xa.out.cell 0 _ rfl
   have e1:=Xa.out.cell 1 _ rfl
   have e2:=Xa.out.cell 2 _ rfl
   have f0:=Xb.out.cell 0 _ rfl
   have f1:=Xb.out.cell 1 _ rfl
   have f2:=Xb.out.cell 2 _ rfl
   go_wp2_with fail
   refine Calls.mono HSe.out ?_
   rintro r w14 ⟨rfl,b14⟩
   have B14:=chid (cbelow_on B13.out b14 B13.out.size)
   replace Xc:=chid (Xc.out.next b14)
   replace Xd:=chid (Xd.out.next b14)
   clear b14 HSe e0 e1 e2 f0 f1 f2 la lb lc
   rw[<-hdb.out]
   have c0:=Xc.out.cell 0 _ rfl
   have c1:=Xc.out.cell 1 _ rfl
   have c2:=Xc.out.cell 2 _ rfl
   have cl:=Xc.out.lt
   have d0:=Xd.out.cell 0 _ rfl
   have d1:=Xd.out.cell 1 _ rfl
   have d2:=Xd.out.cell 2 _ rfl
   have dl:=Xd.out.lt
   go_wp2_with fail
   go_ret
   exact⟨rfl,B14.out⟩
end Go.Proofs.YtepncopdjodfgaaGreatDoor
