import Derived.Test.YtepncopdjodfgaaGreatDoorMfD
import Derived.Test.YtepncopdjodfgaaGreatDoorMgI
import Derived.Test.YtepncopdjodfgaaGreatDoorMgU
namespace Go.Proofs.YtepncopdjodfgaaGreatDoor
open Go.RowKit
theorem rSort_f (wn cn ln:Int)(h64:C64 wn/\C64 cn/\C64 ln)(t:Co):RSo wn cn ln t:=by
 induction t using Co.ind with
 | h t ih=>exact rSort_step wn cn ln h64 t ih
set_option maxHeartbeats 1000000 in
theorem rConst_c (c:Co)(ad:Option Addr)(n cap:Nat)(w:World):Calls Tryz.prog 150 #[coV c (.slice ad n cap)] w fun e w'=>e=.returned (.bool (cst c))/\Below w.heap.size w w':=by
 have B1:Hid (∀ o,Below w.heap.size w (w.alloc o)):=fun o=>(Below.refl _ _).alloc (Nat.le_refl _) _
 by_cases h0:c.op=1
 ·rw[show cst c=true from cst_iff.2 (.inl h0)]
  have k0:(c.op==1)=true:=by simpa using h0
  go_enter Tryz.func150,Tryz.ntmps150
  go_wp2_with fail
  go_ret
  exact⟨rfl,B1.out _⟩
 ·have k0:(c.op==1)=false:=by simpa using h0
  by_cases h1:c.op=2
  ·rw[show cst c=true from cst_iff.2 (.inr h1)]
   have k1:(c.op==2)=true:=by simpa using h1
   go_enter Tryz.func150,Tryz.ntmps150
   go_wp2_with fail
   go_ret
   exact⟨rfl,B1.out _⟩
  ·rw[show cst c=false from by unfold cst;simp[h0,h1]]
   have k1:(c.op==2)=false:=by simpa using h1
   go_enter Tryz.func150,Tryz.ntmps150
   go_wp2_with fail
   go_ret
   exact⟨rfl,B1.out _⟩
set_option maxHeartbeats 1000000 in
theorem rsort18_c (c:Co)(v:Value)(w:World)(hs:CSits w c v)(hn:cnodes c<=8192):Calls Tryz.prog 51 #[coV c v] w fun e w'=>e=.returned (.int .i64 (sM c))/\Below w.heap.size w w':=by
 have HC:=chid (fun W (hW:Below w.heap.size w W)=>rSort_f 256 256 256 fo_256 c v W (hs.next hW) hn)
 obtain⟨ad,cap,rfl,-,-⟩:=hs.parts.shape
 have ba:=(Below.refl w.heap.size w).alloc (Nat.le_refl _) (.cells (coL c (.slice ad c.parts.length cap)).toArray 30)
 have BA:=chid ba
 clear hs ba
 unfold sM
 generalize csort ladF 256 256 256 c=s at *
 go_enter Tryz.func51,Tryz.ntmps51
 go_wp2_with fail
 refine Calls.mono (HC.out _ BA.out) ?_
 rintro e w1 ⟨rfl,b1⟩
 have B1:=chid (cbelow_on BA.out b1 BA.out.size)
 clear b1 HC
 go_wp2_with fail
 go_ret
 exact⟨rfl,B1.out⟩
def failM (op:Int):Int:=if op=9\/(18<=op/\op<=22)\/op=25\/op=26 then 2 else 1
set_option maxHeartbeats 1000000 in
theorem rfail_c (n op:Int)(w:World):Calls Tryz.prog 153 #[.int .i64 n,.int .i64 op] w fun e w'=>e=.returned (coV ⟨6,n,failM op,[]⟩ (.slice none 0 0))/\Below w.heap.size w w':=by
 have HA:Hid (∀ o,Below w.heap.size w (w.alloc o)):=fun o=>(Below.refl _ _).alloc (Nat.le_refl _) _
 by_cases h:op=9\/(18<=op/\op<=22)\/op=25\/op=26
 ·rw[show failM op=2 from if_pos h]
  rcases h with rfl | h | rfl | rfl
  ·go_enter Tryz.func153,Tryz.ntmps153
   go_wp2_with fail
   refine bodyPost_ret (v:=coV ⟨6,n,2,[]⟩ (.slice none 0 0)) (by simp[results,Tryz.results153,go_sem, *]) rfl ?_
   exact⟨rfl,HA.out _⟩
  ·obtain⟨h1,h2⟩:=h
   have n9:(op==9)=false:=by simp;omega
   go_enter Tryz.func153,Tryz.ntmps153
   go_wp2_with fail
   refine bodyPost_ret (v:=coV ⟨6,n,2,[]⟩ (.slice none 0 0)) (by simp[results,Tryz.results153,go_sem, *]) rfl ?_
   exact⟨rfl,HA.out _⟩
  ·go_enter Tryz.func153,Tryz.ntmps153
   go_wp2_with fail
   refine bodyPost_ret (v:=coV ⟨6,n,2,[]⟩ (.slice none 0 0)) (by simp[results,Tryz.results153,go_sem, *]) rfl ?_
   exact⟨rfl,HA.out _⟩
  ·go_enter Tryz.func153,Tryz.ntmps153
   go_wp2_with fail
   refine bodyPost_ret (v:=coV ⟨6,n,2,[]⟩ (.slice none 0 0)) (by simp[results,Tryz.results153,go_sem, *]) rfl ?_
   exact⟨rfl,HA.out _⟩
 ·rw[show failM op=1 from if_neg h]
  have n9:(op==9)=false:=by simp;omega
  have n25:(op==25)=false:=by simp;omega
  have n26:(op==26)=false:=by simp;omega
  by_cases h18:18<=op
  ·have h22:¬ op<=22:=by omega
   clear h
   go_enter Tryz.func153,Tryz.ntmps153
   go_wp2_with fail
   refine bodyPost_ret (v:=coV ⟨6,n,1,[]⟩ (.slice none 0 0)) (by simp[results,Tryz.results153,go_sem, *]) rfl ?_
   exact⟨rfl,HA.out _⟩
  ·clear h
   go_enter Tryz.func153,Tryz.ntmps153
   go_wp2_with fail
   refine bodyPost_ret (v:=coV ⟨6,n,1,[]⟩ (.slice none 0 0)) (by simp[results,Tryz.results153,go_sem, *]) rfl ?_
   exact⟨rfl,HA.out _⟩
set_option maxHeartbeats 4000000 in
set_option maxRecDepth 20000 in
theorem rladder18_c (ok:Nat->Prop)(c:Co)(v:Value)(w:World)(h2:2<=c.parts.length)(hev0:c.parts.length%2=0)(hmx:c.parts.length<=8192)(hs:CSP ok w c v):
 Calls Tryz.prog 152 #[coV c v] w fun e w'=>∃ u,e=.returned (coV (c.parts.getD (ladI c.parts (c.parts.getD 0 co0).n c.parts.length c.parts.length 1) co0) u)/\CSP ok w (c.parts.getD (ladI c.parts (c.parts.getD 0 co0).n c.parts.length c.parts.length 1) co0) u/\Below w.heap.size w w':=by
 obtain⟨pb,off,cap,rfl,k1,k2,lp,hx⟩:=hs.at (by omega)
 obtain⟨a0,n0,f0,-⟩:=hx 0 (by omega)
 have e00:c.parts[0]'(by omega)=c.parts.getD 0 co0:=(coD_at (by omega)).symm
 rw[e00,Nat.zero_mul,Nat.add_zero] at f0
 obtain⟨v0,hv0⟩:∃ v0,Hid (v0=(c.parts.getD 0 co0).n):=⟨_,rfl⟩
 have z1:=f0.c1
 rw[<-hv0.out] at z1 ⊢
 obtain⟨D,hD⟩:∃ D,Hid (D=c.parts.getD (ladI c.parts v0 c.parts.length c.parts.length 1) co0):=⟨_,rfl⟩
 rw[<-hD.out]
 obtain⟨L,hL⟩:∃ L,Hid (L=c.parts.length):=⟨_,rfl⟩
 rw[<-hL.out] at hD
 have gP:∀ i (h:i<c.parts.length),c.parts.getD i co0=c.parts[i]:=fun i h=>by simp[List.getD,List.getElem?_eq_getElem h]
 have HGP:=chid gP
 have HX:=chid hx
 obtain⟨Y0,Y1,Y2⟩:=two_boxes w 30 30 (coL c (.slice (some ⟨pb,off,none⟩) c.parts.length cap)) [.int .i64 0,.int .i64 0,.int .i64 0,.slice none 0 0]
 have HY0:=chid Y0
 have HY1:=chid Y1
 have B0:=chid Y2
 have x3:=Y0.cell 3 _ rfl
 have xl:=Y0.lt
 have z1w:=(Y2.cell (p:=⟨pb,off+1,none⟩) lp).trans z1
 clear hs hx gP Y0 Y1 Y2 z1 f0 e00
 rw[<-hL.out] at HY0 B0 HY1 k1 h2 hmx x3 xl hev0 z1w ⊢
 obtain⟨M,rfl⟩:∃ M,L=M+1:=⟨L-1,by omega⟩
 have hev:Hid ((M+1)%2=0):=hev0
 clear hev0
 go_enter Tryz.func152,Tryz.ntmps152
 go_wp2_with fail
 generalize hW1:(w.alloc _).alloc _=w1 at *
 clear hW1
 go_loopw [4] (fun x wr=>∃ (i f:Nat),x=.int .i64 (i:Nat)/\i<=M/\Hid (i%2=1\/i=M)/\Hid (M+1<=i+2*f)/\Hid (ladI c.parts v0 (M+1) f i=ladI c.parts v0 (M+1) (M+1) 1)/\Hid (Below w1.heap.size w1 wr)) (fun x _=>match x with | .int _ p=>((M:Int)-p).toNat | _=>0)
 case atStart=>exact⟨1,M+1,rfl,by omega,chid (.inl rfl),chid (by omega),chid rfl,chid (Below.refl _ _)⟩
 case round=>
  obtain⟨i,f,rfl,hj,HO,HF,HJ,HWr⟩:=hrel
  have B1:=chid (cbelow_on B0.out HWr.out B0.out.size)
  have x3w:=(HWr.out.cell (p:=⟨w.heap.size,3,none⟩) xl).trans x3
  have xlw:=Nat.lt_of_lt_of_le xl HWr.out.size
  have z1r:=(HWr.out.cell (p:=⟨pb,off+1,none⟩) (Nat.lt_of_lt_of_le lp B0.out.size)).trans z1w
  by_cases hlt:i<M
  ·have hlt':(i:Int)<(M:Int):=by omega
   have hi1:i<c.parts.length:=by rw[<-hL.out];omega
   have hi2:i+1<c.parts.length:=by rw[<-hL.out];omega
   obtain⟨a5,n5,f5,-⟩:=HX.out i hi1
   have q1:=(f5.keep (w':=wr) (fun j=>B1.out.cell (p:=⟨pb,j,none⟩) lp)).c1
   have gp:=HGP.out i hi1
   have lpw:pb<wr.heap.size:=Nat.lt_of_lt_of_le lp B1.out.size
   have hil:(i:Int)<(M:Int)+1:=by omega
   by_cases hv:v0<c.parts[i].n
   ·have hJ2:ladI c.parts v0 (M+1) f i=i+1:=ladI_hit (by omega) (by rw[gp];exact hv) (by have:=HF.out;omega)
    obtain⟨a6,n6,f6,c6⟩:=HX.out (i+1) hi2
    obtain⟨p0,p1,p2,p3⟩:=f6.keep (w':=wr) (fun j=>B1.out.cell (p:=⟨pb,j,none⟩) lp)
    have hR:Hid (D=c.parts[i+1]):=by show _=_;rw[hD.out,<-HJ.out,hJ2,HGP.out (i+1) hi2]
    have HC6:=chid c6
    have hil2:(i:Int)+1<(M:Int)+1:=by omega
    clear HJ hJ2 gp f5 f6 c6 HX HGP hD
    generalize c.parts[i+1]=x6 at *
    generalize c.parts[i].n=n7 at *
    go_wp2_with fail
    go_quiet (fail)
    have BD:Below wr.heap.size wr (wr.drewN nq):=cdrewN (Below.refl _ _) _
    generalize wr.drewN nq=w5 at *
    have B5:=chid (cbelow_on B1.out BD B1.out.size)
    have x5:=(BD.cell (p:=⟨w.heap.size,3,none⟩) xlw).trans x3w
    have xl5:=Nat.lt_of_lt_of_le xlw BD.size
    replace p0:=(BD.cell (p:=⟨pb,_,none⟩) lpw).trans p0
    replace p1:=(BD.cell (p:=⟨pb,_,none⟩) lpw).trans p1
    replace p2:=(BD.cell (p:=⟨pb,_,none⟩) lpw).trans p2
    replace p3:=(BD.cell (p:=⟨pb,_,none⟩) lpw).trans p3
    have lp5:=Nat.lt_of_lt_of_le lpw BD.size
    have Y5:=(HY1.out.next HWr.out).next BD
    have y0:=Y5.cell 0 _ rfl
    have y1:=Y5.cell 1 _ rfl
    have y2:=Y5.cell 2 _ rfl
    have y3:=Y5.cell 3 _ rfl
    have g0:=Y5.free 0 (by simp)
    have g1:=Y5.free 1 (by simp)
    have g2:=Y5.free 2 (by simp)
    have g3:=Y5.free 3 (by simp)
    have yl:=Y5.lt
    clear Y5 BD
    go_wp2_with fail
    refine bodyPost_ret (v:=coV x6 (.slice a6 x6.parts.length n6)) (by simp[results,Tryz.results152,go_sem, *]) rfl ?_
    exact⟨_,by rw[hR.out],by rw[hR.out];exact HC6.out,(((B5.out.setCell (p:=⟨w.heap.size+1,0,none⟩) (by simp) _).setCell (p:=⟨w.heap.size+1,1,none⟩) (by simp) _).setCell (p:=⟨w.heap.size+1,2,none⟩) (by simp) _).setCell (p:=⟨w.heap.size+1,3,none⟩) (by simp) _⟩
   ·obtain⟨f',rfl⟩:∃ f',f=f'+1:=⟨f-1,by have:=HF.out;omega⟩
    have hJ2:Hid (ladI c.parts v0 (M+1) f' (i+2)=ladI c.parts v0 (M+1) (M+1) 1):=by
     show _=_
     rw[<-HJ.out,ladI_on (by omega) (by rw[gp];exact hv)]
    clear HJ gp f5 HX
    generalize c.parts[i].n=n7 at *
    go_wp2_with fail
    go_quiet (fail)
    go_wp2_with fail
    go_roundw
    case rel=>exact⟨i+2,f',by go_num,by have:=HO.out;have:=hev.out;omega,chid (by have:=HO.out;have:=hev.out;omega),chid (by have:=HF.out;omega),hJ2.out,by first | exact HWr.out | exact HWr.out.drew | exact cdrewN HWr.out _⟩
    case measure=>simp;omega
  ·have hlt':¬(i:Int)<(M:Int):=by omega
   obtain rfl:i=M:=by omega
   have hiM:i<c.parts.length:=by rw[<-hL.out];omega
   have hJ2:ladI c.parts v0 (i+1) f i=i:=ladI_end (by omega) (by have:=HF.out;omega)
   obtain⟨a6,n6,f6,c6⟩:=HX.out i hiM
   obtain⟨p0,p1,p2,p3⟩:=f6.keep (w':=wr) (fun j=>B1.out.cell (p:=⟨pb,j,none⟩) lp)
   have lpw:pb<wr.heap.size:=Nat.lt_of_lt_of_le lp B1.out.size
   have hR:Hid (D=c.parts[i]):=by show _=_;rw[hD.out,<-HJ.out,hJ2,HGP.out i hiM]
   have HC6:=chid c6
   clear HJ hJ2 f6 c6 HX HGP hD
   generalize c.parts[i]=x6 at *
   have y0:=(HY1.out.next HWr.out).cell 0 _ rfl
   have y1:=(HY1.out.next HWr.out).cell 1 _ rfl
   have y2:=(HY1.out.next HWr.out).cell 2 _ rfl
   have y3:=(HY1.out.next HWr.out).cell 3 _ rfl
   have g0:=(HY1.out.next HWr.out).free 0 (by simp)
   have g1:=(HY1.out.next HWr.out).free 1 (by simp)
   have g2:=(HY1.out.next HWr.out).free 2 (by simp)
   have g3:=(HY1.out.next HWr.out).free 3 (by simp)
   have yl:=(HY1.out.next HWr.out).lt
   go_wp2_with fail
   refine bodyPost_ret (v:=coV x6 (.slice a6 x6.parts.length n6)) (by simp[results,Tryz.results152,go_sem, *]) rfl ?_
   exact⟨_,by rw[hR.out],by rw[hR.out];exact HC6.out,(((B1.out.setCell (p:=⟨w.heap.size+1,0,none⟩) (by simp) _).setCell (p:=⟨w.heap.size+1,1,none⟩) (by simp) _).setCell (p:=⟨w.heap.size+1,2,none⟩) (by simp) _).setCell (p:=⟨w.heap.size+1,3,none⟩) (by simp) _⟩
theorem failM_ok {c:Co}{k:Nat}(hop:c.op=(k:Int))(hk:8<=k/\k<=26)(hz:sM c≠0):failM c.op=sM c:=by
 obtain⟨q,hop2,h1,h2,hb,hp,hs⟩:=shp_of hz
 obtain rfl:q=k:=by omega
 have e:∀ s,(s=2/\(q=9\/(18<=q/\q<=22)\/q=25\/q=26))\/(s=1/\¬(q=9\/(18<=q/\q<=22)\/q=25\/q=26))->failM c.op=s:=fun s h=>by
  unfold failM
  rcases h with ⟨rfl,h⟩ | ⟨rfl,h⟩
  ·exact if_pos (by omega)
  ·exact if_neg (by omega)
 rcases hs with ⟨h,-⟩ | ⟨h,-⟩ | ⟨h,hs,-⟩ | ⟨h,hs,-⟩ | ⟨h,hs,-⟩ | ⟨h,-⟩ | ⟨h,-⟩ | ⟨h,-⟩ | ⟨h,-⟩
 ·omega
 ·omega
 ·refine e _ ?_
  split at hs
  ·exact .inl ⟨hs,by omega⟩
  ·exact .inr ⟨hs,by omega⟩
 ·refine e _ ?_
  split at hs
  ·exact .inl ⟨hs,by omega⟩
  ·exact .inr ⟨hs,by omega⟩
 ·exact e _ (.inl ⟨hs,by omega⟩)
 ·omega
 ·omega
 ·omega
 ·omega
set_option maxHeartbeats 400000 in
set_option maxRecDepth 20000 in
theorem rvalue_c (c:Co)(v:Value)(w:World)(k:Nat)(hop:c.op=(k:Int))(hk:8<=k/\k<=24)(hz:sM c≠0)(hc:∀ x,x∈c.parts->cst x=true)(hs:CSits w c v):
 Calls Tryz.prog 154 #[coV c v] w fun e w'=>e=.returned (coV (if (telV E00 c).2≠0 then failF c (telV E00 c).2 else if sM c=2 then ⟨2,(telV E00 c).1,0,[]⟩ else ⟨1,(telV E00 c).1,0,[]⟩) (.slice none 0 0))/\Below w.heap.size w w':=by
 obtain⟨hs1,hs2⟩:=e00_sort hop hk hz hc
 have HE:=chid (fun W (hW:Below w.heap.size w W)=>rEval_all E00 e00_ok c ⟨w,v,hs⟩ (by rw[hs1];exact hs2) v _ _ W (hs.next hW) (e00_at W))
 have HFa:=chid (fun n W=>rfail_c n c.op W)
 rw[failM_ok hop (by omega) hz] at HFa
 have hk2:Hid (sM c=2↔k=9\/(18<=k/\k<=22)):=by
  have h:=failM_ok hop (by omega) hz
  unfold failM at h
  refine chid ⟨fun e=>?_,fun e=>?_⟩
  ·rw[e] at h
   split at h
   ·omega
   ·cases h
  ·rw[<-h];exact if_pos (by omega)
 obtain⟨D,hD⟩:∃ D:Co,Hid (D=if (telV E00 c).2≠0 then failF c (telV E00 c).2 else if sM c=2 then ⟨2,(telV E00 c).1,0,[]⟩ else ⟨1,(telV E00 c).1,0,[]⟩):=⟨_,rfl⟩
 rw[<-hD.out]
 obtain⟨ad,cap,rfl,-,-⟩:=hs.parts.shape
 obtain⟨Y0,Y1,Y2⟩:=two_boxes w 30 30 (coL c (.slice ad c.parts.length cap)) [.int .i64 0,.int .i64 0,.int .i64 0,.slice none 0 0]
 have HY0:=chid Y0
 have HY1:=chid Y1
 have B0:=chid Y2
 unfold failF at hD
 have HOp:=chid hop
 clear hs Y0 Y1 Y2 hs1 hs2 hz hc hop
 generalize telV E00 c=t0 at *
 simp only[envV,E00] at HE
 have hD':Hid (D=if t0.2≠0 then ⟨6,t0.2,sM c,[]⟩ else if sM c=2 then ⟨2,t0.1,0,[]⟩ else ⟨1,t0.1,0,[]⟩):=hD
 clear hD
 generalize sM c=sm at *
 obtain⟨tn,tr⟩:=t0
 dsimp only at hD'
 by_cases hr:tr=0
 case neg=>
  have hD2:Hid (D=⟨6,tr,sm,[]⟩):=hD'.out.trans (if_pos hr)
  have hrb:(tr != 0)=true:=by simpa using hr
  have HE3:Hid (∀ W,Below w.heap.size w W->Calls Tryz.prog 35 #[coV c (.slice ad c.parts.length cap),.agg #[.int .i64 0,.slice none 0 0,.slice none 0 0]] W fun e w'=>e=.returned (.agg #[.int .i64 tr,.int .i64 tn])/\Below W.heap.size W w'):=HE
  clear hD' HE hk2
  go_enter Tryz.func154,Tryz.ntmps154
  go_wp2_with fail
  refine Calls.mono (HE3.out _ B0.out) ?_
  rintro e w1 ⟨rfl,b1⟩
  have B1:=chid (cbelow_on B0.out b1 B0.out.size)
  have Y1:=chid (HY1.out.next b1)
  have Y0:=chid (HY0.out.next b1)
  have HA1:Hid (∀ o,Below w.heap.size w (w1.alloc o)):=fun o=>B1.out.alloc B1.out.size _
  clear b1 HE3
  have x0:=Y0.out.cell 0 _ rfl
  have x1:=Y0.out.cell 1 _ rfl
  have x2:=Y0.out.cell 2 _ rfl
  have x3:=Y0.out.cell 3 _ rfl
  have xl:=Y0.out.lt
  go_wp2_with fail
  refine Calls.mono (HFa.out _ _) ?_
  rintro e w2 ⟨rfl,b2⟩
  have B2:=chid (cbelow_on (HA1.out _) b2 (HA1.out _).size)
  replace Y1:=chid ((Y1.out.next ((Below.refl _ _).alloc (Nat.le_refl _) _)).next b2)
  clear x0 x1 x2 x3 xl b2 HFa Y0
  have y0:=Y1.out.cell 0 _ rfl
  have y1:=Y1.out.cell 1 _ rfl
  have y2:=Y1.out.cell 2 _ rfl
  have y3:=Y1.out.cell 3 _ rfl
  have g0:=Y1.out.free 0 (by simp)
  have g1:=Y1.out.free 1 (by simp)
  have g2:=Y1.out.free 2 (by simp)
  have g3:=Y1.out.free 3 (by simp)
  have yl:=Y1.out.lt
  go_wp2_with fail
  refine bodyPost_ret (v:=coV ⟨6,tr,sm,[]⟩ (.slice none 0 0)) (by simp[results,Tryz.results154,go_sem, *]) rfl ?_
  exact⟨by rw[hD2.out],((((B2.out.setCell (p:=⟨w.heap.size+1,0,none⟩) (by simp) _).setCell (p:=⟨w.heap.size+1,1,none⟩) (by simp) _).setCell (p:=⟨w.heap.size+1,2,none⟩) (by simp) _).setCell (p:=⟨w.heap.size+1,3,none⟩) (by simp) _)⟩
 subst hr
 have hD2:Hid (D=if sm=2 then ⟨2,tn,0,[]⟩ else ⟨1,tn,0,[]⟩):=hD'.out.trans (if_neg (by simp))
 have HE3:Hid (∀ W,Below w.heap.size w W->Calls Tryz.prog 35 #[coV c (.slice ad c.parts.length cap),.agg #[.int .i64 0,.slice none 0 0,.slice none 0 0]] W fun e w'=>e=.returned (.agg #[.int .i64 0,.int .i64 tn])/\Below W.heap.size W w'):=HE
 clear hD' HE HFa
 have hbr:(c.op=9/\sm=2)\/(¬ c.op=9/\(18<=c.op/\c.op<=22)/\sm=2)\/(¬ c.op=9/\¬ 18<=c.op/\sm≠2)\/(¬ c.op=9/\18<=c.op/\¬ c.op<=22/\sm≠2):=by
  have h:=hk2.out
  have hop:=HOp.out
  by_cases h9:k=9
  ·exact .inl ⟨by omega,h.2 (.inl h9)⟩
  ·by_cases h18:18<=k
   ·by_cases h22:k<=22
    ·exact .inr (.inl ⟨by omega,by omega,h.2 (.inr ⟨h18,h22⟩)⟩)
    ·exact .inr (.inr (.inr ⟨by omega,by omega,by omega,fun e=>by have:=h.1 e;omega⟩))
   ·exact .inr (.inr (.inl ⟨by omega,by omega,fun e=>by have:=h.1 e;omega⟩))
 clear hk2 HOp hk
 rcases hbr with ⟨h9,hm⟩ | ⟨h9,⟨h18,h22⟩,hm⟩ | ⟨h9,h18,hm⟩ | ⟨h9,h18,h22,hm⟩
 ·have n9:(c.op==9)=true:=by simpa using h9
  have H9:=chid h9
  clear h9
  have hD3:Hid (D=⟨2,tn,0,[]⟩):=hD2.out.trans (if_pos hm)
  have hD2x:=hD2
  clear hD2 hm
  clear hD2x
  go_enter Tryz.func154,Tryz.ntmps154
  go_wp2_with fail
  refine Calls.mono (HE3.out _ B0.out) ?_
  rintro e w1 ⟨rfl,b1⟩
  have B1:=chid (cbelow_on B0.out b1 B0.out.size)
  have Y1:=chid (HY1.out.next b1)
  have Y0:=chid (HY0.out.next b1)
  have HA1:Hid (∀ o,Below w.heap.size w (w1.alloc o)):=fun o=>B1.out.alloc B1.out.size _
  have Y4:=Y1.out.next ((Below.refl w1.heap.size w1).alloc (Nat.le_refl _) (.cells #[.int .i64 0,.int .i64 tn] 72))
  clear b1 HE3
  have x0:=Y0.out.cell 0 _ rfl
  have x1:=Y0.out.cell 1 _ rfl
  have x2:=Y0.out.cell 2 _ rfl
  have x3:=Y0.out.cell 3 _ rfl
  have xl:=Y0.out.lt
  have y0:=Y4.cell 0 _ rfl
  have y1:=Y4.cell 1 _ rfl
  have y2:=Y4.cell 2 _ rfl
  have y3:=Y4.cell 3 _ rfl
  have g0:=Y4.free 0 (by simp)
  have g1:=Y4.free 1 (by simp)
  have g2:=Y4.free 2 (by simp)
  have g3:=Y4.free 3 (by simp)
  have yl:=Y4.lt
  clear Y4
  go_wp2_with fail
  refine bodyPost_ret (v:=coV ⟨2,tn,0,[]⟩ (.slice none 0 0)) (by simp[results,Tryz.results154,go_sem, *]) rfl ?_
  exact⟨by rw[hD3.out],(((((HA1.out _).setCell (p:=⟨w.heap.size+1,0,none⟩) (by simp) _).setCell (p:=⟨w.heap.size+1,1,none⟩) (by simp) _).setCell (p:=⟨w.heap.size+1,2,none⟩) (by simp) _).setCell (p:=⟨w.heap.size+1,3,none⟩) (by simp) _)⟩
 ·have n9:(c.op==9)=false:=by simpa using h9
  have hD3:Hid (D=⟨2,tn,0,[]⟩):=hD2.out.trans (if_pos hm)
  have hD2x:=hD2
  clear hD2 hm
  clear hD2x
  go_enter Tryz.func154,Tryz.ntmps154
  go_wp2_with fail
  refine Calls.mono (HE3.out _ B0.out) ?_
  rintro e w1 ⟨rfl,b1⟩
  have B1:=chid (cbelow_on B0.out b1 B0.out.size)
  have Y1:=chid (HY1.out.next b1)
  have Y0:=chid (HY0.out.next b1)
  have HA1:Hid (∀ o,Below w.heap.size w (w1.alloc o)):=fun o=>B1.out.alloc B1.out.size _
  have Y4:=Y1.out.next ((Below.refl w1.heap.size w1).alloc (Nat.le_refl _) (.cells #[.int .i64 0,.int .i64 tn] 72))
  clear b1 HE3
  have x0:=Y0.out.cell 0 _ rfl
  have x1:=Y0.out.cell 1 _ rfl
  have x2:=Y0.out.cell 2 _ rfl
  have x3:=Y0.out.cell 3 _ rfl
  have xl:=Y0.out.lt
  have y0:=Y4.cell 0 _ rfl
  have y1:=Y4.cell 1 _ rfl
  have y2:=Y4.cell 2 _ rfl
  have y3:=Y4.cell 3 _ rfl
  have g0:=Y4.free 0 (by simp)
  have g1:=Y4.free 1 (by simp)
  have g2:=Y4.free 2 (by simp)
  have g3:=Y4.free 3 (by simp)
  have yl:=Y4.lt
  clear Y4
  go_wp2_with fail
  refine bodyPost_ret (v:=coV ⟨2,tn,0,[]⟩ (.slice none 0 0)) (by simp[results,Tryz.results154,go_sem, *]) rfl ?_
  exact⟨by rw[hD3.out],(((((HA1.out _).setCell (p:=⟨w.heap.size+1,0,none⟩) (by simp) _).setCell (p:=⟨w.heap.size+1,1,none⟩) (by simp) _).setCell (p:=⟨w.heap.size+1,2,none⟩) (by simp) _).setCell (p:=⟨w.heap.size+1,3,none⟩) (by simp) _)⟩
 ·have n9:(c.op==9)=false:=by simpa using h9
  have hD3:Hid (D=⟨1,tn,0,[]⟩):=hD2.out.trans (if_neg hm)
  have hD2x:=hD2
  clear hD2 hm
  clear hD2x
  go_enter Tryz.func154,Tryz.ntmps154
  go_wp2_with fail
  refine Calls.mono (HE3.out _ B0.out) ?_
  rintro e w1 ⟨rfl,b1⟩
  have B1:=chid (cbelow_on B0.out b1 B0.out.size)
  have Y1:=chid (HY1.out.next b1)
  have Y0:=chid (HY0.out.next b1)
  have HA1:Hid (∀ o,Below w.heap.size w (w1.alloc o)):=fun o=>B1.out.alloc B1.out.size _
  have Y4:=Y1.out.next ((Below.refl w1.heap.size w1).alloc (Nat.le_refl _) (.cells #[.int .i64 0,.int .i64 tn] 72))
  clear b1 HE3
  have x0:=Y0.out.cell 0 _ rfl
  have x1:=Y0.out.cell 1 _ rfl
  have x2:=Y0.out.cell 2 _ rfl
  have x3:=Y0.out.cell 3 _ rfl
  have xl:=Y0.out.lt
  have y0:=Y4.cell 0 _ rfl
  have y1:=Y4.cell 1 _ rfl
  have y2:=Y4.cell 2 _ rfl
  have y3:=Y4.cell 3 _ rfl
  have g0:=Y4.free 0 (by simp)
  have g1:=Y4.free 1 (by simp)
  have g2:=Y4.free 2 (by simp)
  have g3:=Y4.free 3 (by simp)
  have yl:=Y4.lt
  clear Y4
  go_wp2_with fail
  refine bodyPost_ret (v:=coV ⟨1,tn,0,[]⟩ (.slice none 0 0)) (by simp[results,Tryz.results154,go_sem, *]) rfl ?_
  exact⟨by rw[hD3.out],(((((HA1.out _).setCell (p:=⟨w.heap.size+1,0,none⟩) (by simp) _).setCell (p:=⟨w.heap.size+1,1,none⟩) (by simp) _).setCell (p:=⟨w.heap.size+1,2,none⟩) (by simp) _).setCell (p:=⟨w.heap.size+1,3,none⟩) (by simp) _)⟩
 ·have n9:(c.op==9)=false:=by simpa using h9
  have hD3:Hid (D=⟨1,tn,0,[]⟩):=hD2.out.trans (if_neg hm)
  have hD2x:=hD2
  clear hD2 hm
  clear hD2x
  go_enter Tryz.func154,Tryz.ntmps154
  go_wp2_with fail
  refine Calls.mono (HE3.out _ B0.out) ?_
  rintro e w1 ⟨rfl,b1⟩
  have B1:=chid (cbelow_on B0.out b1 B0.out.size)
  have Y1:=chid (HY1.out.next b1)
  have Y0:=chid (HY0.out.next b1)
  have HA1:Hid (∀ o,Below w.heap.size w (w1.alloc o)):=fun o=>B1.out.alloc B1.out.size _
  have Y4:=Y1.out.next ((Below.refl w1.heap.size w1).alloc (Nat.le_refl _) (.cells #[.int .i64 0,.int .i64 tn] 72))
  clear b1 HE3
  have x0:=Y0.out.cell 0 _ rfl
  have x1:=Y0.out.cell 1 _ rfl
  have x2:=Y0.out.cell 2 _ rfl
  have x3:=Y0.out.cell 3 _ rfl
  have xl:=Y0.out.lt
  have y0:=Y4.cell 0 _ rfl
  have y1:=Y4.cell 1 _ rfl
  have y2:=Y4.cell 2 _ rfl
  have y3:=Y4.cell 3 _ rfl
  have g0:=Y4.free 0 (by simp)
  have g1:=Y4.free 1 (by simp)
  have g2:=Y4.free 2 (by simp)
  have g3:=Y4.free 3 (by simp)
  have yl:=Y4.lt
  clear Y4
  go_wp2_with fail
  refine bodyPost_ret (v:=coV ⟨1,tn,0,[]⟩ (.slice none 0 0)) (by simp[results,Tryz.results154,go_sem, *]) rfl ?_
  exact⟨by rw[hD3.out],(((((HA1.out _).setCell (p:=⟨w.heap.size+1,0,none⟩) (by simp) _).setCell (p:=⟨w.heap.size+1,1,none⟩) (by simp) _).setCell (p:=⟨w.heap.size+1,2,none⟩) (by simp) _).setCell (p:=⟨w.heap.size+1,3,none⟩) (by simp) _)⟩
end Go.Proofs.YtepncopdjodfgaaGreatDoor
