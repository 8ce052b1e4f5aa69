import Derived.Test.YtkbmgloilckdhaaGreatDoorMfD
import Derived.Test.YtkbmgloilckdhaaGreatDoorCrL
import Derived.Test.YtkbmgloilckdhaaGreatDoorMgU
namespace Go.Proofs.YtkbmgloilckdhaaGreatDoor
open Go.RowKit
theorem b5B (wn cn ln:Int)(h64:C64 wn/\C64 cn/\C64 ln)(t:Co):RSo wn cn ln t:=by
 induction t using Co.ind with
 | h t ih=>exact a5z wn cn ln h64 t ih
set_option maxHeartbeats 1000000 in
theorem a0N (c:Co)(ad:Option Addr)(n cap:Nat)(w:World):Calls Tryz.prog 68 #[coV c (.slice ad n cap)] w fun e w'=>e=.returned (.bool (cst c))/\Below w.heap.size w w':=by
 have B1:Hid (∀ o,Below w.heap.size w (w.alloc o)):=fun o=>(Below.refl _ _).alloc (Nat.le_refl _) _
 by_cases h0:c.op=1
 ·rw[show cst c=true from a2K.2 (.inl h0)]
  have k0:(c.op==1)=true:=by simpa using h0
  go_enter Tryz.func68,Tryz.ntmps68
  go_wp2_with fail
  go_ret
  exact⟨rfl,B1.out _⟩
 ·have k0:(c.op==1)=false:=by simpa using h0
  by_cases h1:c.op=2
  ·rw[show cst c=true from a2K.2 (.inr h1)]
   have k1:(c.op==2)=true:=by simpa using h1
   go_enter Tryz.func68,Tryz.ntmps68
   go_wp2_with fail
   go_ret
   exact⟨rfl,B1.out _⟩
  ·rw[show cst c=false from by unfold cst;simp[h0,h1]]
   have k1:(c.op==2)=false:=by simpa using h1
   go_enter Tryz.func68,Tryz.ntmps68
   go_wp2_with fail
   go_ret
   exact⟨rfl,B1.out _⟩
set_option maxHeartbeats 1000000 in
theorem b0g (c:Co)(v:Value)(w:World)(hs:a0m w c v)(hn:a0q c<=8192):Calls Tryz.prog 130 #[coV c v] w fun e w'=>e=.returned (.int .i64 (sM c))/\Below w.heap.size w w':=by
 have HC:=a0a (fun W (hW:Below w.heap.size w W)=>b5B 256 256 256 b4C c v W (hs.next hW) hn)
 obtain⟨ad,cap,rfl,-,-⟩:=hs.parts.shape
 have ba:=(Below.refl w.heap.size w).alloc (Nat.le_refl _) (.cells (coL c (.slice ad c.parts.length cap)).toArray 30)
 have BA:=a0a ba
 clear hs ba
 unfold sM
 generalize a0k a0t 256 256 256 c=s at *
 go_enter Tryz.func130,Tryz.ntmps130
 go_wp2_with fail
 refine Calls.mono (HC.out _ BA.out) ?_
 rintro e w1 ⟨rfl,b1⟩
 have B1:=kb BA b1
 clear b1 HC
 go_wp2_with fail
 go_ret
 exact⟨rfl,B1.out⟩
def a2m (op:Int):Int:=if op=9\/(18<=op/\op<=22)\/op=25\/op=26 then 2 else 1
set_option maxHeartbeats 1000000 in
theorem a4f (n op:Int)(w:World):Calls Tryz.prog 71 #[.int .i64 n,.int .i64 op] w fun e w'=>e=.returned (coV ⟨6,n,a2m op,[]⟩ (.slice none 0 0))/\Below w.heap.size w w':=by
 have HA:Hid (∀ o,Below w.heap.size w (w.alloc o)):=fun o=>(Below.refl _ _).alloc (Nat.le_refl _) _
 by_cases h:op=9\/(18<=op/\op<=22)\/op=25\/op=26
 ·rw[show a2m op=2 from if_pos h]
  rcases h with rfl | h | rfl | rfl
  ·go_enter Tryz.func71,Tryz.ntmps71
   go_wp2_with fail
   refine bodyPost_ret (v:=coV ⟨6,n,2,[]⟩ (.slice none 0 0)) (by simp[results,Tryz.results71,go_sem, *]) rfl ?_
   exact⟨rfl,HA.out _⟩
  ·obtain⟨h1,h2⟩:=h
   have n9:(op==9)=false:=by simp;omega
   go_enter Tryz.func71,Tryz.ntmps71
   go_wp2_with fail
   refine bodyPost_ret (v:=coV ⟨6,n,2,[]⟩ (.slice none 0 0)) (by simp[results,Tryz.results71,go_sem, *]) rfl ?_
   exact⟨rfl,HA.out _⟩
  ·go_enter Tryz.func71,Tryz.ntmps71
   go_wp2_with fail
   refine bodyPost_ret (v:=coV ⟨6,n,2,[]⟩ (.slice none 0 0)) (by simp[results,Tryz.results71,go_sem, *]) rfl ?_
   exact⟨rfl,HA.out _⟩
  ·go_enter Tryz.func71,Tryz.ntmps71
   go_wp2_with fail
   refine bodyPost_ret (v:=coV ⟨6,n,2,[]⟩ (.slice none 0 0)) (by simp[results,Tryz.results71,go_sem, *]) rfl ?_
   exact⟨rfl,HA.out _⟩
 ·rw[show a2m op=1 from if_neg h]
  have n9:(op==9)=false:=by simp;omega
  have n25:(op==25)=false:=by simp;omega
  have n26:(op==26)=false:=by simp;omega
  by_cases h18:18<=op
  ·have h22:¬ op<=22:=by omega
   clear h
   go_enter Tryz.func71,Tryz.ntmps71
   go_wp2_with fail
   refine bodyPost_ret (v:=coV ⟨6,n,1,[]⟩ (.slice none 0 0)) (by simp[results,Tryz.results71,go_sem, *]) rfl ?_
   exact⟨rfl,HA.out _⟩
  ·clear h
   go_enter Tryz.func71,Tryz.ntmps71
   go_wp2_with fail
   refine bodyPost_ret (v:=coV ⟨6,n,1,[]⟩ (.slice none 0 0)) (by simp[results,Tryz.results71,go_sem, *]) rfl ?_
   exact⟨rfl,HA.out _⟩
set_option maxHeartbeats 4000000 in
set_option maxRecDepth 20000 in
theorem a7H (ok:Nat->Prop)(c:Co)(v:Value)(w:World)(h2:2<=c.parts.length)(hev0:c.parts.length%2=0)(hmx:c.parts.length<=8192)(hs:CSP ok w c v):
 Calls Tryz.prog 70 #[coV c v] w fun e w'=>∃ u,e=.returned (coV (c.parts.getD (a2g c.parts (c.parts.getD 0 co0).n c.parts.length c.parts.length 1) co0) u)/\CSP ok w (c.parts.getD (a2g c.parts (c.parts.getD 0 co0).n c.parts.length c.parts.length 1) co0) u/\Below w.heap.size w w':=by
 obtain⟨pb,off,cap,rfl,k1,k2,lp,hx⟩:=hs.at (by omega)
 obtain⟨a0,n0,f0,-⟩:=hx 0 (by omega)
 have e00:c.parts[0]'(by omega)=c.parts.getD 0 co0:=(a4Z (by omega)).symm
 rw[e00,Nat.zero_mul,Nat.add_zero] at f0
 obtain⟨v0,hv0⟩:∃ v0,Hid (v0=(c.parts.getD 0 co0).n):=⟨_,rfl⟩
 have z1:=f0.c1
 rw[<-hv0.out] at z1 ⊢
 obtain⟨D,hD⟩:∃ D,Hid (D=c.parts.getD (a2g c.parts v0 c.parts.length c.parts.length 1) co0):=⟨_,rfl⟩
 rw[<-hD.out]
 obtain⟨L,hL⟩:∃ L,Hid (L=c.parts.length):=⟨_,rfl⟩
 rw[<-hL.out] at hD
 have gP:∀ i (h:i<c.parts.length),c.parts.getD i co0=c.parts[i]:=fun i h=>by simp[List.getD,List.getElem?_eq_getElem h]
 have HGP:=a0a gP
 have HX:=a0a hx
 obtain⟨Y0,Y1,Y2⟩:=a0e w 30 30 (coL c (.slice (some ⟨pb,off,none⟩) c.parts.length cap)) [.int .i64 0,.int .i64 0,.int .i64 0,.slice none 0 0]
 have HY0:=a0a Y0
 have HY1:=a0a Y1
 have B0:=a0a Y2
 have x3:=Y0.cell 3 _ rfl
 have xl:=Y0.lt
 have z1w:=(Y2.cell (p:=⟨pb,off+1,none⟩) lp).trans z1
 clear hs hx gP Y0 Y1 Y2 z1 f0 e00
 rw[<-hL.out] at HY0 B0 HY1 k1 h2 hmx x3 xl hev0 z1w ⊢
 obtain⟨M,rfl⟩:∃ M,L=M+1:=⟨L-1,by omega⟩
 have hev:Hid ((M+1)%2=0):=hev0
 clear hev0
 go_enter Tryz.func70,Tryz.ntmps70
 go_wp2_with fail
 generalize hW1:(w.alloc _).alloc _=w1 at *
 clear hW1
 go_loopw [4] (fun x wr=>∃ (i f:Nat),x=.int .i64 (i:Nat)/\i<=M/\Hid (i%2=1\/i=M)/\Hid (M+1<=i+2*f)/\Hid (a2g c.parts v0 (M+1) f i=a2g c.parts v0 (M+1) (M+1) 1)/\Hid (Below w1.heap.size w1 wr)) (fun x _=>match x with | .int _ p=>((M:Int)-p).toNat | _=>0)
 case atStart=>exact⟨1,M+1,rfl,by omega,a0a (.inl rfl),a0a (by omega),a0a rfl,a0a (Below.refl _ _)⟩
 case round=>
  obtain⟨i,f,rfl,hj,HO,HF,HJ,HWr⟩:=hrel
  have B1:=a0a (a0b B0.out HWr.out B0.out.size)
  have x3w:=(HWr.out.cell (p:=⟨w.heap.size,3,none⟩) xl).trans x3
  have xlw:=Nat.lt_of_lt_of_le xl HWr.out.size
  have z1r:=(HWr.out.cell (p:=⟨pb,off+1,none⟩) (Nat.lt_of_lt_of_le lp B0.out.size)).trans z1w
  by_cases hlt:i<M
  ·have hlt':(i:Int)<(M:Int):=by omega
   have hi1:i<c.parts.length:=by rw[<-hL.out];omega
   have hi2:i+1<c.parts.length:=by rw[<-hL.out];omega
   obtain⟨a5,n5,f5,-⟩:=HX.out i hi1
   have q1:=(f5.keep (w':=wr) (fun j=>B1.out.cell (p:=⟨pb,j,none⟩) lp)).c1
   have gp:=HGP.out i hi1
   have lpw:pb<wr.heap.size:=Nat.lt_of_lt_of_le lp B1.out.size
   have hil:(i:Int)<(M:Int)+1:=by omega
   by_cases hv:v0<c.parts[i].n
   ·have hJ2:a2g c.parts v0 (M+1) f i=i+1:=a4A (by omega) (by rw[gp];exact hv) (by have:=HF.out;omega)
    obtain⟨a6,n6,f6,c6⟩:=HX.out (i+1) hi2
    obtain⟨p0,p1,p2,p3⟩:=f6.keep (w':=wr) (fun j=>B1.out.cell (p:=⟨pb,j,none⟩) lp)
    have hR:Hid (D=c.parts[i+1]):=by show _=_;rw[hD.out,<-HJ.out,hJ2,HGP.out (i+1) hi2]
    have HC6:=a0a c6
    have hil2:(i:Int)+1<(M:Int)+1:=by omega
    clear HJ hJ2 gp f5 f6 c6 HX HGP hD
    generalize c.parts[i+1]=x6 at *
    generalize c.parts[i].n=n7 at *
    go_wp2_with fail
    go_quiet (fail)
    have BD:Below wr.heap.size wr (wr.drewN nq):=a0j (Below.refl _ _) _
    generalize wr.drewN nq=w5 at *
    have B5:=kb B1 BD
    have x5:=(BD.cell (p:=⟨w.heap.size,3,none⟩) xlw).trans x3w
    have xl5:=Nat.lt_of_lt_of_le xlw BD.size
    replace p0:=(BD.cell (p:=⟨pb,_,none⟩) lpw).trans p0
    replace p1:=(BD.cell (p:=⟨pb,_,none⟩) lpw).trans p1
    replace p2:=(BD.cell (p:=⟨pb,_,none⟩) lpw).trans p2
    replace p3:=(BD.cell (p:=⟨pb,_,none⟩) lpw).trans p3
    have lp5:=Nat.lt_of_lt_of_le lpw BD.size
    have Y5:=(HY1.out.next HWr.out).next BD
    obtain⟨y0,y1,y2,y3⟩:=Box.c4 Y5
    have g0:=Y5.free 0 (by simp)
    have g1:=Y5.free 1 (by simp)
    have g2:=Y5.free 2 (by simp)
    have g3:=Y5.free 3 (by simp)
    have yl:=Y5.lt
    clear Y5 BD
    go_wp2_with fail
    refine bodyPost_ret (v:=coV x6 (.slice a6 x6.parts.length n6)) (by simp[results,Tryz.results70,go_sem, *]) rfl ?_
    exact⟨_,by rw[hR.out],by rw[hR.out];exact HC6.out,(((B5.out.setCell (p:=⟨w.heap.size+1,0,none⟩) (by simp) _).setCell (p:=⟨w.heap.size+1,1,none⟩) (by simp) _).setCell (p:=⟨w.heap.size+1,2,none⟩) (by simp) _).setCell (p:=⟨w.heap.size+1,3,none⟩) (by simp) _⟩
   ·obtain⟨f',rfl⟩:∃ f',f=f'+1:=⟨f-1,by have:=HF.out;omega⟩
    have hJ2:Hid (a2g c.parts v0 (M+1) f' (i+2)=a2g c.parts v0 (M+1) (M+1) 1):=by
     show _=_
     rw[<-HJ.out,a6u (by omega) (by rw[gp];exact hv)]
    clear HJ gp f5 HX
    generalize c.parts[i].n=n7 at *
    go_wp2_with fail
    go_quiet (fail)
    go_wp2_with fail
    go_roundw
    case rel=>exact⟨i+2,f',by go_num,by have:=HO.out;have:=hev.out;omega,a0a (by have:=HO.out;have:=hev.out;omega),a0a (by have:=HF.out;omega),hJ2.out,by first | exact HWr.out | exact HWr.out.drew | exact a0j HWr.out _⟩
    case measure=>simp;omega
  ·have hlt':¬(i:Int)<(M:Int):=by omega
   obtain rfl:i=M:=by omega
   have hiM:i<c.parts.length:=by rw[<-hL.out];omega
   have hJ2:a2g c.parts v0 (i+1) f i=i:=a4B (by omega) (by have:=HF.out;omega)
   obtain⟨a6,n6,f6,c6⟩:=HX.out i hiM
   obtain⟨p0,p1,p2,p3⟩:=f6.keep (w':=wr) (fun j=>B1.out.cell (p:=⟨pb,j,none⟩) lp)
   have lpw:pb<wr.heap.size:=Nat.lt_of_lt_of_le lp B1.out.size
   have hR:Hid (D=c.parts[i]):=by show _=_;rw[hD.out,<-HJ.out,hJ2,HGP.out i hiM]
   have HC6:=a0a c6
   clear HJ hJ2 f6 c6 HX HGP hD
   generalize c.parts[i]=x6 at *
   have y0:=(HY1.out.next HWr.out).cell 0 _ rfl
   have y1:=(HY1.out.next HWr.out).cell 1 _ rfl
   have y2:=(HY1.out.next HWr.out).cell 2 _ rfl
   have y3:=(HY1.out.next HWr.out).cell 3 _ rfl
   have g0:=(HY1.out.next HWr.out).free 0 (by simp)
   have g1:=(HY1.out.next HWr.out).free 1 (by simp)
   have g2:=(HY1.out.next HWr.out).free 2 (by simp)
   have g3:=(HY1.out.next HWr.out).free 3 (by simp)
   have yl:=(HY1.out.next HWr.out).lt
   go_wp2_with fail
   refine bodyPost_ret (v:=coV x6 (.slice a6 x6.parts.length n6)) (by simp[results,Tryz.results70,go_sem, *]) rfl ?_
   exact⟨_,by rw[hR.out],by rw[hR.out];exact HC6.out,(((B1.out.setCell (p:=⟨w.heap.size+1,0,none⟩) (by simp) _).setCell (p:=⟨w.heap.size+1,1,none⟩) (by simp) _).setCell (p:=⟨w.heap.size+1,2,none⟩) (by simp) _).setCell (p:=⟨w.heap.size+1,3,none⟩) (by simp) _⟩
theorem a6z {c:Co}{k:Nat}(hop:c.op=(k:Int))(hk:8<=k/\k<=26)(hz:sM c≠0):a2m c.op=sM c:=by
 obtain⟨q,hop2,h1,h2,hb,hp,hs⟩:=a4J hz
 obtain rfl:q=k:=by omega
 have e:∀ s,(s=2/\(q=9\/(18<=q/\q<=22)\/q=25\/q=26))\/(s=1/\¬(q=9\/(18<=q/\q<=22)\/q=25\/q=26))->a2m c.op=s:=fun s h=>by
  unfold a2m
  rcases h with ⟨rfl,h⟩ | ⟨rfl,h⟩
  ·exact if_pos (by omega)
  ·exact if_neg (by omega)
 rcases hs with ⟨h,-⟩ | ⟨h,-⟩ | ⟨h,hs,-⟩ | ⟨h,hs,-⟩ | ⟨h,hs,-⟩ | ⟨h,-⟩ | ⟨h,-⟩ | ⟨h,-⟩ | ⟨h,-⟩
 ·omega
 ·omega
 ·refine e _ ?_
  split at hs
  ·exact .inl ⟨hs,by omega⟩
  ·exact .inr ⟨hs,by omega⟩
 ·refine e _ ?_
  split at hs
  ·exact .inl ⟨hs,by omega⟩
  ·exact .inr ⟨hs,by omega⟩
 ·exact e _ (.inl ⟨hs,by omega⟩)
 ·omega
 ·omega
 ·omega
 ·omega
set_option maxHeartbeats 400000 in
set_option maxRecDepth 20000 in
theorem b2w (c:Co)(v:Value)(w:World)(k:Nat)(hop:c.op=(k:Int))(hk:8<=k/\k<=24)(hz:sM c≠0)(hc:∀ x,x∈c.parts->cst x=true)(hs:a0m w c v):
 Calls Tryz.prog 72 #[coV c v] w fun e w'=>e=.returned (coV (if (a0f E00 c).2≠0 then a1G c (a0f E00 c).2 else if sM c=2 then ⟨2,(a0f E00 c).1,0,[]⟩ else ⟨1,(a0f E00 c).1,0,[]⟩) (.slice none 0 0))/\Below w.heap.size w w':=by
 obtain⟨hs1,hs2⟩:=a8y hop hk hz hc
 have HE:=a0a (fun W (hW:Below w.heap.size w W)=>b0w E00 b4D c ⟨w,v,hs⟩ (by rw[hs1];exact hs2) v _ _ W (hs.next hW) (b4E W))
 have HFa:=a0a (fun n W=>a4f n c.op W)
 rw[a6z hop (by omega) hz] at HFa
 have hk2:Hid (sM c=2↔k=9\/(18<=k/\k<=22)):=by
  have h:=a6z hop (by omega) hz
  unfold a2m at h
  refine a0a ⟨fun e=>?_,fun e=>?_⟩
  ·rw[e] at h
   split at h
   ·omega
   ·cases h
  ·rw[<-h];exact if_pos (by omega)
 obtain⟨D,hD⟩:∃ D:Co,Hid (D=if (a0f E00 c).2≠0 then a1G c (a0f E00 c).2 else if sM c=2 then ⟨2,(a0f E00 c).1,0,[]⟩ else ⟨1,(a0f E00 c).1,0,[]⟩):=⟨_,rfl⟩
 rw[<-hD.out]
 obtain⟨ad,cap,rfl,-,-⟩:=hs.parts.shape
 obtain⟨Y0,Y1,Y2⟩:=a0e w 30 30 (coL c (.slice ad c.parts.length cap)) [.int .i64 0,.int .i64 0,.int .i64 0,.slice none 0 0]
 have HY0:=a0a Y0
 have HY1:=a0a Y1
 have B0:=a0a Y2
 unfold a1G at hD
 have HOp:=a0a hop
 clear hs Y0 Y1 Y2 hs1 hs2 hz hc hop
 generalize a0f E00 c=t0 at *
 simp only[a6O,E00] at HE
 have hD':Hid (D=if t0.2≠0 then ⟨6,t0.2,sM c,[]⟩ else if sM c=2 then ⟨2,t0.1,0,[]⟩ else ⟨1,t0.1,0,[]⟩):=hD
 clear hD
 generalize sM c=sm at *
 obtain⟨tn,tr⟩:=t0
 dsimp only at hD'
 by_cases hr:tr=0
 case neg=>
  have hD2:Hid (D=⟨6,tr,sm,[]⟩):=hD'.out.trans (if_pos hr)
  have hrb:(tr != 0)=true:=by simpa using hr
  have HE3:Hid (∀ W,Below w.heap.size w W->Calls Tryz.prog 131 #[coV c (.slice ad c.parts.length cap),.agg #[.int .i64 0,.slice none 0 0,.slice none 0 0]] W fun e w'=>e=.returned (.agg #[.int .i64 tr,.int .i64 tn])/\Below W.heap.size W w'):=HE
  clear hD' HE hk2
  go_enter Tryz.func72,Tryz.ntmps72
  go_wp2_with fail
  refine Calls.mono (HE3.out _ B0.out) ?_
  rintro e w1 ⟨rfl,b1⟩
  have B1:=kb B0 b1
  have Y1:=a0a (HY1.out.next b1)
  have Y0:=a0a (HY0.out.next b1)
  have HA1:Hid (∀ o,Below w.heap.size w (w1.alloc o)):=fun o=>B1.out.alloc B1.out.size _
  clear b1 HE3
  obtain⟨x0,x1,x2,x3⟩:=Box.c4 Y0.out
  have xl:=Y0.out.lt
  go_wp2_with fail
  refine Calls.mono (HFa.out _ _) ?_
  rintro e w2 ⟨rfl,b2⟩
  have B2:=a0a (a0b (HA1.out _) b2 (HA1.out _).size)
  replace Y1:=a0a ((Y1.out.next ((Below.refl _ _).alloc (Nat.le_refl _) _)).next b2)
  clear x0 x1 x2 x3 xl b2 HFa Y0
  obtain⟨y0,y1,y2,y3⟩:=Box.c4 Y1.out
  have g0:=Y1.out.free 0 (by simp)
  have g1:=Y1.out.free 1 (by simp)
  have g2:=Y1.out.free 2 (by simp)
  have g3:=Y1.out.free 3 (by simp)
  have yl:=Y1.out.lt
  go_wp2_with fail
  refine bodyPost_ret (v:=coV ⟨6,tr,sm,[]⟩ (.slice none 0 0)) (by simp[results,Tryz.results72,go_sem, *]) rfl ?_
  exact⟨by rw[hD2.out],((((B2.out.setCell (p:=⟨w.heap.size+1,0,none⟩) (by simp) _).setCell (p:=⟨w.heap.size+1,1,none⟩) (by simp) _).setCell (p:=⟨w.heap.size+1,2,none⟩) (by simp) _).setCell (p:=⟨w.heap.size+1,3,none⟩) (by simp) _)⟩
 subst hr
 have hD2:Hid (D=if sm=2 then ⟨2,tn,0,[]⟩ else ⟨1,tn,0,[]⟩):=hD'.out.trans (if_neg (by simp))
 have HE3:Hid (∀ W,Below w.heap.size w W->Calls Tryz.prog 131 #[coV c (.slice ad c.parts.length cap),.agg #[.int .i64 0,.slice none 0 0,.slice none 0 0]] W fun e w'=>e=.returned (.agg #[.int .i64 0,.int .i64 tn])/\Below W.heap.size W w'):=HE
 clear hD' HE HFa
 have hbr:(c.op=9/\sm=2)\/(¬ c.op=9/\(18<=c.op/\c.op<=22)/\sm=2)\/(¬ c.op=9/\¬ 18<=c.op/\sm≠2)\/(¬ c.op=9/\18<=c.op/\¬ c.op<=22/\sm≠2):=by
  have h:=hk2.out
  have hop:=HOp.out
  by_cases h9:k=9
  ·exact .inl ⟨by omega,h.2 (.inl h9)⟩
  ·by_cases h18:18<=k
   ·by_cases h22:k<=22
    ·exact .inr (.inl ⟨by omega,by omega,h.2 (.inr ⟨h18,h22⟩)⟩)
    ·exact .inr (.inr (.inr ⟨by omega,by omega,by omega,fun e=>by have:=h.1 e;omega⟩))
   ·exact .inr (.inr (.inl ⟨by omega,by omega,fun e=>by have:=h.1 e;omega⟩))
 clear hk2 HOp hk
 rcases hbr with ⟨h9,hm⟩ | ⟨h9,⟨h18,h22⟩,hm⟩ | ⟨h9,h18,hm⟩ | ⟨h9,h18,h22,hm⟩
 ·have n9:(c.op==9)=true:=by simpa using h9
  have H9:=a0a h9
  clear h9
  have hD3:Hid (D=⟨2,tn,0,[]⟩):=hD2.out.trans (if_pos hm)
  have hD2x:=hD2
  clear hD2 hm
  clear hD2x
  go_enter Tryz.func72,Tryz.ntmps72
  go_wp2_with fail
  refine Calls.mono (HE3.out _ B0.out) ?_
  rintro e w1 ⟨rfl,b1⟩
  have B1:=kb B0 b1
  have Y1:=a0a (HY1.out.next b1)
  have Y0:=a0a (HY0.out.next b1)
  have HA1:Hid (∀ o,Below w.heap.size w (w1.alloc o)):=fun o=>B1.out.alloc B1.out.size _
  have Y4:=Y1.out.next ((Below.refl w1.heap.size w1).alloc (Nat.le_refl _) (.cells #[.int .i64 0,.int .i64 tn] 118))
  clear b1 HE3
  obtain⟨x0,x1,x2,x3⟩:=Box.c4 Y0.out
  have xl:=Y0.out.lt
  obtain⟨y0,y1,y2,y3⟩:=Box.c4 Y4
  have g0:=Y4.free 0 (by simp)
  have g1:=Y4.free 1 (by simp)
  have g2:=Y4.free 2 (by simp)
  have g3:=Y4.free 3 (by simp)
  have yl:=Y4.lt
  clear Y4
  go_wp2_with fail
  refine bodyPost_ret (v:=coV ⟨2,tn,0,[]⟩ (.slice none 0 0)) (by simp[results,Tryz.results72,go_sem, *]) rfl ?_
  exact⟨by rw[hD3.out],(((((HA1.out _).setCell (p:=⟨w.heap.size+1,0,none⟩) (by simp) _).setCell (p:=⟨w.heap.size+1,1,none⟩) (by simp) _).setCell (p:=⟨w.heap.size+1,2,none⟩) (by simp) _).setCell (p:=⟨w.heap.size+1,3,none⟩) (by simp) _)⟩
 ·have n9:(c.op==9)=false:=by simpa using h9
  have hD3:Hid (D=⟨2,tn,0,[]⟩):=hD2.out.trans (if_pos hm)
  have hD2x:=hD2
  clear hD2 hm
  clear hD2x
  go_enter Tryz.func72,Tryz.ntmps72
  go_wp2_with fail
  refine Calls.mono (HE3.out _ B0.out) ?_
  rintro e w1 ⟨rfl,b1⟩
  have B1:=kb B0 b1
  have Y1:=a0a (HY1.out.next b1)
  have Y0:=a0a (HY0.out.next b1)
  have HA1:Hid (∀ o,Below w.heap.size w (w1.alloc o)):=fun o=>B1.out.alloc B1.out.size _
  have Y4:=Y1.out.next ((Below.refl w1.heap.size w1).alloc (Nat.le_refl _) (.cells #[.int .i64 0,.int .i64 tn] 118))
  clear b1 HE3
  obtain⟨x0,x1,x2,x3⟩:=Box.c4 Y0.out
  have xl:=Y0.out.lt
  obtain⟨y0,y1,y2,y3⟩:=Box.c4 Y4
  have g0:=Y4.free 0 (by simp)
  have g1:=Y4.free 1 (by simp)
  have g2:=Y4.free 2 (by simp)
  have g3:=Y4.free 3 (by simp)
  have yl:=Y4.lt
  clear Y4
  go_wp2_with fail
  refine bodyPost_ret (v:=coV ⟨2,tn,0,[]⟩ (.slice none 0 0)) (by simp[results,Tryz.results72,go_sem, *]) rfl ?_
  exact⟨by rw[hD3.out],(((((HA1.out _).setCell (p:=⟨w.heap.size+1,0,none⟩) (by simp) _).setCell (p:=⟨w.heap.size+1,1,none⟩) (by simp) _).setCell (p:=⟨w.heap.size+1,2,none⟩) (by simp) _).setCell (p:=⟨w.heap.size+1,3,none⟩) (by simp) _)⟩
 ·have n9:(c.op==9)=false:=by simpa using h9
  have hD3:Hid (D=⟨1,tn,0,[]⟩):=hD2.out.trans (if_neg hm)
  have hD2x:=hD2
  clear hD2 hm
  clear hD2x
  go_enter Tryz.func72,Tryz.ntmps72
  go_wp2_with fail
  refine Calls.mono (HE3.out _ B0.out) ?_
  rintro e w1 ⟨rfl,b1⟩
  have B1:=kb B0 b1
  have Y1:=a0a (HY1.out.next b1)
  have Y0:=a0a (HY0.out.next b1)
  have HA1:Hid (∀ o,Below w.heap.size w (w1.alloc o)):=fun o=>B1.out.alloc B1.out.size _
  have Y4:=Y1.out.next ((Below.refl w1.heap.size w1).alloc (Nat.le_refl _) (.cells #[.int .i64 0,.int .i64 tn] 118))
  clear b1 HE3
  obtain⟨x0,x1,x2,x3⟩:=Box.c4 Y0.out
  have xl:=Y0.out.lt
  obtain⟨y0,y1,y2,y3⟩:=Box.c4 Y4
  have g0:=Y4.free 0 (by simp)
  have g1:=Y4.free 1 (by simp)
  have g2:=Y4.free 2 (by simp)
  have g3:=Y4.free 3 (by simp)
  have yl:=Y4.lt
  clear Y4
  go_wp2_with fail
  refine bodyPost_ret (v:=coV ⟨1,tn,0,[]⟩ (.slice none 0 0)) (by simp[results,Tryz.results72,go_sem, *]) rfl ?_
  exact⟨by rw[hD3.out],(((((HA1.out _).setCell (p:=⟨w.heap.size+1,0,none⟩) (by simp) _).setCell (p:=⟨w.heap.size+1,1,none⟩) (by simp) _).setCell (p:=⟨w.heap.size+1,2,none⟩) (by simp) _).setCell (p:=⟨w.heap.size+1,3,none⟩) (by simp) _)⟩
 ·have n9:(c.op==9)=false:=by simpa using h9
  have hD3:Hid (D=⟨1,tn,0,[]⟩):=hD2.out.trans (if_neg hm)
  have hD2x:=hD2
  clear hD2 hm
  clear hD2x
  go_enter Tryz.func72,Tryz.ntmps72
  go_wp2_with fail
  refine Calls.mono (HE3.out _ B0.out) ?_
  rintro e w1 ⟨rfl,b1⟩
  have B1:=kb B0 b1
  have Y1:=a0a (HY1.out.next b1)
  have Y0:=a0a (HY0.out.next b1)
  have HA1:Hid (∀ o,Below w.heap.size w (w1.alloc o)):=fun o=>B1.out.alloc B1.out.size _
  have Y4:=Y1.out.next ((Below.refl w1.heap.size w1).alloc (Nat.le_refl _) (.cells #[.int .i64 0,.int .i64 tn] 118))
  clear b1 HE3
  obtain⟨x0,x1,x2,x3⟩:=Box.c4 Y0.out
  have xl:=Y0.out.lt
  obtain⟨y0,y1,y2,y3⟩:=Box.c4 Y4
  have g0:=Y4.free 0 (by simp)
  have g1:=Y4.free 1 (by simp)
  have g2:=Y4.free 2 (by simp)
  have g3:=Y4.free 3 (by simp)
  have yl:=Y4.lt
  clear Y4
  go_wp2_with fail
  refine bodyPost_ret (v:=coV ⟨1,tn,0,[]⟩ (.slice none 0 0)) (by simp[results,Tryz.results72,go_sem, *]) rfl ?_
  exact⟨by rw[hD3.out],(((((HA1.out _).setCell (p:=⟨w.heap.size+1,0,none⟩) (by simp) _).setCell (p:=⟨w.heap.size+1,1,none⟩) (by simp) _).setCell (p:=⟨w.heap.size+1,2,none⟩) (by simp) _).setCell (p:=⟨w.heap.size+1,3,none⟩) (by simp) _)⟩
end Go.Proofs.YtkbmgloilckdhaaGreatDoor
