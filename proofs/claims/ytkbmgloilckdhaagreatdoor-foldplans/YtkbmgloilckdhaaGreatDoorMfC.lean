import Derived.Test.YtkbmgloilckdhaaGreatDoorMfA
import Derived.Test.YtkbmgloilckdhaaGreatDoorMgP
import Derived.Test.YtkbmgloilckdhaaGreatDoorMgG
namespace Go.Proofs.YtkbmgloilckdhaaGreatDoor
open Go.RowKit
set_option maxHeartbeats 1000000 in
theorem a5O (c:Co)(ad:Option Addr)(n cap:Nat)(w:World):Calls Tryz.prog 56 #[coV c (.slice ad n cap)] w fun e w'=>e=.returned (.bool (cst c))/\Below w.heap.size w w':=by
 have B1:Hid (∀ o,Below w.heap.size w (w.alloc o)):=fun o=>(Below.refl _ _).alloc (Nat.le_refl _) _
 by_cases h0:c.op=1
 ·rw[show cst c=true from a2K.2 (.inl h0)]
  have k0:(c.op==1)=true:=by simpa using h0
  go_enter Tryz.func56,Tryz.ntmps56
  go_wp2_with fail
  go_ret
  exact⟨rfl,B1.out _⟩
 ·have k0:(c.op==1)=false:=by simpa using h0
  by_cases h1:c.op=2
  ·rw[show cst c=true from a2K.2 (.inr h1)]
   have k1:(c.op==2)=true:=by simpa using h1
   go_enter Tryz.func56,Tryz.ntmps56
   go_wp2_with fail
   go_ret
   exact⟨rfl,B1.out _⟩
  ·rw[show cst c=false from by unfold cst;simp[h0,h1]]
   have k1:(c.op==2)=false:=by simpa using h1
   go_enter Tryz.func56,Tryz.ntmps56
   go_wp2_with fail
   go_ret
   exact⟨rfl,B1.out _⟩
theorem b4C:C64 256/\C64 256/\C64 256:=by unfold C64;omega
set_option maxHeartbeats 1000000 in
theorem a6b (c:Co)(v:Value)(w:World)(hs:a0m w c v)(hn:a0q c<=8192):Calls Tryz.prog 20 #[coV c v] w fun e w'=>e=.returned (.int .i64 (sM c))/\Below w.heap.size w w':=by
 have HC:=a0a (fun W (hW:Below w.heap.size w W)=>b1O c v 256 256 256 W (hs.next hW) hn b4C)
 obtain⟨ad,cap,rfl,-,-⟩:=hs.parts.shape
 have ba:=(Below.refl w.heap.size w).alloc (Nat.le_refl _) (.cells (coL c (.slice ad c.parts.length cap)).toArray 30)
 have BA:=a0a ba
 clear hs ba
 unfold sM
 generalize a0k a0t 256 256 256 c=s at *
 go_enter Tryz.func20,Tryz.ntmps20
 go_wp2_with fail
 refine Calls.mono (HC.out _ BA.out) ?_
 rintro e w1 ⟨rfl,b1⟩
 have B1:=kb BA b1
 clear b1 HC
 go_wp2_with fail
 go_ret
 exact⟨rfl,B1.out⟩
set_option maxHeartbeats 2000000 in
theorem a8x (c:Co)(v:Value)(r:Int)(w:World)(hs:a0m w c v)(hn:a0q c<=8192):Calls Tryz.prog 129 #[coV c v,.int .i64 r] w fun e w'=>e=.returned (coV (a1G c r) (.slice none 0 0))/\Below w.heap.size w w':=by
 have HC:=a0a (fun W (hW:Below w.heap.size w W)=>a6b c v W (hs.next hW) hn)
 obtain⟨ad,cap,rfl,-,-⟩:=hs.parts.shape
 obtain⟨Y0,Y1,Y2⟩:=a0e w 30 30 (coL c (.slice ad c.parts.length cap)) [.int .i64 0,.int .i64 0,.int .i64 0,.slice none 0 0]
 have HY:=a0a Y1
 have B0:=a0a Y2
 clear hs Y0 Y1 Y2
 unfold a1G
 generalize sM c=s at *
 go_enter Tryz.func129,Tryz.ntmps129
 go_wp2_with fail
 refine Calls.mono (HC.out _ B0.out) ?_
 rintro e w1 ⟨rfl,b1⟩
 have B1:=kb B0 b1
 have Y1:=HY.out.next b1
 obtain⟨y0,y1,y2,y3⟩:=Box.c4 Y1
 have g0:=Y1.free 0 (by simp)
 have g1:=Y1.free 1 (by simp)
 have g2:=Y1.free 2 (by simp)
 have g3:=Y1.free 3 (by simp)
 have yl:=Y1.lt
 clear b1 HC HY Y1
 go_wp2_with fail
 refine bodyPost_ret (v:=.agg #[.int .i64 6,.int .i64 r,.int .i64 s,.slice none 0 0]) (by simp[results,Tryz.results129,go_sem, *]) rfl ?_
 exact⟨rfl,(((B1.out.setCell (p:=⟨w.heap.size+1,0,none⟩) (by simp) _).setCell (p:=⟨w.heap.size+1,1,none⟩) (by simp) _).setCell (p:=⟨w.heap.size+1,2,none⟩) (by simp) _).setCell (p:=⟨w.heap.size+1,3,none⟩) (by simp) _⟩
theorem CSP.at {ok:Nat->Prop}{w:World}{c:Co}{v:Value}(h:CSP ok w c v)(hn:0<c.parts.length):∃ b off cap,v=.slice (some ⟨b,off,none⟩) c.parts.length cap/\c.parts.length<=cap/\cap<=9223372036854775807/\b<w.heap.size/\∀ i (h:i<c.parts.length),∃ a n,a2G w b (off+i*4) c.parts[i] (.slice a c.parts[i].parts.length n)/\CSP ok w c.parts[i] (.slice a c.parts[i].parts.length n):=by
 obtain⟨b,off,cap,hv,h1,h2,h3,-,h4⟩:=h.parts.open hn
 refine⟨b,off,cap,hv,h1,h2,h3,fun i hi=>?_⟩
 obtain⟨u,h6,hu⟩:=h4 i hi
 obtain⟨a,n,rfl,-,-⟩:=hu.parts.shape
 exact⟨a,n,h6,hu⟩
set_option maxHeartbeats 4000000 in
set_option maxRecDepth 20000 in
theorem a8m (ok:Nat->Prop)(c:Co)(v0:Int)(v:Value)(w:World)(h2:2<=c.parts.length)(hev0:c.parts.length%2=0)(hmx:c.parts.length<=8192)(hs:CSP ok w c v):
 Calls Tryz.prog 127 #[.int .i64 v0,coV c v] w fun e w'=>∃ u,e=.returned (coV (c.parts.getD (a2g c.parts v0 c.parts.length c.parts.length 1) co0) u)/\CSP ok w (c.parts.getD (a2g c.parts v0 c.parts.length c.parts.length 1) co0) u/\Below w.heap.size w w':=by
 obtain⟨pb,off,cap,rfl,k1,k2,lp,hx⟩:=hs.at (by omega)
 obtain⟨D,hD⟩:∃ D,Hid (D=c.parts.getD (a2g c.parts v0 c.parts.length c.parts.length 1) co0):=⟨_,rfl⟩
 rw[<-hD.out]
 obtain⟨L,hL⟩:∃ L,Hid (L=c.parts.length):=⟨_,rfl⟩
 rw[<-hL.out] at hD
 have gP:∀ i (h:i<c.parts.length),c.parts.getD i co0=c.parts[i]:=fun i h=>by simp[List.getD,List.getElem?_eq_getElem h]
 have HGP:=a0a gP
 have HX:=a0a hx
 obtain⟨Y0,Y1,Y2⟩:=a0e w 30 30 (coL c (.slice (some ⟨pb,off,none⟩) c.parts.length cap)) [.int .i64 0,.int .i64 0,.int .i64 0,.slice none 0 0]
 have HY0:=a0a Y0
 have HY1:=a0a Y1
 have B0:=a0a Y2
 have x3:=Y0.cell 3 _ rfl
 have xl:=Y0.lt
 clear hs hx gP Y0 Y1 Y2
 rw[<-hL.out] at HY0 B0 HY1 k1 h2 hmx x3 xl hev0 ⊢
 obtain⟨M,rfl⟩:∃ M,L=M+1:=⟨L-1,by omega⟩
 have hev:Hid ((M+1)%2=0):=hev0
 clear hev0
 go_enter Tryz.func127,Tryz.ntmps127
 go_wp2_with fail
 generalize hW1:(w.alloc _).alloc _=w1 at *
 clear hW1
 go_loopw [6] (fun x wr=>∃ (i f:Nat),x=.int .i64 (i:Nat)/\i<=M/\Hid (i%2=1\/i=M)/\Hid (M+1<=i+2*f)/\Hid (a2g c.parts v0 (M+1) f i=a2g c.parts v0 (M+1) (M+1) 1)/\wr=w1) (fun x _=>match x with | .int _ p=>((M:Int)-p).toNat | _=>0)
 case atStart=>exact⟨1,M+1,rfl,by omega,a0a (.inl rfl),a0a (by omega),a0a rfl,rfl⟩
 case round=>
  obtain⟨i,f,rfl,hj,HO,HF,HJ,rfl⟩:=hrel
  by_cases hlt:i<M
  ·have hlt':(i:Int)<(M:Int):=by omega
   have hi1:i<c.parts.length:=by rw[<-hL.out];omega
   have hi2:i+1<c.parts.length:=by rw[<-hL.out];omega
   obtain⟨a5,n5,f5,-⟩:=HX.out i hi1
   have q1:=(f5.keep (w':=wr) (fun j=>B0.out.cell (p:=⟨pb,j,none⟩) lp)).c1
   have gp:=HGP.out i hi1
   have lpw:pb<wr.heap.size:=Nat.lt_of_lt_of_le lp B0.out.size
   have hil:(i:Int)<(M:Int)+1:=by omega
   by_cases hv:v0<c.parts[i].n
   ·have hJ2:a2g c.parts v0 (M+1) f i=i+1:=a4A (by omega) (by rw[gp];exact hv) (by have:=HF.out;omega)
    obtain⟨a6,n6,f6,c6⟩:=HX.out (i+1) hi2
    obtain⟨p0,p1,p2,p3⟩:=f6.keep (w':=wr) (fun j=>B0.out.cell (p:=⟨pb,j,none⟩) lp)
    have hR:Hid (D=c.parts[i+1]):=by show _=_;rw[hD.out,<-HJ.out,hJ2,HGP.out (i+1) hi2]
    have HC6:=a0a c6
    have hil2:(i:Int)+1<(M:Int)+1:=by omega
    clear HJ hJ2 gp f5 f6 c6 HX HGP hD
    generalize c.parts[i+1]=x6 at *
    generalize c.parts[i].n=n7 at *
    obtain⟨y0,y1,y2,y3⟩:=Box.c4 HY1.out
    have g0:=HY1.out.free 0 (by simp)
    have g1:=HY1.out.free 1 (by simp)
    have g2:=HY1.out.free 2 (by simp)
    have g3:=HY1.out.free 3 (by simp)
    have yl:=HY1.out.lt
    go_wp2_with fail
    refine bodyPost_ret (v:=coV x6 (.slice a6 x6.parts.length n6)) (by simp[results,Tryz.results127,go_sem, *]) rfl ?_
    exact⟨_,by rw[hR.out],by rw[hR.out];exact HC6.out,(((B0.out.setCell (p:=⟨w.heap.size+1,0,none⟩) (by simp) _).setCell (p:=⟨w.heap.size+1,1,none⟩) (by simp) _).setCell (p:=⟨w.heap.size+1,2,none⟩) (by simp) _).setCell (p:=⟨w.heap.size+1,3,none⟩) (by simp) _⟩
   ·obtain⟨f',rfl⟩:∃ f',f=f'+1:=⟨f-1,by have:=HF.out;omega⟩
    have hJ2:Hid (a2g c.parts v0 (M+1) f' (i+2)=a2g c.parts v0 (M+1) (M+1) 1):=by
     show _=_
     rw[<-HJ.out,a6u (by omega) (by rw[gp];exact hv)]
    clear HJ gp f5 HX
    generalize c.parts[i].n=n7 at *
    go_wp2_with fail
    go_roundw
    case rel=>exact⟨i+2,f',by go_num,by have:=HO.out;have:=hev.out;omega,a0a (by have:=HO.out;have:=hev.out;omega),a0a (by have:=HF.out;omega),hJ2.out,by first | rfl | trivial⟩
    case measure=>simp;omega
  ·have hlt':¬(i:Int)<(M:Int):=by omega
   obtain rfl:i=M:=by omega
   have hiM:i<c.parts.length:=by rw[<-hL.out];omega
   have hJ2:a2g c.parts v0 (i+1) f i=i:=a4B (by omega) (by have:=HF.out;omega)
   obtain⟨a6,n6,f6,c6⟩:=HX.out i hiM
   obtain⟨p0,p1,p2,p3⟩:=f6.keep (w':=wr) (fun j=>B0.out.cell (p:=⟨pb,j,none⟩) lp)
   have lpw:pb<wr.heap.size:=Nat.lt_of_lt_of_le lp B0.out.size
   have hR:Hid (D=c.parts[i]):=by show _=_;rw[hD.out,<-HJ.out,hJ2,HGP.out i hiM]
   have HC6:=a0a c6
   clear HJ hJ2 f6 c6 HX HGP hD
   generalize c.parts[i]=x6 at *
   obtain⟨y0,y1,y2,y3⟩:=Box.c4 HY1.out
   have g0:=HY1.out.free 0 (by simp)
   have g1:=HY1.out.free 1 (by simp)
   have g2:=HY1.out.free 2 (by simp)
   have g3:=HY1.out.free 3 (by simp)
   have yl:=HY1.out.lt
   go_wp2_with fail
   refine bodyPost_ret (v:=coV x6 (.slice a6 x6.parts.length n6)) (by simp[results,Tryz.results127,go_sem, *]) rfl ?_
   exact⟨_,by rw[hR.out],by rw[hR.out];exact HC6.out,(((B0.out.setCell (p:=⟨w.heap.size+1,0,none⟩) (by simp) _).setCell (p:=⟨w.heap.size+1,1,none⟩) (by simp) _).setCell (p:=⟨w.heap.size+1,2,none⟩) (by simp) _).setCell (p:=⟨w.heap.size+1,3,none⟩) (by simp) _⟩
def b8s:a0C:=⟨0,List.replicate 256 (0,0),List.replicate 256 false⟩
theorem b6s:a6M b8s:=⟨a0o,fun i=>by
 have h:(b8s.wins.getD i (0,0))=(0,0):=by
  show (List.replicate 256 ((0:Int),(0:Int))).getD i (0,0)=(0,0)
  generalize 256=n
  rw[List.getD_eq_getElem?_getD,List.getElem?_replicate]
  split<;>rfl
 rw[h];exact⟨a0o,a0o⟩,by show (List.replicate 256 ((0:Int),(0:Int))).length<=_;rw[List.length_replicate];omega,by show (List.replicate 256 false).length<=_;rw[List.length_replicate];omega⟩
theorem b3O (c:Co):srt b8s c=sM c:=by
 show a0k a0t ((List.replicate 256 ((0:Int),(0:Int))).length:Nat) ((List.replicate 256 false).length:Nat) _ c=_
 rw[List.length_replicate,List.length_replicate]
 rfl
theorem b4D:a6M E00:=⟨a0o,fun i=>by simpa[E00] using And.intro a0o a0o,by simp[E00],by simp[E00]⟩
theorem b4E (w:World):a6N w E00 (.slice none 0 0) (.slice none 0 0):=⟨b4D,⟨none,0,rfl,.inl rfl⟩,⟨none,0,rfl,.inl rfl⟩⟩
theorem a8l {c:Co}(hl:b4l c)(hz:sM c≠0):a6R (a1U c):=by
 have hG:=a6w b8s b6s c hl (by rw[b3O];exact hz)
 have hr:=a1o 256 256 256 c
 rcases a8M (c:=c) rfl hz with e | ⟨x,hx,e,-,-⟩ | ⟨r,e,hr1,h12,-⟩ | ⟨n,e,-,ht⟩ | ⟨n,e,-,hn,-⟩
 ·rw[e];exact hl.fit
 ·rw[e];exact(hl.parts hx).fit
 ·rw[e];exact⟨by show C64 6;unfold C64;omega,by show C64 r;unfold C64;omega,by show C64 (a0k a0t 256 256 256 c);unfold C64;omega⟩
 ·rw[e]
  have:=hG.1
  rw[ht] at this
  exact⟨by show C64 1;unfold C64;omega,this,a0o⟩
 ·rw[e];exact⟨by show C64 2;unfold C64;omega,by show C64 n;unfold C64;omega,a0o⟩
theorem b1x {wn cn ln wn' cn' ln':Int}{x:Co}(hc:cst x=true)(h:a0k a0t wn cn ln x≠0):a0k a0t wn' cn' ln' x=a0k a0t wn cn ln x:=by
 obtain⟨e1,e2,e3⟩:=a4t hc h
 obtain⟨k,n,m,ps⟩:=x
 dsimp only at e1 e2 e3
 subst e1 e2
 rcases e3 with ⟨rfl,e⟩ | ⟨rfl,hn,e⟩
 ·rw[a2i,a2i]
 ·rw[a3A _ _ _ _ hn,a3A _ _ _ _ hn]
theorem b3H {k:Nat}(hk:8<=k)(wn cn ln wn' cn' ln':Int)(t:Co):a0v k wn' cn' ln' t=a0v k wn cn ln t:=by
 have key:∀ a b d,a0v k a b d t=if k=13 then decide (0<=t.n)&&(decide (1<=t.m)) else decide (t.n=0)&&(decide (t.m=0)):=fun a b d=>by
  unfold a0v
  rw[if_neg (by omega),if_neg (by omega),if_neg (by omega),if_neg (by omega),if_neg (by omega),if_neg (by omega)]
 rw[key,key]
theorem a8y {c:Co}{k:Nat}(hop:c.op=(k:Int))(hk:8<=k/\k<=24)(hz:sM c≠0)(hc:∀ x,x∈c.parts->cst x=true):srt E00 c=sM c/\(sM c=1\/sM c=2):=by
 obtain⟨q,hop2,h1,h2,hb,hp,hs⟩:=a4J hz
 obtain rfl:q=k:=by omega
 refine⟨a5K ?_ (fun x hx=>b1x (hc x hx) (hp x hx)),?_⟩
 ·rw[hop,Int.toNat_natCast]
  exact b3H hk.1 _ _ _ _ _ _ _
 ·rcases hs with ⟨h,-⟩ | ⟨h,-⟩ | ⟨h,hs,-⟩ | ⟨h,hs,-⟩ | ⟨h,-⟩ | ⟨h,-⟩ | ⟨h,-⟩ | ⟨h,-⟩ | ⟨h,-⟩
  ·omega
  ·omega
  ·split at hs<;>(show sM c=1\/sM c=2;unfold sM;omega)
  ·split at hs<;>(show sM c=1\/sM c=2;unfold sM;omega)
  ·omega
  ·omega
  ·omega
  ·omega
  ·omega
def a0H (ok:Nat->Prop)(w:World)(D:Co)(e:Ending)(w':World):Prop:=∃ u,e=.returned (coV D u)/\CSP ok w D u/\Below w.heap.size w w'
set_option maxHeartbeats 4000000 in
set_option maxRecDepth 20000 in
theorem b2n (ok:Nat->Prop)(c:Co)(v:Value)(w:World)(k:Nat)(hop:c.op=(k:Int))(hk:8<=k/\k<=24)(a:Co)(r:List Co)(hp:c.parts=a::r)(ha:cst a=true)(hz:sM c≠0)(hn:a0q c<=8192)(hs:CSP ok w c v)(hg:GlE w):
 Calls Tryz.prog 128 #[coV c v] w (a0H ok w (a0R c)):=by
 have hb:a1U c=a0R c:=(a0x hp).trans ((if_pos ha).trans (a1A hop hk))
 have HFit:=a0a (hb ▸ a8l ⟨w,v,hs.sits⟩ hz)
 have HE:=a0a (fun W (hW:Below w.heap.size w W)=>b6F E00 c v _ _ W (hs.sits.next hW) hn (b4E W) (GlE.next hg hW))
 have HFa:=a0a (fun W r (hW:Below w.heap.size w W)=>a8x c v r W (hs.sits.next hW) hn)
 have HSo:=a0a (fun W (hW:Below w.heap.size w W)=>a6b c v W (hs.sits.next hW) hn)
 have HCs:=a0a hs
 obtain⟨N,hN⟩:∃ N,c.parts.length=N+1:=⟨r.length,by rw[hp];rfl⟩
 have hN2:N+1<=8192:=by have:=a1w c.parts;rw[a1a] at hn;omega
 obtain⟨pb,off,cap,rfl,k1,k2,lp,hx⟩:=hs.at (by omega)
 obtain⟨a6,n6,f6,c6⟩:=hx N (by omega)
 have hl:c.parts.getD (c.parts.length-1) co0=c.parts[N]'(by omega):=by rw[show c.parts.length-1=N by omega];exact a4Z (by omega)
 have hW0:Hid (a0R c=if (c.parts[N]'(by omega)).op=6 then a1G c (c.parts[N]'(by omega)).n else if cst (c.parts[N]'(by omega))=false then c else if (a0f E00 c).2≠0 then a1G c (a0f E00 c).2 else if sM c=2 then ⟨2,(a0f E00 c).1,0,[]⟩ else ⟨1,(a0f E00 c).1,0,[]⟩):=by
  show _=_
  unfold a0R
  rw[hl]
 have HAll:Hid (cst (c.parts[N]'(by omega))=true->srt E00 c=sM c/\(sM c=1\/sM c=2)):=fun h=>by
  refine a8y hop hk hz (fun x hx=>?_)
  obtain⟨q,hop2,h1,h2,hb,hp2,hs2⟩:=a4J hz
  obtain rfl:q=k:=by omega
  have hNl:N=r.length:=by rw[hp] at hN;simp at hN;omega
  rcases hs2 with ⟨h,-⟩ | ⟨h,-⟩ | ⟨h,-,y,e,-⟩ | ⟨h,-,y,z,e,-⟩ | ⟨h,-⟩ | ⟨h,-⟩ | ⟨h,-⟩ | ⟨h,-⟩ | ⟨h,-⟩
  ·omega
  ·omega
  ·rw[hp] at e hx
   simp only[List.cons.injEq] at e
   obtain⟨rfl,rfl⟩:=e
   rw[List.mem_singleton.1 hx];exact ha
  ·rw[hp] at e hx
   simp only[List.cons.injEq] at e
   obtain⟨rfl,rfl⟩:=e
   have hN1:N=1:=by rw[hNl];rfl
   subst hN1
   have hy:c.parts[1]'(by omega)=z:=by simp[hp]
   rcases List.mem_cons.1 hx with rfl | hx
   ·exact ha
   ·rw[List.mem_singleton.1 hx,<-hy];exact h
  ·omega
  ·omega
  ·omega
  ·omega
  ·omega
 generalize c.parts[N]'(by omega)=x6 at *
 obtain⟨D,hD⟩:∃ D,Hid (D=a0R c):=⟨_,rfl⟩
 rw[<-hD.out] at HFit hW0 ⊢
 obtain⟨Y0,Y1,Y2⟩:=a0e w 30 30 (coL c (.slice (some ⟨pb,off,none⟩) c.parts.length cap)) [.int .i64 0,.int .i64 0,.int .i64 0,.slice none 0 0]
 have HY0:=a0a Y0
 have HY1:=a0a Y1
 have B0:=a0a Y2
 obtain⟨x0,x1,x2,x3⟩:=Box.c4 Y0
 have xl:=Y0.lt
 obtain⟨y0,y1,y2,y3⟩:=Box.c4 Y1
 have g0:=Y1.free 0 (by simp)
 have g1:=Y1.free 1 (by simp)
 have g2:=Y1.free 2 (by simp)
 have g3:=Y1.free 3 (by simp)
 have yl:=Y1.lt
 obtain⟨p0,p1,p2,p3⟩:=f6.keep (w':=(w.alloc (.cells (coL c (.slice (some ⟨pb,off,none⟩) c.parts.length cap)).toArray 30)).alloc (.cells [.int .i64 0,.int .i64 0,.int .i64 0,.slice none 0 0].toArray 30)) (fun j=>Y2.cell (p:=⟨pb,j,none⟩) lp)
 have lpw:=Nat.lt_of_lt_of_le lp Y2.size
 clear Y0 Y1 Y2
 rw[hN] at HY0 B0 HY1 HE HFa HSo HCs k1 x0 x1 x2 x3 xl y0 y1 y2 y3 g0 g1 g2 g3 yl p0 p1 p2 p3 lpw ⊢
 clear hs hx hl hb hD hN hp ha hop hk hz f6 c6 hn hg
 have HYA:Hid (∀ o,Box (((w.alloc (.cells (coL c (.slice (some ⟨pb,off,none⟩) (N+1) cap)).toArray 30)).alloc (.cells [.int .i64 0,.int .i64 0,.int .i64 0,.slice none 0 0].toArray 30)).alloc o) (w.heap.size+1) [.int .i64 0,.int .i64 0,.int .i64 0,.slice none 0 0]):=fun o=>HY1.out.next ((Below.refl _ _).alloc (Nat.le_refl _) _)
 have HXA:Hid (∀ o,Box (((w.alloc (.cells (coL c (.slice (some ⟨pb,off,none⟩) (N+1) cap)).toArray 30)).alloc (.cells [.int .i64 0,.int .i64 0,.int .i64 0,.slice none 0 0].toArray 30)).alloc o) w.heap.size (coL c (.slice (some ⟨pb,off,none⟩) (N+1) cap))):=fun o=>HY0.out.next ((Below.refl _ _).alloc (Nat.le_refl _) _)
 have HA:Hid (∀ o,Below w.heap.size w (((w.alloc (.cells (coL c (.slice (some ⟨pb,off,none⟩) (N+1) cap)).toArray 30)).alloc (.cells [.int .i64 0,.int .i64 0,.int .i64 0,.slice none 0 0].toArray 30)).alloc o)):=fun o=>B0.out.alloc B0.out.size _
 by_cases h6:x6.op=6
 ·have hD2:Hid (D=a1G c x6.n):=hW0.out.trans (if_pos h6)
  have h6b:(x6.op==6)=true:=by simpa using h6
  clear hW0 HAll HE HSo
  go_enter Tryz.func128,Tryz.ntmps128
  go_wp2_with fail
  refine Calls.mono (HFa.out _ x6.n (HA.out _)) ?_
  rintro e w2 ⟨rfl,b2⟩
  have B2:=a0a (a0b (HA.out _) b2 (HA.out _).size)
  have Y1:=(HYA.out _).next b2
  clear x0 x1 x2 x3 xl y0 y1 y2 y3 g0 g1 g2 g3 yl
  clear p0 p1 p2 p3 b2 HXA HFa
  obtain⟨y0,y1,y2,y3⟩:=Box.c4 Y1
  have g0:=Y1.free 0 (by simp)
  have g1:=Y1.free 1 (by simp)
  have g2:=Y1.free 2 (by simp)
  have g3:=Y1.free 3 (by simp)
  have yl:=Y1.lt
  clear Y1
  go_wp2_with fail
  refine bodyPost_ret (v:=coV (a1G c x6.n) (.slice none 0 0)) (by simp[results,Tryz.results128,go_sem,a1G, *]) rfl ?_
  exact⟨_,by rw[hD2.out],by rw[hD2.out];exact CSP.leaf w (by have:=HFit.out;rw[hD2.out] at this;exact this),((((B2.out.setCell (p:=⟨w.heap.size+1,0,none⟩) (by simp) _).setCell (p:=⟨w.heap.size+1,1,none⟩) (by simp) _).setCell (p:=⟨w.heap.size+1,2,none⟩) (by simp) _).setCell (p:=⟨w.heap.size+1,3,none⟩) (by simp) _)⟩
 have h6b:(x6.op==6)=false:=by simpa using h6
 have hW1:Hid (D=if cst x6=false then c else if (a0f E00 c).2≠0 then a1G c (a0f E00 c).2 else if sM c=2 then ⟨2,(a0f E00 c).1,0,[]⟩ else ⟨1,(a0f E00 c).1,0,[]⟩):=hW0.out.trans (if_neg h6)
 have HCo:=a0a (fun W=>a5O x6 a6 x6.parts.length n6 W)
 clear hW0
 cases hcs:cst x6 with
 | false=>
   have hD2:Hid (D=c):=hW1.out.trans (if_pos hcs)
   rw[hcs] at HCo
   clear hW1 HAll HE HSo HFa hcs
   go_enter Tryz.func128,Tryz.ntmps128
   go_wp2_with fail
   refine Calls.mono (HCo.out _) ?_
   rintro e w2 ⟨rfl,b2⟩
   have B2:=a0a (a0b (HA.out _) b2 (HA.out _).size)
   have Y1:=(HYA.out _).next b2
   have Y0:=(HXA.out _).next b2
   clear x0 x1 x2 x3 xl y0 y1 y2 y3 g0 g1 g2 g3 yl
   clear p0 p1 p2 p3 b2 HXA HCo
   obtain⟨y0,y1,y2,y3⟩:=Box.c4 Y1
   have g0:=Y1.free 0 (by simp)
   have g1:=Y1.free 1 (by simp)
   have g2:=Y1.free 2 (by simp)
   have g3:=Y1.free 3 (by simp)
   have yl:=Y1.lt
   obtain⟨x0,x1,x2,x3⟩:=Box.c4 Y0
   have xl:=Y0.lt
   clear Y1 Y0
   go_wp2_with fail
   refine bodyPost_ret (v:=coV c (.slice (some ⟨pb,off,none⟩) (N+1) cap)) (by simp[results,Tryz.results128,go_sem, *]) rfl ?_
   exact⟨_,by rw[hD2.out],by rw[hD2.out];exact HCs.out,((((B2.out.setCell (p:=⟨w.heap.size+1,0,none⟩) (by simp) _).setCell (p:=⟨w.heap.size+1,1,none⟩) (by simp) _).setCell (p:=⟨w.heap.size+1,2,none⟩) (by simp) _).setCell (p:=⟨w.heap.size+1,3,none⟩) (by simp) _)⟩
 | true=>
   obtain⟨hs1,hs2⟩:=HAll.out hcs
   have hW2:Hid (D=if (a0f E00 c).2≠0 then a1G c (a0f E00 c).2 else if sM c=2 then ⟨2,(a0f E00 c).1,0,[]⟩ else ⟨1,(a0f E00 c).1,0,[]⟩):=hW1.out.trans (if_neg (by rw[hcs];decide))
   have HE2:Hid (∀ W,Below w.heap.size w W->Calls Tryz.prog 154 #[coV c (.slice (some ⟨pb,off,none⟩) (N+1) cap),a6O E00 (.slice none 0 0) (.slice none 0 0)] W fun e w'=>e=.returned (.tuple #[rsV (a0f E00 c),.int .i64 0])/\Below W.heap.size W w'):=fun W hW=>(HE.out W hW).mono (fun e w' h=>⟨by rw[h.1];unfold evV;rw[if_pos (by rw[hs1];exact hs2)],h.2⟩)
   rw[hcs] at HCo
   have HS2:=a0a hs2
   clear hW1 HAll HE hs1 hs2 hcs
   generalize a0f E00 c=t0 at *
   obtain⟨tn,tr⟩:=t0
   dsimp only at hW2
   simp only[a6O,E00] at HE2
   by_cases hr:tr=0
   case neg=>
    have hD2:Hid (D=a1G c tr):=hW2.out.trans (if_pos hr)
    have HE3:Hid (∀ W,Below w.heap.size w W->Calls Tryz.prog 154 #[coV c (.slice (some ⟨pb,off,none⟩) (N+1) cap),.agg #[.int .i64 0,.slice none 0 0,.slice none 0 0]] W fun e w'=>e=.returned (.tuple #[.agg #[.int .i64 tr,.int .i64 0],.int .i64 0])/\Below W.heap.size W w'):=fun W hW=>(HE2.out W hW).mono (fun e w' h=>⟨by rw[h.1];unfold rsV;rw[if_neg hr],h.2⟩)
    have hrb:(tr != 0)=true:=by simpa using hr
    clear hW2 HE2 HSo HS2
    go_enter Tryz.func128,Tryz.ntmps128
    go_wp2_with fail
    refine Calls.mono (HCo.out _) ?_
    rintro e w2 ⟨rfl,b2⟩
    have B2:=a0a (a0b (HA.out _) b2 (HA.out _).size)
    have Y1:=a0a ((HYA.out _).next b2)
    have Y0:=a0a ((HXA.out _).next b2)
    clear x0 x1 x2 x3 xl y0 y1 y2 y3 g0 g1 g2 g3 yl
    clear p0 p1 p2 p3 b2 HXA HCo HYA
    obtain⟨x0,x1,x2,x3⟩:=Box.c4 Y0.out
    have xl:=Y0.out.lt
    go_wp2_with fail
    refine Calls.mono (HE3.out _ B2.out) ?_
    rintro e w3 ⟨rfl,b3⟩
    have B3:=kb B2 b3
    replace Y1:=kn Y1 b3
    replace Y0:=kn Y0 b3
    have HA3:Hid (∀ o,Below w.heap.size w (w3.alloc o)):=fun o=>B3.out.alloc B3.out.size _
    clear x0 x1 x2 x3 xl b3 HE3
    obtain⟨x0,x1,x2,x3⟩:=Box.c4 Y0.out
    have xl:=Y0.out.lt
    go_wp2_with fail
    refine Calls.mono (HFa.out _ tr (HA3.out _)) ?_
    rintro e w4 ⟨rfl,b4⟩
    have B4:=a0a (a0b (HA3.out _) b4 (HA3.out _).size)
    replace Y1:=a0a ((Y1.out.next ((Below.refl _ _).alloc (Nat.le_refl _) _)).next b4)
    clear x0 x1 x2 x3 xl b4 HFa Y0
    obtain⟨y0,y1,y2,y3⟩:=Box.c4 Y1.out
    have g0:=Y1.out.free 0 (by simp)
    have g1:=Y1.out.free 1 (by simp)
    have g2:=Y1.out.free 2 (by simp)
    have g3:=Y1.out.free 3 (by simp)
    have yl:=Y1.out.lt
    go_wp2_with fail
    refine bodyPost_ret (v:=coV (a1G c tr) (.slice none 0 0)) (by simp[results,Tryz.results128,go_sem,a1G, *]) rfl ?_
    exact⟨_,by rw[hD2.out],by rw[hD2.out];exact CSP.leaf w (by have:=HFit.out;rw[hD2.out] at this;exact this),((((B4.out.setCell (p:=⟨w.heap.size+1,0,none⟩) (by simp) _).setCell (p:=⟨w.heap.size+1,1,none⟩) (by simp) _).setCell (p:=⟨w.heap.size+1,2,none⟩) (by simp) _).setCell (p:=⟨w.heap.size+1,3,none⟩) (by simp) _)⟩
   subst hr
   have hW3:Hid (D=if sM c=2 then ⟨2,tn,0,[]⟩ else ⟨1,tn,0,[]⟩):=hW2.out.trans (if_neg (by simp))
   have HE3:Hid (∀ W,Below w.heap.size w W->Calls Tryz.prog 154 #[coV c (.slice (some ⟨pb,off,none⟩) (N+1) cap),.agg #[.int .i64 0,.slice none 0 0,.slice none 0 0]] W fun e w'=>e=.returned (.tuple #[.agg #[.int .i64 0,.int .i64 tn],.int .i64 0])/\Below W.heap.size W w'):=fun W hW=>(HE2.out W hW).mono (fun e w' h=>⟨by rw[h.1];unfold rsV;rw[if_pos rfl],h.2⟩)
   clear hW2 HE2 HFa
   generalize sM c=sm at *
   go_enter Tryz.func128,Tryz.ntmps128
   go_wp2_with fail
   refine Calls.mono (HCo.out _) ?_
   rintro e w2 ⟨rfl,b2⟩
   have B2:=a0a (a0b (HA.out _) b2 (HA.out _).size)
   have Y1:=a0a ((HYA.out _).next b2)
   have Y0:=a0a ((HXA.out _).next b2)
   clear x0 x1 x2 x3 xl y0 y1 y2 y3 g0 g1 g2 g3 yl
   clear p0 p1 p2 p3 b2 HXA HCo HYA
   obtain⟨x0,x1,x2,x3⟩:=Box.c4 Y0.out
   have xl:=Y0.out.lt
   go_wp2_with fail
   refine Calls.mono (HE3.out _ B2.out) ?_
   rintro e w3 ⟨rfl,b3⟩
   have B3:=kb B2 b3
   replace Y1:=kn Y1 b3
   replace Y0:=kn Y0 b3
   have T3:=a0a (Box.new w3 [.int .i64 0,.int .i64 tn] 118)
   have HA3:Hid (∀ o,Below w.heap.size w (w3.alloc o)):=fun o=>B3.out.alloc B3.out.size _
   clear x0 x1 x2 x3 xl b3 HE3
   obtain⟨x0,x1,x2,x3⟩:=Box.c4 Y0.out
   have xl:=Y0.out.lt
   go_wp2_with fail
   refine Calls.mono (HSo.out _ (HA3.out _)) ?_
   rintro e w4 ⟨rfl,b4⟩
   have B4:=a0a (a0b (HA3.out _) b4 (HA3.out _).size)
   replace Y1:=a0a ((Y1.out.next ((Below.refl _ _).alloc (Nat.le_refl _) _)).next b4)
   have T4:=T3.out.next b4
   obtain⟨t0,t1⟩:=Box.c2 T4
   have tl:=T4.lt
   clear x0 x1 x2 x3 xl b4 HSo Y0 T4 T3
   obtain⟨y0,y1,y2,y3⟩:=Box.c4 Y1.out
   have g0:=Y1.out.free 0 (by simp)
   have g1:=Y1.out.free 1 (by simp)
   have g2:=Y1.out.free 2 (by simp)
   have g3:=Y1.out.free 3 (by simp)
   have yl:=Y1.out.lt
   rcases HS2.out with rfl | rfl
   ·have hD2:Hid (D=⟨1,tn,0,[]⟩):=hW3.out.trans (if_neg (by decide))
    clear hW3
    go_wp2_with fail
    refine bodyPost_ret (v:=coV ⟨1,tn,0,[]⟩ (.slice none 0 0)) (by simp[results,Tryz.results128,go_sem, *]) rfl ?_
    exact⟨_,by rw[hD2.out],by rw[hD2.out];exact CSP.leaf w (by have:=HFit.out;rw[hD2.out] at this;exact this),((((B4.out.setCell (p:=⟨w.heap.size+1,0,none⟩) (by simp) _).setCell (p:=⟨w.heap.size+1,1,none⟩) (by simp) _).setCell (p:=⟨w.heap.size+1,2,none⟩) (by simp) _).setCell (p:=⟨w.heap.size+1,3,none⟩) (by simp) _)⟩
   ·have hD2:Hid (D=⟨2,tn,0,[]⟩):=hW3.out.trans (if_pos rfl)
    clear hW3
    go_wp2_with fail
    refine bodyPost_ret (v:=coV ⟨2,tn,0,[]⟩ (.slice none 0 0)) (by simp[results,Tryz.results128,go_sem, *]) rfl ?_
    exact⟨_,by rw[hD2.out],by rw[hD2.out];exact CSP.leaf w (by have:=HFit.out;rw[hD2.out] at this;exact this),((((B4.out.setCell (p:=⟨w.heap.size+1,0,none⟩) (by simp) _).setCell (p:=⟨w.heap.size+1,1,none⟩) (by simp) _).setCell (p:=⟨w.heap.size+1,2,none⟩) (by simp) _).setCell (p:=⟨w.heap.size+1,3,none⟩) (by simp) _)⟩
end Go.Proofs.YtkbmgloilckdhaaGreatDoor
