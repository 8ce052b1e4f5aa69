import Derived.Test.YtkbmgloilckdhaaGreatDoorMfD
import Derived.Test.YtkbmgloilckdhaaGreatDoorMhN
import Derived.Test.YtkbmgloilckdhaaGreatDoorMgP
namespace Go.Proofs.YtkbmgloilckdhaaGreatDoor
open Go.RowKit
set_option maxHeartbeats 1000000 in
set_option maxRecDepth 20000 in
theorem b4a (ok:Nat->Prop)(c:Co)(v:Value)(w:World)(hz:sM c≠0)(hn:a0q c<=8192)(hs:CSP ok w c v)(hg:GlE w):
 Calls Tryz.prog 27 #[coV c v] w (a0H ok w (a1U c)):=by
 have HCs:=a0a hs
 cases hp:c.parts with
 | nil=>
   rw[a3m hp]
   obtain⟨ad,cap,rfl,k1,k2⟩:=hs.parts.shape
   rw[hp] at HCs k1 ⊢
   simp only[List.length_nil] at HCs k1 ⊢
   have HA2:Hid (∀ o o',Below w.heap.size w ((w.alloc o).alloc o')):=fun o o'=>((Below.refl _ _).alloc (Nat.le_refl _) _).alloc (by simp) _
   clear hs hg hz
   go_enter Tryz.func27,Tryz.ntmps27
   go_wp2_with fail
   refine bodyPost_ret (v:=coV c (.slice ad 0 cap)) (by simp[results,Tryz.results27,go_sem, *]) rfl ?_
   exact⟨_,rfl,HCs.out,HA2.out _ _⟩
 | cons a r=>
   have hln:=a5I hn
   have HCo:Hid (cst a=true->∀ W,Below w.heap.size w W->Calls Tryz.prog 57 #[coV c v] W (fun e w'=>∃ u,e=.returned (coV (a1E c a) u)/\CSP ok w (a1E c a) u/\Below W.heap.size W w')):=fun ha W hW=>(a7j _ c v W a r hp ha hz hn (hs.low hW) (GlE.next hg hW)).mono (fun e w' h=>by
    obtain⟨u,h1,h2,h3⟩:=h
    exact⟨u,h1,CSP.back hW _ _ h2,h3⟩)
   have HFl:Hid (a.op=6->∀ W,Below w.heap.size w W->Calls Tryz.prog 58 #[coV c v] W (fun e w'=>∃ u,e=.returned (coV (a1n c a) u)/\CSP ok w (a1n c a) u/\Below W.heap.size W w')):=fun ha W hW=>(b3d _ c v W a r hp ha hz hn (hs.low hW)).mono (fun e w' h=>by
    obtain⟨u,h1,h2,h3⟩:=h
    exact⟨u,h1,CSP.back hW _ _ h2,h3⟩)
   rw[a0x hp]
   obtain⟨pb,off,cap,rfl,k1,k2,lp,hx⟩:=hs.at (by rw[hp];simp)
   have hxa:∃ a1 n1,a2G w pb off a (.slice a1 a.parts.length n1):=by
    obtain⟨a1,n1,h6,-⟩:=hx 0 (by rw[hp];simp)
    have e:c.parts[0]'(by rw[hp];simp)=a:=by simp[hp]
    rw[e,Nat.zero_mul,Nat.add_zero] at h6
    exact⟨a1,n1,h6⟩
   obtain⟨a1,n1,f6⟩:=hxa
   have HK:=a0a (fun W=>a5O a a1 a.parts.length n1 W)
   obtain⟨L,hL⟩:∃ L,c.parts.length=L+1:=⟨r.length,by rw[hp];rfl⟩
   rw[hL] at k1 hln HCs HCo HFl ⊢
   have hL0:((L:Int)+1==0)=false:=by simp;omega
   clear hx hp hs hg hz hL
   obtain⟨Y0,Y1,Y2⟩:=a0e w 30 30 (coL c (.slice (some ⟨pb,off,none⟩) (L+1) cap)) [.int .i64 0,.int .i64 0,.int .i64 0,.slice none 0 0]
   obtain⟨x0,x1,x2,x3⟩:=Box.c4 Y0
   have xl:=Y0.lt
   obtain⟨y0,y1,y2,y3⟩:=Box.c4 Y1
   have g0:=Y1.free 0 (by simp)
   have g1:=Y1.free 1 (by simp)
   have g2:=Y1.free 2 (by simp)
   have g3:=Y1.free 3 (by simp)
   have yl:=Y1.lt
   have HY0:=a0a Y0
   have HY1:=a0a Y1
   have B0:=a0a Y2
   have HA2:Hid (∀ o o',Below w.heap.size w ((w.alloc o).alloc o')):=fun o o'=>((Below.refl _ _).alloc (Nat.le_refl _) _).alloc (by simp) _
   obtain⟨p0,p1,p2,p3⟩:=f6.keep (w':=(w.alloc (.cells (coL c (.slice (some ⟨pb,off,none⟩) (L+1) cap)).toArray 30)).alloc (.cells [.int .i64 0,.int .i64 0,.int .i64 0,.slice none 0 0].toArray 30)) (fun j=>Y2.cell (p:=⟨pb,j,none⟩) lp)
   have P0:=a0a f6
   have lpw:=Nat.lt_of_lt_of_le lp Y2.size
   clear Y0 Y1 Y2 f6
   cases hc:cst a with
   | true=>
     rw[hc] at HK
     have HW:=a0a (HCo.out hc)
     rw[if_pos rfl]
     generalize a1E c a=D at *
     clear HCo HFl hc
     go_enter Tryz.func27,Tryz.ntmps27
     go_wp2_with fail
     refine Calls.mono (HK.out _) ?_
     rintro e w2 ⟨rfl,b2⟩
     have B2:=kb B0 b2
     have Y1:=a0a (HY1.out.next b2)
     have Y0:=a0a (HY0.out.next b2)
     clear x0 x1 x2 x3 xl y0 y1 y2 y3 g0 g1 g2 g3 yl p0 p1 p2 p3 b2 HK lpw
     obtain⟨x0,x1,x2,x3⟩:=Box.c4 Y0.out
     have xl:=Y0.out.lt
     go_wp2_with fail
     refine Calls.mono (HW.out _ B2.out) ?_
     rintro e w3 ⟨u,rfl,hu,b3⟩
     have B3:=kb B2 b3
     replace Y1:=kn Y1 b3
     have HU:=a0a hu
     obtain⟨ua,uc,rfl,-,-⟩:=hu.parts.shape
     clear x0 x1 x2 x3 xl b3 hu HW Y0
     obtain⟨y0,y1,y2,y3⟩:=Box.c4 Y1.out
     have g0:=Y1.out.free 0 (by simp)
     have g1:=Y1.out.free 1 (by simp)
     have g2:=Y1.out.free 2 (by simp)
     have g3:=Y1.out.free 3 (by simp)
     have yl:=Y1.out.lt
     go_wp2_with fail
     refine bodyPost_ret (v:=coV D (.slice ua D.parts.length uc)) (by simp[results,Tryz.results27,go_sem, *]) rfl ?_
     exact⟨_,rfl,HU.out,((((B3.out.setCell (p:=⟨w.heap.size+1,0,none⟩) (by simp) _).setCell (p:=⟨w.heap.size+1,1,none⟩) (by simp) _).setCell (p:=⟨w.heap.size+1,2,none⟩) (by simp) _).setCell (p:=⟨w.heap.size+1,3,none⟩) (by simp) _)⟩
   | false=>
     rw[hc] at HK
     rw[if_neg (by decide)]
     by_cases h6:a.op=6
     ·have HW:=a0a (HFl.out h6)
      rw[if_pos h6]
      generalize a1n c a=D at *
      have H6:=a0a h6
      clear HCo HFl hc h6
      go_enter Tryz.func27,Tryz.ntmps27
      go_wp2_with fail
      refine Calls.mono (HK.out _) ?_
      rintro e w2 ⟨rfl,b2⟩
      have B2:=kb B0 b2
      have Y1:=a0a (HY1.out.next b2)
      have Y0:=a0a (HY0.out.next b2)
      have p0:=(P0.out.keep (w':=w2) (fun j=>B2.out.cell (p:=⟨pb,j,none⟩) lp)).c0
      rw[H6.out] at p0
      have lpw:=Nat.lt_of_lt_of_le lp B2.out.size
      clear x0 x1 x2 x3 xl y0 y1 y2 y3 g0 g1 g2 g3 yl p1 p2 p3 b2 HK
      obtain⟨x0,x1,x2,x3⟩:=Box.c4 Y0.out
      have xl:=Y0.out.lt
      go_wp2_with fail
      refine Calls.mono (HW.out _ B2.out) ?_
      rintro e w3 ⟨u,rfl,hu,b3⟩
      have B3:=kb B2 b3
      replace Y1:=kn Y1 b3
      have HU:=a0a hu
      obtain⟨ua,uc,rfl,-,-⟩:=hu.parts.shape
      clear x0 x1 x2 x3 xl b3 hu HW Y0 p0
      obtain⟨y0,y1,y2,y3⟩:=Box.c4 Y1.out
      have g0:=Y1.out.free 0 (by simp)
      have g1:=Y1.out.free 1 (by simp)
      have g2:=Y1.out.free 2 (by simp)
      have g3:=Y1.out.free 3 (by simp)
      have yl:=Y1.out.lt
      go_wp2_with fail
      refine bodyPost_ret (v:=coV D (.slice ua D.parts.length uc)) (by simp[results,Tryz.results27,go_sem, *]) rfl ?_
      exact⟨_,rfl,HU.out,((((B3.out.setCell (p:=⟨w.heap.size+1,0,none⟩) (by simp) _).setCell (p:=⟨w.heap.size+1,1,none⟩) (by simp) _).setCell (p:=⟨w.heap.size+1,2,none⟩) (by simp) _).setCell (p:=⟨w.heap.size+1,3,none⟩) (by simp) _)⟩
     ·rw[if_neg h6]
      have n6:(a.op==6)=false:=by simpa using h6
      clear HCo HFl hc
      go_enter Tryz.func27,Tryz.ntmps27
      go_wp2_with fail
      refine Calls.mono (HK.out _) ?_
      rintro e w2 ⟨rfl,b2⟩
      have B2:=kb B0 b2
      have Y1:=a0a (HY1.out.next b2)
      have Y0:=a0a (HY0.out.next b2)
      have p0:=(P0.out.keep (w':=w2) (fun j=>B2.out.cell (p:=⟨pb,j,none⟩) lp)).c0
      have lpw:=Nat.lt_of_lt_of_le lp B2.out.size
      clear x0 x1 x2 x3 xl y0 y1 y2 y3 g0 g1 g2 g3 yl p1 p2 p3 b2 HK
      obtain⟨x0,x1,x2,x3⟩:=Box.c4 Y0.out
      have xl:=Y0.out.lt
      obtain⟨y0,y1,y2,y3⟩:=Box.c4 Y1.out
      have g0:=Y1.out.free 0 (by simp)
      have g1:=Y1.out.free 1 (by simp)
      have g2:=Y1.out.free 2 (by simp)
      have g3:=Y1.out.free 3 (by simp)
      have yl:=Y1.out.lt
      go_wp2_with fail
      refine bodyPost_ret (v:=coV c (.slice (some ⟨pb,off,none⟩) (L+1) cap)) (by simp[results,Tryz.results27,go_sem, *]) rfl ?_
      exact⟨_,rfl,HCs.out,((((B2.out.setCell (p:=⟨w.heap.size+1,0,none⟩) (by simp) _).setCell (p:=⟨w.heap.size+1,1,none⟩) (by simp) _).setCell (p:=⟨w.heap.size+1,2,none⟩) (by simp) _).setCell (p:=⟨w.heap.size+1,3,none⟩) (by simp) _)⟩
abbrev foV (fb:Nat):Value:=.func (.func 26) #[] #[.pointer (some ⟨fb,0,none⟩)]
def b9Q (t:Co):Prop:=∀ (v:Value) (fb:Nat) (w:World),a0m w t v->Box w fb [foV fb]->GlE w->sM t≠0->a0q t<=8192->Calls Tryz.prog 26 #[coV t v,.pointer (some ⟨fb,0,none⟩)] w fun e w'=>∃ u,e=.returned (coV (a0g t) u)/\CSP (fun b=>w.heap.size<=b) w' (a0g t) u/\Below w.heap.size w w'
set_option maxHeartbeats 1000000 in
set_option maxRecDepth 20000 in
theorem b1d (t:Co)(ih:∀ x,x∈t.parts->b9Q x):b9Q t:=by
 intro v fb w hs hb hg hz hn
 have HIh:=a0a ih
 have HL:=a0a hs.parts
 have HS:=a0a hs
 have HFb:=a0a hb
 have HG:=a0a hg
 have HZ:=a0a hz
 have hln:=a5I hn
 obtain⟨q,hop,h1,h2,-,hpz,-⟩:=a2a hz
 have HPz:=a0a hpz
 have HN:=a0a hn
 obtain⟨ad,cap,rfl,k1,k2⟩:=hs.parts.shape
 obtain⟨i0,hi,hz0,hz1,hz2⟩:=a2D
 obtain⟨N,hN⟩:∃ N,Hid (N=t.parts.length):=⟨_,rfl⟩
 rw[<-hN.out] at k1 hln HL HS ⊢
 obtain⟨Y0,Y1,Y2⟩:=a0e w 30 30 (coL t (.slice ad N cap)) [.int .i64 0,.int .i64 0,.int .i64 0,.slice none 0 0]
 have HY0:=a0a Y0
 have HY1:=a0a Y1
 have B0:=a0a Y2
 have x3:=Y0.cell 3 _ rfl
 have xl:=Y0.lt
 clear hs hb hg hz hn ih Y0 Y1 Y2 hop h1 h2 hpz
 have H2:Hid (w.heap.size+1+1=((w.alloc (.cells (coL t (.slice ad N cap)).toArray 30)).alloc (.cells [.int .i64 0,.int .i64 0,.int .i64 0,.slice none 0 0].toArray 30)).heap.size):=a0a (by simp)
 have H2:Hid (w.heap.size+1+1=((w.alloc (.cells (coL t (.slice ad N cap)).toArray 30)).alloc (.cells [.int .i64 0,.int .i64 0,.int .i64 0,.slice none 0 0].toArray 30)).heap.size):=a0a (by simp)
 go_enter Tryz.func26,Tryz.ntmps26
 go_wp2_with fail
 generalize hW1:(w.alloc _).alloc _=w1 at *
 clear hW1 x3 xl
 go_loopw [4,10] (fun pv i wr=>∃ (k:Nat) (xs:List (Co×Value)) (av:Option Addr) (cv:Nat),pv=.slice av k cv/\i=.int .i64 (k:Nat)/\k<=N/\Hid (xs.length=k)/\Hid (xs.map (·.1)=(t.parts.take k).map a0g)/\Hid (a7B (w.heap.size+1+1) wr (.slice av k cv) xs)/\Hid (Below (w.heap.size+1+1) w1 wr)) (fun _ i _=>match i with | .int _ p=>((N:Int)-p).toNat | _=>0)
 case atStart=>exact⟨0,[],none,0,rfl,rfl,by omega,a0a rfl,a0a rfl,a0a (a7B.nil _ _),a0a (Below.refl _ _)⟩
 case round=>
  obtain⟨k,xs,av,cv,rfl,rfl,hk,HXl,HXs,HRw,HBr⟩:=hrel
  have HBw:Hid (Below w.heap.size w wr):=a0a (B0.out.trans (HBr.out.mono (by omega)))
  by_cases hlt:k<N
  ·have hlt':(k:Int)<(N:Int):=by omega
   have hl1:k<t.parts.length:=by rw[<-hN.out];exact hlt
   obtain⟨b,off,cap',hv,-,-,hbl,hx⟩:=HL.out.open (by omega)
   simp only[Value.slice.injEq] at hv
   obtain⟨rfl,-,rfl⟩:=hv
   obtain⟨u,h6,hu⟩:=hx k hl1
   have y0:=a0d HBw.out h6.c0
   have y1:=a0d HBw.out h6.c1
   have y2:=a0d HBw.out h6.c2
   have y3:=a0d HBw.out h6.c3
   have lbr:b<wr.heap.size:=World.block_lt_of_cell? wr _ y0
   have HCl:=a0a (fun W (hW:Below w.heap.size w W)=>HIh.out _ (List.getElem_mem hl1) u fb W (hu.next hW) (HFb.out.next hW) (GlE.next HG.out hW) (HPz.out _ (List.getElem_mem hl1)) (by have:=a0P (List.getElem_mem hl1);have:=HN.out;omega))
   have HTk:Hid (t.parts.take (k+1)=t.parts.take k++[t.parts[k]]):=a0a (List.take_succ_eq_append_getElem hl1)
   have fbc:=(HFb.out.next HBw.out).cell 0 _ rfl
   have fbl:=(HFb.out.next HBw.out).lt
   obtain⟨au,cu,rfl,-,-⟩:=hu.parts.shape
   clear h6 hu hx
   generalize t.parts[k]=x at *
   have ba:=(Below.refl wr.heap.size wr).alloc (Nat.le_refl _) (.cells #[.int .i64 x.op,.int .i64 x.n,.int .i64 x.m,.slice au x.parts.length cu] 30)
   have BA:=a0a ba
   have hwr:Hid (w.heap.size+1+1<=wr.heap.size):=a0a (by have:=HBr.out.size;have:=H2.out;omega)
   clear ba
   go_wp2_with fail
   refine Calls.mono (HCl.out _ (a0b HBw.out BA.out HBw.out.size)) ?_
   rintro e w2 ⟨u,rfl,su,b2⟩
   have B2:=kb BA b2
   have FR2:=a0a (HRw.out.next B2.out)
   have SU:Hid (CSP (fun b=>w.heap.size+1+1<=b/\(Value.slice av k cv).ownBlock≠some b) w2 (a0g x) u):=a0a (su.weak (fun b _ hb=>⟨by have:=hwr.out;simp at hb;omega,fun e=>by
    have:=(HRw.out.own.lt b e).2
    simp at hb
    omega⟩))
   obtain⟨a4,c4,rfl,-,-⟩:=su.parts.shape
   clear su b2 BA HCl y0 y1 y2 y3 fbc fbl
   obtain⟨d,hd⟩:∃ d,Hid (d=a0g x):=⟨_,rfl⟩
   rw[<-hd.out] at SU ⊢
   have ba:=(Below.refl w2.heap.size w2).alloc (Nat.le_refl _) (.cells #[.int .i64 d.op,.int .i64 d.n,.int .i64 d.m,.slice a4 d.parts.length c4] 30)
   have FR3:=a0a (FR2.out.next ba)
   have SU3:=a0a (SU.out.next ba)
   have B3:=kb B2 ba
   have hkx:Hid (k=xs.length):=HXl.out.symm
   clear ba FR2 SU B2
   go_wp2_with (at_builtin;refine wpList_append_lies _ rfl _ _ 28 rfl (w.heap.size+1+1) 30 i0 (coV ⟨0,0,0,[]⟩ (.slice none 0 0)) 4 48 Tryz.underlying28 hi hz0 hz1 hz2 rfl (by decide) (.slice av k cv) xs.length (flC xs) rfl FR3.out.own ⟨w2.heap.size,0,none⟩ 1 1 (coL d (.slice a4 d.parts.length c4)) rfl rfl (a1q _ _ _ _ _ _) (by intro u hu;simp at hu;rcases hu with rfl | rfl | rfl | rfl<;>rfl) (by decide) (by have:=HXl.out;unfold maxLen;omega) (by have:=HXl.out;omega) (by have:=B3.out.size;have:=hwr.out;simp at *;omega) _ rfl ?_;intro g1 cap1 w4 o1 k4 a1 l1)
   have FR4:=a0a (FR3.out.more SU3.out o1 k4 a1)
   have B4:Hid (Below (w.heap.size+1+1) w1 w4):=by
    have h:=HBr.out.trans (B3.out.mono hwr.out)
    refine a0a (h.trans ⟨k4.os,k4.tape,k4.output,k4.size,fun q hq=>k4.block q (by have:=B3.out.size;have:=hwr.out;omega) (fun e=>by have:=(FR3.out.own.lt q e.symm).1;omega)⟩)
   have HXl2:Hid ((xs++[(d,Value.slice a4 d.parts.length c4)]).length=k+1):=a0a (by rw[List.length_append,HXl.out];rfl)
   have HXs2:Hid ((xs++[(d,Value.slice a4 d.parts.length c4)]).map (·.1)=(t.parts.take (k+1)).map a0g):=a0a (by rw[HTk.out,List.map_append,List.map_append,HXs.out,hd.out];rfl)
   have FR5:Hid (a7B (w.heap.size+1+1) w4 (.slice (some ⟨g1,0,none⟩) (k+1) cap1) (xs++[(d,Value.slice a4 d.parts.length c4)])):=by rw[hkx.out];exact FR4
   clear FR3 SU3 o1 k4 a1 FR4 HBr HRw HXs
   have hxk:xs.length=k:=HXl.out
   clear HXl hkx
   go_wp2_with fail
   go_roundw
   case rel=>exact⟨k+1,_,some ⟨g1,0,none⟩,cap1,by rw[hxk],by go_num,by omega,HXl2,HXs2,FR5,B4⟩
   case measure=>simp;omega
  ·have hlt':¬(k:Int)<(N:Int):=by omega
   obtain rfl:k=N:=by omega
   have hxs:xs.map (·.1)=t.parts.map a0g:=by
    have:=HXs.out
    rw[hN.out,List.take_length] at this
    exact this
   have hCA:=HRw.out.done
   rw[hxs] at hCA
   have hplen:(t.parts.map a0g).length=k:=by rw[List.length_map];exact hN.out.symm
   obtain⟨c',hc'⟩:∃ c':Co,Hid (c'=⟨t.op,t.n,t.m,t.parts.map a0g⟩):=⟨_,rfl⟩
   have HFit:=HS.out.fit
   have HSo:=a6q (wn:=256) (cn:=256) (ln:=256) HZ.out (fun x hx=>a7p (by decide) (by decide) (by decide) x (HPz.out x hx))
   have HNo:=a4P t (fun x _=>a5H x)
   rw[<-hc'.out] at HSo HNo
   have HBe:=a0a (fun W (hb:CSP (fun b=>w.heap.size+1+1<=b) W c' (.slice av k cv)) (hg:GlE W)=>b4a _ c' (.slice av k cv) W (by have h:sM c'=sM t:=HSo;rw[h];exact HZ.out) (by have:=HN.out;omega) hb hg)
   have hCS:CSP (fun b=>w.heap.size+1+1<=b) wr c' (.slice av k cv):=by
    rw[hc'.out]
    exact a2w.2 ⟨⟨HFit.k,HFit.n,HFit.m⟩,hCA⟩
   have HCS:=a0a hCS
   have HD:Hid (a0g t=a1U c'):=a0a (by rw[a3j,hc'.out])
   have ho:Hid (c'.op=t.op/\c'.n=t.n/\c'.m=t.m):=by rw[hc'.out];exact a0a ⟨rfl,rfl,rfl⟩
   have Y0:=HY0.out.later HBr.out (by omega)
   have Y1:=HY1.out.later HBr.out (by omega)
   obtain⟨x0,x1,x2,x3⟩:=Box.c4 Y0
   have f3:=Y0.free 3 (by simp)
   have xl:=Y0.lt
   have Z0:=a0a (Y0.set 3 (by simp) (.slice av k cv))
   have Z1:=a0a (Y1.other (j:=3) (v:=.slice av k cv) (q:=w.heap.size) (by omega))
   have BZ:=a0a (HBw.out.setCell (p:=⟨w.heap.size,3,none⟩) (Nat.le_refl _) (.slice av k cv))
   have HC2:Hid (CSP (fun b=>w.heap.size+1+1<=b) (wr.setCell ⟨w.heap.size,3,none⟩ (.slice av k cv)) c' (.slice av k cv)):=a0a (CSP.keep (by simp) (fun b hb hB=>⟨hB,fun j=>a1B (a0w wr w.heap.size 3 _) hb (by simp at *;omega)⟩) _ _ HCS.out)
   clear HXs HXl HRw hCA hxs hplen hCS HCS HBr Y0 Y1 HIh HSo HNo HFit HPz hc'
   go_wp2_with fail
   generalize hW3:wr.setCell _ _=w3 at *
   clear hW3 x0 x1 x2 x3 f3 xl
   rw[<-ho.out.1,<-ho.out.2.1,<-ho.out.2.2]
   refine Calls.mono (HBe.out _ HC2.out (GlE.next HG.out BZ.out)) ?_
   rintro e w4 ⟨u,rfl,hu,b4⟩
   have B4:=kb BZ b4
   have Y1:=Z1.out.next b4
   have HU4:=a0a (hu.next b4)
   obtain⟨ua,uc,rfl,-,-⟩:=hu.parts.shape
   clear hu b4 HBe HC2 Z0 Z1 BZ HBw
   obtain⟨D,hD⟩:∃ D,Hid (D=a1U c'):=⟨_,rfl⟩
   rw[<-hD.out] at HD HU4 ⊢
   obtain⟨y0,y1,y2,y3⟩:=Box.c4 Y1
   have g0:=Y1.free 0 (by simp)
   have g1:=Y1.free 1 (by simp)
   have g2:=Y1.free 2 (by simp)
   have g3:=Y1.free 3 (by simp)
   have yl:=Y1.lt
   clear Y1
   go_wp2_with fail
   refine bodyPost_ret (v:=coV D (.slice ua D.parts.length uc)) (by simp[results,Tryz.results26,go_sem, *]) rfl ?_
   have T:a0p [w.heap.size+1] w4 ((((w4.setCell ⟨w.heap.size+1,0,none⟩ (.int .i64 D.op)).setCell ⟨w.heap.size+1,1,none⟩ (.int .i64 D.n)).setCell ⟨w.heap.size+1,2,none⟩ (.int .i64 D.m)).setCell ⟨w.heap.size+1,3,none⟩ (.slice ua D.parts.length uc)):=
    a0y (a0y (a0y (a0w w4 _ _ _) (a0w _ _ _ _)) (a0w _ _ _ _)) (a0w _ _ _ _)
   refine⟨_,by rw[HD.out],?_,((((B4.out.setCell (p:=⟨w.heap.size+1,0,none⟩) (by simp) _).setCell (p:=⟨w.heap.size+1,1,none⟩) (by simp) _).setCell (p:=⟨w.heap.size+1,2,none⟩) (by simp) _).setCell (p:=⟨w.heap.size+1,3,none⟩) (by simp) _)⟩
   rw[HD.out]
   exact CSP.keep T.size (fun b hb hB=>⟨by omega,fun j=>a1B T hb (by simp;omega)⟩) _ _ HU4.out
theorem a4C (t:Co):b9Q t:=by
 induction t using Co.ind with
 | h t ih=>exact b1d t ih
set_option maxHeartbeats 1000000 in
theorem b3E (w:World):Calls Tryz.prog 15 #[] w fun e w'=>∃ fb,e=.returned (foV fb)/\Box w' fb [foV fb]/\Below w.heap.size w w':=by
 have B:=a0a ((Below.refl w.heap.size w).alloc (Nat.le_refl _) (.cells #[foV w.heap.size] 45))
 go_enter Tryz.func15,Tryz.ntmps15
 go_wp2_with fail
 go_ret
 exact⟨_,rfl,Box.new w [foV w.heap.size] _,B.out⟩
def a9F (c:Co):Co×Int:=if a0q c<=4096/\sM c≠0 then (a0g c,0) else (co0,1)
set_option maxHeartbeats 1000000 in
set_option maxRecDepth 20000 in
theorem b6l (c:Co)(v:Value)(w:World)(hs:a0m w c v)(hg:GlE w):Calls Tryz.prog 9 #[coV c v] w fun e w'=>∃ u,e=.returned (.tuple #[coV (a9F c).1 u,.int .i64 (a9F c).2])/\a0m w' (a9F c).1 u/\Below w.heap.size w w':=by
 have HNo:=a0a (fun W (hW:Below w.heap.size w W)=>b3R c v W (hs.next hW))
 have HSo:=a0a (fun W (hn:a0q c<=8192) (hW:Below w.heap.size w W)=>a6b c v W (hs.next hW) hn)
 have HFo:=a0a (fun W fb (hn:a0q c<=8192) (hz:sM c≠0) (hb:Box W fb [foV fb]) (hW:Below w.heap.size w W)=>a4C c v fb W (hs.next hW) hb (GlE.next hg hW) hz hn)
 obtain⟨ad,cap,rfl,-,-⟩:=hs.parts.shape
 obtain⟨Y0,Y1,Y2⟩:=a0e w 30 30 (coL c (.slice ad c.parts.length cap)) [.int .i64 0,.int .i64 0,.int .i64 0,.slice none 0 0]
 have HY0:=a0a Y0
 have HY1:=a0a Y1
 have B0:=a0a Y2
 clear hs hg Y0 Y1 Y2
 obtain⟨q,hq⟩:∃ q,Hid (q=a9F c):=⟨_,rfl⟩
 rw[<-hq.out]
 have hbad:Hid (¬(a0q c<=4096/\sM c≠0)->q=(co0,1)):=fun h=>by rw[hq.out];exact if_neg h
 have hgood:Hid (a0q c<=4096->sM c≠0->q=(a0g c,0)):=fun h1 h2=>by rw[hq.out];exact if_pos ⟨h1,h2⟩
 clear hq
 by_cases h4:a0q c<=4096
 case neg=>
  obtain rfl:=hbad.out (fun h=>h4 h.1)
  have e1:a4o c=.int .i64 4097:=by unfold a4o;rw[show min (a0q c) 4097=4097 by omega];rfl
  rw[e1] at HNo
  clear hbad hgood HSo HFo e1
  go_enter Tryz.func9,Tryz.ntmps9
  go_wp2_with fail
  refine Calls.mono (HNo.out _ B0.out) ?_
  rintro e w1 ⟨rfl,b1⟩
  have B1:=kb B0 b1
  have Y1:=HY1.out.next b1
  clear b1 HNo
  obtain⟨y0,y1,y2,y3⟩:=Box.c4 Y1
  have g0:=Y1.free 0 (by simp)
  have g1:=Y1.free 1 (by simp)
  have g2:=Y1.free 2 (by simp)
  have g3:=Y1.free 3 (by simp)
  have yl:=Y1.lt
  clear Y1
  go_wp2_with fail
  refine bodyPost_ret (v:=.tuple #[coV co0 (.slice none 0 0),.int .i64 1]) (by simp[results,Tryz.results9,go_sem, *]) rfl ?_
  exact⟨_,rfl,(CSP.leaf (ok:=fun _=>True) _ ⟨a0o,a0o,a0o⟩).sits,((((B1.out.setCell (p:=⟨w.heap.size+1,0,none⟩) (by simp) _).setCell (p:=⟨w.heap.size+1,1,none⟩) (by simp) _).setCell (p:=⟨w.heap.size+1,2,none⟩) (by simp) _).setCell (p:=⟨w.heap.size+1,3,none⟩) (by simp) _)⟩
 obtain⟨N,hN⟩:∃ N:Nat,N=a0q c:=⟨_,rfl⟩
 have e1:a4o c=.int .i64 (N:Nat):=by unfold a4o;rw[show min (a0q c) 4097=N by omega]
 rw[e1] at HNo
 have hN4:¬(4096:Int)<(N:Int):=by omega
 have HS2:=a0a (fun W=>HSo.out W (by omega))
 have HF2:=a0a (fun W fb=>HFo.out W fb (by omega))
 have hg2:=a0a (hgood.out h4)
 clear HSo HFo hgood e1 hN
 by_cases hz:sM c=0
 ·obtain rfl:=hbad.out (fun h=>h.2 hz)
  rw[hz] at HS2
  clear hbad hg2 HF2 hz
  go_enter Tryz.func9,Tryz.ntmps9
  go_wp2_with fail
  refine Calls.mono (HNo.out _ B0.out) ?_
  rintro e w1 ⟨rfl,b1⟩
  have B1:=kb B0 b1
  have Y1:=a0a (HY1.out.next b1)
  have Y0:=a0a (HY0.out.next b1)
  clear b1 HNo
  obtain⟨x0,x1,x2,x3⟩:=Box.c4 Y0.out
  have xl:=Y0.out.lt
  go_wp2_with fail
  refine Calls.mono (HS2.out _ B1.out) ?_
  rintro e w2 ⟨rfl,b2⟩
  have B2:=kb B1 b2
  replace Y1:=kn Y1 b2
  clear x0 x1 x2 x3 xl b2 HS2 Y0
  obtain⟨y0,y1,y2,y3⟩:=Box.c4 Y1.out
  have g0:=Y1.out.free 0 (by simp)
  have g1:=Y1.out.free 1 (by simp)
  have g2:=Y1.out.free 2 (by simp)
  have g3:=Y1.out.free 3 (by simp)
  have yl:=Y1.out.lt
  go_wp2_with fail
  refine bodyPost_ret (v:=.tuple #[coV co0 (.slice none 0 0),.int .i64 1]) (by simp[results,Tryz.results9,go_sem, *]) rfl ?_
  exact⟨_,rfl,(CSP.leaf (ok:=fun _=>True) _ ⟨a0o,a0o,a0o⟩).sits,((((B2.out.setCell (p:=⟨w.heap.size+1,0,none⟩) (by simp) _).setCell (p:=⟨w.heap.size+1,1,none⟩) (by simp) _).setCell (p:=⟨w.heap.size+1,2,none⟩) (by simp) _).setCell (p:=⟨w.heap.size+1,3,none⟩) (by simp) _)⟩
 obtain rfl:=hg2.out hz
 have HF3:=a0a (fun W fb=>HF2.out W fb hz)
 have hz':(sM c==0)=false:=by simpa using hz
 clear hbad hg2 HF2 hz
 generalize sM c=sm at *
 go_enter Tryz.func9,Tryz.ntmps9
 go_wp2_with fail
 refine Calls.mono (HNo.out _ B0.out) ?_
 rintro e w1 ⟨rfl,b1⟩
 have B1:=kb B0 b1
 have Y1:=a0a (HY1.out.next b1)
 have Y0:=a0a (HY0.out.next b1)
 clear b1 HNo
 obtain⟨x0,x1,x2,x3⟩:=Box.c4 Y0.out
 have xl:=Y0.out.lt
 go_wp2_with fail
 refine Calls.mono (HS2.out _ B1.out) ?_
 rintro e w2 ⟨rfl,b2⟩
 have B2:=kb B1 b2
 replace Y1:=kn Y1 b2
 replace Y0:=kn Y0 b2
 clear x0 x1 x2 x3 xl b2 HS2
 obtain⟨x0,x1,x2,x3⟩:=Box.c4 Y0.out
 have xl:=Y0.out.lt
 go_wp2_with fail
 obtain⟨D,hD⟩:∃ D,Hid (D=a0g c):=⟨_,rfl⟩
 rw[<-hD.out] at HF3
 have hD2:Hid (a0g c=D):=hD.out.symm
 clear hD
 go_region_held3 (fun w'=>w'.cell? ⟨w.heap.size,0,none⟩=some (.int .i64 c.op)/\w'.cell? ⟨w.heap.size,1,none⟩=some (.int .i64 c.n)/\w'.cell? ⟨w.heap.size,2,none⟩=some (.int .i64 c.m)/\w'.cell? ⟨w.heap.size,3,none⟩=some (.slice ad c.parts.length cap)) (simp[go_sem, *]) (first|(go_at_call 15;refine Calls.mono (b3E _) ?_;rintro e w3 ⟨fb,rfl,hfb,b3⟩;have gg:=fun p v hp hv=>(b3.cell (p:=p) hp).trans (hv:w2.cell? p=some v);replace x0:=gg _ _ xl x0;replace x1:=gg _ _ xl x1;replace x2:=gg _ _ xl x2;replace x3:=gg _ _ xl x3;replace xl:w.heap.size<w3.heap.size:=Nat.lt_of_lt_of_le xl b3.size;have B3:=a0a (a0b B2.out (b:=w3) (⟨b3.os,b3.tape,b3.output,b3.size,b3.block⟩) B2.out.size);have Y3:=a0a (Y1.out.next (w':=w3) (⟨b3.os,b3.tape,b3.output,b3.size,b3.block⟩));have HFb:=a0a hfb;clear gg b3 hfb)|(go_at_call 26;refine Calls.mono (HF3.out _ fb HFb.out B3.out) ?_;rintro e w4 ⟨u,rfl,hu,b4⟩;have gg:=fun p v hp hv=>(b4.cell (p:=p) hp).trans (hv:w3.cell? p=some v);replace x0:=gg _ _ xl x0;replace x1:=gg _ _ xl x1;replace x2:=gg _ _ xl x2;replace x3:=gg _ _ xl x3;replace xl:w.heap.size<w4.heap.size:=Nat.lt_of_lt_of_le xl b4.size;have B4:=kb B3 b4;have Y4:=Y3.out.next b4;have y0:=Y4.cell 0 _ rfl;have g0:=Y4.free 0 (by simp);have y1:=Y4.cell 1 _ rfl;have g1:=Y4.free 1 (by simp);have y2:=Y4.cell 2 _ rfl;have g2:=Y4.free 2 (by simp);have y3:=Y4.cell 3 _ rfl;have g3:=Y4.free 3 (by simp);have yl:=Y4.lt;have HU:=a0a hu;obtain⟨ua,uc,rfl,-,-⟩:=hu.parts.shape;have hyo:w.heap.size+1<w3.heap.size:=Y3.out.lt;have HYo:=a0a hyo;clear gg b4 hu Y4 hyo))
 clear x0 x1 x2 x3 xl
 go_wp2_with fail
 refine bodyPost_ret (v:=.tuple #[coV D (.slice ua D.parts.length uc),.int .i64 0]) (by simp[results,Tryz.results9,go_sem, *]) rfl ?_
 have T:a0p [w.heap.size+1] w4 ((((w4.setCell ⟨w.heap.size+1,0,none⟩ (.int .i64 D.op)).setCell ⟨w.heap.size+1,1,none⟩ (.int .i64 D.n)).setCell ⟨w.heap.size+1,2,none⟩ (.int .i64 D.m)).setCell ⟨w.heap.size+1,3,none⟩ (.slice ua D.parts.length uc)):=
  a0y (a0y (a0y (a0w w4 _ _ _) (a0w _ _ _ _)) (a0w _ _ _ _)) (a0w _ _ _ _)
 refine⟨_,by rw[hD2.out],?_,((((B4.out.setCell (p:=⟨w.heap.size+1,0,none⟩) (by simp) _).setCell (p:=⟨w.heap.size+1,1,none⟩) (by simp) _).setCell (p:=⟨w.heap.size+1,2,none⟩) (by simp) _).setCell (p:=⟨w.heap.size+1,3,none⟩) (by simp) _)⟩
 show a0m _ (a0g c) _
 rw[hD2.out]
 exact(CSP.keep (ok':=fun _=>True) T.size (fun b hb hB=>⟨trivial,fun j=>a1B T hb (by have:=HYo.out;simp at *;omega)⟩) _ _ HU.out).sits
set_option maxHeartbeats 1000000 in
theorem b5N (n:Int)(w:World):Calls Tryz.prog 10 #[.int .i64 n] w fun e w'=>e=.returned (coV ⟨1,n,0,[]⟩ (.slice none 0 0))/\Below w.heap.size w w':=by
 have B1:Hid (∀ o,Below w.heap.size w (w.alloc o)):=fun o=>(Below.refl _ _).alloc (Nat.le_refl _) _
 go_enter Tryz.func10,Tryz.ntmps10
 go_wp2_with fail
 refine bodyPost_ret (v:=coV ⟨1,n,0,[]⟩ (.slice none 0 0)) (by simp[results,Tryz.results10,go_sem]) rfl ?_
 exact⟨rfl,B1.out _⟩
abbrev aw1:Co:=⟨1,1,0,[]⟩
abbrev aw2:Co:=⟨1,2,0,[]⟩
abbrev aw3:Co:=⟨14,0,0,[aw1,aw2]⟩
theorem b2a (wn cn ln:Int):a0k a0t wn cn ln aw3=1:=by
 rw[a0O]
 have e:aw3.parts.map (a0k a0t wn cn ln)=[1,1]:=by
  show [a0k a0t wn cn ln aw1,a0k a0t wn cn ln aw2]=[1,1]
  rw[a2i,a2i]
 rw[e]
 rfl
theorem b7Z (E:a0C):a0f E aw3=(3,0):=by
 rw[a0i]
 have e:aw3.parts.map (a0f E)=[(1,0),(2,0)]:=by
  show [a0f E aw1,a0f E aw2]=_
  rw[a1K E (x:=aw1) rfl,a1K E (x:=aw2) rfl]
 rw[e]
 rfl
theorem b6J:a0g aw3=⟨1,3,0,[]⟩:=by
 rw[a3j]
 have e:aw3.parts.map a0g=[aw1,aw2]:=by
  show [a0g aw1,a0g aw2]=_
  rw[a2W (t:=aw1) rfl,a2W (t:=aw2) rfl]
 rw[e]
 show a1U aw3=_
 have hM:sM aw3=1:=b2a _ _ _
 have e2:a1U aw3=a0R aw3:=rfl
 rw[e2,a4c (x:=aw1) (y:=aw2) rfl,if_neg (by decide),if_neg (by decide),b7Z,if_neg (by decide),if_neg (by rw[hM];decide)]
theorem b4c:a0q aw3=3:=by
 rw[a1a]
 show 1+a0D [aw1,aw2]=3
 rw[a1d,a1d,a2M,a4i (t:=aw1) rfl,a4i (t:=aw2) rfl]
theorem b6K:a9F aw3=(⟨1,3,0,[]⟩,0):=by
 unfold a9F
 rw[if_pos ⟨by rw[b4c];decide,by have h:sM aw3=1:=b2a _ _ _;rw[h];decide⟩,b6J]
theorem a4v (n:Int)(h:(decide (-9223372036854775808<=n/\n<=9223372036854775807))=true):C64 n:=by have:=of_decide_eq_true h;unfold C64;omega
set_option maxHeartbeats 1000000 in
set_option maxRecDepth 20000 in
theorem b1Z (w:World)(hg:GlE w):Calls Tryz.prog 4 #[] w fun e w'=>e=.returned (.bool true)/\Below w.heap.size w w':=by
 have HN:=a0a b5N
 have HG:=a0a hg
 clear hg
 go_enter Tryz.func4,Tryz.ntmps4
 go_wp2_with fail
 refine Calls.mono (HN.out _ _) ?_
 rintro e w1 ⟨rfl,b1⟩
 have B1:=a0a b1
 clear b1
 go_wp2_with fail
 refine Calls.mono (HN.out _ _) ?_
 rintro e w2 ⟨rfl,b2⟩
 have B2:=kb B1 b2
 clear b2 B1
 go_wp2_with fail
 have X:=Box.new w2 [.int .i64 1,.int .i64 1,.int .i64 0,.slice none 0 0,.int .i64 1,.int .i64 2,.int .i64 0,.slice none 0 0] 30
 have hs3:a0m (w2.alloc (.cells #[.int .i64 1,.int .i64 1,.int .i64 0,.slice none 0 0,.int .i64 1,.int .i64 2,.int .i64 0,.slice none 0 0] 30)) aw3 (.slice (some ⟨w2.heap.size,0,none⟩) 2 2):=by
  refine a1k.2 ⟨⟨a4v _ rfl,a4v _ rfl,a4v _ rfl⟩,_,2,rfl,by decide,by decide,.inr ⟨w2.heap.size,0,rfl,X.lt,fun i hi=>?_⟩⟩
  have hi2:i=0\/i=1:=by simp at hi;omega
  rcases hi2 with rfl | rfl
  ·exact⟨.slice none 0 0,⟨X.cell 0 _ rfl,X.cell 1 _ rfl,X.cell 2 _ rfl,X.cell 3 _ rfl⟩,(CSP.leaf (ok:=fun _=>True) _ ⟨a4v _ rfl,a4v _ rfl,a4v _ rfl⟩).sits⟩
  ·exact⟨.slice none 0 0,⟨X.cell 4 _ rfl,X.cell 5 _ rfl,X.cell 6 _ rfl,X.cell 7 _ rfl⟩,(CSP.leaf (ok:=fun _=>True) _ ⟨a4v _ rfl,a4v _ rfl,a4v _ rfl⟩).sits⟩
 have B3:=a0a (B2.out.alloc B2.out.size (.cells #[.int .i64 1,.int .i64 1,.int .i64 0,.slice none 0 0,.int .i64 1,.int .i64 2,.int .i64 0,.slice none 0 0] 30))
 have HC:=a0a (b6l aw3 _ _ hs3 (GlE.next HG.out B3.out))
 rw[b6K] at HC
 clear X hs3 B2
 refine Calls.mono HC.out ?_
 rintro e w4 ⟨u,rfl,hu,b4⟩
 have B4:=kb B3 b4
 have HU:=a0a hu
 obtain⟨ua,uc,rfl,-,-⟩:=hu.parts.shape
 have BA:=a0a (B4.out.alloc B4.out.size (.cells #[.int .i64 1,.int .i64 3,.int .i64 0,.slice ua 0 uc] 30))
 have XA:=a0a (Box.new w4 [.int .i64 1,.int .i64 3,.int .i64 0,.slice ua 0 uc] 30)
 have HU5:=a0a (hu.next ((Below.refl _ _).alloc (Nat.le_refl _) (.cells #[.int .i64 1,.int .i64 3,.int .i64 0,.slice ua 0 uc] 30)))
 clear b4 hu HC B3 B4
 have HSa:=a0a (fun W (hW:Below (w4.alloc (.cells #[.int .i64 1,.int .i64 3,.int .i64 0,.slice ua 0 uc] 30)).heap.size (w4.alloc (.cells #[.int .i64 1,.int .i64 3,.int .i64 0,.slice ua 0 uc] 30)) W)=>a6G ⟨1,3,0,[]⟩ ⟨1,3,0,[]⟩ _ _ W true ⟨fun _=>rfl,fun _=>rfl⟩ (HU5.out.next hW) (CSP.leaf (ok:=fun _=>True) W (k:=1) (n:=3) (m:=0) ⟨a4v _ rfl,a4v _ rfl,a4v _ rfl⟩).sits)
 dsimp only[List.length_nil] at *
 obtain⟨rb,hrb⟩:∃ rb,Hid (rb=w4.heap.size):=⟨_,rfl⟩
 rw[<-hrb.out] at XA
 go_wp2_with fail
 rw[<-hrb.out]
 generalize hW5:w4.alloc _=w5 at *
 clear hW5
 have xl:=XA.out.lt
 obtain⟨x0,x1,x2,x3⟩:=Box.c4 XA.out
 obtain⟨f,hf1,hf2⟩:=a5q w5
 have HF1:=a0a hf1
 have HF2:=a0a hf2
 have x0':=fun n=>((hf1 n).cell (p:=⟨rb,0,none⟩) xl).trans x0
 have x1':=fun n=>((hf1 n).cell (p:=⟨rb,1,none⟩) xl).trans x1
 have x2':=fun n=>((hf1 n).cell (p:=⟨rb,2,none⟩) xl).trans x2
 have x3':=fun n=>((hf1 n).cell (p:=⟨rb,3,none⟩) xl).trans x3
 clear hf1 hf2 x0 x1 x2 x3
 refine a0n f (by kernel_rfl) (by kernel_rfl) (HF2.out _ (Below.refl _ _).drew) ?_
 repeat (go_big_quiet_step (first|(go_at_call 10;with_reducible refine Calls.mono (HN.out _ _) ?_;rintro e W1 ⟨rfl,b5⟩;exact⟨rfl,HF2.out _ (a0b (HF1.out _) b5 (HF1.out _).size)⟩)|(go_at_call 11;with_reducible refine Calls.mono (HSa.out _ (HF1.out _)) ?_;rintro e W1 ⟨rfl,b5⟩;exact⟨rfl,HF2.out _ (a0b (HF1.out _) b5 (HF1.out _).size)⟩)))
 refine wpQuiet_nil ?_
 intro w6 hw6
 obtain⟨n6,rfl⟩:=hw6
 have B6:=a0a (a0b BA.out (HF1.out n6) BA.out.size)
 clear x0' x1' x2' x3'
 generalize f n6=w6 at *
 go_wp2_with fail
 go_ret
 exact⟨rfl,B6.out⟩
end Go.Proofs.YtkbmgloilckdhaaGreatDoor
