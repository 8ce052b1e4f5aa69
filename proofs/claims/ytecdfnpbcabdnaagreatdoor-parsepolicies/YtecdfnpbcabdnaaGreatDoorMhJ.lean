import Derived.Test.YtecdfnpbcabdnaaGreatDoorMhI
import Derived.Deep.RegionHeld3
import Derived.Test.YtecdfnpbcabdnaaGreatDoorMiK
import Derived.Test.YtecdfnpbcabdnaaGreatDoorMgX
section
namespace Go.Proofs.YtecdfnpbcabdnaaGreatDoor
open Go.RowKit
def PlC (z:Nat)(t:Tm):Prop:=∀ (v v':Value) (w:World),Sits z w t v->Sits z w t v'->Calls Tryz.prog 12 #[tmV t v,tmV t v'] w fun e w'=>e=.returned (.bool true)/\Below w.heap.size w w'
set_option maxHeartbeats 4000000 in
theorem placed_step {z:Nat}(t:Tm)(ih:∀ x,x∈t.parts->PlC z x):PlC z t:=by
 intro v v' w hs hs'
 have HL:=hid2 hs.parts
 have HK:=hid2 hs'.parts
 have HI:=hid2 ih
 obtain⟨ad,cap,rfl,hc1,hc2⟩:=hs.parts.shape
 obtain⟨ad',cap',rfl,hc1',hc2'⟩:=hs'.parts.shape
 obtain⟨N,hN⟩:∃ N,Hid (N=t.parts.length):=⟨_,rfl⟩
 rw[<-hN.out] at hc1 hc1' HL HK ⊢
 clear hs hs' ih
 obtain⟨X0,X1,XB⟩:=two_boxes w 33 33 (tmL t (.slice ad N cap)) (tmL t (.slice ad' N cap'))
 have BX:=hid2 X0
 have BY:=hid2 X1
 have BB:=hid2 XB
 clear X0 X1 XB
 go_enter Tryz.func12,Tryz.ntmps12
 go_wp2_with fail
 go_loopw [5] (fun i wr=>∃ j:Nat,i=.int .i64 (j:Nat)/\j<=N/\Hid (Below w.heap.size w wr)/\Hid (Box wr w.heap.size (tmL t (.slice ad N cap)))/\Hid (Box wr (w.heap.size+1) (tmL t (.slice ad' N cap')))) (fun i _=>match i with | .int _ p=>((N:Int)-p).toNat | _=>0)
 case atStart=>exact⟨0,rfl,by omega,BB,BX,BY⟩
 case round=>
  obtain⟨j,rfl,hj,HB,HX,HY⟩:=hrel
  have x5:=HX.out.cell 5 _ rfl
  have y5:=HY.out.cell 5 _ rfl
  have lx:=HX.out.lt
  have ly:=HY.out.lt
  by_cases hlt:j<N
  ·have hlt':(j:Int)<(N:Int):=by omega
   have h1:j<t.parts.length:=by rw[<-hN.out];exact hlt
   obtain⟨b,off,c1,hv,-,-,hbl,hx⟩:=HL.out.open (by omega)
   simp only[Value.slice.injEq] at hv
   obtain⟨rfl,-,rfl⟩:=hv
   obtain⟨b',off',c1',hv',-,-,hbl',hx'⟩:=HK.out.open (by omega)
   simp only[Value.slice.injEq] at hv'
   obtain⟨rfl,-,rfl⟩:=hv'
   obtain⟨u,h6,hu⟩:=hx j h1
   obtain⟨u',h6',hu'⟩:=hx' j h1
   obtain⟨c0,c1,c2,c3,c4,c5⟩:=h6.keep (w':=wr) (fun q=>HB.out.cell (p:=⟨b,q,none⟩) hbl)
   obtain⟨e0,e1,e2,e3,e4,e5⟩:=h6'.keep (w':=wr) (fun q=>HB.out.cell (p:=⟨b',q,none⟩) hbl')
   have lb:b<wr.heap.size:=Nat.lt_of_lt_of_le hbl HB.out.size
   have lb':b'<wr.heap.size:=Nat.lt_of_lt_of_le hbl' HB.out.size
   have HC:Hid (∀ wx,Below wr.heap.size wr wx->Calls Tryz.prog 12 #[tmV t.parts[j] u,tmV t.parts[j] u'] wx fun e w'=>e=.returned (.bool true)/\Hid (Below wr.heap.size wr w')):=fun wx hb=>by
    have A:Below w.heap.size w wx:=below_on HB.out hb HB.out.size
    exact(HI.out _ (List.getElem_mem h1) u u' _ (hu.next A) (hu'.next A)).mono fun e w' h=>⟨h.1,below_on hb h.2 hb.size⟩
   clear h6 h6' hu hu' hx hx'
   generalize t.parts[j]=x at *
   clear h1
   go_wp2_with fail
   go_region_held3 (fun w'=>w'.cell? ⟨w.heap.size,5,none⟩=some (.slice (some ⟨b,off,none⟩) N cap)/\w'.cell? ⟨w.heap.size+1,5,none⟩=some (.slice (some ⟨b',off',none⟩) N cap')/\(w'.cell? ⟨b,off+j*6,none⟩=some (.int .i64 x.kind)/\w'.cell? ⟨b,off+j*6+1,none⟩=some (.string x.text)/\w'.cell? ⟨b,off+j*6+2,none⟩=some (.int .i64 x.n)/\w'.cell? ⟨b,off+j*6+3,none⟩=some (.int .i64 x.m)/\w'.cell? ⟨b,off+j*6+4,none⟩=some (.int .i64 x.pl)/\w'.cell? ⟨b,off+j*6+5,none⟩=some u)/\w'.cell? ⟨b',off'+j*6,none⟩=some (.int .i64 x.kind)/\w'.cell? ⟨b',off'+j*6+1,none⟩=some (.string x.text)/\w'.cell? ⟨b',off'+j*6+2,none⟩=some (.int .i64 x.n)/\w'.cell? ⟨b',off'+j*6+3,none⟩=some (.int .i64 x.m)/\w'.cell? ⟨b',off'+j*6+4,none⟩=some (.int .i64 x.pl)/\w'.cell? ⟨b',off'+j*6+5,none⟩=some u') (simp[go_sem, *]) (first|(go_at_call 12;refine Calls.mono (HC.out _ (by exact below_drewN (Below.refl _ _) _)) ?_;rintro e w1 ⟨rfl,B1⟩;have g0:=fun p v hp hv=>(B1.out.cell (p:=p) hp).trans (hv:wr.cell? p=some v);replace x5:=g0 _ _ lx x5;replace y5:=g0 _ _ ly y5;replace c0:=g0 _ _ lb c0;replace c1:=g0 _ _ lb c1;replace c2:=g0 _ _ lb c2;replace c3:=g0 _ _ lb c3;replace c4:=g0 _ _ lb c4;replace c5:=g0 _ _ lb c5;replace e0:=g0 _ _ lb' e0;replace e1:=g0 _ _ lb' e1;replace e2:=g0 _ _ lb' e2;replace e3:=g0 _ _ lb' e3;replace e4:=g0 _ _ lb' e4;replace e5:=g0 _ _ lb' e5;clear g0))
   have HX1:=hid2 (HX.out.next B1.out)
   have HY1:=hid2 (HY.out.next B1.out)
   have HB1:=hid2 (below_on HB.out B1.out HB.out.size)
   clear c0 c1 c2 c3 c4 c5 e0 e1 e2 e3 e4 e5 HC x5 y5
   go_wp2_with fail
   go_roundw
   case rel=>exact⟨j+1,by go_num,by omega,HB1,HX1,HY1⟩
   case measure=>simp;omega
  ·have hlt':¬(j:Int)<(N:Int):=by omega
   go_wp2_with fail
   go_ret
   exact⟨rfl,HB.out⟩
theorem placed_all {z:Nat}(t:Tm):PlC z t:=by
 induction t using Tm.ind with
 | h t ih=>exact placed_step t ih
end Go.Proofs.YtecdfnpbcabdnaaGreatDoor
end
section
namespace Go.Proofs.YtecdfnpbcabdnaaGreatDoor
open Go.RowKit Go.Lib
theorem rdS_c64 {s:ByteArray}{L:List Tk}{c:Int}(h:rdS s=some (L,c)):In64 c:=by
 have hf:=cutS_fault (s:=s)
 unfold rdS at h
 generalize hc:cutS s=cs at *
 generalize hd:cutS (s.extract 0 cs.2.1)=ds at *
 clear hc hd
 by_cases hn:cs.2.2=2\/cs.2.2=10\/cs.2.2=11
 ·rw[if_pos hn] at h
  cases h
 ·rw[if_neg hn] at h
  by_cases h0:cs.2.2=0
  ·rw[if_pos h0] at h
   have hl:c=0:=(congrArg Prod.snd (Option.some.inj h)).symm
   subst hl
   exact zero64
  ·rw[if_neg h0] at h
   obtain⟨hz,hv,l,k,k1,k2,k3,k4,k5,k6⟩:=hf h0 (fun h=>hn (.inl h)) (fun h=>hn (.inr (.inl h))) (fun h=>hn (.inr (.inr h)))
   have hl:c=cs.2.2:=(congrArg Prod.snd (Option.some.inj h)).symm
   subst hl
   unfold In64
   rcases k5 with ⟨_,h14⟩ | ⟨_,h14⟩
   ·omega
   ·have:=tok_err64 _ h14
    omega
theorem rr_new {z:Nat}{w1:World}{B:Nat}{v:Value}{L:List Tk}{c:Int}(hT:Toks w1 B v L)(hL:TL z L)(hc:In64 c):
 ∃ g cap,v=.slice (some ⟨g,0,none⟩) L.length cap/\B<=g/\g<w1.heap.size/\Rr z (w1.alloc (.cells (rrL g 0 L.length cap 0 0 c 0 0).toArray 51)) w1.heap.size g L c ⟨none,L⟩ 0:=by
 have hpos:=hL.pos
 have hcl:=fun (g:Nat) h=>hT.cells (g:=g) h
 have hlt:=hT.lt
 obtain⟨h1,h2⟩:=hT
 rcases h2 with ⟨_,h3⟩ | ⟨g,cap,cur,rfl,h3,h4,h5,h6,h7,h8⟩
 ·omega
 ·have hg:=(hlt g rfl).2
  refine⟨g,cap,rfl,h3,hg,0,cap,0,0,Box.new w1 _ _,h5,by unfold maxLen at h6;omega,fun q u hu=>?_,by omega,by simp;omega,hpos,rfl,hL,fun f hf=>(by cases hf),fun _=>rfl,zero64,by omega,hc⟩
  have hc0:=hcl g rfl q u hu
  have hadd:(⟨g,0,none⟩:Addr).add q=⟨g,q,none⟩:=by unfold Addr.add;split<;>simp_all
  rw[hadd] at hc0
  rw[Nat.zero_add,World.cell?_alloc_lt _ _ _ hg]
  exact hc0
def BgP (s:ByteArray)(w:World)(e:Ending)(w':World):Prop:=Below w.heap.size w w' /\
 match rdS s with
 | none=>e=.returned (.tuple #[.pointer none,.int .i64 ((cutS s).2.1:Nat),.int .i64 (cutS s).2.2])
 | some r=>∃ rb tb,e=.returned (.tuple #[.pointer (some ⟨rb,0,none⟩),.int .i64 0,.int .i64 0])/\Rr s.size w' rb tb r.1 r.2 ⟨none,r.1⟩ 0/\w.heap.size<=rb/\w.heap.size<=tb
set_option maxHeartbeats 4000000 in
theorem qBegin_c (s:ByteArray)(w:World):Calls Tryz.prog 15 #[.string s] w (BgP s w):=by
 have H1:=hid2 (upTo_c s w)
 unfold UpP at H1
 cases hr:rdS s with
 | none=>
   rw[hr] at H1
   have hP:Hid (∀ w',Below w.heap.size w w'->BgP s w (.returned (.tuple #[.pointer none,.int .i64 ((cutS s).2.1:Nat),.int .i64 (cutS s).2.2])) w'):=fun w' b=>⟨b,by rw[hr]⟩
   generalize BgP s w=Post at *
   clear hr
   generalize (cutS s).2.1=a at *
   generalize (cutS s).2.2=k at *
   go_enter Tryz.func15,Tryz.ntmps15
   go_wp2_with fail
   refine Calls.mono H1.out ?_
   rintro e w1 ⟨b1,rfl⟩
   go_wp2_with fail
   go_ret3
   exact hP.out _ b1
 | some r=>
   rw[hr] at H1
   have hL:=rdS_tl (show rdS s=some (r.1,r.2) from hr)
   have hc0:=rdS_c64 (show rdS s=some (r.1,r.2) from hr)
   have hP:Hid (∀ w' rb tb,Below w.heap.size w w'->Rr s.size w' rb tb r.1 r.2 ⟨none,r.1⟩ 0->w.heap.size<=rb/\w.heap.size<=tb->BgP s w (.returned (.tuple #[.pointer (some ⟨rb,0,none⟩),.int .i64 0,.int .i64 0])) w'):=fun w' rb tb b h1 h2=>⟨b,by rw[hr];exact⟨rb,tb,rfl,h1,h2⟩⟩
   generalize BgP s w=Post at *
   clear hr
   go_enter Tryz.func15,Tryz.ntmps15
   go_wp2_with fail
   refine Calls.mono H1.out ?_
   rintro e w1 ⟨b1,v,a,rfl,T1⟩
   obtain⟨g,cap,rfl,hg1,hg2,RR⟩:=rr_new T1 hL hc0
   have hpos:=hL.pos
   have hlen:((r.1.length:Nat):Int)≠0:=by omega
   have hlen2:(((r.1.length:Nat):Int)==0)=false:=by simpa using hlen
   have HB:=hid2 b1
   have HR:=hid2 RR
   have hsz:=b1.size
   clear T1 b1 RR H1
   generalize hn:r.1.length=n at *
   go_wp2_with fail
   go_ret3
   exact hP.out _ _ _ (HB.out.alloc hsz _) HR.out ⟨hsz,hg1⟩
theorem below_turned {B rb:Nat}{w W W':World}(h:Below B w W)(k:Turn [rb] W W')(hr:B<=rb)(hB:B<=W.heap.size):Below B w W':=
 ⟨k.os.trans h.os,k.tape.trans h.tape,k.output.trans h.output,Nat.le_trans h.size k.size,fun i hi=>(k.block i (by omega) (by simp;omega)).trans (h.block i hi)⟩
end Go.Proofs.YtecdfnpbcabdnaaGreatDoor
end
