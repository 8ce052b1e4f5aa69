import Derived.Test.YtepncopdjodfgaaGreatDoorCoE
namespace Go.Proofs.YtepncopdjodfgaaGreatDoor
open Go.RowKit
abbrev co0:Co:=⟨0,0,0,[]⟩
def lstep (c:Co)(ss:List Int)(i:Nat):Prop:=(c.parts.getD i co0).op=1/\ss.getD (i+1) 0=3/\(1<i->(c.parts.getD (i-2) co0).n<(c.parts.getD i co0).n)
def LadOk (c:Co)(ss:List Int):Prop:=2<=ss.length/\ss.length%2=0/\ss.getD 0 0=1/\ss.getD (ss.length-1) 0=3/\∀ i,i%2=1->i+1<ss.length->lstep c ss i
def lstepB (c:Co)(ss:List Int)(i:Nat):Bool:=decide ((c.parts.getD i co0).op=1)&&(decide (ss.getD (i+1) 0=3)&&(decide (i<=1)||decide ((c.parts.getD (i-2) co0).n<(c.parts.getD i co0).n)))
theorem lstepB_iff (c:Co)(ss:List Int)(i:Nat):lstepB c ss i=true↔lstep c ss i:=by
 unfold lstepB lstep
 simp only[Bool.and_eq_true,Bool.or_eq_true,decide_eq_true_eq]
 constructor
 ·rintro⟨h1,h2,h3⟩
  exact⟨h1,h2,fun h=>h3.resolve_left (by omega)⟩
 ·rintro⟨h1,h2,h3⟩
  exact⟨h1,h2,(Nat.lt_or_ge 1 i).elim (fun h=>.inr (h3 h)) .inl⟩
def ladB (c:Co)(ss:List Int):Bool:=decide (2<=ss.length)&&(decide (ss.length%2=0)&&(decide (ss.getD 0 0=1)&&(decide (ss.getD (ss.length-1) 0=3)&&(List.range ss.length).all fun i=>decide (i%2=0)||(decide (ss.length<=i+1)||lstepB c ss i))))
theorem ladB_iff (c:Co)(ss:List Int):ladB c ss=true↔LadOk c ss:=by
 unfold ladB LadOk
 simp only[Bool.and_eq_true,decide_eq_true_eq,List.all_eq_true,List.mem_range,Bool.or_eq_true,lstepB_iff]
 refine and_congr Iff.rfl (and_congr Iff.rfl (and_congr Iff.rfl (and_congr Iff.rfl ⟨fun h i h1 h2=>?_,fun h i h1=>?_⟩)))
 ·rcases h i (by omega) with k | k | k
  ·omega
  ·omega
  ·exact k
 ·by_cases k:i%2=0
  ·exact .inl k
  ·by_cases k2:ss.length<=i+1
   ·exact .inr (.inl k2)
   ·exact .inr (.inr (h i (by omega) (by omega)))
def ladF (c:Co)(ss:List Int):Int:=if ladB c ss=true then 3 else 0
theorem ladF_yes {c:Co}{ss:List Int}(h:LadOk c ss):ladF c ss=3:=if_pos ((ladB_iff c ss).2 h)
theorem ladF_no {c:Co}{ss:List Int}(h:¬ LadOk c ss):ladF c ss=0:=if_neg (fun k=>h ((ladB_iff c ss).1 k))
set_option maxHeartbeats 4000000 in
set_option maxRecDepth 20000 in
theorem cladder_s:StC 211 ladF:=by
 intro c ss v a1 k1 w hs hlen hl h1 hk hk2
 have HL:=chid hs.parts
 obtain⟨ad,cap,rfl,hc1,hc2⟩:=hs.parts.shape
 rw[<-hlen] at hc1 ⊢
 obtain⟨L,hL⟩:∃ L,Hid (L=ss.length):=⟨_,rfl⟩
 obtain⟨R,hR⟩:∃ R,Hid (R=ladF c ss):=⟨_,rfl⟩
 have H1:=chid h1
 have HLen:=chid hlen
 rw[<-hL.out] at hc1 H1 hk hl ⊢
 rw[<-hR.out]
 have HA:Hid (∀ o,Below w.heap.size w (w.alloc o)):=fun o=>(Below.refl _ _).alloc (Nat.le_refl _) _
 clear hs h1 hlen
 by_cases a2:L<2
 ·have h0:R=0:=by rw[hR.out];exact ladF_no (fun h=>by have:=h.1;rw[<-hL.out] at this;omega)
  subst h0
  have b2:(L:Int)-1<1:=by omega
  go_enter Tryz.func211,Tryz.ntmps211
  go_wp2_with fail
  go_ret
  exact⟨rfl,HA.out _⟩
 have b2:¬(L:Int)-1<1:=by omega
 by_cases a3:L%2=0
 case neg=>
  have h0:R=0:=by rw[hR.out];exact ladF_no (fun h=>by have:=h.2.1;rw[<-hL.out] at this;omega)
  subst h0
  have b3:Int.tmod ((L:Int)-1) 2=0:=by rw[Int.tmod_eq_emod_of_nonneg (by omega)];omega
  go_enter Tryz.func211,Tryz.ntmps211
  go_wp2_with fail
  go_ret
  exact⟨rfl,HA.out _⟩
 obtain⟨b,o1,rfl,hb,hc⟩:=H1.out.open (by rw[<-hL.out];omega)
 obtain⟨M,rfl⟩:∃ M,L=M+1:=⟨L-1,by omega⟩
 have b3:Int.tmod (M:Int) 2=1:=by rw[Int.tmod_eq_emod_of_nonneg (by omega)];omega
 have hM:1<=M:=by omega
 have b4:¬(M:Int)<1:=by omega
 have g0:ss.getD 0 0=ss[0]'(by rw[<-hL.out];omega):=by simp[List.getD,List.getElem?_eq_getElem (show 0<ss.length by rw[<-hL.out];omega)]
 have gM:ss.getD M 0=ss[M]'(by rw[<-hL.out];omega):=by simp[List.getD,List.getElem?_eq_getElem (show M<ss.length by rw[<-hL.out];omega)]
 have e0:=hc 0 (by rw[<-hL.out];omega)
 have eM:=hc M (by rw[<-hL.out];omega)
 rw[<-g0,Nat.add_zero] at e0
 rw[<-gM] at eM
 have HC:=chid hc
 clear g0 gM hc a2 b2
 by_cases a4:ss.getD 0 0=1
 case neg=>
  have h0:R=0:=by rw[hR.out];exact ladF_no (fun h=>a4 h.2.2.1)
  subst h0
  have d4:(ss.getD 0 0 != 1)=true:=by simpa using a4
  generalize ss.getD 0 0=x0 at *
  go_enter Tryz.func211,Tryz.ntmps211
  go_wp2_with fail
  go_ret
  exact⟨rfl,HA.out _⟩
 rw[a4] at e0
 by_cases a5:ss.getD M 0=3
 case neg=>
  have h0:R=0:=by rw[hR.out];exact ladF_no (fun h=>a5 (by have:=h.2.2.2.1;rw[<-hL.out] at this;exact this))
  subst h0
  have d5:(ss.getD M 0 != 3)=true:=by simpa using a5
  generalize ss.getD M 0=x0 at *
  go_enter Tryz.func211,Tryz.ntmps211
  go_wp2_with fail
  go_ret
  exact⟨rfl,HA.out _⟩
 rw[a5] at eM
 obtain⟨bb,off,cap',ec,hle,hcap,hbl',hx⟩:=HL.out.open (by rw[<-HLen.out,<-hL.out];omega)
 simp only[Value.slice.injEq] at ec
 obtain⟨rfl,-,rfl⟩:=ec
 have X0:=Box.new w (coL c (.slice (some ⟨bb,off,none⟩) (M+1) cap)) 30
 have c3:=X0.cell 3 _ rfl
 have x0:=X0.lt
 have hb0:=HA.out (.cells (coL c (.slice (some ⟨bb,off,none⟩) (M+1) cap)).toArray 30)
 have HX:Hid (∀ i (h:i<c.parts.length),(w.alloc (.cells (coL c (.slice (some ⟨bb,off,none⟩) (M+1) cap)).toArray 30)).cell? ⟨bb,off+i*4,none⟩=some (.int .i64 (c.parts.getD i co0).op)/\(w.alloc (.cells (coL c (.slice (some ⟨bb,off,none⟩) (M+1) cap)).toArray 30)).cell? ⟨bb,off+i*4+1,none⟩=some (.int .i64 (c.parts.getD i co0).n)):=fun i h=>by
  obtain⟨u,h6,-⟩:=hx i h
  have e:c.parts.getD i co0=c.parts[i]:=by simp[List.getD,List.getElem?_eq_getElem h]
  rw[e]
  exact⟨(hb0.cell (p:=⟨bb,_,none⟩) hbl').trans h6.c0,(hb0.cell (p:=⟨bb,_,none⟩) hbl').trans h6.c1⟩
 have HS:Hid (∀ i (h:i<ss.length),(w.alloc (.cells (coL c (.slice (some ⟨bb,off,none⟩) (M+1) cap)).toArray 30)).cell? ⟨b,o1+i,none⟩=some (.int .i64 (ss.getD i 0))):=fun i h=>by
  have e:ss.getD i 0=ss[i]:=by simp[List.getD,List.getElem?_eq_getElem h]
  rw[e]
  exact(hb0.cell (p:=⟨b,_,none⟩) hb).trans (HC.out i h)
 have y1:bb<(w.alloc (.cells (coL c (.slice (some ⟨bb,off,none⟩) (M+1) cap)).toArray 30)).heap.size:=Nat.lt_of_lt_of_le hbl' hb0.size
 have y2:b<(w.alloc (.cells (coL c (.slice (some ⟨bb,off,none⟩) (M+1) cap)).toArray 30)).heap.size:=Nat.lt_of_lt_of_le hb hb0.size
 have HB0:=chid hb0
 clear hx X0 hb0 HC
 go_enter Tryz.func211,Tryz.ntmps211
 go_wp2_with fail
 generalize hW0:w.alloc _=w0 at *
 clear hW0 e0 eM HA
 go_loopw [6] (fun i wr=>∃ i0:Nat,i=.int .i64 (i0:Nat)/\i0<=M/\Hid (i0%2=1)/\Hid (∀ q,q%2=1->q<i0->lstep c ss q)/\Hid (Below w0.heap.size w0 wr)) (fun i _=>match i with | .int _ p=>((M:Int)-p).toNat | _=>0)
 case atStart=>exact⟨1,rfl,hM,chid rfl,(fun q h1 h2=>by omega),Below.refl _ _⟩
 case round=>
  obtain⟨i,rfl,hj,HO,HQ,HW⟩:=hrel
  have r3:=(HW.out.cell (p:=⟨w.heap.size,3,none⟩) x0).trans c3
  have rx:=Nat.lt_of_lt_of_le x0 HW.out.size
  have r1:=Nat.lt_of_lt_of_le y1 HW.out.size
  have r2:=Nat.lt_of_lt_of_le y2 HW.out.size
  have HB1:=chid (cbelow_on HB0.out HW.out HB0.out.size)
  by_cases hlt:i<M
  ·have hlt':(i:Int)<(M:Int):=by omega
   have hl1:i<c.parts.length:=by rw[<-HLen.out,<-hL.out];omega
   have hl2:i+1<ss.length:=by rw[<-hL.out];omega
   have p0:=(HW.out.cell (p:=⟨bb,_,none⟩) y1).trans (HX.out i hl1).1
   have p1:=(HW.out.cell (p:=⟨bb,_,none⟩) y1).trans (HX.out i hl1).2
   have p2:=(HW.out.cell (p:=⟨b,_,none⟩) y2).trans (HS.out (i+1) hl2)
   have HNo:Hid (¬ lstep c ss i->R=0):=fun h=>by rw[hR.out];exact ladF_no (fun k=>h (k.2.2.2.2 i HO.out hl2))
   by_cases q1:(c.parts.getD i co0).op=1
   case neg=>
    have h0:R=0:=HNo.out (fun h=>q1 h.1)
    subst h0
    have d4:((c.parts.getD i co0).op != 1)=true:=by simpa using q1
    generalize c.parts.getD i co0=x at *
    clear HX HS HQ
    go_wp2_with fail
    go_ret
    exact⟨rfl,by first | exact HB1.out | exact HB1.out.drew | exact cdrewN HB1.out _⟩
   rw[q1] at p0
   by_cases q2:ss.getD (i+1) 0=3
   case neg=>
    have h0:R=0:=HNo.out (fun h=>q2 h.2.1)
    subst h0
    have d4:(ss.getD (i+1) 0 != 3)=true:=by simpa using q2
    generalize ss.getD (i+1) 0=x at *
    clear HX HS HQ
    go_wp2_with fail
    go_ret
    exact⟨rfl,by first | exact HB1.out | exact HB1.out.drew | exact cdrewN HB1.out _⟩
   rw[q2] at p2
   by_cases q3:1<i
   case neg=>
    have HQ2:Hid (∀ q,q%2=1->q<i+2->lstep c ss q):=fun q h1 h2=>by
     by_cases e:q=i
     ·rw[e];exact⟨q1,q2,fun h=>absurd h q3⟩
     ·exact HQ.out q h1 (by have:=HO.out;omega)
    have q4:¬ 1<(i:Int):=by omega
    have q4b:decide ((1:Int)<(i:Int))=false:=decide_eq_false q4
    have q4c:decide ((i:Int)>1)=false:=decide_eq_false q4
    clear HX HS HQ
    go_wp2_with fail
    go_quiet (fail)
    go_wp2_with fail
    go_roundw
    case rel=>exact⟨i+2,by go_num,by have:=HO.out;omega,chid (by have:=HO.out;omega),HQ2.out,by first | exact HW.out | exact HW.out.drew | exact cdrewN HW.out _⟩
    case measure=>simp;omega
   obtain⟨r,rfl⟩:∃ r,i=r+2:=⟨i-2,by omega⟩
   have q4:1<(r:Int)+2:=by omega
   have q4b:decide ((1:Int)<(r:Int)+2)=true:=decide_eq_true q4
   have p3:=(HW.out.cell (p:=⟨bb,_,none⟩) y1).trans (HX.out r (by omega)).2
   by_cases q5:(c.parts.getD r co0).n<(c.parts.getD (r+2) co0).n
   case neg=>
    have h0:R=0:=HNo.out (fun h=>q5 (h.2.2 q3))
    subst h0
    have q6:(c.parts.getD (r+2) co0).n<=(c.parts.getD r co0).n:=by omega
    generalize c.parts.getD r co0=x at *
    generalize c.parts.getD (r+2) co0=y at *
    clear HX HS HQ
    go_wp2_with fail
    go_quiet (fail)
    go_wp2_with fail
    go_ret
    exact⟨rfl,by first | exact HB1.out | exact HB1.out.drew | exact cdrewN HB1.out _⟩
   have HQ2:Hid (∀ q,q%2=1->q<r+2+2->lstep c ss q):=fun q h1 h2=>by
    by_cases e:q=r+2
    ·rw[e];exact⟨q1,q2,fun _=>q5⟩
    ·exact HQ.out q h1 (by have:=HO.out;omega)
   have q6:¬(c.parts.getD (r+2) co0).n<=(c.parts.getD r co0).n:=by omega
   clear q1
   generalize c.parts.getD r co0=x at *
   generalize c.parts.getD (r+2) co0=y at *
   clear HX HS HQ
   go_wp2_with fail
   go_quiet (fail)
   go_wp2_with fail
   go_roundw
   case rel=>exact⟨r+2+2,by go_num,by have:=HO.out;omega,chid (by have:=HO.out;omega),HQ2.out,by first | exact HW.out | exact HW.out.drew | exact cdrewN HW.out _⟩
   case measure=>simp;omega
  ·have hlt':¬(i:Int)<(M:Int):=by omega
   have h3:R=3:=by
    rw[hR.out]
    refine ladF_yes ⟨by rw[<-hL.out];omega,by rw[<-hL.out];exact a3,a4,by rw[<-hL.out];exact a5,fun q h1 h2=>HQ.out q h1 (by rw[<-hL.out] at h2;omega)⟩
   subst h3
   go_wp2_with fail
   go_ret
   exact⟨rfl,by first | exact HB1.out | exact HB1.out.drew | exact cdrewN HB1.out _⟩
theorem csort_c (wn cn ln:Int)(h64:C64 wn/\C64 cn/\C64 ln)(t:Co):CSoC ladF wn cn ln t:=by
 induction t using Co.ind with
 | h t ih=>exact csort_step ladF cladder_s wn cn ln h64 t ih
set_option maxHeartbeats 1000000 in
theorem cSort_c (t:Co)(v:Value)(wn cn ln:Int)(w:World)(hs:CSits w t v)(hn:cnodes t<=8192)(h64:C64 wn/\C64 cn/\C64 ln):
 Calls Tryz.prog 87 #[coV t v,.int .i64 wn,.int .i64 cn,.int .i64 ln] w fun e w'=>e=.returned (.int .i64 (csort ladF wn cn ln t))/\Below w.heap.size w w':=by
 have HC:=chid (fun b sb W=>csort_c wn cn ln h64 t v b sb W)
 have HS:=chid hs
 have HN:=chid hn
 obtain⟨ad,cap,rfl,-,-⟩:=hs.parts.shape
 clear hs hn
 generalize csort ladF wn cn ln t=R at *
 go_enter Tryz.func87,Tryz.ntmps87
 go_wp2_with fail
 refine Calls.mono (crows_c _) ?_
 rintro e w1 ⟨b,rfl,hr,b1⟩
 have hb0:=(Below.refl w.heap.size w).alloc (Nat.le_refl _) (.cells (coL t (.slice ad t.parts.length cap)).toArray 30)
 have HB1:=chid (cbelow_on hb0 b1 (by simp))
 have X0:=(Box.new w (coL t (.slice ad t.parts.length cap)) 30).next b1
 have c0:=X0.cell 0 _ rfl
 have c1:=X0.cell 1 _ rfl
 have c2:=X0.cell 2 _ rfl
 have c3:=X0.cell 3 _ rfl
 have x0:=X0.lt
 have A:∀ o,Below w1.heap.size w1 (w1.alloc o):=fun o=>(Below.refl _ _).alloc (Nat.le_refl _) _
 have HCc:=chid (fun W (hW:Below w1.heap.size w1 W) (hx:Box W w1.heap.size (soL b wn cn ln))=>HC.out b w1.heap.size W (HS.out.next (cbelow_on HB1.out hW HB1.out.size)) HN.out hx (hr.next hW))
 have HA:=chid A
 clear HC A hr b1 hb0 X0
 go_wp2_with fail
 refine Calls.mono (HCc.out _ (HA.out _) (Box.new w1 (soL b wn cn ln) _)) ?_
 rintro e w2 ⟨rfl,b2⟩
 have HB2:=chid (cbelow_on HB1.out (cbelow_on (HA.out _) b2 (by simp)) HB1.out.size)
 clear b2 HCc HA
 go_wp2_with fail
 go_ret
 exact⟨rfl,HB2.out⟩
end Go.Proofs.YtepncopdjodfgaaGreatDoor
