import Derived.Test.YtbddbnjhmdbkbaaGreatDoorCbMgB
import Derived.Deep.RegionHeld3
namespace Go.Proofs.YtbddbnjhmdbkbaaGreatDoor
open Go.RowKit
theorem a0T {W w w':World}{F:List Nat}(hb:Below W.heap.size W w)(t:a0E F w w')(hF:∀ b,b∈F->W.heap.size<=b):Below W.heap.size W w':=
 hb.trans (t.below hF hb.size)
def a2X (s:Nat)(_:Co):Nat×Bool:=(s+1,decide (s+1<=4096))
def a5N (t:Co):Value:=.int .i64 ((min (a0b t) 4097:Nat):Int)
set_option maxHeartbeats 1000000 in
theorem a6L (t:Co):∀ (v:Value) (w:World),a0p w t v->Calls Tryz.prog 24 #[coV t v] w fun e w'=>e=.returned (a5N t)/\Below w.heap.size w w':=by
 induction t using Co.ind with
 | h t ih=>
   intro v w hs
   have HP:=a0a hs.parts
   have HI:=a0a ih
   obtain⟨ad,cap,rfl,hlc,hc⟩:=hs.parts.shape
   obtain⟨V,hV⟩:∃ V,Hid (V=a5N t):=⟨_,rfl⟩
   rw[<-hV.out]
   obtain⟨N,hN⟩:∃ N,Hid (N=t.parts.length):=⟨_,rfl⟩
   rw[<-hN.out] at hlc HP ⊢
   clear hs ih
   go_enter Tryz.func24,Tryz.ntmps24
   go_wp2_with fail
   have BX:Hid (Box (w.alloc (.cells (coL t (.slice ad N cap)).toArray 30)) w.heap.size (coL t (.slice ad N cap))):=Box.new _ _ _
   go_loopw [3,4] (fun c i wr=>∃ (k m:Nat),i=.int .i64 (k:Nat)/\c=.int .i64 (m:Nat)/\k<=N/\m<=8193/\Hid (min m 4097=min (1+a0f (t.parts.take k)) 4097)/\Hid (Below (w.heap.size+1) (w.alloc (.cells (coL t (.slice ad N cap)).toArray 30)) wr)) (fun _ i _=>match i with | .int _ p=>((N:Int)-p).toNat | _=>0)
   case atStart=>exact⟨0,1,rfl,rfl,by omega,by omega,a0a rfl,ZE _ _⟩
   case round=>
    obtain⟨k,m,rfl,rfl,hk,hm,HM,HB⟩:=hrel
    have HBw:Hid (Below w.heap.size w wr):=((ZE _ _).alloc (ZC _) _).trans (HB.out.mono (by omega))
    have X:=BX.out.later HB.out (by omega)
    have k3:=X.cell 3 _ rfl
    by_cases hlt:k<N
    ·have hlt':(k:Int)<(N:Int):=by omega
     by_cases h16:m<=4096
     ·have h16':(m:Int)<=4096:=by omega
      have hl1:k<t.parts.length:=by rw[<-hN.out];exact hlt
      obtain⟨b,off,cap',hv,-,-,hbl,hx⟩:=HP.out.open (by omega)
      simp only[Value.slice.injEq] at hv
      obtain⟨rfl,-,rfl⟩:=hv
      obtain⟨u,h6,hu⟩:=hx k hl1
      obtain⟨c0,c1,c2,c3⟩:=h6.keep (w':=wr) (fun q=>HBw.out.cell (p:=⟨b,q,none⟩) hbl)
      have HC:=a0a (HI.out _ (List.getElem_mem hl1) u wr (hu.next HBw.out))
      have HS:Hid (a0f (t.parts.take (k+1))=a0f (t.parts.take k)+a0b t.parts[k]):=by
       show _=_
       rw[List.take_succ_eq_append_getElem hl1,a1e,a0d];simp[a0A]
      clear hx h6 hu X
      unfold a5N at HC
      have hmn:min (a0b t.parts[k]) 4097<=4097:=Nat.min_le_right _ _
      obtain⟨M,hM⟩:∃ M,Hid (M=min (a0b t.parts[k]) 4097):=⟨_,a0a rfl⟩
      rw[<-hM.out] at HC hmn
      generalize t.parts[k]=x at *
      clear hl1
      go_wp2_with fail
      refine ZF HC.out ?_
      rintro e w1 ⟨rfl,b1⟩
      have B1:=a0a (HB.out.trans (b1.mono (by have:=HB.out.size;simp at this;omega)))
      clear b1 HC
      obtain⟨S,hS⟩:∃ S,Hid (S=m+M):=⟨_,a0a rfl⟩
      have i3:(m:Int)+(M:Int)=(S:Int):=by have:=hS.out;omega
      have i4:(S:Int)<=8193:=by have:=hS.out;omega
      have hmn2:=a0a hmn
      have h162:=a0a h16
      clear hmn h16
      go_wp2_with fail
      go_roundw
      case rel=>exact⟨k+1,S,by go_num,rfl,by omega,by omega,(by show _=_;rw[HS.out,hS.out];have:=HM.out;have:=hM.out;have:=h162.out;omega),B1.out⟩
      case measure=>simp;omega
     ·have h16':¬(m:Int)<=4096:=by omega
      have hVV:Hid (V=.int .i64 ((min m 4097:Nat):Int)):=by
       show _=_
       rw[hV.out,a5N,a0q]
       have e:a0f t.parts=a0f (t.parts.take k)+a0f (t.parts.drop k):=by rw[<-a1e,List.take_append_drop]
       have:=HM.out
       congr 2
       omega
      go_wp2_with fail
      all_goals go_ret
      all_goals exact⟨by rw[hVV.out];first|(rw[show min m 4097=4097 by omega];rfl)|(rw[show min m 4097=m by omega];rfl),HBw.out⟩
    ·have hlt':¬(k:Int)<(N:Int):=by omega
     have hkN:k=N:=by omega
     have hVV:Hid (V=.int .i64 ((min m 4097:Nat):Int)):=by
      show _=_
      rw[hV.out,a5N,a0q]
      have e1:t.parts.take k=t.parts:=by rw[hkN,hN.out];exact List.take_length
      have:=HM.out
      rw[e1] at this
      rw[this]
     go_wp2_with fail
     all_goals go_ret
     all_goals exact⟨by rw[hVV.out];first|(rw[show min m 4097=4097 by omega];rfl)|(rw[show min m 4097=m by omega];rfl),HBw.out⟩
def b0a (fn:Nat)(t:Co):Prop:=∀ (b:Co) (v v':Value) (w:World) (R:Bool),(R=true↔t=b)->a0p w t v->a0p w b v'->Calls Tryz.prog fn #[coV t v,coV b v'] w fun e w'=>e=.returned (.bool R)/\Below w.heap.size w w'
abbrev a8m:Value:=.func (.func 84) #[] #[]
set_option maxHeartbeats 4000000 in
theorem a6X (ps qs:List Co)(ih:∀ x,x∈ps->b0a 84 x)(v v':Value)(w:World)(R:Bool)(hR0:R=true↔ps=qs)(hs:CAt w v ps)(hs':CAt w v' qs):
 Calls Tryz.prog 179 #[v,v',a8m] w fun e w'=>e=.returned (.bool R)/\Below w.heap.size w w':=by
 have hR:=a0a hR0
 have HL:=a0a hs
 have HK:=a0a hs'
 have HI:=a0a ih
 obtain⟨ad,cap,rfl,hc1,hc2⟩:=hs.shape
 obtain⟨ad',cap',rfl,hc1',hc2'⟩:=hs'.shape
 obtain⟨N,hN⟩:∃ N,Hid (N=ps.length):=⟨_,rfl⟩
 obtain⟨N',hN'⟩:∃ N,Hid (N=qs.length):=⟨_,rfl⟩
 rw[<-hN.out] at hc1 HL ⊢
 rw[<-hN'.out] at hc1' HK ⊢
 clear hs hs' ih hR0
 by_cases hl:N=N'
 case neg=>
  have hr:R=false:=a4j hR.out (fun e=>hl (by rw[hN.out,hN'.out,e]))
  have k3:((N:Int) != (N':Int))=true:=by simp;omega
  subst hr
  go_enter Tryz.func179,Tryz.ntmps179
  go_wp2_with fail
  go_ret
  exact⟨rfl,ZE _ _⟩
 subst hl
 go_enter Tryz.func179,Tryz.ntmps179
 go_wp2_with fail
 go_loopw [17] (fun i wr=>∃ j:Nat,i=.int .i64 (j:Nat)/\j<=N/\Hid (∀ q (h1:q<ps.length) (h2:q<qs.length),q<j->ps[q]=qs[q])/\Hid (Below w.heap.size w wr)) (fun i _=>match i with | .int _ p=>((N:Int)-p).toNat | _=>0)
 case atStart=>exact⟨0,rfl,by omega,fun q _ _ h=>absurd h (by omega),ZE _ _⟩
 case round=>
  obtain⟨j,rfl,hj,HQ,HB⟩:=hrel
  by_cases hlt:j<N
  ·have hlt':(j:Int)<(N:Int):=by omega
   have h1:j<ps.length:=by rw[<-hN.out];exact hlt
   have h2:j<qs.length:=by rw[<-hN'.out];exact hlt
   obtain⟨bb,off,c1,hv,-,-,hbl,hx⟩:=HL.out.open (by omega)
   simp only[Value.slice.injEq] at hv
   obtain⟨rfl,-,rfl⟩:=hv
   obtain⟨b',off',c1',hv',-,-,hbl',hx'⟩:=HK.out.open (by omega)
   simp only[Value.slice.injEq] at hv'
   obtain⟨rfl,-,rfl⟩:=hv'
   obtain⟨u,h6,hu⟩:=hx j h1
   obtain⟨u',h6',hu'⟩:=hx' j h2
   obtain⟨c0,c1,c2,c3⟩:=h6.keep (w':=wr) (fun q=>HB.out.cell (p:=⟨bb,q,none⟩) hbl)
   obtain⟨e0,e1,e2,e3⟩:=h6'.keep (w':=wr) (fun q=>HB.out.cell (p:=⟨b',q,none⟩) hbl')
   have lb:bb<wr.heap.size:=ZA hbl HB.out.size
   have lb':b'<wr.heap.size:=ZA hbl' HB.out.size
   obtain⟨r,hr⟩:=a7S ps[j] qs[j]
   have HC:Hid (∀ wx,Below w.heap.size w wx->Calls Tryz.prog 84 #[coV ps[j] u,coV qs[j] u'] wx fun e w'=>e=.returned (.bool r)/\Below wx.heap.size wx w'):=fun wx hb=>HI.out _ (List.getElem_mem h1) _ u u' _ r hr (hu.next hb) (hu'.next hb)
   have HNe:Hid (r=false->R=false):=fun h=>a4j hR.out (fun e=>by
    subst e
    rw[hr.2 rfl] at h
    cases h)
   have HEq:Hid (r=true->ps[j]=qs[j]):=hr.1
   obtain⟨a1,k1,rfl,-,-⟩:=hu.parts.shape
   obtain⟨a2,k2,rfl,-,-⟩:=hu'.parts.shape
   have HA:Hid (∀ o o',Below w.heap.size w ((wr.alloc o).alloc o')):=fun o o'=>(HB.out.alloc HB.out.size _).alloc (by have:=HB.out.size;simp;omega) _
   clear hr h6 h6' hu hu' hx hx'
   obtain⟨x,hxx⟩:∃ x,Hid (x=ps[j]):=⟨_,a0a rfl⟩
   obtain⟨y,hyy⟩:∃ y,Hid (y=qs[j]):=⟨_,a0a rfl⟩
   rw[<-hxx.out] at c0 c1 c2 c3 HC HEq
   rw[<-hyy.out] at e0 e1 e2 e3 HC HEq
   simp only[coV] at HC
   go_wp2_with fail
   refine ZF (HC.out _ (HA.out _ _)) ?_
   rintro e w1 ⟨rfl,b1⟩
   have HB1:=a0a (a0c (HA.out _ _) b1 (by have:=HB.out.size;simp;omega))
   clear c0 c1 c2 c3 e0 e1 e2 e3 HC b1
   cases r with
   | false=>
     obtain rfl:=HNe.out rfl
     go_wp2_with fail
     go_ret
     exact⟨rfl,HB1.out⟩
   | true=>
     go_wp2_with fail
     go_roundw
     case rel=>exact⟨j+1,by go_num,by omega,(fun q g1 g2 hq=>by
      by_cases he:q=j
      ·subst he
       have:=HEq.out (by first | rfl | trivial)
       rw[hxx.out,hyy.out] at this
       exact this
      ·exact HQ.out q g1 g2 (by omega)),HB1⟩
     case measure=>simp;omega
  ·have hlt':¬(j:Int)<(N:Int):=by omega
   have hr:R=true:=b0i hR.out (List.ext_getElem (by rw[<-hN.out,<-hN'.out]) (fun q g1 g2=>HQ.out q g1 g2 (by have:=hN.out;omega)))
   subst hr
   go_wp2_with fail
   go_ret
   exact⟨rfl,HB.out⟩
set_option maxHeartbeats 4000000 in
theorem a5Q (t:Co)(ih:∀ x,x∈t.parts->b0a 84 x):b0a 84 t:=by
 intro b v v' w R hR0 hs hs'
 have hR:=a0a hR0
 obtain⟨ad,cap,rfl,hc1,hc2⟩:=hs.parts.shape
 obtain⟨ad',cap',rfl,hc1',hc2'⟩:=hs'.parts.shape
 obtain⟨N,hN⟩:∃ N,Hid (N=t.parts.length):=⟨_,rfl⟩
 obtain⟨N',hN'⟩:∃ N,Hid (N=b.parts.length):=⟨_,rfl⟩
 obtain⟨X0,X1,XB⟩:=a0V w 30 30 (coL t (.slice ad t.parts.length cap)) (coL b (.slice ad' b.parts.length cap'))
 have HQ:Hid (t.op=b.op->t.n=b.n->t.m=b.m->Calls Tryz.prog 179 #[.slice ad t.parts.length cap,.slice ad' b.parts.length cap',a8m] ((w.alloc (.cells (coL t (.slice ad t.parts.length cap)).toArray 30)).alloc (.cells (coL b (.slice ad' b.parts.length cap')).toArray 30)) fun e w'=>e=.returned (.bool R)/\Below w.heap.size w w'):=fun h0 h1 h2=>
  (a6X t.parts b.parts ih _ _ _ R ⟨fun h=>(Co.same.1 (hR0.1 h)).2.2.2,fun h=>hR0.2 (Co.same.2 ⟨h0,h1,h2,h⟩)⟩ (hs.parts.next XB) (hs'.parts.next XB)).mono fun e w' h=>⟨h.1,a0c XB h.2 XB.size⟩
 have BB:=a0a XB
 rw[<-hN.out,<-hN'.out] at *
 clear hs hs' ih X0 X1 XB hR0
 by_cases ho:t.op=b.op
 case neg=>
  have hr:R=false:=a4j hR.out (fun e=>ho (by rw[e]))
  have k0:(t.op != b.op)=true:=by simpa using ho
  subst hr
  go_enter Tryz.func84,Tryz.ntmps84
  go_wp2_with fail
  go_ret
  exact⟨rfl,BB.out⟩
 have k0:(t.op != b.op)=false:=by simpa using ho
 have HO:=a0a ho
 clear ho
 by_cases hn:t.n=b.n
 case neg=>
  have hr:R=false:=a4j hR.out (fun e=>hn (by rw[e]))
  have k1:(t.n != b.n)=true:=by simpa using hn
  subst hr
  go_enter Tryz.func84,Tryz.ntmps84
  go_wp2_with fail
  go_ret
  exact⟨rfl,BB.out⟩
 have k1:(t.n != b.n)=false:=by simpa using hn
 have HN:=a0a hn
 clear hn
 by_cases hm:t.m=b.m
 case neg=>
  have hr:R=false:=a4j hR.out (fun e=>hm (by rw[e]))
  have k2:(t.m != b.m)=true:=by simpa using hm
  subst hr
  go_enter Tryz.func84,Tryz.ntmps84
  go_wp2_with fail
  go_ret
  exact⟨rfl,BB.out⟩
 have k2:(t.m != b.m)=false:=by simpa using hm
 have HC:=a0a (HQ.out HO.out HN.out hm)
 clear hm HQ
 go_enter Tryz.func84,Tryz.ntmps84
 go_wp2_with fail
 refine ZF HC.out ?_
 rintro e w1 ⟨rfl,b1⟩
 go_wp2_with fail
 go_ret
 exact⟨rfl,b1⟩
theorem a9l (t:Co):b0a 84 t:=by
 induction t using Co.ind with
 | h t ih=>exact a5Q t ih
end Go.Proofs.YtbddbnjhmdbkbaaGreatDoor
