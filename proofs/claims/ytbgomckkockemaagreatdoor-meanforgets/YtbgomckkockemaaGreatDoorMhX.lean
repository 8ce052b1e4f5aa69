import Derived.Test.YtbgomckkockemaaGreatDoorMgB
namespace Go.Proofs.YtbgomckkockemaaGreatDoor
open Go.RowKit
theorem cbelow_turn {W w w':World}{F:List Nat}(hb:Below W.heap.size W w)(t:Turn F w w')(hF:∀ b,b∈F->W.heap.size<=b):Below W.heap.size W w':=
 hb.trans (t.below hF hb.size)
abbrev cfvC (g:Nat):Value:=.func (.func 151) #[] #[.pointer (some ⟨g,0,none⟩)]
structure CVis {σ : Type}(W:World)(R : σ -> List Nat->World->Prop)(vs : σ -> Co -> σ × Bool)(G : σ -> Prop)(g:Nat):Prop where
 next:∀ s F w w',R s F w->Below w.heap.size w w'->R s F w'
 lt:∀ s F w,R s F w->∀ b,b∈F->W.heap.size<=b/\b<w.heap.size
 good:∀ s t,G s->(vs s t).2=true->G (vs s t).1
 call:∀ s F t v w,G s->R s F w->Below W.heap.size W w->CSits W t v->Calls Tryz.prog 151 #[coV t v,.pointer (some ⟨g,0,none⟩)] w (CVPost R (vs s t) F w)
def CWalk {σ : Type}(W:World)(R : σ -> List Nat->World->Prop)(vs : σ -> Co -> σ × Bool)(G : σ -> Prop)(g:Nat)(t:Co):Prop:=
 ∀ (s : σ) (F:List Nat) (v:Value) (w:World),G s->R s F w->Below W.heap.size W w->CSits W t v->Calls Tryz.prog 150 #[coV t v,cfvC g] w (CVPost R (crunV vs (cpord t) s) F w)
section
variable {σ : Type} {W:World} {R : σ -> List Nat->World->Prop} {vs : σ -> Co -> σ × Bool} {G : σ -> Prop} {g:Nat}
theorem cwalk1 (t:Co)(ih:CWalk W R vs G g t)(hV:CVis W R vs G g)(s : σ)(F:List Nat)(v:Value)(p:Nat)(w:World)(hG:G s)(hR:R s F w)(hb:Below W.heap.size W w)(hs:CSits W t v)(hp:Box w p [cfvC g]):
 Calls Tryz.prog 248 #[coV t v,.pointer (some ⟨p,0,none⟩)] w (CVPost R (crunV vs (cpord t) s) F w):=by
 have A:∀ o,Below w.heap.size w (w.alloc o):=fun o=>(Below.refl _ _).alloc (Nat.le_refl _) _
 have HI:=chid (fun o=>ih s F v (w.alloc o) hG (hV.next _ _ _ _ hR (A o)) (hb.alloc hb.size o) hs)
 have HA:=chid A
 have c0:=hp.cell 0 _ rfl
 have lp:=hp.lt
 obtain⟨ad,cap,rfl,-,-⟩:=hs.parts.shape
 clear ih hV hG hR hb hs hp A
 generalize crunV vs (cpord t) s=Q at *
 go_enter Tryz.func248,Tryz.ntmps248
 go_wp2_with fail
 refine Calls.mono (HI.out _) ?_
 intro e w1 h1
 have h2:=chid (h1.pre (HA.out _))
 obtain⟨he,-⟩:=h1
 subst he
 go_wp2_with fail
 go_ret
 exact h2.out
set_option maxHeartbeats 1000000 in
theorem callAll (l:List Co)(ih:∀ x,x∈l->CWalk W R vs G g x)(hV:CVis W R vs G g)(s : σ)(F:List Nat)(v:Value)(p:Nat)(w:World)(hG:G s)(hR:R s F w)(hb:Below W.heap.size W w)(hs:CAt W v l)(hp:Box w p [cfvC g])(hpF:p∉F):
 Calls Tryz.prog 247 #[v,.func (.func 248) #[] #[.pointer (some ⟨p,0,none⟩)]] w (CVPost R (crunV vs (l.map cpord).flatten s) F w):=by
 by_cases hn:l=[]
 ·subst hn
  obtain⟨ad,cap,rfl,-,-⟩:=hs.shape
  have h2:Hid (CVPost R (crunV vs (([]:List Co).map cpord).flatten s) F w (.returned (.bool true)) w):=⟨rfl,F,hR,Turn.refl _ _,fun b hm=>.inl hm⟩
  clear ih hV hG hR hb hs hp hpF
  go_enter Tryz.func247,Tryz.ntmps247
  go_wp2_with fail
  refine wp_loop_rounds 1 ?_
  rw[rounds_succ]
  go_wp2_with fail
  go_ret
  exact h2.out
 ·obtain⟨b,off,cap,rfl,hle,hc,hbl,hx⟩:=hs.open (List.length_pos_iff.2 hn)
  have HX:=chid hx
  have HI:=chid ih
  have HV:=chid hV
  have HG:=chid hG
  have HP:=chid hp
  have HPF:=chid hpF
  have HB:=chid hb
  have hbl':b<w.heap.size:=Nat.lt_of_lt_of_le hbl hb.size
  have HR:=chid hR
  obtain⟨N,hN⟩:∃ N,Hid (N=l.length):=⟨_,rfl⟩
  have hpos:0<N:=by rw[hN.out];exact List.length_pos_iff.2 hn
  rw[<-hN.out] at hle ⊢
  obtain⟨Q,hQ⟩:∃ Q,Hid (Q=crunV vs (l.map cpord).flatten s):=⟨_,rfl⟩
  rw[<-hQ.out]
  clear ih hV hG hR hb hs hp hpF hn hx
  go_enter Tryz.func247,Tryz.ntmps247
  go_wp2_with fail
  go_loopw [9] (fun i wr=>∃ (k:Nat) (F1:List Nat),i=.int .i64 (k:Nat)/\k<=N/\Hid ((crunV vs ((l.take k).map cpord).flatten s).2=true)/\Hid (R (crunV vs ((l.take k).map cpord).flatten s).1 F1 wr)/\Hid (Turn F w wr)/\Hid (∀ b,b∈F1->b∈F\/w.heap.size<=b)) (fun i _=>match i with | .int _ p=>((N:Int)-p).toNat | _=>0)
  case atStart=>exact⟨0,F,rfl,by omega,chid rfl,chid HR.out,Turn.refl _ _,fun b hm=>.inl hm⟩
  case round=>
   obtain⟨k,F1,rfl,hk,HK,HR1,HT1,HF1⟩:=hrel
   by_cases hlt:k<N
   ·have hlt':(k:Int)<(N:Int):=by omega
    have hl1:k<l.length:=by rw[<-hN.out];exact hlt
    obtain⟨u,h6,hu⟩:=HX.out k hl1
    have FW:∀ b,b∈F->W.heap.size<=b:=fun b hm=>(HV.out.lt _ _ _ HR.out b hm).1
    have HBr:=chid (cbelow_turn HB.out HT1.out FW)
    have k6:=h6.keep (w':=wr) (fun q=>HBr.out.cell (p:=⟨b,q,none⟩) hbl)
    obtain⟨c0,c1,c2,c3⟩:=k6
    have lbr:b<wr.heap.size:=Nat.lt_of_lt_of_le hbl HBr.out.size
    have HPr:=chid (HP.out.turn HT1.out HPF.out)
    have HS2:Hid (crunV vs ((l.take (k+1)).map cpord).flatten s=crunV vs (cpord l[k]) (crunV vs ((l.take k).map cpord).flatten s).1):=by
     show _=_
     rw[cflat_take l k hl1,crunV_append,if_pos HK.out]
    have HQ2:Hid (Q=if (crunV vs (cpord l[k]) (crunV vs ((l.take k).map cpord).flatten s).1).2=true then crunV vs ((l.drop (k+1)).map cpord).flatten (crunV vs (cpord l[k]) (crunV vs ((l.take k).map cpord).flatten s).1).1 else ((crunV vs (cpord l[k]) (crunV vs ((l.take k).map cpord).flatten s).1).1,false)):=by
     show _=_
     rw[hQ.out,cflat_split l k hl1,crunV_append,if_pos HK.out,crunV_append]
    have HW:=chid (fun o=>cwalk1 l[k] (HI.out _ (List.getElem_mem hl1)) HV.out (crunV vs ((l.take k).map cpord).flatten s).1 F1 u p (wr.alloc o) (crunV_good HV.out.good _ _ HG.out HK.out) (HV.out.next _ _ _ _ HR1.out ((Below.refl _ _).alloc (Nat.le_refl _) _)) (HBr.out.alloc HBr.out.size o) hu (HPr.out.next ((Below.refl _ _).alloc (Nat.le_refl _) _)))
    obtain⟨au,cu,rfl,-,-⟩:=hu.parts.shape
    clear h6 hu HX FW
    generalize l[k]=x at *
    clear hl1
    generalize crunV vs (cpord x) (crunV vs ((l.take k).map cpord).flatten s).1=q at *
    go_wp2_with fail
    refine Calls.mono (HW.out _) ?_
    intro e w1 h1
    have h2:=chid ((h1.pre ((Below.refl _ _).alloc (Nat.le_refl _) _)).then HT1.out HF1.out)
    obtain⟨he,-⟩:=h1
    subst he
    obtain⟨qs,qb⟩:=q
    cases qb with
    | false=>
      have h3:Hid (CVPost R Q F w (.returned (.bool false)) w1):=by rw[HQ2.out];exact h2.out
      clear h2 HQ2 HS2
      simp only[]
      go_wp2_with fail
      go_ret
      exact h3.out
    | true=>
      obtain⟨-,F2,r2,t2,f2⟩:=h2.out
      have H3:Hid ((crunV vs ((l.take (k+1)).map cpord).flatten s).2=true):=by show _=_;rw[HS2.out]
      have H4:Hid (R (crunV vs ((l.take (k+1)).map cpord).flatten s).1 F2 w1):=by rw[HS2.out];exact r2
      have H5:=chid t2
      have H6:=chid f2
      clear h2 HQ2 HS2 r2 t2 f2
      simp only[]
      go_wp2_with fail
      go_roundw
      case rel=>exact⟨k+1,F2,by go_num,by omega,H3.out,H4.out,H5.out,H6.out⟩
      case measure=>simp;omega
   ·have hlt':¬(k:Int)<(N:Int):=by omega
    have hkN:k=N:=by omega
    subst hkN
    have e1:l.take k=l:=by rw[hN.out];exact List.take_length
    rw[e1,<-hQ.out] at HK HR1
    have h2:Hid (CVPost R Q F w (.returned (.bool true)) wr):=⟨by rw[HK.out],F1,HR1.out,HT1.out,HF1.out⟩
    go_wp2_with fail
    go_ret
    exact h2.out
theorem cwalk_c (hV:CVis W R vs G g)(t:Co):CWalk W R vs G g t:=by
 induction t using Co.ind with
 | h t ih=>
   intro s F v w hG hR hb hs
   have A:∀ o o',Below w.heap.size w ((w.alloc o).alloc o'):=fun o o'=>((Below.refl _ _).alloc (Nat.le_refl _) _).alloc (by simp) _
   have HC:=chid (fun o o'=>hV.call s F t v ((w.alloc o).alloc o') hG (hV.next _ _ _ _ hR (A o o')) (hb.trans ((A o o').mono hb.size)) hs)
   have HA:=chid A
   have HV:=chid hV
   have HI:=chid ih
   have HG:=chid hG
   have HPa:=chid hs.parts
   have HF:=chid (fun b (hm:b∈F)=>hV.lt s F w hR b hm)
   have HB:=chid hb
   obtain⟨ad,cap,rfl,-,-⟩:=hs.parts.shape
   obtain⟨Q,hQ⟩:∃ Q,Hid (Q=crunV vs (cpord t) s):=⟨_,rfl⟩
   rw[<-hQ.out]
   have hQ2:Hid (Q=if (vs s t).2=true then crunV vs (t.parts.map cpord).flatten (vs s t).1 else ((vs s t).1,false)):=by
    show _=_
    rw[hQ.out,cpord_eq];rfl
   have HGo:Hid ((vs s t).2=true->G (vs s t).1):=hV.good s t hG
   clear A hV ih hG hR hb hs hQ
   obtain⟨q,hq⟩:∃ q,Hid (q=vs s t):=⟨_,rfl⟩
   rw[<-hq.out] at HC hQ2 HGo
   clear hq
   go_enter Tryz.func150,Tryz.ntmps150
   go_wp2_with fail
   refine Calls.mono (HC.out _ _) ?_
   intro e w1 h1
   have h2:=chid (h1.pre (HA.out _ _))
   obtain⟨he,F1,r1,t1,f1⟩:=h1
   subst he
   obtain⟨qs,qb⟩:=q
   cases qb with
   | false=>
     have h3:Hid (CVPost R Q F w (.returned (.bool false)) w1):=by rw[hQ2.out];exact h2.out
     clear h2 hQ2 r1 t1 f1
     simp only[]
     go_wp2_with fail
     go_ret
     exact h3.out
   | true=>
     have hQ3:Hid (Q=crunV vs (t.parts.map cpord).flatten qs):=hQ2.out
     obtain⟨Y0,Y1,-⟩:=two_boxes w 30 62 (coL t (.slice ad t.parts.length cap)) [cfvC g]
     have n0:w.heap.size∉F:=fun hm=>by have:=(HF.out _ hm).2;omega
     have n1:w.heap.size+1∉F:=fun hm=>by have:=(HF.out _ hm).2;omega
     have Z0:=Y0.turn t1 n0
     have Z1:=chid (Y1.turn t1 n1)
     have n2:w.heap.size+1∉F1:=fun hm=>by
      rcases f1 _ hm with k | k
      ·exact n1 k
      ·simp at k;omega
     have k3:=Z0.cell 3 _ rfl
     have l5:=Z0.lt
     have HB1:Hid (Below W.heap.size W w1):=cbelow_turn (HB.out.trans ((HA.out _ _).mono HB.out.size)) t1 (fun b hm=>(HF.out b hm).1)
     have HAll:=chid (callAll t.parts HI.out HV.out qs F1 _ (w.heap.size+1) w1 (HGo.out rfl) r1 HB1.out HPa.out Z1.out n2)
     obtain⟨-,F2,r2,t2,f2⟩:=h2.out
     have HT:=chid ((Turn.of_below (S:=F) (HA.out _ _)).trans t1 (fun _ hi=>.inl hi))
     have HF1:Hid (∀ b,b∈F1->b∈F\/w.heap.size<=b):=fun b hm=>by
      rcases f1 b hm with k | k
      ·exact .inl k
      ·exact .inr (by simp at k;omega)
     rw[<-hQ3.out] at HAll
     clear h2 hQ2 r1 t1 f1 r2 t2 f2 Y0 Y1 Z0 n0 n1 n2 HGo
     simp only[]
     go_wp2_with fail
     refine Calls.mono HAll.out ?_
     intro e w2 h3
     have h4:=chid (h3.then HT.out HF1.out)
     obtain⟨he,-⟩:=h3
     subst he
     go_wp2_with fail
     go_ret
     exact h4.out
end
def ccntV (s:Nat)(_:Co):Nat×Bool:=(s+1,decide (s+1<=4096))
theorem ccnt_run:∀ (l:List Co) (s:Nat),s<=4096->(crunV ccntV l s).1=min (s+l.length) 4097
 | [],s,h=>by simp[crunV];omega
 | t::r,s,h=>by
   rw[crunV]
   by_cases hs:s+1<=4096
   ·rw[if_pos (by simp[ccntV,hs])]
    have:=ccnt_run r (s+1) hs
    show (crunV ccntV r (s+1)).1=_
    rw[this,List.length_cons];congr 1;omega
   ·rw[if_neg (by simp[ccntV,hs])]
    show s+1=_
    rw[List.length_cons];omega
def CCntR (W:World)(g:Nat)(s:Nat)(F:List Nat)(w:World):Prop:=F=[g]/\Box w g [.int .i64 (s:Nat)]/\W.heap.size<=g
theorem ccnt_call (W:World)(g s:Nat)(F:List Nat)(t:Co)(v:Value)(w:World)(hG:s<=4096)(hR:CCntR W g s F w)(hs:CSits W t v):Calls Tryz.prog 151 #[coV t v,.pointer (some ⟨g,0,none⟩)] w (CVPost (CCntR W g) (ccntV s t) F w):=by
 obtain⟨rfl,hb,hW⟩:=hR
 obtain⟨ad,cap,rfl,-,-⟩:=hs.parts.shape
 have c0:=hb.cell 0 _ rfl
 have f0:=hb.free 0 (by simp)
 have l0:=hb.lt
 have HB:=chid hb
 have i1:(s:Int)+1=((s+1:Nat):Int):=by omega
 have ng:g≠w.heap.size:=by omega
 have hi:(s:Int)<=4096:=by omega
 clear hs hb
 obtain⟨S,hS⟩:∃ S,Hid (S=s+1):=⟨_,rfl⟩
 rw[<-hS.out] at i1
 have hP:Hid (∀ o,CVPost (CCntR W g) (ccntV s t) [g] w (.returned (.bool (decide ((S:Int)<=4096)))) ((w.setCell ⟨g,0,none⟩ (.int .i64 (S:Nat))).alloc o)):=fun o=>by
  have hd:decide ((S:Int)<=4096)=decide (s+1<=4096):=decide_eq_decide.2 (by have:=hS.out;omega)
  refine⟨by rw[hd];rfl,[g],⟨rfl,?_,hW⟩,?_,fun b hm=>.inl hm⟩
  ·have:=(HB.out.set 0 (by simp) (.int .i64 (S:Nat))).next ((Below.refl _ _).alloc (Nat.le_refl _) o)
   rw[hS.out] at this ⊢
   exact this
  ·exact(Turn.set w ⟨g,0,none⟩ _ (by simp)).andBelow ((Below.refl _ _).alloc (Nat.le_refl _) o)
 clear hG
 go_enter Tryz.func151,Tryz.ntmps151
 go_wp2_with fail
 go_ret
 exact hP.out _
theorem ccnt_vis (W:World)(g:Nat):CVis W (CCntR W g) ccntV (fun s=>s<=4096) g where
 next:=fun s F w w' ⟨a,b,c⟩ hb=>⟨a,b.next hb,c⟩
 lt:=fun s F w ⟨a,b,c⟩ k hk=>by
  subst a
  simp at hk
  subst hk
  exact⟨c,b.lt⟩
 good:=fun s t hs hb=>by simp[ccntV] at hb;simpa[ccntV] using hb
 call:=fun s F t v w hG hR _ hs=>ccnt_call W g s F t v w hG hR hs
def cndsV (t:Co):Value:=.int .i64 ((min (cnodes t) 4097:Nat):Int)
theorem cnodes_c (t:Co)(v:Value)(w:World)(hs:CSits w t v):Calls Tryz.prog 87 #[coV t v] w fun e w'=>e=.returned (cndsV t)/\Below w.heap.size w w':=by
 have A:∀ o o',Below w.heap.size w ((w.alloc o).alloc o'):=fun o o'=>((Below.refl _ _).alloc (Nat.le_refl _) _).alloc (by simp) _
 have HW:=chid (fun (o:Obj) (ty:TypeId)=>cwalk_c (ccnt_vis w (w.heap.size+1)) t 0 [w.heap.size+1] v ((w.alloc o).alloc (.cells #[.int .i64 0] ty)) (by omega) ⟨rfl,by simpa using Box.new (w.alloc o) [.int .i64 0] ty,by omega⟩ (A _ _) hs)
 obtain⟨ad,cap,rfl,-,-⟩:=hs.parts.shape
 have hr:=ccnt_run (cpord t) 0 (by omega)
 rw[Nat.zero_add] at hr
 obtain⟨V,hV⟩:∃ V,Hid (V=cndsV t):=⟨_,rfl⟩
 rw[<-hV.out]
 have HE:Hid (Value.int .i64 (((crunV ccntV (cpord t) 0).1:Nat):Int)=V):=by rw[hr,hV.out];rfl
 have HA:=chid A
 clear hr hs A
 go_enter Tryz.func87,Tryz.ntmps87
 go_wp2_with fail
 refine Calls.mono (HW.out _ _) ?_
 rintro e w1 ⟨rfl,F',⟨rfl,hb,-⟩,t1,-⟩
 have c0:=hb.cell 0 _ rfl
 have l0:=hb.lt
 have B1:Hid (Below w.heap.size w w1):=(HA.out _ _).trans (t1.below (fun k hk=>by simp at hk;omega) (by simp;omega))
 rw[HE.out] at c0
 clear hb t1 HW
 have hV2:∃ n:Int,V=.int .i64 n:=⟨_,hV.out⟩
 clear HE hV
 obtain⟨n,rfl⟩:=hV2
 go_wp2_with fail
 go_ret
 exact⟨rfl,B1.out⟩
theorem cmin_cast (n:Nat):min (n:Int) 4097=((min n 4097:Nat):Int):=by omega
set_option maxHeartbeats 1000000 in
theorem crNodes_c (t:Co):∀ (v:Value) (w:World),CSits w t v->Calls Tryz.prog 40 #[coV t v] w fun e w'=>e=.returned (cndsV t)/\Below w.heap.size w w':=by
 induction t using Co.ind with
 | h t ih=>
   intro v w hs
   have HP:=chid hs.parts
   have HI:=chid ih
   obtain⟨ad,cap,rfl,hlc,hc⟩:=hs.parts.shape
   obtain⟨V,hV⟩:∃ V,Hid (V=cndsV t):=⟨_,rfl⟩
   rw[<-hV.out]
   obtain⟨N,hN⟩:∃ N,Hid (N=t.parts.length):=⟨_,rfl⟩
   rw[<-hN.out] at hlc HP ⊢
   clear hs ih
   go_enter Tryz.func40,Tryz.ntmps40
   go_wp2_with fail
   have BX:Hid (Box (w.alloc (.cells (coL t (.slice ad N cap)).toArray 30)) w.heap.size (coL t (.slice ad N cap))):=Box.new _ _ _
   go_loopw [3,4] (fun c i wr=>∃ (k m:Nat),i=.int .i64 (k:Nat)/\c=.int .i64 (m:Nat)/\k<=N/\m<=8193/\Hid (min m 4097=min (1+cnodesL (t.parts.take k)) 4097)/\Hid (Below (w.heap.size+1) (w.alloc (.cells (coL t (.slice ad N cap)).toArray 30)) wr)) (fun _ i _=>match i with | .int _ p=>((N:Int)-p).toNat | _=>0)
   case atStart=>exact⟨0,1,rfl,rfl,by omega,by omega,chid rfl,Below.refl _ _⟩
   case round=>
    obtain⟨k,m,rfl,rfl,hk,hm,HM,HB⟩:=hrel
    have HBw:Hid (Below w.heap.size w wr):=((Below.refl _ _).alloc (Nat.le_refl _) _).trans (HB.out.mono (by omega))
    have X:=BX.out.later HB.out (by omega)
    have k3:=X.cell 3 _ rfl
    by_cases hlt:k<N
    ·have hlt':(k:Int)<(N:Int):=by omega
     by_cases h16:m<=4096
     ·have h16':(m:Int)<=4096:=by omega
      have hl1:k<t.parts.length:=by rw[<-hN.out];exact hlt
      obtain⟨b,off,cap',hv,-,-,hbl,hx⟩:=HP.out.open (by omega)
      simp only[Value.slice.injEq] at hv
      obtain⟨rfl,-,rfl⟩:=hv
      obtain⟨u,h6,hu⟩:=hx k hl1
      obtain⟨c0,c1,c2,c3⟩:=h6.keep (w':=wr) (fun q=>HBw.out.cell (p:=⟨b,q,none⟩) hbl)
      have HC:=chid (HI.out _ (List.getElem_mem hl1) u wr (hu.next HBw.out))
      have HS:Hid (cnodesL (t.parts.take (k+1))=cnodesL (t.parts.take k)+cnodes t.parts[k]):=by
       show _=_
       rw[List.take_succ_eq_append_getElem hl1,cnodesL_append,cnodesL_cons];simp[cnodesL_nil]
      clear hx h6 hu X
      unfold cndsV at HC
      have hmn:min (cnodes t.parts[k]) 4097<=4097:=Nat.min_le_right _ _
      obtain⟨M,hM⟩:∃ M,Hid (M=min (cnodes t.parts[k]) 4097):=⟨_,chid rfl⟩
      rw[<-hM.out] at HC hmn
      generalize t.parts[k]=x at *
      clear hl1
      go_wp2_with fail
      refine Calls.mono HC.out ?_
      rintro e w1 ⟨rfl,b1⟩
      have B1:=chid (HB.out.trans (b1.mono (by have:=HB.out.size;simp at this;omega)))
      clear b1 HC
      obtain⟨S,hS⟩:∃ S,Hid (S=m+M):=⟨_,chid rfl⟩
      have i3:(m:Int)+(M:Int)=(S:Int):=by have:=hS.out;omega
      have i4:(S:Int)<=8193:=by have:=hS.out;omega
      have hmn2:=chid hmn
      have h162:=chid h16
      clear hmn h16
      go_wp2_with fail
      go_roundw
      case rel=>exact⟨k+1,S,by go_num,rfl,by omega,by omega,(by show _=_;rw[HS.out,hS.out];have:=HM.out;have:=hM.out;have:=h162.out;omega),B1.out⟩
      case measure=>simp;omega
     ·have h16':¬(m:Int)<=4096:=by omega
      have hVV:Hid (V=.int .i64 ((min m 4097:Nat):Int)):=by
       show _=_
       rw[hV.out,cndsV,cnodes_eq]
       have e:cnodesL t.parts=cnodesL (t.parts.take k)+cnodesL (t.parts.drop k):=by rw[<-cnodesL_append,List.take_append_drop]
       have:=HM.out
       congr 2
       omega
      go_wp2_with fail
      all_goals go_ret
      all_goals exact⟨by rw[hVV.out];first|(rw[show min m 4097=4097 by omega];rfl)|(rw[show min m 4097=m by omega];rfl),HBw.out⟩
    ·have hlt':¬(k:Int)<(N:Int):=by omega
     have hkN:k=N:=by omega
     have hVV:Hid (V=.int .i64 ((min m 4097:Nat):Int)):=by
      show _=_
      rw[hV.out,cndsV,cnodes_eq]
      have e1:t.parts.take k=t.parts:=by rw[hkN,hN.out];exact List.take_length
      have:=HM.out
      rw[e1] at this
      rw[this]
     go_wp2_with fail
     all_goals go_ret
     all_goals exact⟨by rw[hVV.out];first|(rw[show min m 4097=4097 by omega];rfl)|(rw[show min m 4097=m by omega];rfl),HBw.out⟩
end Go.Proofs.YtbgomckkockemaaGreatDoor
