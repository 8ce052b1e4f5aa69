import Derived.Test.YtdgjjnpdbdmdkaaGreatDoorMgB
namespace Go.Proofs.YtdgjjnpdbdmdkaaGreatDoor
open Go.RowKit
theorem a0Q {W w w':World}{F:List Nat}(hb:Below W.heap.size W w)(t:a0v F w w')(hF:∀ b,b∈F->W.heap.size<=b):Below W.heap.size W w':=
 hb.trans (t.below hF hb.size)
abbrev b7W (g:Nat):Value:=.func (.func 60) #[] #[.pointer (some ⟨g,0,none⟩)]
structure b8c {σ : Type}(W:World)(R : σ -> List Nat->World->Prop)(vs : σ -> Co -> σ × Bool)(G : σ -> Prop)(g:Nat):Prop where
 next:∀ s F w w',R s F w->Below w.heap.size w w'->R s F w'
 lt:∀ s F w,R s F w->∀ b,b∈F->W.heap.size<=b/\b<w.heap.size
 good:∀ s t,G s->(vs s t).2=true->G (vs s t).1
 call:∀ s F t v w,G s->R s F w->Below W.heap.size W w->a0l W t v->Calls Tryz.prog 60 #[coV t v,.pointer (some ⟨g,0,none⟩)] w (a0N R (vs s t) F w)
def b6M {σ : Type}(W:World)(R : σ -> List Nat->World->Prop)(vs : σ -> Co -> σ × Bool)(G : σ -> Prop)(g:Nat)(t:Co):Prop:=
 ∀ (s : σ) (F:List Nat) (v:Value) (w:World),G s->R s F w->Below W.heap.size W w->a0l W t v->Calls Tryz.prog 59 #[coV t v,b7W g] w (a0N R (a0h vs (a0j t) s) F w)
section
variable {σ : Type} {W:World} {R : σ -> List Nat->World->Prop} {vs : σ -> Co -> σ × Bool} {G : σ -> Prop} {g:Nat}
theorem b7v (t:Co)(ih:b6M W R vs G g t)(hV:b8c W R vs G g)(s : σ)(F:List Nat)(v:Value)(p:Nat)(w:World)(hG:G s)(hR:R s F w)(hb:Below W.heap.size W w)(hs:a0l W t v)(hp:Box w p [b7W g]):
 Calls Tryz.prog 98 #[coV t v,.pointer (some ⟨p,0,none⟩)] w (a0N R (a0h vs (a0j t) s) F w):=by
 have A:∀ o,Below w.heap.size w (w.alloc o):=fun o=>(Below.refl _ _).alloc (Nat.le_refl _) _
 have HI:=a0a (fun o=>ih s F v (w.alloc o) hG (hV.next _ _ _ _ hR (A o)) (hb.alloc hb.size o) hs)
 have HA:=a0a A
 have c0:=hp.cell 0 _ rfl
 have lp:=hp.lt
 obtain⟨ad,cap,rfl,-,-⟩:=hs.parts.shape
 clear ih hV hG hR hb hs hp A
 generalize a0h vs (a0j t) s=Q at *
 go_enter Tryz.func98,Tryz.ntmps98
 go_wp2_with fail
 refine Calls.mono (HI.out _) ?_
 intro e w1 h1
 have h2:=a0a (h1.pre (HA.out _))
 obtain⟨he,-⟩:=h1
 subst he
 go_wp2_with fail
 go_ret
 exact h2.out
set_option maxHeartbeats 1000000 in
theorem b6s (l:List Co)(ih:∀ x,x∈l->b6M W R vs G g x)(hV:b8c W R vs G g)(s : σ)(F:List Nat)(v:Value)(p:Nat)(w:World)(hG:G s)(hR:R s F w)(hb:Below W.heap.size W w)(hs:CAt W v l)(hp:Box w p [b7W g])(hpF:p∉F):
 Calls Tryz.prog 97 #[v,.func (.func 98) #[] #[.pointer (some ⟨p,0,none⟩)]] w (a0N R (a0h vs (l.map a0j).flatten s) F w):=by
 by_cases hn:l=[]
 ·subst hn
  obtain⟨ad,cap,rfl,-,-⟩:=hs.shape
  have h2:Hid (a0N R (a0h vs (([]:List Co).map a0j).flatten s) F w (.returned (.bool true)) w):=⟨rfl,F,hR,a0v.refl _ _,fun b hm=>.inl hm⟩
  clear ih hV hG hR hb hs hp hpF
  go_enter Tryz.func97,Tryz.ntmps97
  go_wp2_with fail
  refine wp_loop_rounds 1 ?_
  rw[rounds_succ]
  go_wp2_with fail
  go_ret
  exact h2.out
 ·obtain⟨b,off,cap,rfl,hle,hc,hbl,hx⟩:=hs.open (List.length_pos_iff.2 hn)
  have HX:=a0a hx
  have HI:=a0a ih
  have HV:=a0a hV
  have HG:=a0a hG
  have HP:=a0a hp
  have HPF:=a0a hpF
  have HB:=a0a hb
  have hbl':b<w.heap.size:=Nat.lt_of_lt_of_le hbl hb.size
  have HR:=a0a hR
  obtain⟨N,hN⟩:∃ N,Hid (N=l.length):=⟨_,rfl⟩
  have hpos:0<N:=by rw[hN.out];exact List.length_pos_iff.2 hn
  rw[<-hN.out] at hle ⊢
  obtain⟨Q,hQ⟩:∃ Q,Hid (Q=a0h vs (l.map a0j).flatten s):=⟨_,rfl⟩
  rw[<-hQ.out]
  clear ih hV hG hR hb hs hp hpF hn hx
  go_enter Tryz.func97,Tryz.ntmps97
  go_wp2_with fail
  go_loopw [9] (fun i wr=>∃ (k:Nat) (F1:List Nat),i=.int .i64 (k:Nat)/\k<=N/\Hid ((a0h vs ((l.take k).map a0j).flatten s).2=true)/\Hid (R (a0h vs ((l.take k).map a0j).flatten s).1 F1 wr)/\Hid (a0v F w wr)/\Hid (∀ b,b∈F1->b∈F\/w.heap.size<=b)) (fun i _=>match i with | .int _ p=>((N:Int)-p).toNat | _=>0)
  case atStart=>exact⟨0,F,rfl,by omega,a0a rfl,a0a HR.out,a0v.refl _ _,fun b hm=>.inl hm⟩
  case round=>
   obtain⟨k,F1,rfl,hk,HK,HR1,HT1,HF1⟩:=hrel
   by_cases hlt:k<N
   ·have hlt':(k:Int)<(N:Int):=by omega
    have hl1:k<l.length:=by rw[<-hN.out];exact hlt
    obtain⟨u,h6,hu⟩:=HX.out k hl1
    have FW:∀ b,b∈F->W.heap.size<=b:=fun b hm=>(HV.out.lt _ _ _ HR.out b hm).1
    have HBr:=a0a (a0Q HB.out HT1.out FW)
    have k6:=h6.keep (w':=wr) (fun q=>HBr.out.cell (p:=⟨b,q,none⟩) hbl)
    obtain⟨c0,c1,c2,c3⟩:=k6
    have lbr:b<wr.heap.size:=Nat.lt_of_lt_of_le hbl HBr.out.size
    have HPr:=a0a (HP.out.turn HT1.out HPF.out)
    have HS2:Hid (a0h vs ((l.take (k+1)).map a0j).flatten s=a0h vs (a0j l[k]) (a0h vs ((l.take k).map a0j).flatten s).1):=by
     show _=_
     rw[a2g l k hl1,a0r,if_pos HK.out]
    have HQ2:Hid (Q=if (a0h vs (a0j l[k]) (a0h vs ((l.take k).map a0j).flatten s).1).2=true then a0h vs ((l.drop (k+1)).map a0j).flatten (a0h vs (a0j l[k]) (a0h vs ((l.take k).map a0j).flatten s).1).1 else ((a0h vs (a0j l[k]) (a0h vs ((l.take k).map a0j).flatten s).1).1,false)):=by
     show _=_
     rw[hQ.out,a1P l k hl1,a0r,if_pos HK.out,a0r]
    have HW:=a0a (fun o=>b7v l[k] (HI.out _ (List.getElem_mem hl1)) HV.out (a0h vs ((l.take k).map a0j).flatten s).1 F1 u p (wr.alloc o) (a2f HV.out.good _ _ HG.out HK.out) (HV.out.next _ _ _ _ HR1.out ((Below.refl _ _).alloc (Nat.le_refl _) _)) (HBr.out.alloc HBr.out.size o) hu (HPr.out.next ((Below.refl _ _).alloc (Nat.le_refl _) _)))
    obtain⟨au,cu,rfl,-,-⟩:=hu.parts.shape
    clear h6 hu HX FW
    generalize l[k]=x at *
    clear hl1
    generalize a0h vs (a0j x) (a0h vs ((l.take k).map a0j).flatten s).1=q at *
    go_wp2_with fail
    refine Calls.mono (HW.out _) ?_
    intro e w1 h1
    have h2:=a0a ((h1.pre ((Below.refl _ _).alloc (Nat.le_refl _) _)).then HT1.out HF1.out)
    obtain⟨he,-⟩:=h1
    subst he
    obtain⟨qs,qb⟩:=q
    cases qb with
    | false=>
      have h3:Hid (a0N R Q F w (.returned (.bool false)) w1):=by rw[HQ2.out];exact h2.out
      clear h2 HQ2 HS2
      simp only[]
      go_wp2_with fail
      go_ret
      exact h3.out
    | true=>
      obtain⟨-,F2,r2,t2,f2⟩:=h2.out
      have H3:Hid ((a0h vs ((l.take (k+1)).map a0j).flatten s).2=true):=by show _=_;rw[HS2.out]
      have H4:Hid (R (a0h vs ((l.take (k+1)).map a0j).flatten s).1 F2 w1):=by rw[HS2.out];exact r2
      have H5:=a0a t2
      have H6:=a0a f2
      clear h2 HQ2 HS2 r2 t2 f2
      simp only[]
      go_wp2_with fail
      go_roundw
      case rel=>exact⟨k+1,F2,by go_num,by omega,H3.out,H4.out,H5.out,H6.out⟩
      case measure=>simp;omega
   ·have hlt':¬(k:Int)<(N:Int):=by omega
    have hkN:k=N:=by omega
    subst hkN
    have e1:l.take k=l:=by rw[hN.out];exact List.take_length
    rw[e1,<-hQ.out] at HK HR1
    have h2:Hid (a0N R Q F w (.returned (.bool true)) wr):=⟨by rw[HK.out],F1,HR1.out,HT1.out,HF1.out⟩
    go_wp2_with fail
    go_ret
    exact h2.out
theorem b6l (hV:b8c W R vs G g)(t:Co):b6M W R vs G g t:=by
 induction t using Co.ind with
 | h t ih=>
   intro s F v w hG hR hb hs
   have A:∀ o o',Below w.heap.size w ((w.alloc o).alloc o'):=fun o o'=>((Below.refl _ _).alloc (Nat.le_refl _) _).alloc (by simp) _
   have HC:=a0a (fun o o'=>hV.call s F t v ((w.alloc o).alloc o') hG (hV.next _ _ _ _ hR (A o o')) (hb.trans ((A o o').mono hb.size)) hs)
   have HA:=a0a A
   have HV:=a0a hV
   have HI:=a0a ih
   have HG:=a0a hG
   have HPa:=a0a hs.parts
   have HF:=a0a (fun b (hm:b∈F)=>hV.lt s F w hR b hm)
   have HB:=a0a hb
   obtain⟨ad,cap,rfl,-,-⟩:=hs.parts.shape
   obtain⟨Q,hQ⟩:∃ Q,Hid (Q=a0h vs (a0j t) s):=⟨_,rfl⟩
   rw[<-hQ.out]
   have hQ2:Hid (Q=if (vs s t).2=true then a0h vs (t.parts.map a0j).flatten (vs s t).1 else ((vs s t).1,false)):=by
    show _=_
    rw[hQ.out,a1a];rfl
   have HGo:Hid ((vs s t).2=true->G (vs s t).1):=hV.good s t hG
   clear A hV ih hG hR hb hs hQ
   obtain⟨q,hq⟩:∃ q,Hid (q=vs s t):=⟨_,rfl⟩
   rw[<-hq.out] at HC hQ2 HGo
   clear hq
   go_enter Tryz.func59,Tryz.ntmps59
   go_wp2_with fail
   refine Calls.mono (HC.out _ _) ?_
   intro e w1 h1
   have h2:=a0a (h1.pre (HA.out _ _))
   obtain⟨he,F1,r1,t1,f1⟩:=h1
   subst he
   obtain⟨qs,qb⟩:=q
   cases qb with
   | false=>
     have h3:Hid (a0N R Q F w (.returned (.bool false)) w1):=by rw[hQ2.out];exact h2.out
     clear h2 hQ2 r1 t1 f1
     simp only[]
     go_wp2_with fail
     go_ret
     exact h3.out
   | true=>
     have hQ3:Hid (Q=a0h vs (t.parts.map a0j).flatten qs):=hQ2.out
     obtain⟨Y0,Y1,-⟩:=a0k w 30 84 (coL t (.slice ad t.parts.length cap)) [b7W g]
     have n0:w.heap.size∉F:=fun hm=>by have:=(HF.out _ hm).2;omega
     have n1:w.heap.size+1∉F:=fun hm=>by have:=(HF.out _ hm).2;omega
     have Z0:=Y0.turn t1 n0
     have Z1:=a0a (Y1.turn t1 n1)
     have n2:w.heap.size+1∉F1:=fun hm=>by
      rcases f1 _ hm with k | k
      ·exact n1 k
      ·simp at k;omega
     have k3:=Z0.cell 3 _ rfl
     have l5:=Z0.lt
     have HB1:Hid (Below W.heap.size W w1):=a0Q (HB.out.trans ((HA.out _ _).mono HB.out.size)) t1 (fun b hm=>(HF.out b hm).1)
     have HAll:=a0a (b6s t.parts HI.out HV.out qs F1 _ (w.heap.size+1) w1 (HGo.out rfl) r1 HB1.out HPa.out Z1.out n2)
     obtain⟨-,F2,r2,t2,f2⟩:=h2.out
     have HT:=a0a ((a0v.of_below (S:=F) (HA.out _ _)).trans t1 (fun _ hi=>.inl hi))
     have HF1:Hid (∀ b,b∈F1->b∈F\/w.heap.size<=b):=fun b hm=>by
      rcases f1 b hm with k | k
      ·exact .inl k
      ·exact .inr (by simp at k;omega)
     rw[<-hQ3.out] at HAll
     clear h2 hQ2 r1 t1 f1 r2 t2 f2 Y0 Y1 Z0 n0 n1 n2 HGo
     simp only[]
     go_wp2_with fail
     refine Calls.mono HAll.out ?_
     intro e w2 h3
     have h4:=a0a (h3.then HT.out HF1.out)
     obtain⟨he,-⟩:=h3
     subst he
     go_wp2_with fail
     go_ret
     exact h4.out
end
def a2v (s:Nat)(_:Co):Nat×Bool:=(s+1,decide (s+1<=4096))
theorem a8M:∀ (l:List Co) (s:Nat),s<=4096->(a0h a2v l s).1=min (s+l.length) 4097
 | [],s,h=>by simp[a0h];omega
 | t::r,s,h=>by
   rw[a0h]
   by_cases hs:s+1<=4096
   ·rw[if_pos (by simp[a2v,hs])]
    have:=a8M r (s+1) hs
    show (a0h a2v r (s+1)).1=_
    rw[this,List.length_cons];congr 1;omega
   ·rw[if_neg (by simp[a2v,hs])]
    show s+1=_
    rw[List.length_cons];omega
def b4C (W:World)(g:Nat)(s:Nat)(F:List Nat)(w:World):Prop:=F=[g]/\Box w g [.int .i64 (s:Nat)]/\W.heap.size<=g
theorem b1G (W:World)(g s:Nat)(F:List Nat)(t:Co)(v:Value)(w:World)(hG:s<=4096)(hR:b4C W g s F w)(hs:a0l W t v):Calls Tryz.prog 60 #[coV t v,.pointer (some ⟨g,0,none⟩)] w (a0N (b4C W g) (a2v s t) F w):=by
 obtain⟨rfl,hb,hW⟩:=hR
 obtain⟨ad,cap,rfl,-,-⟩:=hs.parts.shape
 have c0:=hb.cell 0 _ rfl
 have f0:=hb.free 0 (by simp)
 have l0:=hb.lt
 have HB:=a0a hb
 have i1:(s:Int)+1=((s+1:Nat):Int):=by omega
 have ng:g≠w.heap.size:=by omega
 have hi:(s:Int)<=4096:=by omega
 clear hs hb
 obtain⟨S,hS⟩:∃ S,Hid (S=s+1):=⟨_,rfl⟩
 rw[<-hS.out] at i1
 have hP:Hid (∀ o,a0N (b4C W g) (a2v s t) [g] w (.returned (.bool (decide ((S:Int)<=4096)))) ((w.setCell ⟨g,0,none⟩ (.int .i64 (S:Nat))).alloc o)):=fun o=>by
  have hd:decide ((S:Int)<=4096)=decide (s+1<=4096):=decide_eq_decide.2 (by have:=hS.out;omega)
  refine⟨by rw[hd];rfl,[g],⟨rfl,?_,hW⟩,?_,fun b hm=>.inl hm⟩
  ·have:=(HB.out.set 0 (by simp) (.int .i64 (S:Nat))).next ((Below.refl _ _).alloc (Nat.le_refl _) o)
   rw[hS.out] at this ⊢
   exact this
  ·exact(a0v.set w ⟨g,0,none⟩ _ (by simp)).andBelow ((Below.refl _ _).alloc (Nat.le_refl _) o)
 clear hG
 go_enter Tryz.func60,Tryz.ntmps60
 go_wp2_with fail
 go_ret
 exact hP.out _
theorem b4j (W:World)(g:Nat):b8c W (b4C W g) a2v (fun s=>s<=4096) g where
 next:=fun s F w w' ⟨a,b,c⟩ hb=>⟨a,b.next hb,c⟩
 lt:=fun s F w ⟨a,b,c⟩ k hk=>by
  subst a
  simp at hk
  subst hk
  exact⟨c,b.lt⟩
 good:=fun s t hs hb=>by simp[a2v] at hb;simpa[a2v] using hb
 call:=fun s F t v w hG hR _ hs=>b1G W g s F t v w hG hR hs
def a4w (t:Co):Value:=.int .i64 ((min (a0q t) 4097:Nat):Int)
theorem b4e (t:Co)(v:Value)(w:World)(hs:a0l w t v):Calls Tryz.prog 28 #[coV t v] w fun e w'=>e=.returned (a4w t)/\Below w.heap.size w w':=by
 have A:∀ o o',Below w.heap.size w ((w.alloc o).alloc o'):=fun o o'=>((Below.refl _ _).alloc (Nat.le_refl _) _).alloc (by simp) _
 have HW:=a0a (fun (o:Obj) (ty:TypeId)=>b6l (b4j w (w.heap.size+1)) t 0 [w.heap.size+1] v ((w.alloc o).alloc (.cells #[.int .i64 0] ty)) (by omega) ⟨rfl,by simpa using Box.new (w.alloc o) [.int .i64 0] ty,by omega⟩ (A _ _) hs)
 obtain⟨ad,cap,rfl,-,-⟩:=hs.parts.shape
 have hr:=a8M (a0j t) 0 (by omega)
 rw[Nat.zero_add] at hr
 obtain⟨V,hV⟩:∃ V,Hid (V=a4w t):=⟨_,rfl⟩
 rw[<-hV.out]
 have HE:Hid (Value.int .i64 (((a0h a2v (a0j t) 0).1:Nat):Int)=V):=by rw[hr,hV.out];rfl
 have HA:=a0a A
 clear hr hs A
 go_enter Tryz.func28,Tryz.ntmps28
 go_wp2_with fail
 refine Calls.mono (HW.out _ _) ?_
 rintro e w1 ⟨rfl,F',⟨rfl,hb,-⟩,t1,-⟩
 have c0:=hb.cell 0 _ rfl
 have l0:=hb.lt
 have B1:Hid (Below w.heap.size w w1):=(HA.out _ _).trans (t1.below (fun k hk=>by simp at hk;omega) (by simp;omega))
 rw[HE.out] at c0
 clear hb t1 HW
 have hV2:∃ n:Int,V=.int .i64 n:=⟨_,hV.out⟩
 clear HE hV
 obtain⟨n,rfl⟩:=hV2
 go_wp2_with fail
 go_ret
 exact⟨rfl,B1.out⟩
set_option maxHeartbeats 1000000 in
theorem a7r (t:Co):∀ (v:Value) (w:World),a0l w t v->Calls Tryz.prog 16 #[coV t v] w fun e w'=>e=.returned (a4w t)/\Below w.heap.size w w':=by
 induction t using Co.ind with
 | h t ih=>
   intro v w hs
   have HP:=a0a hs.parts
   have HI:=a0a ih
   obtain⟨ad,cap,rfl,hlc,hc⟩:=hs.parts.shape
   obtain⟨V,hV⟩:∃ V,Hid (V=a4w t):=⟨_,rfl⟩
   rw[<-hV.out]
   obtain⟨N,hN⟩:∃ N,Hid (N=t.parts.length):=⟨_,rfl⟩
   rw[<-hN.out] at hlc HP ⊢
   clear hs ih
   go_enter Tryz.func16,Tryz.ntmps16
   go_wp2_with fail
   have BX:Hid (Box (w.alloc (.cells (coL t (.slice ad N cap)).toArray 30)) w.heap.size (coL t (.slice ad N cap))):=Box.new _ _ _
   go_loopw [3,4] (fun c i wr=>∃ (k m:Nat),i=.int .i64 (k:Nat)/\c=.int .i64 (m:Nat)/\k<=N/\m<=8193/\Hid (min m 4097=min (1+a0F (t.parts.take k)) 4097)/\Hid (Below (w.heap.size+1) (w.alloc (.cells (coL t (.slice ad N cap)).toArray 30)) wr)) (fun _ i _=>match i with | .int _ p=>((N:Int)-p).toNat | _=>0)
   case atStart=>exact⟨0,1,rfl,rfl,by omega,by omega,a0a rfl,Below.refl _ _⟩
   case round=>
    obtain⟨k,m,rfl,rfl,hk,hm,HM,HB⟩:=hrel
    have HBw:Hid (Below w.heap.size w wr):=((Below.refl _ _).alloc (Nat.le_refl _) _).trans (HB.out.mono (by omega))
    have X:=BX.out.later HB.out (by omega)
    have k3:=X.cell 3 _ rfl
    by_cases hlt:k<N
    ·have hlt':(k:Int)<(N:Int):=by omega
     by_cases h16:m<=4096
     ·have h16':(m:Int)<=4096:=by omega
      have hl1:k<t.parts.length:=by rw[<-hN.out];exact hlt
      obtain⟨b,off,cap',hv,-,-,hbl,hx⟩:=HP.out.open (by omega)
      simp only[Value.slice.injEq] at hv
      obtain⟨rfl,-,rfl⟩:=hv
      obtain⟨u,h6,hu⟩:=hx k hl1
      obtain⟨c0,c1,c2,c3⟩:=h6.keep (w':=wr) (fun q=>HBw.out.cell (p:=⟨b,q,none⟩) hbl)
      have HC:=a0a (HI.out _ (List.getElem_mem hl1) u wr (hu.next HBw.out))
      have HS:Hid (a0F (t.parts.take (k+1))=a0F (t.parts.take k)+a0q t.parts[k]):=by
       show _=_
       rw[List.take_succ_eq_append_getElem hl1,a1T,a1h];simp[a2I]
      clear hx h6 hu X
      unfold a4w at HC
      have hmn:min (a0q t.parts[k]) 4097<=4097:=Nat.min_le_right _ _
      obtain⟨M,hM⟩:∃ M,Hid (M=min (a0q t.parts[k]) 4097):=⟨_,a0a rfl⟩
      rw[<-hM.out] at HC hmn
      generalize t.parts[k]=x at *
      clear hl1
      go_wp2_with fail
      refine Calls.mono HC.out ?_
      rintro e w1 ⟨rfl,b1⟩
      have B1:=a0a (HB.out.trans (b1.mono (by have:=HB.out.size;simp at this;omega)))
      clear b1 HC
      obtain⟨S,hS⟩:∃ S,Hid (S=m+M):=⟨_,a0a rfl⟩
      have i3:(m:Int)+(M:Int)=(S:Int):=by have:=hS.out;omega
      have i4:(S:Int)<=8193:=by have:=hS.out;omega
      have hmn2:=a0a hmn
      have h162:=a0a h16
      clear hmn h16
      go_wp2_with fail
      go_roundw
      case rel=>exact⟨k+1,S,by go_num,rfl,by omega,by omega,(by show _=_;rw[HS.out,hS.out];have:=HM.out;have:=hM.out;have:=h162.out;omega),B1.out⟩
      case measure=>simp;omega
     ·have h16':¬(m:Int)<=4096:=by omega
      have hVV:Hid (V=.int .i64 ((min m 4097:Nat):Int)):=by
       show _=_
       rw[hV.out,a4w,a1d]
       have e:a0F t.parts=a0F (t.parts.take k)+a0F (t.parts.drop k):=by rw[<-a1T,List.take_append_drop]
       have:=HM.out
       congr 2
       omega
      go_wp2_with fail
      all_goals go_ret
      all_goals exact⟨by rw[hVV.out];first|(rw[show min m 4097=4097 by omega];rfl)|(rw[show min m 4097=m by omega];rfl),HBw.out⟩
    ·have hlt':¬(k:Int)<(N:Int):=by omega
     have hkN:k=N:=by omega
     have hVV:Hid (V=.int .i64 ((min m 4097:Nat):Int)):=by
      show _=_
      rw[hV.out,a4w,a1d]
      have e1:t.parts.take k=t.parts:=by rw[hkN,hN.out];exact List.take_length
      have:=HM.out
      rw[e1] at this
      rw[this]
     go_wp2_with fail
     all_goals go_ret
     all_goals exact⟨by rw[hVV.out];first|(rw[show min m 4097=4097 by omega];rfl)|(rw[show min m 4097=m by omega];rfl),HBw.out⟩
end Go.Proofs.YtdgjjnpdbdmdkaaGreatDoor
