import Derived.Test.YtkbmgloilckdhaaGreatDoorMgB
import Derived.Deep.RegionHeld3
namespace Go.Proofs.YtkbmgloilckdhaaGreatDoor
open Go.RowKit
theorem a0M {W w w':World}{F:List Nat}(hb:Below W.heap.size W w)(t:a0p F w w')(hF:∀ b,b∈F->W.heap.size<=b):Below W.heap.size W w':=
 hb.trans (t.below hF hb.size)
abbrev b8n (g:Nat):Value:=.func (.func 42) #[] #[.pointer (some ⟨g,0,none⟩)]
structure b8t {σ : Type}(W:World)(R : σ -> List Nat->World->Prop)(vs : σ -> Co -> σ × Bool)(G : σ -> Prop)(g:Nat):Prop where
 next:∀ s F w w',R s F w->Below w.heap.size w w'->R s F w'
 lt:∀ s F w,R s F w->∀ b,b∈F->W.heap.size<=b/\b<w.heap.size
 good:∀ s t,G s->(vs s t).2=true->G (vs s t).1
 call:∀ s F t v w,G s->R s F w->Below W.heap.size W w->a0m W t v->Calls Tryz.prog 42 #[coV t v,.pointer (some ⟨g,0,none⟩)] w (a0L R (vs s t) F w)
def b6U {σ : Type}(W:World)(R : σ -> List Nat->World->Prop)(vs : σ -> Co -> σ × Bool)(G : σ -> Prop)(g:Nat)(t:Co):Prop:=
 ∀ (s : σ) (F:List Nat) (v:Value) (w:World),G s->R s F w->Below W.heap.size W w->a0m W t v->Calls Tryz.prog 41 #[coV t v,b8n g] w (a0L R (a0h vs (a0l t) s) F w)
section
variable {σ : Type} {W:World} {R : σ -> List Nat->World->Prop} {vs : σ -> Co -> σ × Bool} {G : σ -> Prop} {g:Nat}
theorem b7P (t:Co)(ih:b6U W R vs G g t)(hV:b8t W R vs G g)(s : σ)(F:List Nat)(v:Value)(p:Nat)(w:World)(hG:G s)(hR:R s F w)(hb:Below W.heap.size W w)(hs:a0m W t v)(hp:Box w p [b8n g]):
 Calls Tryz.prog 74 #[coV t v,.pointer (some ⟨p,0,none⟩)] w (a0L R (a0h vs (a0l t) s) F w):=by
 have A:∀ o,Below w.heap.size w (w.alloc o):=fun o=>(Below.refl _ _).alloc (Nat.le_refl _) _
 have HI:=a0a (fun o=>ih s F v (w.alloc o) hG (hV.next _ _ _ _ hR (A o)) (hb.alloc hb.size o) hs)
 have HA:=a0a A
 have c0:=hp.cell 0 _ rfl
 have lp:=hp.lt
 obtain⟨ad,cap,rfl,-,-⟩:=hs.parts.shape
 clear ih hV hG hR hb hs hp A
 generalize a0h vs (a0l t) s=Q at *
 go_enter Tryz.func74,Tryz.ntmps74
 go_wp2_with fail
 refine Calls.mono (HI.out _) ?_
 intro e w1 h1
 have h2:=a0a (h1.pre (HA.out _))
 obtain⟨he,-⟩:=h1
 subst he
 go_wp2_with fail
 go_ret
 exact h2.out
set_option maxHeartbeats 1000000 in
theorem b6C (l:List Co)(ih:∀ x,x∈l->b6U W R vs G g x)(hV:b8t W R vs G g)(s : σ)(F:List Nat)(v:Value)(p:Nat)(w:World)(hG:G s)(hR:R s F w)(hb:Below W.heap.size W w)(hs:CAt W v l)(hp:Box w p [b8n g])(hpF:p∉F):
 Calls Tryz.prog 73 #[v,.func (.func 74) #[] #[.pointer (some ⟨p,0,none⟩)]] w (a0L R (a0h vs (l.map a0l).flatten s) F w):=by
 by_cases hn:l=[]
 ·subst hn
  obtain⟨ad,cap,rfl,-,-⟩:=hs.shape
  have h2:Hid (a0L R (a0h vs (([]:List Co).map a0l).flatten s) F w (.returned (.bool true)) w):=⟨rfl,F,hR,a0p.refl _ _,fun b hm=>.inl hm⟩
  clear ih hV hG hR hb hs hp hpF
  go_enter Tryz.func73,Tryz.ntmps73
  go_wp2_with fail
  refine wp_loop_rounds 1 ?_
  rw[rounds_succ]
  go_wp2_with fail
  go_ret
  exact h2.out
 ·obtain⟨b,off,cap,rfl,hle,hc,hbl,hx⟩:=hs.open (List.length_pos_iff.2 hn)
  have HX:=a0a hx
  have HI:=a0a ih
  have HV:=a0a hV
  have HG:=a0a hG
  have HP:=a0a hp
  have HPF:=a0a hpF
  have HB:=a0a hb
  have hbl':b<w.heap.size:=Nat.lt_of_lt_of_le hbl hb.size
  have HR:=a0a hR
  obtain⟨N,hN⟩:∃ N,Hid (N=l.length):=⟨_,rfl⟩
  have hpos:0<N:=by rw[hN.out];exact List.length_pos_iff.2 hn
  rw[<-hN.out] at hle ⊢
  obtain⟨Q,hQ⟩:∃ Q,Hid (Q=a0h vs (l.map a0l).flatten s):=⟨_,rfl⟩
  rw[<-hQ.out]
  clear ih hV hG hR hb hs hp hpF hn hx
  go_enter Tryz.func73,Tryz.ntmps73
  go_wp2_with fail
  go_loopw [9] (fun i wr=>∃ (k:Nat) (F1:List Nat),i=.int .i64 (k:Nat)/\k<=N/\Hid ((a0h vs ((l.take k).map a0l).flatten s).2=true)/\Hid (R (a0h vs ((l.take k).map a0l).flatten s).1 F1 wr)/\Hid (a0p F w wr)/\Hid (∀ b,b∈F1->b∈F\/w.heap.size<=b)) (fun i _=>match i with | .int _ p=>((N:Int)-p).toNat | _=>0)
  case atStart=>exact⟨0,F,rfl,by omega,a0a rfl,a0a HR.out,a0p.refl _ _,fun b hm=>.inl hm⟩
  case round=>
   obtain⟨k,F1,rfl,hk,HK,HR1,HT1,HF1⟩:=hrel
   by_cases hlt:k<N
   ·have hlt':(k:Int)<(N:Int):=by omega
    have hl1:k<l.length:=by rw[<-hN.out];exact hlt
    obtain⟨u,h6,hu⟩:=HX.out k hl1
    have FW:∀ b,b∈F->W.heap.size<=b:=fun b hm=>(HV.out.lt _ _ _ HR.out b hm).1
    have HBr:=a0a (a0M HB.out HT1.out FW)
    have k6:=h6.keep (w':=wr) (fun q=>HBr.out.cell (p:=⟨b,q,none⟩) hbl)
    obtain⟨c0,c1,c2,c3⟩:=k6
    have lbr:b<wr.heap.size:=Nat.lt_of_lt_of_le hbl HBr.out.size
    have HPr:=a0a (HP.out.turn HT1.out HPF.out)
    have HS2:Hid (a0h vs ((l.take (k+1)).map a0l).flatten s=a0h vs (a0l l[k]) (a0h vs ((l.take k).map a0l).flatten s).1):=by
     show _=_
     rw[a2e l k hl1,a0r,if_pos HK.out]
    have HQ2:Hid (Q=if (a0h vs (a0l l[k]) (a0h vs ((l.take k).map a0l).flatten s).1).2=true then a0h vs ((l.drop (k+1)).map a0l).flatten (a0h vs (a0l l[k]) (a0h vs ((l.take k).map a0l).flatten s).1).1 else ((a0h vs (a0l l[k]) (a0h vs ((l.take k).map a0l).flatten s).1).1,false)):=by
     show _=_
     rw[hQ.out,a1O l k hl1,a0r,if_pos HK.out,a0r]
    have HW:=a0a (fun o=>b7P l[k] (HI.out _ (List.getElem_mem hl1)) HV.out (a0h vs ((l.take k).map a0l).flatten s).1 F1 u p (wr.alloc o) (a2d HV.out.good _ _ HG.out HK.out) (HV.out.next _ _ _ _ HR1.out ((Below.refl _ _).alloc (Nat.le_refl _) _)) (HBr.out.alloc HBr.out.size o) hu (HPr.out.next ((Below.refl _ _).alloc (Nat.le_refl _) _)))
    obtain⟨au,cu,rfl,-,-⟩:=hu.parts.shape
    clear h6 hu HX FW
    generalize l[k]=x at *
    clear hl1
    generalize a0h vs (a0l x) (a0h vs ((l.take k).map a0l).flatten s).1=q at *
    go_wp2_with fail
    refine Calls.mono (HW.out _) ?_
    intro e w1 h1
    have h2:=a0a ((h1.pre ((Below.refl _ _).alloc (Nat.le_refl _) _)).then HT1.out HF1.out)
    obtain⟨he,-⟩:=h1
    subst he
    obtain⟨qs,qb⟩:=q
    cases qb with
    | false=>
      have h3:Hid (a0L R Q F w (.returned (.bool false)) w1):=by rw[HQ2.out];exact h2.out
      clear h2 HQ2 HS2
      simp only[]
      go_wp2_with fail
      go_ret
      exact h3.out
    | true=>
      obtain⟨-,F2,r2,t2,f2⟩:=h2.out
      have H3:Hid ((a0h vs ((l.take (k+1)).map a0l).flatten s).2=true):=by show _=_;rw[HS2.out]
      have H4:Hid (R (a0h vs ((l.take (k+1)).map a0l).flatten s).1 F2 w1):=by rw[HS2.out];exact r2
      have H5:=a0a t2
      have H6:=a0a f2
      clear h2 HQ2 HS2 r2 t2 f2
      simp only[]
      go_wp2_with fail
      go_roundw
      case rel=>exact⟨k+1,F2,by go_num,by omega,H3.out,H4.out,H5.out,H6.out⟩
      case measure=>simp;omega
   ·have hlt':¬(k:Int)<(N:Int):=by omega
    have hkN:k=N:=by omega
    subst hkN
    have e1:l.take k=l:=by rw[hN.out];exact List.take_length
    rw[e1,<-hQ.out] at HK HR1
    have h2:Hid (a0L R Q F w (.returned (.bool true)) wr):=⟨by rw[HK.out],F1,HR1.out,HT1.out,HF1.out⟩
    go_wp2_with fail
    go_ret
    exact h2.out
theorem b6x (hV:b8t W R vs G g)(t:Co):b6U W R vs G g t:=by
 induction t using Co.ind with
 | h t ih=>
   intro s F v w hG hR hb hs
   have A:∀ o o',Below w.heap.size w ((w.alloc o).alloc o'):=fun o o'=>((Below.refl _ _).alloc (Nat.le_refl _) _).alloc (by simp) _
   have HC:=a0a (fun o o'=>hV.call s F t v ((w.alloc o).alloc o') hG (hV.next _ _ _ _ hR (A o o')) (hb.trans ((A o o').mono hb.size)) hs)
   have HA:=a0a A
   have HV:=a0a hV
   have HI:=a0a ih
   have HG:=a0a hG
   have HPa:=a0a hs.parts
   have HF:=a0a (fun b (hm:b∈F)=>hV.lt s F w hR b hm)
   have HB:=a0a hb
   obtain⟨ad,cap,rfl,-,-⟩:=hs.parts.shape
   obtain⟨Q,hQ⟩:∃ Q,Hid (Q=a0h vs (a0l t) s):=⟨_,rfl⟩
   rw[<-hQ.out]
   have hQ2:Hid (Q=if (vs s t).2=true then a0h vs (t.parts.map a0l).flatten (vs s t).1 else ((vs s t).1,false)):=by
    show _=_
    rw[hQ.out,a1Q];rfl
   have HGo:Hid ((vs s t).2=true->G (vs s t).1):=hV.good s t hG
   clear A hV ih hG hR hb hs hQ
   obtain⟨q,hq⟩:∃ q,Hid (q=vs s t):=⟨_,rfl⟩
   rw[<-hq.out] at HC hQ2 HGo
   clear hq
   go_enter Tryz.func41,Tryz.ntmps41
   go_wp2_with fail
   refine Calls.mono (HC.out _ _) ?_
   intro e w1 h1
   have h2:=a0a (h1.pre (HA.out _ _))
   obtain⟨he,F1,r1,t1,f1⟩:=h1
   subst he
   obtain⟨qs,qb⟩:=q
   cases qb with
   | false=>
     have h3:Hid (a0L R Q F w (.returned (.bool false)) w1):=by rw[hQ2.out];exact h2.out
     clear h2 hQ2 r1 t1 f1
     simp only[]
     go_wp2_with fail
     go_ret
     exact h3.out
   | true=>
     have hQ3:Hid (Q=a0h vs (t.parts.map a0l).flatten qs):=hQ2.out
     obtain⟨Y0,Y1,-⟩:=a0e w 30 68 (coL t (.slice ad t.parts.length cap)) [b8n g]
     have n0:w.heap.size∉F:=fun hm=>by have:=(HF.out _ hm).2;omega
     have n1:w.heap.size+1∉F:=fun hm=>by have:=(HF.out _ hm).2;omega
     have Z0:=Y0.turn t1 n0
     have Z1:=a0a (Y1.turn t1 n1)
     have n2:w.heap.size+1∉F1:=fun hm=>by
      rcases f1 _ hm with k | k
      ·exact n1 k
      ·simp at k;omega
     have k3:=Z0.cell 3 _ rfl
     have l5:=Z0.lt
     have HB1:Hid (Below W.heap.size W w1):=a0M (HB.out.trans ((HA.out _ _).mono HB.out.size)) t1 (fun b hm=>(HF.out b hm).1)
     have HAll:=a0a (b6C t.parts HI.out HV.out qs F1 _ (w.heap.size+1) w1 (HGo.out rfl) r1 HB1.out HPa.out Z1.out n2)
     obtain⟨-,F2,r2,t2,f2⟩:=h2.out
     have HT:=a0a ((a0p.of_below (S:=F) (HA.out _ _)).trans t1 (fun _ hi=>.inl hi))
     have HF1:Hid (∀ b,b∈F1->b∈F\/w.heap.size<=b):=fun b hm=>by
      rcases f1 b hm with k | k
      ·exact .inl k
      ·exact .inr (by simp at k;omega)
     rw[<-hQ3.out] at HAll
     clear h2 hQ2 r1 t1 f1 r2 t2 f2 Y0 Y1 Z0 n0 n1 n2 HGo
     simp only[]
     go_wp2_with fail
     refine Calls.mono HAll.out ?_
     intro e w2 h3
     have h4:=a0a (h3.then HT.out HF1.out)
     obtain⟨he,-⟩:=h3
     subst he
     go_wp2_with fail
     go_ret
     exact h4.out
end
def a2x (s:Nat)(_:Co):Nat×Bool:=(s+1,decide (s+1<=4096))
theorem a8J:∀ (l:List Co) (s:Nat),s<=4096->(a0h a2x l s).1=min (s+l.length) 4097
 | [],s,h=>by simp[a0h];omega
 | t::r,s,h=>by
   rw[a0h]
   by_cases hs:s+1<=4096
   ·rw[if_pos (by simp[a2x,hs])]
    have:=a8J r (s+1) hs
    show (a0h a2x r (s+1)).1=_
    rw[this,List.length_cons];congr 1;omega
   ·rw[if_neg (by simp[a2x,hs])]
    show s+1=_
    rw[List.length_cons];omega
def b4q (W:World)(g:Nat)(s:Nat)(F:List Nat)(w:World):Prop:=F=[g]/\Box w g [.int .i64 (s:Nat)]/\W.heap.size<=g
theorem b1M (W:World)(g s:Nat)(F:List Nat)(t:Co)(v:Value)(w:World)(hG:s<=4096)(hR:b4q W g s F w)(hs:a0m W t v):Calls Tryz.prog 42 #[coV t v,.pointer (some ⟨g,0,none⟩)] w (a0L (b4q W g) (a2x s t) F w):=by
 obtain⟨rfl,hb,hW⟩:=hR
 obtain⟨ad,cap,rfl,-,-⟩:=hs.parts.shape
 have c0:=hb.cell 0 _ rfl
 have f0:=hb.free 0 (by simp)
 have l0:=hb.lt
 have HB:=a0a hb
 have i1:(s:Int)+1=((s+1:Nat):Int):=by omega
 have ng:g≠w.heap.size:=by omega
 have hi:(s:Int)<=4096:=by omega
 clear hs hb
 obtain⟨S,hS⟩:∃ S,Hid (S=s+1):=⟨_,rfl⟩
 rw[<-hS.out] at i1
 have hP:Hid (∀ o,a0L (b4q W g) (a2x s t) [g] w (.returned (.bool (decide ((S:Int)<=4096)))) ((w.setCell ⟨g,0,none⟩ (.int .i64 (S:Nat))).alloc o)):=fun o=>by
  have hd:decide ((S:Int)<=4096)=decide (s+1<=4096):=decide_eq_decide.2 (by have:=hS.out;omega)
  refine⟨by rw[hd];rfl,[g],⟨rfl,?_,hW⟩,?_,fun b hm=>.inl hm⟩
  ·have:=(HB.out.set 0 (by simp) (.int .i64 (S:Nat))).next ((Below.refl _ _).alloc (Nat.le_refl _) o)
   rw[hS.out] at this ⊢
   exact this
  ·exact(a0p.set w ⟨g,0,none⟩ _ (by simp)).andBelow ((Below.refl _ _).alloc (Nat.le_refl _) o)
 clear hG
 go_enter Tryz.func42,Tryz.ntmps42
 go_wp2_with fail
 go_ret
 exact hP.out _
theorem b3V (W:World)(g:Nat):b8t W (b4q W g) a2x (fun s=>s<=4096) g where
 next:=fun s F w w' ⟨a,b,c⟩ hb=>⟨a,b.next hb,c⟩
 lt:=fun s F w ⟨a,b,c⟩ k hk=>by
  subst a
  simp at hk
  subst hk
  exact⟨c,b.lt⟩
 good:=fun s t hs hb=>by simp[a2x] at hb;simpa[a2x] using hb
 call:=fun s F t v w hG hR _ hs=>b1M W g s F t v w hG hR hs
def a4o (t:Co):Value:=.int .i64 ((min (a0q t) 4097:Nat):Int)
theorem b3R (t:Co)(v:Value)(w:World)(hs:a0m w t v):Calls Tryz.prog 19 #[coV t v] w fun e w'=>e=.returned (a4o t)/\Below w.heap.size w w':=by
 have A:∀ o o',Below w.heap.size w ((w.alloc o).alloc o'):=fun o o'=>((Below.refl _ _).alloc (Nat.le_refl _) _).alloc (by simp) _
 have HW:=a0a (fun (o:Obj) (ty:TypeId)=>b6x (b3V w (w.heap.size+1)) t 0 [w.heap.size+1] v ((w.alloc o).alloc (.cells #[.int .i64 0] ty)) (by omega) ⟨rfl,by simpa using Box.new (w.alloc o) [.int .i64 0] ty,by omega⟩ (A _ _) hs)
 obtain⟨ad,cap,rfl,-,-⟩:=hs.parts.shape
 have hr:=a8J (a0l t) 0 (by omega)
 rw[Nat.zero_add] at hr
 obtain⟨V,hV⟩:∃ V,Hid (V=a4o t):=⟨_,rfl⟩
 rw[<-hV.out]
 have HE:Hid (Value.int .i64 (((a0h a2x (a0l t) 0).1:Nat):Int)=V):=by rw[hr,hV.out];rfl
 have HA:=a0a A
 clear hr hs A
 go_enter Tryz.func19,Tryz.ntmps19
 go_wp2_with fail
 refine Calls.mono (HW.out _ _) ?_
 rintro e w1 ⟨rfl,F',⟨rfl,hb,-⟩,t1,-⟩
 have c0:=hb.cell 0 _ rfl
 have l0:=hb.lt
 have B1:Hid (Below w.heap.size w w1):=(HA.out _ _).trans (t1.below (fun k hk=>by simp at hk;omega) (by simp;omega))
 rw[HE.out] at c0
 clear hb t1 HW
 have hV2:∃ n:Int,V=.int .i64 n:=⟨_,hV.out⟩
 clear HE hV
 obtain⟨n,rfl⟩:=hV2
 go_wp2_with fail
 go_ret
 exact⟨rfl,B1.out⟩
set_option maxHeartbeats 1000000 in
theorem a7r (t:Co):∀ (v:Value) (w:World),a0m w t v->Calls Tryz.prog 13 #[coV t v] w fun e w'=>e=.returned (a4o t)/\Below w.heap.size w w':=by
 induction t using Co.ind with
 | h t ih=>
   intro v w hs
   have HP:=a0a hs.parts
   have HI:=a0a ih
   obtain⟨ad,cap,rfl,hlc,hc⟩:=hs.parts.shape
   obtain⟨V,hV⟩:∃ V,Hid (V=a4o t):=⟨_,rfl⟩
   rw[<-hV.out]
   obtain⟨N,hN⟩:∃ N,Hid (N=t.parts.length):=⟨_,rfl⟩
   rw[<-hN.out] at hlc HP ⊢
   clear hs ih
   go_enter Tryz.func13,Tryz.ntmps13
   go_wp2_with fail
   have BX:Hid (Box (w.alloc (.cells (coL t (.slice ad N cap)).toArray 30)) w.heap.size (coL t (.slice ad N cap))):=Box.new _ _ _
   go_loopw [3,4] (fun c i wr=>∃ (k m:Nat),i=.int .i64 (k:Nat)/\c=.int .i64 (m:Nat)/\k<=N/\m<=8193/\Hid (min m 4097=min (1+a0D (t.parts.take k)) 4097)/\Hid (Below (w.heap.size+1) (w.alloc (.cells (coL t (.slice ad N cap)).toArray 30)) wr)) (fun _ i _=>match i with | .int _ p=>((N:Int)-p).toNat | _=>0)
   case atStart=>exact⟨0,1,rfl,rfl,by omega,by omega,a0a rfl,Below.refl _ _⟩
   case round=>
    obtain⟨k,m,rfl,rfl,hk,hm,HM,HB⟩:=hrel
    have HBw:Hid (Below w.heap.size w wr):=((Below.refl _ _).alloc (Nat.le_refl _) _).trans (HB.out.mono (by omega))
    have X:=BX.out.later HB.out (by omega)
    have k3:=X.cell 3 _ rfl
    by_cases hlt:k<N
    ·have hlt':(k:Int)<(N:Int):=by omega
     by_cases h16:m<=4096
     ·have h16':(m:Int)<=4096:=by omega
      have hl1:k<t.parts.length:=by rw[<-hN.out];exact hlt
      obtain⟨b,off,cap',hv,-,-,hbl,hx⟩:=HP.out.open (by omega)
      simp only[Value.slice.injEq] at hv
      obtain⟨rfl,-,rfl⟩:=hv
      obtain⟨u,h6,hu⟩:=hx k hl1
      obtain⟨c0,c1,c2,c3⟩:=h6.keep (w':=wr) (fun q=>HBw.out.cell (p:=⟨b,q,none⟩) hbl)
      have HC:=a0a (HI.out _ (List.getElem_mem hl1) u wr (hu.next HBw.out))
      have HS:Hid (a0D (t.parts.take (k+1))=a0D (t.parts.take k)+a0q t.parts[k]):=by
       show _=_
       rw[List.take_succ_eq_append_getElem hl1,a1S,a1d];simp[a2M]
      clear hx h6 hu X
      unfold a4o at HC
      have hmn:min (a0q t.parts[k]) 4097<=4097:=Nat.min_le_right _ _
      obtain⟨M,hM⟩:∃ M,Hid (M=min (a0q t.parts[k]) 4097):=⟨_,a0a rfl⟩
      rw[<-hM.out] at HC hmn
      generalize t.parts[k]=x at *
      clear hl1
      go_wp2_with fail
      refine Calls.mono HC.out ?_
      rintro e w1 ⟨rfl,b1⟩
      have B1:=a0a (HB.out.trans (b1.mono (by have:=HB.out.size;simp at this;omega)))
      clear b1 HC
      obtain⟨S,hS⟩:∃ S,Hid (S=m+M):=⟨_,a0a rfl⟩
      have i3:(m:Int)+(M:Int)=(S:Int):=by have:=hS.out;omega
      have i4:(S:Int)<=8193:=by have:=hS.out;omega
      have hmn2:=a0a hmn
      have h162:=a0a h16
      clear hmn h16
      go_wp2_with fail
      go_roundw
      case rel=>exact⟨k+1,S,by go_num,rfl,by omega,by omega,(by show _=_;rw[HS.out,hS.out];have:=HM.out;have:=hM.out;have:=h162.out;omega),B1.out⟩
      case measure=>simp;omega
     ·have h16':¬(m:Int)<=4096:=by omega
      have hVV:Hid (V=.int .i64 ((min m 4097:Nat):Int)):=by
       show _=_
       rw[hV.out,a4o,a1a]
       have e:a0D t.parts=a0D (t.parts.take k)+a0D (t.parts.drop k):=by rw[<-a1S,List.take_append_drop]
       have:=HM.out
       congr 2
       omega
      go_wp2_with fail
      all_goals go_ret
      all_goals exact⟨by rw[hVV.out];first|(rw[show min m 4097=4097 by omega];rfl)|(rw[show min m 4097=m by omega];rfl),HBw.out⟩
    ·have hlt':¬(k:Int)<(N:Int):=by omega
     have hkN:k=N:=by omega
     have hVV:Hid (V=.int .i64 ((min m 4097:Nat):Int)):=by
      show _=_
      rw[hV.out,a4o,a1a]
      have e1:t.parts.take k=t.parts:=by rw[hkN,hN.out];exact List.take_length
      have:=HM.out
      rw[e1] at this
      rw[this]
     go_wp2_with fail
     all_goals go_ret
     all_goals exact⟨by rw[hVV.out];first|(rw[show min m 4097=4097 by omega];rfl)|(rw[show min m 4097=m by omega];rfl),HBw.out⟩
def b6V (fn:Nat)(t:Co):Prop:=∀ (b:Co) (v v':Value) (w:World) (R:Bool),(R=true↔t=b)->a0m w t v->a0m w b v'->Calls Tryz.prog fn #[coV t v,coV b v'] w fun e w'=>e=.returned (.bool R)/\Below w.heap.size w w'
theorem b2Y {a b:Co}{j:Nat}(h1:j<a.parts.length)(h2:j<b.parts.length)(h:¬ a.parts[j]=b.parts[j]):¬ a=b:=fun e=>by
 subst e
 exact h rfl
theorem b2Z {a b:Co}(ho:a.op=b.op)(hn:a.n=b.n)(hm:a.m=b.m)(hl:a.parts.length=b.parts.length)(h:∀ j (h1:j<a.parts.length) (h2:j<b.parts.length),a.parts[j]=b.parts[j]):a=b:=
 Co.same.2 ⟨ho,hn,hm,List.ext_getElem hl h⟩
set_option maxHeartbeats 4000000 in
theorem a8i (t:Co)(ih:∀ x,x∈t.parts->b6V 11 x):b6V 11 t:=by
 intro b v v' w R hR0 hs hs'
 have hR:=a0a hR0
 clear hR0
 have HL:=a0a hs.parts
 have HK:=a0a hs'.parts
 have HI:=a0a ih
 obtain⟨ad,cap,rfl,hc1,hc2⟩:=hs.parts.shape
 obtain⟨ad',cap',rfl,hc1',hc2'⟩:=hs'.parts.shape
 obtain⟨N,hN⟩:∃ N,Hid (N=t.parts.length):=⟨_,rfl⟩
 obtain⟨N',hN'⟩:∃ N,Hid (N=b.parts.length):=⟨_,rfl⟩
 rw[<-hN.out] at hc1 HL ⊢
 rw[<-hN'.out] at hc1' HK ⊢
 clear hs hs' ih
 obtain⟨X0,X1,XB⟩:=a0e w 30 30 (coL t (.slice ad N cap)) (coL b (.slice ad' N' cap'))
 have BX:=a0a X0
 have BY:=a0a X1
 have BB:=a0a XB
 clear X0 X1 XB
 by_cases ho:t.op=b.op
 case neg=>
  have hr:R=false:=a2j hR.out (fun e=>ho (by rw[e]))
  have k0:(t.op != b.op)=true:=by simpa using ho
  subst hr
  go_enter Tryz.func11,Tryz.ntmps11
  go_wp2_with fail
  go_ret
  exact⟨rfl,BB.out⟩
 have k0:(t.op != b.op)=false:=by simpa using ho
 have HO:=a0a ho
 clear ho
 by_cases hn:t.n=b.n
 case neg=>
  have hr:R=false:=a2j hR.out (fun e=>hn (by rw[e]))
  have k1:(t.n != b.n)=true:=by simpa using hn
  subst hr
  go_enter Tryz.func11,Tryz.ntmps11
  go_wp2_with fail
  go_ret
  exact⟨rfl,BB.out⟩
 have k1:(t.n != b.n)=false:=by simpa using hn
 have HN:=a0a hn
 clear hn
 by_cases hm:t.m=b.m
 case neg=>
  have hr:R=false:=a2j hR.out (fun e=>hm (by rw[e]))
  have k2:(t.m != b.m)=true:=by simpa using hm
  subst hr
  go_enter Tryz.func11,Tryz.ntmps11
  go_wp2_with fail
  go_ret
  exact⟨rfl,BB.out⟩
 have k2:(t.m != b.m)=false:=by simpa using hm
 have HM:=a0a hm
 clear hm
 by_cases hl:N=N'
 case neg=>
  have hr:R=false:=a2j hR.out (fun e=>hl (by rw[hN.out,hN'.out,e]))
  have k3:((N:Int) != (N':Int))=true:=by simp;omega
  subst hr
  go_enter Tryz.func11,Tryz.ntmps11
  go_wp2_with fail
  go_ret
  exact⟨rfl,BB.out⟩
 subst hl
 go_enter Tryz.func11,Tryz.ntmps11
 go_wp2_with fail
 go_loopw [5] (fun i wr=>∃ j:Nat,i=.int .i64 (j:Nat)/\j<=N/\Hid (∀ q (h1:q<t.parts.length) (h2:q<b.parts.length),q<j->t.parts[q]=b.parts[q])/\Hid (Below w.heap.size w wr)/\Hid (Box wr w.heap.size (coL t (.slice ad N cap)))/\Hid (Box wr (w.heap.size+1) (coL b (.slice ad' N cap')))) (fun i _=>match i with | .int _ p=>((N:Int)-p).toNat | _=>0)
 case atStart=>exact⟨0,rfl,by omega,fun q _ _ h=>absurd h (by omega),BB,BX,BY⟩
 case round=>
  obtain⟨j,rfl,hj,HQ,HB,HX,HY⟩:=hrel
  have x3:=HX.out.cell 3 _ rfl
  have y3:=HY.out.cell 3 _ rfl
  have lx:=HX.out.lt
  have ly:=HY.out.lt
  by_cases hlt:j<N
  ·have hlt':(j:Int)<(N:Int):=by omega
   have h1:j<t.parts.length:=by rw[<-hN.out];exact hlt
   have h2:j<b.parts.length:=by rw[<-hN'.out];exact hlt
   obtain⟨bb,off,c1,hv,-,-,hbl,hx⟩:=HL.out.open (by omega)
   simp only[Value.slice.injEq] at hv
   obtain⟨rfl,-,rfl⟩:=hv
   obtain⟨b',off',c1',hv',-,-,hbl',hx'⟩:=HK.out.open (by omega)
   simp only[Value.slice.injEq] at hv'
   obtain⟨rfl,-,rfl⟩:=hv'
   obtain⟨u,h6,hu⟩:=hx j h1
   obtain⟨u',h6',hu'⟩:=hx' j h2
   obtain⟨c0,c1,c2,c3⟩:=h6.keep (w':=wr) (fun q=>HB.out.cell (p:=⟨bb,q,none⟩) hbl)
   obtain⟨e0,e1,e2,e3⟩:=h6'.keep (w':=wr) (fun q=>HB.out.cell (p:=⟨b',q,none⟩) hbl')
   have lb:bb<wr.heap.size:=Nat.lt_of_lt_of_le hbl HB.out.size
   have lb':b'<wr.heap.size:=Nat.lt_of_lt_of_le hbl' HB.out.size
   obtain⟨r,hr⟩:=a8C t.parts[j] b.parts[j]
   have HC:Hid (∀ wx,Below wr.heap.size wr wx->Calls Tryz.prog 11 #[coV t.parts[j] u,coV b.parts[j] u'] wx fun e w'=>e=.returned (.bool r)/\Hid (Below wr.heap.size wr w')):=fun wx hb=>by
    have A:Below w.heap.size w wx:=a0b HB.out hb HB.out.size
    exact(HI.out _ (List.getElem_mem h1) _ u u' _ r hr (hu.next A) (hu'.next A)).mono fun e w' h=>⟨h.1,a0b hb h.2 hb.size⟩
   have HNe:Hid (r=false->R=false):=fun h=>a2j hR.out (b2Y h1 h2 (fun e=>by rw[hr.2 e] at h;cases h))
   have HEq:Hid (r=true->t.parts[j]=b.parts[j]):=hr.1
   clear hr
   clear h6 h6' hu hu' hx hx'
   obtain⟨x,hxx⟩:∃ x,Hid (x=t.parts[j]):=⟨_,a0a rfl⟩
   obtain⟨y,hyy⟩:∃ y,Hid (y=b.parts[j]):=⟨_,a0a rfl⟩
   rw[<-hxx.out] at c0 c1 c2 HC HEq
   rw[<-hyy.out] at e0 e1 e2 HC HEq
   go_wp2_with fail
   go_region_held3 (fun w'=>w'.cell? ⟨w.heap.size,3,none⟩=some (.slice (some ⟨bb,off,none⟩) N cap)/\w'.cell? ⟨w.heap.size+1,3,none⟩=some (.slice (some ⟨b',off',none⟩) N cap')/\(w'.cell? ⟨bb,off+j*4,none⟩=some (.int .i64 x.op)/\w'.cell? ⟨bb,off+j*4+1,none⟩=some (.int .i64 x.n)/\w'.cell? ⟨bb,off+j*4+2,none⟩=some (.int .i64 x.m)/\w'.cell? ⟨bb,off+j*4+3,none⟩=some u)/\w'.cell? ⟨b',off'+j*4,none⟩=some (.int .i64 y.op)/\w'.cell? ⟨b',off'+j*4+1,none⟩=some (.int .i64 y.n)/\w'.cell? ⟨b',off'+j*4+2,none⟩=some (.int .i64 y.m)/\w'.cell? ⟨b',off'+j*4+3,none⟩=some u') (simp[go_sem, *]) (first|(go_at_call 11;refine Calls.mono (HC.out _ (by exact a0j (Below.refl _ _) _)) ?_;rintro e w1 ⟨rfl,B1⟩;have g0:=fun p v hp hv=>(B1.out.cell (p:=p) hp).trans (hv:wr.cell? p=some v);replace x3:=g0 _ _ lx x3;replace y3:=g0 _ _ ly y3;replace c0:=g0 _ _ lb c0;replace c1:=g0 _ _ lb c1;replace c2:=g0 _ _ lb c2;replace c3:=g0 _ _ lb c3;replace e0:=g0 _ _ lb' e0;replace e1:=g0 _ _ lb' e1;replace e2:=g0 _ _ lb' e2;replace e3:=g0 _ _ lb' e3;clear g0))
   have HX1:=a0a (HX.out.next B1.out)
   have HY1:=a0a (HY.out.next B1.out)
   have HB1:=a0a (a0b HB.out B1.out HB.out.size)
   clear c0 c1 c2 c3 e0 e1 e2 e3 HC x3 y3
   cases r with
   | false=>
     obtain rfl:=HNe.out rfl
     go_wp2_with fail
     go_ret
     exact⟨rfl,HB1.out⟩
   | true=>
     go_wp2_with fail
     go_roundw
     case rel=>exact⟨j+1,by go_num,by omega,(fun q g1 g2 hq=>by
      by_cases he:q=j
      ·subst he
       have:=HEq.out rfl
       rw[hxx.out,hyy.out] at this
       exact this
      ·exact HQ.out q g1 g2 (by omega)),HB1,HX1,HY1⟩
     case measure=>simp;omega
  ·have hlt':¬(j:Int)<(N:Int):=by omega
   have hr:R=true:=by
    exact b7V hR.out (b2Z HO.out HN.out HM.out (by rw[<-hN.out,<-hN'.out]) (fun q g1 g2=>HQ.out q g1 g2 (by have:=hN.out;omega)))
   subst hr
   go_wp2_with fail
   go_ret
   exact⟨rfl,HB.out⟩
theorem a6G (t:Co):b6V 11 t:=by
 induction t using Co.ind with
 | h t ih=>exact a8i t ih
abbrev b4H:Value:=.func (.func 55) #[] #[]
set_option maxHeartbeats 4000000 in
theorem b1H (ps qs:List Co)(ih:∀ x,x∈ps->b6V 55 x)(v v':Value)(w:World)(R:Bool)(hR0:R=true↔ps=qs)(hs:CAt w v ps)(hs':CAt w v' qs):
 Calls Tryz.prog 126 #[v,v',b4H] w fun e w'=>e=.returned (.bool R)/\Below w.heap.size w w':=by
 have hR:=a0a hR0
 have HL:=a0a hs
 have HK:=a0a hs'
 have HI:=a0a ih
 obtain⟨ad,cap,rfl,hc1,hc2⟩:=hs.shape
 obtain⟨ad',cap',rfl,hc1',hc2'⟩:=hs'.shape
 obtain⟨N,hN⟩:∃ N,Hid (N=ps.length):=⟨_,rfl⟩
 obtain⟨N',hN'⟩:∃ N,Hid (N=qs.length):=⟨_,rfl⟩
 rw[<-hN.out] at hc1 HL ⊢
 rw[<-hN'.out] at hc1' HK ⊢
 clear hs hs' ih hR0
 by_cases hl:N=N'
 case neg=>
  have hr:R=false:=a2j hR.out (fun e=>hl (by rw[hN.out,hN'.out,e]))
  have k3:((N:Int) != (N':Int))=true:=by simp;omega
  subst hr
  go_enter Tryz.func126,Tryz.ntmps126
  go_wp2_with fail
  go_ret
  exact⟨rfl,Below.refl _ _⟩
 subst hl
 go_enter Tryz.func126,Tryz.ntmps126
 go_wp2_with fail
 go_loopw [17] (fun i wr=>∃ j:Nat,i=.int .i64 (j:Nat)/\j<=N/\Hid (∀ q (h1:q<ps.length) (h2:q<qs.length),q<j->ps[q]=qs[q])/\Hid (Below w.heap.size w wr)) (fun i _=>match i with | .int _ p=>((N:Int)-p).toNat | _=>0)
 case atStart=>exact⟨0,rfl,by omega,fun q _ _ h=>absurd h (by omega),Below.refl _ _⟩
 case round=>
  obtain⟨j,rfl,hj,HQ,HB⟩:=hrel
  by_cases hlt:j<N
  ·have hlt':(j:Int)<(N:Int):=by omega
   have h1:j<ps.length:=by rw[<-hN.out];exact hlt
   have h2:j<qs.length:=by rw[<-hN'.out];exact hlt
   obtain⟨bb,off,c1,hv,-,-,hbl,hx⟩:=HL.out.open (by omega)
   simp only[Value.slice.injEq] at hv
   obtain⟨rfl,-,rfl⟩:=hv
   obtain⟨b',off',c1',hv',-,-,hbl',hx'⟩:=HK.out.open (by omega)
   simp only[Value.slice.injEq] at hv'
   obtain⟨rfl,-,rfl⟩:=hv'
   obtain⟨u,h6,hu⟩:=hx j h1
   obtain⟨u',h6',hu'⟩:=hx' j h2
   obtain⟨c0,c1,c2,c3⟩:=h6.keep (w':=wr) (fun q=>HB.out.cell (p:=⟨bb,q,none⟩) hbl)
   obtain⟨e0,e1,e2,e3⟩:=h6'.keep (w':=wr) (fun q=>HB.out.cell (p:=⟨b',q,none⟩) hbl')
   have lb:bb<wr.heap.size:=Nat.lt_of_lt_of_le hbl HB.out.size
   have lb':b'<wr.heap.size:=Nat.lt_of_lt_of_le hbl' HB.out.size
   obtain⟨r,hr⟩:=a8C ps[j] qs[j]
   have HC:Hid (∀ wx,Below w.heap.size w wx->Calls Tryz.prog 55 #[coV ps[j] u,coV qs[j] u'] wx fun e w'=>e=.returned (.bool r)/\Below wx.heap.size wx w'):=fun wx hb=>HI.out _ (List.getElem_mem h1) _ u u' _ r hr (hu.next hb) (hu'.next hb)
   have HNe:Hid (r=false->R=false):=fun h=>a2j hR.out (fun e=>by
    subst e
    rw[hr.2 rfl] at h
    cases h)
   have HEq:Hid (r=true->ps[j]=qs[j]):=hr.1
   obtain⟨a1,k1,rfl,-,-⟩:=hu.parts.shape
   obtain⟨a2,k2,rfl,-,-⟩:=hu'.parts.shape
   have HA:Hid (∀ o o',Below w.heap.size w ((wr.alloc o).alloc o')):=fun o o'=>(HB.out.alloc HB.out.size _).alloc (by have:=HB.out.size;simp;omega) _
   clear hr h6 h6' hu hu' hx hx'
   obtain⟨x,hxx⟩:∃ x,Hid (x=ps[j]):=⟨_,a0a rfl⟩
   obtain⟨y,hyy⟩:∃ y,Hid (y=qs[j]):=⟨_,a0a rfl⟩
   rw[<-hxx.out] at c0 c1 c2 c3 HC HEq
   rw[<-hyy.out] at e0 e1 e2 e3 HC HEq
   simp only[coV] at HC
   go_wp2_with fail
   refine Calls.mono (HC.out _ (HA.out _ _)) ?_
   rintro e w1 ⟨rfl,b1⟩
   have HB1:=a0a (a0b (HA.out _ _) b1 (by have:=HB.out.size;simp;omega))
   clear c0 c1 c2 c3 e0 e1 e2 e3 HC b1
   cases r with
   | false=>
     obtain rfl:=HNe.out rfl
     go_wp2_with fail
     go_ret
     exact⟨rfl,HB1.out⟩
   | true=>
     go_wp2_with fail
     go_roundw
     case rel=>exact⟨j+1,by go_num,by omega,(fun q g1 g2 hq=>by
      by_cases he:q=j
      ·subst he
       have:=HEq.out (by first | rfl | trivial)
       rw[hxx.out,hyy.out] at this
       exact this
      ·exact HQ.out q g1 g2 (by omega)),HB1⟩
     case measure=>simp;omega
  ·have hlt':¬(j:Int)<(N:Int):=by omega
   have hr:R=true:=b7V hR.out (List.ext_getElem (by rw[<-hN.out,<-hN'.out]) (fun q g1 g2=>HQ.out q g1 g2 (by have:=hN.out;omega)))
   subst hr
   go_wp2_with fail
   go_ret
   exact⟨rfl,HB.out⟩
set_option maxHeartbeats 4000000 in
theorem a9I (t:Co)(ih:∀ x,x∈t.parts->b6V 55 x):b6V 55 t:=by
 intro b v v' w R hR0 hs hs'
 have hR:=a0a hR0
 obtain⟨ad,cap,rfl,hc1,hc2⟩:=hs.parts.shape
 obtain⟨ad',cap',rfl,hc1',hc2'⟩:=hs'.parts.shape
 obtain⟨N,hN⟩:∃ N,Hid (N=t.parts.length):=⟨_,rfl⟩
 obtain⟨N',hN'⟩:∃ N,Hid (N=b.parts.length):=⟨_,rfl⟩
 obtain⟨X0,X1,XB⟩:=a0e w 30 30 (coL t (.slice ad t.parts.length cap)) (coL b (.slice ad' b.parts.length cap'))
 have HQ:Hid (t.op=b.op->t.n=b.n->t.m=b.m->Calls Tryz.prog 126 #[.slice ad t.parts.length cap,.slice ad' b.parts.length cap',b4H] ((w.alloc (.cells (coL t (.slice ad t.parts.length cap)).toArray 30)).alloc (.cells (coL b (.slice ad' b.parts.length cap')).toArray 30)) fun e w'=>e=.returned (.bool R)/\Below w.heap.size w w'):=fun h0 h1 h2=>
  (b1H t.parts b.parts ih _ _ _ R ⟨fun h=>(Co.same.1 (hR0.1 h)).2.2.2,fun h=>hR0.2 (Co.same.2 ⟨h0,h1,h2,h⟩)⟩ (hs.parts.next XB) (hs'.parts.next XB)).mono fun e w' h=>⟨h.1,a0b XB h.2 XB.size⟩
 have BB:=a0a XB
 rw[<-hN.out,<-hN'.out] at *
 clear hs hs' ih X0 X1 XB hR0
 by_cases ho:t.op=b.op
 case neg=>
  have hr:R=false:=a2j hR.out (fun e=>ho (by rw[e]))
  have k0:(t.op != b.op)=true:=by simpa using ho
  subst hr
  go_enter Tryz.func55,Tryz.ntmps55
  go_wp2_with fail
  go_ret
  exact⟨rfl,BB.out⟩
 have k0:(t.op != b.op)=false:=by simpa using ho
 have HO:=a0a ho
 clear ho
 by_cases hn:t.n=b.n
 case neg=>
  have hr:R=false:=a2j hR.out (fun e=>hn (by rw[e]))
  have k1:(t.n != b.n)=true:=by simpa using hn
  subst hr
  go_enter Tryz.func55,Tryz.ntmps55
  go_wp2_with fail
  go_ret
  exact⟨rfl,BB.out⟩
 have k1:(t.n != b.n)=false:=by simpa using hn
 have HN:=a0a hn
 clear hn
 by_cases hm:t.m=b.m
 case neg=>
  have hr:R=false:=a2j hR.out (fun e=>hm (by rw[e]))
  have k2:(t.m != b.m)=true:=by simpa using hm
  subst hr
  go_enter Tryz.func55,Tryz.ntmps55
  go_wp2_with fail
  go_ret
  exact⟨rfl,BB.out⟩
 have k2:(t.m != b.m)=false:=by simpa using hm
 have HC:=a0a (HQ.out HO.out HN.out hm)
 clear hm HQ
 go_enter Tryz.func55,Tryz.ntmps55
 go_wp2_with fail
 refine Calls.mono HC.out ?_
 rintro e w1 ⟨rfl,b1⟩
 go_wp2_with fail
 go_ret
 exact⟨rfl,b1⟩
theorem b6D (t:Co):b6V 55 t:=by
 induction t using Co.ind with
 | h t ih=>exact a9I t ih
end Go.Proofs.YtkbmgloilckdhaaGreatDoor
