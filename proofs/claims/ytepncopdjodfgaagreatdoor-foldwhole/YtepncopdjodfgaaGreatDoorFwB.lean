import Derived.Test.YtepncopdjodfgaaGreatDoorFwA
import Derived.Test.YtepncopdjodfgaaGreatDoorFoR
namespace Go.Proofs.YtepncopdjodfgaaGreatDoor
open Go.RowKit
theorem step_whole {ops:Array Oper}{o:Oper}{a:Act}{w:World}{K:Act->World->Prop}{Q:Exit->Act->World->Prop}{E:Prop}(hgd:o.guard=none){t:Co}{E0:EnvP}(C:WhC E0 t)(v v1 v2:Value)(hs:CSits w t v)(he0:EnvAt w E0 v1 v2)
 (he:(execOp a.eval o).run Tryz.prog w=.ok (.enter 36 #[coV t v,envV E0 v1 v2]) w)
 (hK:∀ ad c w',CSP (fun b=>w.heap.size<=b) w' (wholeF E0 t) (.slice ad (wholeF E0 t).parts.length c)->Below w.heap.size w w'->K (a.put o.dst (coV (wholeF E0 t) (.slice ad (wholeF E0 t).parts.length c))) w') :
 if Region.wanted o (yielded ops a.tmps)=true then Oper.wp Tryz.prog o a w K Q else E:=by
 have hwd:Region.wanted o (yielded ops a.tmps)=true:=by simp[Region.wanted,hgd]
 rw[if_pos hwd]
 unfold Oper.wp
 rw[he,Oper.upon_enter]
 refine(C v v1 v2 w hs he0).mono fun e w' h=>?_
 obtain⟨u,rfl,h1,h3⟩:=h
 obtain⟨ad,c,rfl,-,-⟩:=h1.parts.shape
 exact hK ad c w' h1 h3
set_option maxHeartbeats 1000000 in
set_option maxRecDepth 20000 in
theorem whole_step (E:EnvP)(t:Co)(hop:t.op≠3/\t.op≠4/\t.op≠5)(hln:t.parts.length<=8192)(ih:∀ x,x∈t.parts->WhC E x):WhC E t:=by
 intro v v1 v2 w hs he
 have HIh:=chid ih
 have HL:=chid hs.parts
 have HS:=chid hs
 have HE:=chid he
 obtain⟨a1,c1,a2,c2,rfl,rfl⟩:=he.shape
 obtain⟨ad,cap,rfl,k1,k2⟩:=hs.parts.shape
 obtain⟨i0,hi,hz0,hz1,hz2⟩:=info_core'
 obtain⟨N,hN⟩:∃ N,Hid (N=t.parts.length):=⟨_,rfl⟩
 have HD:Hid (wholeF E t=⟨t.op,t.n,t.m,t.parts.map (wholeF E)⟩):=chid (by rw[wholeF_eq,if_neg hop.2.1,if_neg hop.2.2,if_neg hop.1])
 rw[<-hN.out] at k1 hln HL HS ⊢
 have o3:(t.op==3)=false:=by simpa using hop.1
 have o4:(t.op==4)=false:=by simpa using hop.2.1
 have o5:(t.op==5)=false:=by simpa using hop.2.2
 obtain⟨Y0,Y1,Y2,Y3,B0⟩:=fo_four w 30 40 30 30 (coL t (.slice ad N cap)) [.int .i64 E.rep,.slice a1 E.wins.length c1,.slice a2 E.crons.length c2] [.int .i64 0,.int .i64 0,.int .i64 0,.slice none 0 0] [.int .i64 t.op,.int .i64 t.n,.int .i64 t.m,.slice none 0 0]
 have HY0:=chid Y0
 have HYE:=chid Y1
 have HY1:=chid Y2
 have HB0:=chid B0
 have HR0:Hid (RfAt (w.heap.size+1+1+1+1) (w.heap.size+1+1+1) t (.slice none 0 0) [] ((((w.alloc (.cells (coL t (.slice ad N cap)).toArray 30)).alloc (.cells [.int .i64 E.rep,.slice a1 E.wins.length c1,.slice a2 E.crons.length c2].toArray 40)).alloc (.cells [.int .i64 0,.int .i64 0,.int .i64 0,.slice none 0 0].toArray 30)).alloc (.cells [.int .i64 t.op,.int .i64 t.n,.int .i64 t.m,.slice none 0 0].toArray 30))):=chid ⟨Y3,FRow.nil _ _,by omega⟩
 have H3:Hid (w.heap.size+1+1+1+1=((((w.alloc (.cells (coL t (.slice ad N cap)).toArray 30)).alloc (.cells [.int .i64 E.rep,.slice a1 E.wins.length c1,.slice a2 E.crons.length c2].toArray 40)).alloc (.cells [.int .i64 0,.int .i64 0,.int .i64 0,.slice none 0 0].toArray 30)).alloc (.cells [.int .i64 t.op,.int .i64 t.n,.int .i64 t.m,.slice none 0 0].toArray 30)).heap.size):=chid (by simp)
 clear hs he ih hop Y0 Y1 Y2 Y3 B0
 go_enter Tryz.func36,Tryz.ntmps36
 go_wp2_with fail
 generalize hW1:(((w.alloc _).alloc _).alloc _).alloc _=w1 at *
 clear hW1
 go_loopw [7] (fun i wr=>∃ (k:Nat) (xs:List (Co×Value)) (av:Option Addr) (cv:Nat),i=.int .i64 (k:Nat)/\k<=N/\Hid (xs.length=k)/\Hid (xs.map (·.1)=(t.parts.take k).map (wholeF E))/\Hid (RfAt (w.heap.size+1+1+1+1) (w.heap.size+1+1+1) t (.slice av k cv) xs wr)/\Hid (Below (w.heap.size+1+1+1) w1 wr)) (fun i _=>match i with | .int _ p=>((N:Int)-p).toNat | _=>0)
 case atStart=>exact⟨0,[],none,0,rfl,by omega,chid rfl,chid rfl,HR0,chid (Below.refl _ _)⟩
 case round=>
  obtain⟨k,xs,av,cv,rfl,hk,HXl,HXs,HRw,HBr⟩:=hrel
  have HBw:Hid (Below w.heap.size w wr):=chid (HB0.out.trans (HBr.out.mono (by omega)))
  have hwr:Hid (w.heap.size+1+1+1+1<=wr.heap.size):=chid (by have:=HBr.out.size;have:=H3.out;omega)
  have Y0:=HY0.out.later HBr.out (by omega)
  have YE:=HYE.out.later HBr.out (by omega)
  have v0:=YE.cell 0 _ rfl
  have v1:=YE.cell 1 _ rfl
  have v2:=YE.cell 2 _ rfl
  have vl:=YE.lt
  have x3:=Y0.cell 3 _ rfl
  have xl:=Y0.lt
  by_cases hlt:k<N
  ·have hlt':(k:Int)<(N:Int):=by omega
   have hl1:k<t.parts.length:=by rw[<-hN.out];exact hlt
   obtain⟨b,off,cap',hv,-,-,hbl,hx⟩:=HL.out.open (by omega)
   simp only[Value.slice.injEq] at hv
   obtain⟨rfl,-,rfl⟩:=hv
   obtain⟨u,h6,hu⟩:=hx k hl1
   have y0:=keepc HBw.out h6.c0
   have y1:=keepc HBw.out h6.c1
   have y2:=keepc HBw.out h6.c2
   have y3:=keepc HBw.out h6.c3
   have lbr:b<wr.heap.size:=World.block_lt_of_cell? wr _ y0
   have HCx:=chid (HIh.out _ (List.getElem_mem hl1))
   have HSx:=chid (hu.next HBw.out)
   have HEx:=chid (HE.out.next HBw.out)
   have HTk:Hid (t.parts.take (k+1)=t.parts.take k++[t.parts[k]]):=chid (List.take_succ_eq_append_getElem hl1)
   obtain⟨au,cu,rfl,-,-⟩:=hu.parts.shape
   clear h6 hu hx
   generalize t.parts[k]=x at *
   have o3:=HRw.out.box.cell 3 _ rfl
   have ol:=HRw.out.box.lt
   have of3:=HRw.out.box.free 3 (by simp)
   have hkx:Hid (k=xs.length):=HXl.out.symm
   go_wp2_with fail
   go_region_law (first
    | (refine step_whole rfl HCx.out _ _ _ (HSx.out.next (Below.refl _ _).drew) (HEx.out.next (Below.refl _ _).drew) (by first | rfl | go_simp) ?_;intro a4 c4 w60 su60 b60;have C60:=chid ((HRw.out.next (Below.refl _ _).drew).next b60);have S60:=chid su60;have c60:=C60.out.box.cell 3 _ rfl;have l60:=C60.out.box.lt;have z60:wr.heap.size<=w60.heap.size:=b60.size;have Z60:=chid z60;have B60:Hid (Below wr.heap.size wr w60):=chid ⟨b60.os,b60.tape,b60.output,b60.size,b60.block⟩;clear b60 su60 z60)
    | (refine step_append_lies _ rfl _ _ 28 rfl (w.heap.size+1+1+1+1) 30 i0 (coV ⟨0,0,0,[]⟩ (.slice none 0 0)) 4 48 Tryz.underlying28 hi hz0 hz1 hz2 rfl (by decide) (.slice av k cv) xs.length (flC xs) (by simp[Act.eval]) (C60.out.row.own.alloc _) ⟨w60.heap.size,0,none⟩ 1 1 (coL (wholeF E x) (.slice a4 (wholeF E x).parts.length c4)) (by simp[Act.eval]) rfl (ce_four_new _ _ _ _ _ _) (by intro u hu;simp at hu;rcases hu with rfl | rfl | rfl | rfl<;>rfl) (by decide) (by have:=HXl.out;unfold maxLen;omega) (by have:=HXl.out;omega) (by have:=Z60.out;have:=hwr.out;simp;omega) _ rfl ?_;intro g1 cap1 w61 o1 k1 a1 l1;have BA:=(Below.refl w60.heap.size w60).alloc (Nat.le_refl _) (.cells #[.int .i64 (wholeF E x).op,.int .i64 (wholeF E x).n,.int .i64 (wholeF E x).m,.slice a4 (wholeF E x).parts.length c4] 30);have A1:=chid (RfAt.grow (x:=wholeF E x) (C60.out.next BA) ((S60.out.weak (fun b _ hb=>⟨by have:=hwr.out;simp at hb;omega,fun e=>by have h:=(HRw.out.row.own.lt b e).2;simp at hb;omega⟩)).next BA) o1 k1 a1);have K61:=chid k1;have d60:=A1.out.1.free 3 (by simp);have e60:=A1.out.1.cell 3 _ rfl;have m60:=A1.out.1.lt;clear o1 k1 a1 BA))
   all_goals go_wp2_with fail
   all_goals (
    refine⟨⟨k+1,xs++[(wholeF E x,Value.slice a4 (wholeF E x).parts.length c4)],some ⟨g1,0,none⟩,cap1,by simp,by omega,chid (by rw[List.length_append,HXl.out];rfl),chid (by rw[HTk.out,List.map_append,List.map_append,HXs.out];rfl),?_,?_⟩,by simp;omega⟩
    ·rw[show k+1=xs.length+1 from by rw[HXl.out]]
     exact chid A1.out.2
    ·have h1:=HBr.out.trans (B60.out.mono (by have:=hwr.out;omega))
     have h2:=h1.alloc (by have:=Z60.out;have:=hwr.out;omega) (.cells #[.int .i64 (wholeF E x).op,.int .i64 (wholeF E x).n,.int .i64 (wholeF E x).m,.slice a4 (wholeF E x).parts.length c4] 30)
     have h3:=h2.trans ⟨K61.out.os,K61.out.tape,K61.out.output,K61.out.size,fun q hq=>K61.out.block q (by have:=Z60.out;have:=hwr.out;simp;omega) (fun e=>by have:=(C60.out.row.own.lt q e.symm).1;omega)⟩
     exact chid (h3.setCell (p:=⟨w.heap.size+1+1+1,3,none⟩) (Nat.le_refl _) _))
  ·have hlt':¬(k:Int)<(N:Int):=by omega
   obtain rfl:k=N:=by omega
   have hxs:xs.map (·.1)=t.parts.map (wholeF E):=by
    have:=HXs.out
    rw[hN.out,List.take_length] at this
    exact this
   have hCA:=HRw.out.row.done
   rw[hxs] at hCA
   have HFit:=HS.out.fit
   have hCS:CSP (fun b=>w.heap.size+1+1+1+1<=b) wr (wholeF E t) (.slice av k cv):=by
    rw[HD.out]
    exact csp_iff.2 ⟨⟨HFit.k,HFit.n,HFit.m⟩,hCA⟩
   have HCS:=chid hCS
   have Y1:=HY1.out.later HBr.out (by omega)
   have y0:=Y1.cell 0 _ rfl
   have y1:=Y1.cell 1 _ rfl
   have y2:=Y1.cell 2 _ rfl
   have y3:=Y1.cell 3 _ rfl
   have g0:=Y1.free 0 (by simp)
   have g1:=Y1.free 1 (by simp)
   have g2:=Y1.free 2 (by simp)
   have g3:=Y1.free 3 (by simp)
   have yl:=Y1.lt
   have o0:=HRw.out.box.cell 0 _ rfl
   have o1:=HRw.out.box.cell 1 _ rfl
   have o2:=HRw.out.box.cell 2 _ rfl
   have o3:=HRw.out.box.cell 3 _ rfl
   have ol:=HRw.out.box.lt
   have TT:Hid (∀ (a0 a1 a2 a3:Value) (W:World),Turn [w.heap.size+1+1] W ((((W.setCell ⟨w.heap.size+1+1,0,none⟩ a0).setCell ⟨w.heap.size+1+1,1,none⟩ a1).setCell ⟨w.heap.size+1+1,2,none⟩ a2).setCell ⟨w.heap.size+1+1,3,none⟩ a3)):=fun a0 a1 a2 a3 W=>
    cturn_one (cturn_one (cturn_one (cturn_set W _ _ _) (cturn_set _ _ _ _)) (cturn_set _ _ _ _)) (cturn_set _ _ _ _)
   have hR:Hid (coV (wholeF E t) (.slice av k cv)=.agg #[.int .i64 t.op,.int .i64 t.n,.int .i64 t.m,.slice av k cv]):=chid (by rw[HD.out])
   clear HXs HXl HRw hCA hxs hCS HBr HIh HFit Y1 Y0 YE v0 v1 v2 vl
   go_wp2_with fail
   refine bodyPost_ret (v:=.agg #[.int .i64 t.op,.int .i64 t.n,.int .i64 t.m,.slice av k cv]) (by simp[results,Tryz.results36,go_sem, *]) rfl ?_
   refine⟨.slice av k cv,by rw[hR.out],?_,((((HBw.out.setCell (p:=⟨w.heap.size+1+1,0,none⟩) (by simp;omega) _).setCell (p:=⟨w.heap.size+1+1,1,none⟩) (by simp;omega) _).setCell (p:=⟨w.heap.size+1+1,2,none⟩) (by simp;omega) _).setCell (p:=⟨w.heap.size+1+1,3,none⟩) (by simp;omega) _)⟩
   exact CSP.keep (TT.out _ _ _ _ _).size (fun b hb hB=>⟨by omega,fun j=>cturn_cell (TT.out _ _ _ _ _) hb (by simp;omega)⟩) _ _ HCS.out
end Go.Proofs.YtepncopdjodfgaaGreatDoor
