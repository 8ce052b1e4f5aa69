import Derived.Test.YtkbmgloilckdhaaGreatDoorMgP
import Derived.Test.YtkbmgloilckdhaaGreatDoorMgM
import Derived.Deep.DeepAppendWide
namespace Go.Proofs.YtkbmgloilckdhaaGreatDoor
open Go.RowKit
def a4I (g:Co×Co):List Co:=[g.1,g.2]
def a0S (p:PlP):List Co:=(p.gs.map a4I).flatten++[p.fin]
theorem a2k {B:Nat}{w W w':World}{v:Value}{n size:Nat}{e:TypeId}{xs:List Value}(h:Below B w W)(hown:W.ownsRow B e size v n xs)(hg:W.grownBy w' v.ownBlock)(hB:B<=W.heap.size):Below B w w':=
 h.trans ⟨hg.os,hg.tape,hg.output,hg.size,fun k hk=>hg.block k (by omega) (fun e=>by have:=hown.lt k e.symm;omega)⟩
set_option maxHeartbeats 2000000 in
set_option maxRecDepth 20000 in
theorem a6j (p:PlP)(v:PlV)(w:World)(hs:a3c w p v)(hL:p.gs.length*96<=140737488355328):Calls Tryz.prog 12 #[plV p v] w fun e w'=>∃ u,e=.returned u/\CAt w' u (a0S p)/\Below w.heap.size w w':=by
 have HG:=a0a hs.gs
 have HFi:=a0a hs.fi
 obtain⟨a1,c1,a2,c2,a3,c3,a4,c4,a5,c5,rfl,g1,g2,g3,g4⟩:=hs.shapes
 dsimp only at HG HFi
 obtain⟨i0,hi,hz0,hz1,hz2⟩:=a2D
 have X0:=a0a (Box.new w (plL p ⟨.slice a1 p.mets.length c1,.slice a2 p.wins.length c2,.slice a3 p.crons.length c3,.slice a4 p.gs.length c4,.slice a5 p.fin.parts.length c5⟩) 32)
 have B0:=a0a ((Below.refl w.heap.size w).alloc (Nat.le_refl _) (.cells (plL p ⟨.slice a1 p.mets.length c1,.slice a2 p.wins.length c2,.slice a3 p.crons.length c3,.slice a4 p.gs.length c4,.slice a5 p.fin.parts.length c5⟩).toArray 32))
 obtain⟨N,hN⟩:∃ N,Hid (N=p.gs.length):=⟨_,rfl⟩
 rw[<-hN.out] at X0 B0 hL g4 ⊢
 have HC:=a0a (show a0S p=(p.gs.map a4I).flatten++[p.fin] from rfl)
 generalize a0S p=C at *
 generalize p.gs=gs at *
 clear hs g1 g2 g3
 go_enter Tryz.func12,Tryz.ntmps12
 go_wp2_with fail
 generalize hw0:w.alloc _=w0 at *
 clear hw0
 go_loopw [3,4] (fun l i wr=>∃ (k:Nat) (xs:List (Co×Value)),i=.int .i64 (k:Nat)/\k<=N/\Hid (xs.length=2*k)/\Hid (xs.map (·.1)=((gs.take k).map a4I).flatten)/\Hid (wr.ownsRow w0.heap.size 30 4 l xs.length (flC xs))/\Hid (∀ x,x∈xs->a0m w x.1 x.2)/\Hid (Below w0.heap.size w0 wr)) (fun _ i _=>match i with | .int _ p=>((N:Int)-p).toNat | _=>0)
 case atStart=>exact⟨0,[],rfl,by omega,a0a rfl,a0a rfl,World.ownsRow_nil _ _ _ _,(fun x hx=>by cases hx),Below.refl _ _⟩
 case round=>
  obtain⟨k,xs,rfl,hk,HXL,HX,HO,HXS,HB⟩:=hrel
  have HBS:=a0a HB.out.size
  have HBw:=a0a (a0b B0.out HB.out B0.out.size)
  have X:=X0.out.next HB.out
  have x9:=X.cell 9 _ rfl
  have xl:=X.lt
  by_cases hlt:k<N
  ·have hlt':(k:Int)<(N:Int):=by omega
   have hl1:k<gs.length:=by rw[<-hN.out];exact hlt
   obtain⟨b,off,cap',hv,hle,-,hbl,hx⟩:=HG.out.open (by omega)
   simp only[Value.slice.injEq] at hv
   obtain⟨rfl,-,rfl⟩:=hv
   obtain⟨u1,u2,f1,f2,s1,s2⟩:=hx k hl1
   have y0:=a0d HBw.out f1.c0
   have y1:=a0d HBw.out f1.c1
   have y2:=a0d HBw.out f1.c2
   have y3:=a0d HBw.out f1.c3
   have HT:Hid (((gs.take (k+1)).map a4I).flatten=((gs.take k).map a4I).flatten++[gs[k].1,gs[k].2]):=by
    show _=_
    rw[List.take_succ_eq_append_getElem hl1]
    simp only[List.map_append,List.flatten_append,List.map_cons,List.map_nil,List.flatten_cons,List.flatten_nil,List.append_nil]
    rfl
   have HF2:=a0a f2
   have S1:=a0a s1
   have S2:=a0a s2
   obtain⟨au,cu,rfl,-,-⟩:=s1.parts.shape
   obtain⟨av,cv,rfl,-,-⟩:=s2.parts.shape
   have lbr:b<wr.heap.size:=Nat.lt_of_lt_of_le hbl HBw.out.size
   clear hx f1 f2 s1 s2
   generalize gs[k]=g at *
   clear hl1
   obtain⟨⟨k1,n1,m1,ps1⟩,⟨k2,n2,m2,ps2⟩⟩:=g
   dsimp only at *
   generalize ps1.length=L1 at *
   generalize ps2.length=L2 at *
   go_wp2_with (at_builtin;refine wpList_append_own_wide _ rfl _ _ 28 rfl w0.heap.size 30 i0 (coV ⟨0,0,0,[]⟩ (.slice none 0 0)) 4 48 Tryz.underlying28 hi hz0 hz1 hz2 rfl (by decide) _ _ _ rfl (HO.out.alloc _) ⟨_,0,none⟩ 1 1 [.int .i64 k1,.int .i64 n1,.int .i64 m1,.slice au L1 cu] rfl rfl (by first | exact a1q _ _ _ _ _ _ | (intro jj u hu;simpa using a1q _ _ _ _ _ _ jj u hu)) (by intro u hu;simp at hu;rcases hu with rfl | rfl | rfl | rfl<;>rfl) (by unfold maxLen;have:=HXL.out;omega) (by have:=HXL.out;omega) (by have:=HBS.out;simp;omega) ?_)
   intro v1 w1 ho1 hg1 _
   have B1:=a0a (a2k (HB.out.alloc HB.out.size (.cells #[.int .i64 k1,.int .i64 n1,.int .i64 m1,.slice au L1 cu] 30)) (HO.out.alloc _) hg1 (by have:=HB.out.size;simp;omega))
   have O1:Hid (w1.ownsRow w0.heap.size 30 4 v1 (xs.length+1) (flC (xs++[((⟨k1,n1,m1,ps1⟩:Co),Value.slice au L1 cu)]))):=by rw[a4D];exact ho1
   have B1w:=a0a (a0b B0.out B1.out B0.out.size)
   have X1:=X0.out.next B1.out
   have z9:=X1.cell 9 _ rfl
   have zl:=X1.lt
   have q0:=a0d B1w.out HF2.out.c0
   have q1:w1.cell? ⟨b,off+k*8+5,none⟩=_:=a0d B1w.out HF2.out.c1
   have q2:w1.cell? ⟨b,off+k*8+6,none⟩=_:=a0d B1w.out HF2.out.c2
   have q3:w1.cell? ⟨b,off+k*8+7,none⟩=_:=a0d B1w.out HF2.out.c3
   have lb1:b<w1.heap.size:=Nat.lt_of_lt_of_le hbl B1w.out.size
   clear ho1 hg1 X1 X x9 xl y0 y1 y2 y3 HO
   replace HBS:=a0a B1.out.size
   go_wp2_with (at_builtin;refine wpList_append_own_wide _ rfl _ _ 28 rfl w0.heap.size 30 i0 (coV ⟨0,0,0,[]⟩ (.slice none 0 0)) 4 48 Tryz.underlying28 hi hz0 hz1 hz2 rfl (by decide) _ _ _ rfl (O1.out.alloc _) ⟨_,0,none⟩ 1 1 [.int .i64 k2,.int .i64 n2,.int .i64 m2,.slice av L2 cv] rfl rfl (by first | exact a1q _ _ _ _ _ _ | (intro jj u hu;simpa using a1q _ _ _ _ _ _ jj u hu)) (by intro u hu;simp at hu;rcases hu with rfl | rfl | rfl | rfl<;>rfl) (by unfold maxLen;have:=HXL.out;omega) (by have:=HXL.out;omega) (by have:=HBS.out;simp;omega) ?_)
   intro v2 w2 ho2 hg2 _
   have B2:=a0a (a2k (B1.out.alloc B1.out.size (.cells #[.int .i64 k2,.int .i64 n2,.int .i64 m2,.slice av L2 cv] 30)) (O1.out.alloc _) hg2 (by have:=B1.out.size;simp;omega))
   have O2:Hid (w2.ownsRow w0.heap.size 30 4 v2 (xs++[((⟨k1,n1,m1,ps1⟩:Co),Value.slice au L1 cu),((⟨k2,n2,m2,ps2⟩:Co),Value.slice av L2 cv)]).length (flC (xs++[((⟨k1,n1,m1,ps1⟩:Co),Value.slice au L1 cu),((⟨k2,n2,m2,ps2⟩:Co),Value.slice av L2 cv)]))):=by
    have e:xs++[((⟨k1,n1,m1,ps1⟩:Co),Value.slice au L1 cu),((⟨k2,n2,m2,ps2⟩:Co),Value.slice av L2 cv)]=(xs++[((⟨k1,n1,m1,ps1⟩:Co),Value.slice au L1 cu)])++[((⟨k2,n2,m2,ps2⟩:Co),Value.slice av L2 cv)]:=by simp
    rw[e,a4D]
    have e2:((xs++[((⟨k1,n1,m1,ps1⟩:Co),Value.slice au L1 cu)])++[((⟨k2,n2,m2,ps2⟩:Co),Value.slice av L2 cv)]).length=xs.length+1+1:=by simp
    rw[e2]
    exact ho2
   have H3:Hid ((xs++[((⟨k1,n1,m1,ps1⟩:Co),Value.slice au L1 cu),((⟨k2,n2,m2,ps2⟩:Co),Value.slice av L2 cv)]).map (·.1)=((gs.take (k+1)).map a4I).flatten):=by
    show _=_
    rw[HT.out,<-HX.out,List.map_append];rfl
   have H4:Hid (∀ x,x∈xs++[((⟨k1,n1,m1,ps1⟩:Co),Value.slice au L1 cu),((⟨k2,n2,m2,ps2⟩:Co),Value.slice av L2 cv)]->a0m w x.1 x.2):=fun x hx=>by
    rcases List.mem_append.1 hx with h | h
    ·exact HXS.out x h
    ·simp only[List.mem_cons,List.not_mem_nil,or_false] at h
     rcases h with rfl | rfl
     ·exact S1.out
     ·exact S2.out
   clear ho2 hg2 z9 zl q0 q1 q2 q3 O1
   go_wp2_with fail
   go_roundw
   case rel=>exact⟨k+1,_,by go_num,by omega,a0a (by have:=HXL.out;simp;omega),H3.out,O2.out,H4.out,B2.out⟩
   case measure=>simp;omega
  ·have hlt':¬(k:Int)<(N:Int):=by omega
   have hkN:k=N:=by omega
   have e1:gs.take k=gs:=by rw[hkN,hN.out];exact List.take_length
   rw[e1] at HX
   have u0:=X.cell 10 _ rfl
   have u1:=X.cell 11 _ rfl
   have u2:=X.cell 12 _ rfl
   have u3:=X.cell 13 _ rfl
   go_wp2_with (at_builtin;refine wpList_append_own_wide _ rfl _ _ 28 rfl w0.heap.size 30 i0 (coV ⟨0,0,0,[]⟩ (.slice none 0 0)) 4 48 Tryz.underlying28 hi hz0 hz1 hz2 rfl (by decide) _ _ _ rfl (HO.out.alloc _) ⟨_,0,none⟩ 1 1 [.int .i64 p.fin.op,.int .i64 p.fin.n,.int .i64 p.fin.m,.slice a5 p.fin.parts.length c5] rfl rfl (by first | exact a1q _ _ _ _ _ _ | (intro jj u hu;simpa using a1q _ _ _ _ _ _ jj u hu)) (by intro u hu;simp at hu;rcases hu with rfl | rfl | rfl | rfl<;>rfl) (by unfold maxLen;have:=HXL.out;omega) (by have:=HXL.out;omega) (by have:=HBS.out;simp;omega) ?_)
   intro v1 w1 ho1 hg1 _
   have B1:=a0a (a2k (HB.out.alloc HB.out.size (.cells #[.int .i64 p.fin.op,.int .i64 p.fin.n,.int .i64 p.fin.m,.slice a5 p.fin.parts.length c5] 30)) (HO.out.alloc _) hg1 (by have:=HB.out.size;simp;omega))
   have B1w:=a0a (a0b B0.out B1.out B0.out.size)
   have HA:Hid (CAt w1 v1 C):=by
    have O1:w1.ownsRow w0.heap.size 30 4 v1 (xs++[(p.fin,Value.slice a5 p.fin.parts.length c5)]).length (flC (xs++[(p.fin,Value.slice a5 p.fin.parts.length c5)])):=by
     rw[a4D,List.length_append];exact ho1
    have:=a9H O1 (fun x hx=>by
     rcases List.mem_append.1 hx with h | h
     ·exact(HXS.out x h).next B1w.out
     ·simp only[List.mem_cons,List.not_mem_nil,or_false] at h
      subst h
      exact HFi.out.next B1w.out)
    rw[List.map_append,HX.out] at this
    rw[HC.out]
    exact this
   clear ho1 hg1 u0 u1 u2 u3 x9 X
   go_wp2_with fail
   go_ret
   exact⟨_,rfl,HA.out,B1w.out⟩
theorem a7N (p:PlP):a2S p=((a0S p).map a0l).flatten:=by
 unfold a2S a0S
 rw[List.map_append,List.flatten_append]
 congr 1
 ·generalize p.gs=gs
  induction gs with
  | nil=>rfl
  | cons g r ih=>simp only[List.map_cons,List.flatten_cons,List.map_append,List.flatten_append,ih];simp[a4I,a2u]
 ·simp
theorem a5Z (gs:List (Co×Co)):((gs.map a4I).flatten).length=2*gs.length:=by
 induction gs with
 | nil=>rfl
 | cons g r ih=>simp only[List.map_cons,List.flatten_cons,List.length_append,List.length_cons,ih];simp[a4I];omega
theorem a7s (p:PlP):(a0S p).length=2*p.gs.length+1:=by
 unfold a0S
 rw[List.length_append,a5Z]
 rfl
def a4d (L i:Nat):Int:=if i%2=0/\i+1<L then 2 else 3
theorem b4w:∀ (gs:List (Co×Co)) (rest:List Co) (j:Nat) (hj:j<gs.length),(((gs.map a4I).flatten++rest)[2*j]? = some gs[j].1)/\(((gs.map a4I).flatten++rest)[2*j+1]? = some gs[j].2)
 | g::r,rest,0,_=>⟨rfl,rfl⟩
 | g::r,rest,j+1,h=>by
   have:=b4w r rest j (by simpa using h)
   exact⟨by rw[show 2*(j+1)=2*j+1+1 by omega];exact this.1,by rw[show 2*(j+1)+1=2*j+1+1+1 by omega];exact this.2⟩
theorem a6Y (p:PlP):a1J p=true↔∀ i (h:i<(a0S p).length),soP p (a0S p)[i]=a4d (a0S p).length i:=by
 have hl:=a7s p
 have hfin:(a0S p)[2*p.gs.length]? = some p.fin:=by
  unfold a0S
  rw[List.getElem?_append_right (by rw[a5Z];omega),a5Z]
  simp
 have at2:=fun j hj=>b4w p.gs [p.fin] j hj
 unfold a1J
 rw[Bool.and_eq_true,List.all_eq_true]
 constructor
 ·rintro⟨hg,hf⟩ i hi
  rw[hl] at hi
  have hf2:=of_decide_eq_true hf
  by_cases hi2:i=2*p.gs.length
  ·subst hi2
   have e:(a0S p)[2*p.gs.length]=p.fin:=by
    rw[List.getElem?_eq_getElem (by omega)] at hfin
    exact Option.some.inj hfin
   rw[e,hf2,hl,a4d,if_neg (by omega)]
  ·have hj:i/2<p.gs.length:=by omega
   obtain⟨a1,a2⟩:=at2 (i/2) hj
   have hgg:=hg _ (List.getElem_mem hj)
   rw[Bool.and_eq_true] at hgg
   have h1:=of_decide_eq_true hgg.1
   have h2:=of_decide_eq_true hgg.2
   rcases Nat.mod_two_eq_zero_or_one i with hm | hm
   ·have ei:2*(i/2)=i:=by omega
    rw[ei] at a1
    have e:(a0S p)[i]=p.gs[i/2].1:=by
     have a1':(a0S p)[i]? = some p.gs[i/2].1:=a1
     rw[List.getElem?_eq_getElem (by omega)] at a1'
     exact Option.some.inj a1'
    rw[e,h1,hl,a4d,if_pos (by omega)]
   ·have ei:2*(i/2)+1=i:=by omega
    rw[ei] at a2
    have e:(a0S p)[i]=p.gs[i/2].2:=by
     have a2':(a0S p)[i]? = some p.gs[i/2].2:=a2
     rw[List.getElem?_eq_getElem (by omega)] at a2'
     exact Option.some.inj a2'
    rw[e,h2,a4d,if_neg (by omega)]
 ·intro h
  refine⟨fun g hgm=>?_,?_⟩
  ·obtain⟨j,hj,rfl⟩:=List.getElem_of_mem hgm
   obtain⟨a1,a2⟩:=at2 j hj
   have h1:=h (2*j) (by omega)
   have h2:=h (2*j+1) (by omega)
   have e1:(a0S p)[2*j]=p.gs[j].1:=by
    have a1':(a0S p)[2*j]? = some p.gs[j].1:=a1
    rw[List.getElem?_eq_getElem (by omega)] at a1'
    exact Option.some.inj a1'
   have e2:(a0S p)[2*j+1]=p.gs[j].2:=by
    have a2':(a0S p)[2*j+1]? = some p.gs[j].2:=a2
    rw[List.getElem?_eq_getElem (by omega)] at a2'
    exact Option.some.inj a2'
   rw[e1,hl,a4d,if_pos (by omega)] at h1
   rw[e2,a4d,if_neg (by omega)] at h2
   rw[Bool.and_eq_true]
   exact⟨decide_eq_true h1,decide_eq_true h2⟩
  ·have h1:=h (2*p.gs.length) (by omega)
   have e:(a0S p)[2*p.gs.length]=p.fin:=by
    rw[List.getElem?_eq_getElem (by omega)] at hfin
    exact Option.some.inj hfin
   rw[e,hl,a4d,if_neg (by omega)] at h1
   exact decide_eq_true h1
end Go.Proofs.YtkbmgloilckdhaaGreatDoor
