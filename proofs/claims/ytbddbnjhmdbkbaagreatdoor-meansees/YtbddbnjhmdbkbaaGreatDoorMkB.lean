import Derived.Test.YtbddbnjhmdbkbaaGreatDoorMjB
import Derived.Test.YtbddbnjhmdbkbaaGreatDoorMhL
import Derived.Test.YtbddbnjhmdbkbaaGreatDoorMhN
import Derived.Test.YtbddbnjhmdbkbaaGreatDoorMjC
import Derived.Test.YtbddbnjhmdbkbaaGreatDoorMhM
namespace Go.Proofs.YtbddbnjhmdbkbaaGreatDoor
open Go.RowKit
theorem b0M:∀ (xs:List (Co×Value)) (n:Nat) (_:n<xs.length) (y:Co×Value),flC (xs.set n y)=((((flC xs).set (n*4) (.int .i64 y.1.op)).set (n*4+1) (.int .i64 y.1.n)).set (n*4+2) (.int .i64 y.1.m)).set (n*4+3) y.2
 | x::r,0,_,y=>by simp[flC]
 | x::r,n+1,h,y=>by
   have ih:=b0M r n (by simpa using h) y
   simp only[flC,List.set_cons_succ,List.map_cons,List.flatten_cons] at ih ⊢
   rw[ih]
   have e:∀ (a:List Value) (b:List Value) (j:Nat) (v:Value),(a++b).set (a.length+j) v=a++b.set j v:=fun a b j v=>by
    rw[List.set_append_right _ _ (by omega)];congr 2;omega
   have l4:(coL x.1 x.2).length=4:=rfl
   rw[show (n+1)*4=(coL x.1 x.2).length+n*4 by rw[l4];omega,e,Nat.add_assoc,e,Nat.add_assoc,e,Nat.add_assoc,e]
def a1I (W w:World)(g:Nat)(s:List (Int×Co)):Prop:=∃ xs:List (Co×Value),xs.length=256/\Box w g (flC xs)/\(∀ x,x∈xs->a0p W x.1 x.2) /\
 ∀ n (h:n<xs.length),(s.lookup (n:Int)=none->xs[n].1.op=0)/\∀ c,s.lookup (n:Int)=some c->xs[n].1=c/\c.op≠0
theorem a1I.next {W w w':World}{g:Nat}{s:List (Int×Co)}(h:a1I W w g s)(hb:Below w.heap.size w w'):a1I W w' g s:=by
 obtain⟨xs,h1,h2,h3,h4⟩:=h
 exact⟨xs,h1,h2.next hb,h3,h4⟩
theorem a1I.lt {W w:World}{g:Nat}{s:List (Int×Co)}(h:a1I W w g s):g<w.heap.size:=by
 obtain⟨xs,h1,h2,h3,h4⟩:=h
 exact h2.lt
def b2C (q:Co->Co->Bool)(W:World)(g:Nat)(l:List Co)(s:List (Int×Co))(w:World)(e:Ending)(w':World):Prop:=
 e=.returned (.bool (a0d (a0M q) l s).2)/\((a0d (a0M q) l s).2=true->a1I W w' g (a0d (a0M q) l s).1)/\a0h [g] w w'
def b7A (q:Co->Co->Bool)(W:World)(g:Nat)(t:Co):Prop:=∀ (s:List (Int×Co)) (v:Value) (w:World),a1I W w g s->Below W.heap.size W w->W.heap.size<=g->a0p W t v ->
 Calls Tryz.prog 57 #[coV t v,.slice (some ⟨g,0,none⟩) 256 256] w (b2C q W g (a0f t) s w)
set_option maxHeartbeats 4000000 in
set_option maxRecDepth 20000 in
theorem b3a (q:Co->Co->Bool)(hq:∀ a b,q a b=true↔a=b)(W:World)(g:Nat)(t:Co)(hD:b7E t)(ih:∀ x,x∈t.parts->b7A q W g x):b7A q W g t:=by
 intro s v w hH hb hg hs
 obtain⟨op,tn,tm,ps⟩:=t
 have HH:=a0a hH
 have HBw:=a0a hb
 have HS:=a0a hs
 have HPa:=a0a (show CAt W v ps from hs.parts)
 obtain⟨ad,cap,rfl,hc1,hc2⟩:=HPa.out.shape
 have HI:=a0a (show ∀ x,x∈ps->b7A q W g x from ih)
 have gl:=hH.lt
 obtain⟨N,hN⟩:∃ N,Hid (N=ps.length):=⟨_,rfl⟩
 rw[<-hN.out] at hc1 HPa HS ⊢
 have A:∀ o,Below w.heap.size w (w.alloc o):=fun o=>(ZD _ _).alloc (ZB _) _
 have Y0:=a0a (Box.new w [.int .i64 op,.int .i64 tn,.int .i64 tm,.slice ad N cap] 30)
 have HA:=a0a A
 clear A hH hb hs ih
 show Calls Tryz.prog 57 #[.agg #[.int .i64 op,.int .i64 tn,.int .i64 tm,.slice ad N cap],.slice (some ⟨g,0,none⟩) 256 256] w _
 by_cases h7:op=7
 ·obtain⟨hr,x,hps,hx0⟩:=hD h7
  dsimp only at h7 hr hps
  subst h7
  obtain⟨xs,hxl,hbx,hcs,hlk⟩:=HH.out
  obtain⟨n,rfl⟩:∃ n:Nat,tn=(n:Int):=⟨tn.toNat,by omega⟩
  have hn:n<xs.length:=by omega
  have hcell:=fun j u h=>hbx.cell (n*4+j) u (b0N xs n hn j u h)
  obtain⟨k1,k2⟩:=hlk n hn
  have hsx:=hcs _ (List.getElem_mem hn)
  have HXS:=a0a (And.intro hxl (And.intro hbx (And.intro hcs hlk)))
  clear hlk hbx hcs
  generalize hxn:xs[n]=X at *
  obtain⟨c,uv⟩:=X
  dsimp only at *
  obtain⟨ca,cc,rfl,-,-⟩:=hsx.parts.shape
  subst hps
  obtain⟨b,off,cap',hv,-,-,hbl,hx⟩:=HPa.out.open (by simp)
  simp only[Value.slice.injEq] at hv
  obtain⟨rfl,-,rfl⟩:=hv
  obtain⟨u,h6,hu⟩:=hx 0 (by simp)
  obtain⟨au,cu,rfl,-,-⟩:=hu.parts.shape
  dsimp only[List.getElem_cons_zero] at h6 hu
  have HU:=a0a hu
  have HC:=a0a hsx
  have r0:w.cell? ⟨g,n*4,none⟩=_:=hcell 0 _ rfl
  have r1:=hcell 1 _ rfl
  have r2:=hcell 2 _ rfl
  have r3:=hcell 3 _ rfl
  have y0:w.cell? ⟨b,off,none⟩=some (.int .i64 x.op):=by simpa using a0c HBw.out h6.c0
  have y1:w.cell? ⟨b,off+1,none⟩=some (.int .i64 x.n):=by simpa using a0c HBw.out h6.c1
  have y2:w.cell? ⟨b,off+2,none⟩=some (.int .i64 x.m):=by simpa using a0c HBw.out h6.c2
  have y3:w.cell? ⟨b,off+3,none⟩=some (.slice au x.parts.length cu):=by simpa using a0c HBw.out h6.c3
  have bl:b<w.heap.size:=ZA hbl HBw.out.size
  have HSm:=a0a (fun w' (hw':Below w.heap.size w w')=>b7f c x (.slice ca c.parts.length cc) (.slice au x.parts.length cu) w' (q c x) (hq c x) (a0p.next (a0p.next HC.out HBw.out) hw') (a0p.next (a0p.next HU.out HBw.out) hw'))
  have n1:(n:Int)<256:=by omega
  clear hcell hx h6 hu hsx hD
  obtain⟨w4,hw4⟩:∃ w4,Hid (w4=w.alloc (.cells #[.int .i64 7,.int .i64 (n:Int),.int .i64 tm,.slice (some ⟨b,off,none⟩) N cap] 30)):=⟨_,rfl⟩
  have B4:Hid (Below w.heap.size w w4):=by rw[hw4.out];exact HA.out _
  have Y4:Hid (Box w4 w.heap.size [.int .i64 7,.int .i64 (n:Int),.int .i64 tm,.slice (some ⟨b,off,none⟩) N cap]):=by rw[hw4.out];exact Y0.out
  replace r0:=a0c B4.out r0
  replace r1:=a0c B4.out r1
  replace r2:=a0c B4.out r2
  replace r3:=a0c B4.out r3
  replace y0:=a0c B4.out y0
  replace y1:=a0c B4.out y1
  replace y2:=a0c B4.out y2
  replace y3:=a0c B4.out y3
  have p1:=Y4.out.cell 1 _ rfl
  have p3:=Y4.out.cell 3 _ rfl
  have hN1:N=1:=hN.out
  subst hN1
  obtain⟨f,hf1,hf2⟩:=a7N w4
  have HF1:=a0a hf1
  have HF2:=a0a hf2
  have p1':=fun n=>a0c (hf1 n) p1
  have p3':=fun n=>a0c (hf1 n) p3
  have r0':=fun n=>a0c (hf1 n) r0
  have r1':=fun n=>a0c (hf1 n) r1
  have r2':=fun n=>a0c (hf1 n) r2
  have r3':=fun n=>a0c (hf1 n) r3
  have y0':=fun n=>a0c (hf1 n) y0
  have y1':=fun n=>a0c (hf1 n) y1
  have y2':=fun n=>a0c (hf1 n) y2
  have y3':=fun n=>a0c (hf1 n) y3
  clear hf1 hf2 HH Y0
  have PUT:Hid (∀ w6,Below w.heap.size w w6->Box w6 w.heap.size [.int .i64 7,.int .i64 (n:Int),.int .i64 tm,.slice (some ⟨b,off,none⟩) 1 cap]->((s.lookup (n:Int)=none)\/s.lookup (n:Int)=some x)->True):=fun _ _ _ _=>trivial
  clear PUT
  have hput:Hid (∀ w6,Below w.heap.size w w6->(s.lookup (n:Int)=none\/s.lookup (n:Int)=some x)->a1I W ((((w6.setCell ⟨g,n*4,none⟩ (.int .i64 x.op)).setCell ⟨g,n*4+1,none⟩ (.int .i64 x.n)).setCell ⟨g,n*4+2,none⟩ (.int .i64 x.m)).setCell ⟨g,n*4+3,none⟩ (.slice au x.parts.length cu)) g (a0M q s ⟨7,(n:Int),tm,[x]⟩).1):=fun w6 h6 hl=>by
   obtain⟨hxl,hbx,hcs,hlk⟩:=HXS.out
   have hlen:=a7z xs
   refine⟨xs.set n (x,.slice au x.parts.length cu),by simpa using hxl,?_,fun y hy=>?_,fun m hm=>?_⟩
   ·rw[b0M xs n hn]
    exact((((hbx.next h6).set (n*4) (by omega) _).set (n*4+1) (by simp;omega) _).set (n*4+2) (by simp;omega) _).set (n*4+3) (by simp;omega) _
   ·rcases List.mem_or_eq_of_mem_set hy with h | h
    ·exact hcs y h
    ·rw[h];exact HU.out
   ·have hm':m<xs.length:=by simpa using hm
    have e3:(a0M q s ⟨7,(n:Int),tm,[x]⟩).1=(match s.lookup (n:Int) with | none=>(((n:Int),x)::s) | some _=>s):=by
     unfold a0M
     rw[if_pos rfl,if_pos hr]
     cases s.lookup (n:Int)<;>rfl
    rw[e3]
    by_cases hmn:m=n
    ·subst hmn
     have e4:(xs.set m (x,Value.slice au x.parts.length cu))[m]=(x,Value.slice au x.parts.length cu):=by simp
     rw[e4]
     rcases hl with hl | hl
     ·rw[hl]
      refine⟨fun h=>?_,fun c h=>?_⟩
      ·simp[List.lookup] at h
      ·simp[List.lookup] at h;subst h;exact⟨rfl,hx0⟩
     ·rw[hl]
      refine⟨fun h=>?_,fun c h=>?_⟩
      ·rw[hl] at h;cases h
      ·rw[hl] at h;cases h;exact⟨rfl,hx0⟩
    ·have e4:(xs.set n (x,Value.slice au x.parts.length cu))[m]=xs[m]:=by rw[List.getElem_set_ne (fun e=>hmn e.symm)]
     rw[e4]
     have hb:((m:Int)==(n:Int))=false:=by simp;omega
     have hkm:=hlk m hm'
     rcases hl with hl | hl
     ·rw[hl]
      simpa[List.lookup,hb] using hkm
     ·rw[hl]
      exact hkm
  by_cases hc0:c.op=0
  ·have hc0':(c.op != 0)=false:=by simpa using hc0
   go_enter Tryz.func57,Tryz.ntmps57
   go_wp2_with fail
   rw[<-hw4.out]
   clear hw4
   refine a0i f (by kernel_rfl) (by kernel_rfl) (HF2.out _ (ZD _ _).drew) ?_
   repeat (go_big_quiet_step (first|(go_at_call 100;with_reducible refine ZE (HSm.out _ (a0b B4.out (HF1.out _) B4.out.size)) ?_;rintro e W1 ⟨rfl,b5⟩;exact⟨rfl,HF2.out _ (a0b (HF1.out _) b5 (HF1.out _).size)⟩)))
   refine wpQuiet_nil ?_
   intro w6 hw6
   obtain⟨n6,rfl⟩:=hw6
   have B46:=a0a (HF1.out n6)
   have B6:=a0a (a0b B4.out (HF1.out n6) B4.out.size)
   have Y6:=a0a (Y4.out.next B46.out)
   clear p1' p3' r0' r1' r2' r3' y0' y1' y2' y3'
   generalize f n6=w6 at *
   have Z6:=Y6.out
   replace p1:=Z6.cell 1 _ rfl
   replace p3:=Z6.cell 3 _ rfl
   have z6l:=Z6.lt
   have v0:=a0c B46.out y0
   have v1:=a0c B46.out y1
   have v2:=a0c B46.out y2
   have v3:=a0c B46.out y3
   have G6:=HXS.out.2.1.next B6.out
   have g6l:=G6.lt
   have hxl6:(flC xs).length=1024:=by rw[a7z];have:=HXS.out.1;omega
   have q0:=G6.free (n*4) (by omega)
   have q1:=G6.free (n*4+1) (by omega)
   have q2:=G6.free (n*4+2) (by omega)
   have q3:=G6.free (n*4+3) (by omega)
   have t0:=a0c B46.out r0
   have t1:=a0c B46.out r1
   have t2:=a0c B46.out r2
   have t3:=a0c B46.out r3
   have bl6:b<w6.heap.size:=ZA bl B6.out.size
   clear Z6 G6 hxl6
   have hl:Hid (s.lookup (n:Int)=none\/s.lookup (n:Int)=some x):=by
    cases hl:s.lookup (n:Int) with
    | none=>exact .inl rfl
    | some d=>exact absurd ((k2 d hl).1 ▸ hc0) (k2 d hl).2
   have hv2:Hid ((a0M q s ⟨7,(n:Int),tm,[x]⟩).2=true):=by
    show _=_
    unfold a0M
    rw[if_pos rfl,if_pos hr]
    rcases hl.out with h | h
    ·rw[h]
    ·rw[h];exact(hq x x).2 rfl
   go_wp2_with fail
   go_region
   have HE:Hid (a0d (a0M q) (a0f ⟨7,(n:Int),tm,[x]⟩) s=a0d (a0M q) ([x].map a0f).flatten (a0M q s ⟨7,(n:Int),tm,[x]⟩).1):=by
    show _=_
    rw[a1P,a0d,if_pos hv2.out]
   have HH1:=a0a ((hput.out w6 B6.out hl.out).next (ZD _ _).drew)
   have TT:a0h [g] w6 (((((w6.setCell ⟨g,n*4,none⟩ (.int .i64 x.op)).setCell ⟨g,n*4+1,none⟩ (.int .i64 x.n)).setCell ⟨g,n*4+2,none⟩ (.int .i64 x.m)).setCell ⟨g,n*4+3,none⟩ (.slice au x.parts.length cu)).drew):=(a0D (a0D (a0D (a0q _ _ _ _) (a0q _ _ _ _)) (a0q _ _ _ _)) (a0q _ _ _ _)).andBelow (ZD _ _).drew
   have HT1:=a0a ((a0h.of_below (S:=[g]) B6.out).trans TT (fun _ hi=>.inl hi))
   have Y1:=a0a (Y6.out.turn TT (by simp;omega))
   clear TT hput HSm hl hv2 p1 p3 v0 v1 v2 v3 q0 q1 q2 q3 t0 t1 t2 t3 r0 r1 r2 r3 y0 y1 y2 y3 Y6 Y4 B46 B6 z6l g6l bl6 k1 k2 HF1 HF2 HXS
   generalize ((((w6.setCell _ _).setCell _ _).setCell _ _).setCell _ _).drew=W1 at *
   generalize (a0M q s ⟨7,(n:Int),tm,[x]⟩).1=s1 at *
   go_wp2_with fail
   go_loopw [5] (fun i wr=>∃ k:Nat,i=.int .i64 (k:Nat)/\k<=1/\Hid ((a0d (a0M q) (([x].take k).map a0f).flatten s1).2=true)/\Hid (a1I W wr g (a0d (a0M q) (([x].take k).map a0f).flatten s1).1)/\Hid (a0h [g] W1 wr)) (fun i _=>match i with | .int _ p=>((1:Int)-p).toNat | _=>0)
   case atStart=>exact⟨0,rfl,by omega,a0a rfl,HH1.out,a0h.refl _ _⟩
   case round=>
    obtain⟨k,rfl,hk,HK,HHk,HTk⟩:=hrel
    have HTw:=a0a (a0D HT1.out HTk.out)
    have Yk:=Y1.out.turn HTk.out (by simp;omega)
    have z3:=Yk.cell 3 _ rfl
    have zl:=Yk.lt
    have HBr:=a0a (a0L HBw.out HTw.out (fun b hm=>by simp at hm;omega))
    by_cases hlt:k<1
    ·have hlt':(k:Int)<1:=by omega
     have hl1:k<[x].length:=by simpa using hlt
     obtain⟨b,off,cap',hv,-,-,hbl,hx⟩:=HPa.out.open (by omega)
     simp only[Value.slice.injEq,Option.some.injEq,Addr.mk.injEq,and_true] at hv
     obtain⟨⟨rfl,rfl⟩,-,rfl⟩:=hv
     obtain⟨u,h6,hu⟩:=hx k hl1
     have y0:=a0c HBr.out h6.c0
     have y1:=a0c HBr.out h6.c1
     have y2:=a0c HBr.out h6.c2
     have y3:=a0c HBr.out h6.c3
     have lbr:b<wr.heap.size:=ZA hbl HBr.out.size
     have HS2:Hid (a0d (a0M q) (([x].take (k+1)).map a0f).flatten s1=a0d (a0M q) (a0f [x][k]) (a0d (a0M q) (([x].take k).map a0f).flatten s1).1):=by
      show _=_
      rw[a2K [x] k hl1,a0k,if_pos HK.out]
     have HQ2:Hid ((a0d (a0M q) (a0f [x][k]) (a0d (a0M q) (([x].take k).map a0f).flatten s1).1).2=false->(a0d (a0M q) ([x].map a0f).flatten s1).2=false):=fun h=>by
      rw[a2k [x] k hl1,a0k,if_pos HK.out,a0k,if_neg (by rw[h];simp)]
     have HCl:=a0a (HI.out _ (List.getElem_mem hl1) (a0d (a0M q) (([x].take k).map a0f).flatten s1).1 u)
     obtain⟨au,cu,rfl,-,-⟩:=hu.parts.shape
     have HU:=a0a hu
     clear hx h6 hu
     generalize ([x]:List Co)[k]=xx at *
     clear hl1
     obtain⟨xk,xn,xm,xps⟩:=xx
     dsimp only at *
     generalize xps.length=L at *
     unfold b2C at HCl
     generalize a0d (a0M q) (a0f ⟨xk,xn,xm,xps⟩) (a0d (a0M q) (([x].take k).map a0f).flatten s1).1=qq at *
     go_wp2_with fail
     refine ZE (HCl.out wr HHk.out HBr.out hg HU.out) ?_
     rintro e w1 ⟨rfl,hh,t2⟩
     have HT2:=a0a (a0D HTk.out t2)
     have HT2w:=a0a (a0D HTw.out t2)
     have Hh:=a0a hh
     clear hh t2 y0 y1 y2 y3 z3 zl Yk HCl
     obtain⟨qs,qb⟩:=qq
     cases qb with
     | false=>
       have hP:Hid (b2C q W g (a0f ⟨7,(n:Int),tm,[x]⟩) s w (.returned (.bool false)) w1):=by
        have e2:(a0d (a0M q) (a0f ⟨7,(n:Int),tm,[x]⟩) s).2=false:=by rw[HE.out];exact HQ2.out rfl
        refine⟨by rw[e2],fun h=>?_,HT2w.out⟩
        rw[e2] at h
        cases h
       clear HQ2 HS2
       simp only[]
       go_wp2_with fail
       go_ret
       exact hP.out
     | true=>
       have H3:Hid ((a0d (a0M q) (([x].take (k+1)).map a0f).flatten s1).2=true):=by show _=_;rw[HS2.out]
       have H4:Hid (a1I W w1 g (a0d (a0M q) (([x].take (k+1)).map a0f).flatten s1).1):=by rw[HS2.out];exact Hh.out rfl
       clear HQ2 HS2 Hh
       simp only[]
       go_wp2_with fail
       go_roundw
       case rel=>exact⟨k+1,by go_num,by omega,H3.out,H4.out,HT2.out⟩
       case measure=>simp;omega
    ·have hlt':¬(k:Int)<1:=by omega
     have hkN:k=1:=by omega
     have e1:[x].take k=[x]:=by rw[hkN];rfl
     rw[e1] at HK HHk
     have hP:Hid (b2C q W g (a0f ⟨7,(n:Int),tm,[x]⟩) s w (.returned (.bool true)) wr):=by
      have e2:a0d (a0M q) (a0f ⟨7,(n:Int),tm,[x]⟩) s=a0d (a0M q) ([x].map a0f).flatten s1:=HE.out
      refine⟨by rw[e2,HK.out],fun _=>by rw[e2];exact HHk.out,HTw.out⟩
     go_wp2_with fail
     go_ret
     exact hP.out
  ·have hc0':(c.op != 0)=true:=by simpa using hc0
   have hls:s.lookup (n:Int)=some c:=by
    cases hl:s.lookup (n:Int) with
    | none=>exact absurd (k1 hl) hc0
    | some d=>rw[(k2 d hl).1]
   go_enter Tryz.func57,Tryz.ntmps57
   go_wp2_with fail
   rw[<-hw4.out]
   clear hw4
   refine a0i f (by kernel_rfl) (by kernel_rfl) (HF2.out _ (ZD _ _).drew) ?_
   repeat (go_big_quiet_step (first|(go_at_call 100;with_reducible refine ZE (HSm.out _ (a0b B4.out (HF1.out _) B4.out.size)) ?_;rintro e W1 ⟨rfl,b5⟩;exact⟨rfl,HF2.out _ (a0b (HF1.out _) b5 (HF1.out _).size)⟩)))
   refine wpQuiet_nil ?_
   intro w6 hw6
   obtain⟨n6,rfl⟩:=hw6
   have B46:=a0a (HF1.out n6)
   have B6:=a0a (a0b B4.out (HF1.out n6) B4.out.size)
   have Y6:=a0a (Y4.out.next B46.out)
   clear p1' p3' r0' r1' r2' r3' y0' y1' y2' y3'
   generalize f n6=w6 at *
   cases hqx:q c x with
   | false=>
     have hP:Hid (b2C q W g (a0f ⟨7,(n:Int),tm,[x]⟩) s w (.returned (.bool false)) w6):=by
      have e0:(a0M q s ⟨7,(n:Int),tm,[x]⟩).2=false:=by
       unfold a0M
       rw[if_pos rfl,if_pos hr,hls]
       exact hqx
      have e2:(a0d (a0M q) (a0f ⟨7,(n:Int),tm,[x]⟩) s).2=false:=by
       rw[a1P,a0d,if_neg (by rw[e0];simp)]
      refine⟨by rw[e2],fun h=>?_,a0h.of_below B6.out⟩
      rw[e2] at h
      cases h
     go_wp2_with fail
     go_ret
     exact hP.out
   | true=>
     have hcx:c=x:=(hq c x).1 hqx
     have Z6:=Y6.out
     replace p1:=Z6.cell 1 _ rfl
     replace p3:=Z6.cell 3 _ rfl
     have z6l:=Z6.lt
     have v0:=a0c B46.out y0
     have v1:=a0c B46.out y1
     have v2:=a0c B46.out y2
     have v3:=a0c B46.out y3
     have G6:=HXS.out.2.1.next B6.out
     have g6l:=G6.lt
     have hxl6:(flC xs).length=1024:=by rw[a7z];have:=HXS.out.1;omega
     have q0:=G6.free (n*4) (by omega)
     have q1:=G6.free (n*4+1) (by omega)
     have q2:=G6.free (n*4+2) (by omega)
     have q3:=G6.free (n*4+3) (by omega)
     have t0:=a0c B46.out r0
     have t1:=a0c B46.out r1
     have t2:=a0c B46.out r2
     have t3:=a0c B46.out r3
     have bl6:b<w6.heap.size:=ZA bl B6.out.size
     clear Z6 G6 hxl6
     have hl:Hid (s.lookup (n:Int)=none\/s.lookup (n:Int)=some x):=.inr (by rw[hls,hcx])
     have hv2:Hid ((a0M q s ⟨7,(n:Int),tm,[x]⟩).2=true):=by
      show _=_
      unfold a0M
      rw[if_pos rfl,if_pos hr,hls]
      exact hqx
     clear hcx hqx hls hc0 hc0'
     go_wp2_with fail
     go_region
     have HE:Hid (a0d (a0M q) (a0f ⟨7,(n:Int),tm,[x]⟩) s=a0d (a0M q) ([x].map a0f).flatten (a0M q s ⟨7,(n:Int),tm,[x]⟩).1):=by
      show _=_
      rw[a1P,a0d,if_pos hv2.out]
     have HH1:=a0a ((hput.out w6 B6.out hl.out).next (ZD _ _).drew)
     have TT:a0h [g] w6 (((((w6.setCell ⟨g,n*4,none⟩ (.int .i64 x.op)).setCell ⟨g,n*4+1,none⟩ (.int .i64 x.n)).setCell ⟨g,n*4+2,none⟩ (.int .i64 x.m)).setCell ⟨g,n*4+3,none⟩ (.slice au x.parts.length cu)).drew):=(a0D (a0D (a0D (a0q _ _ _ _) (a0q _ _ _ _)) (a0q _ _ _ _)) (a0q _ _ _ _)).andBelow (ZD _ _).drew
     have HT1:=a0a ((a0h.of_below (S:=[g]) B6.out).trans TT (fun _ hi=>.inl hi))
     have Y1:=a0a (Y6.out.turn TT (by simp;omega))
     clear TT hput HSm hl hv2 p1 p3 v0 v1 v2 v3 q0 q1 q2 q3 t0 t1 t2 t3 r0 r1 r2 r3 y0 y1 y2 y3 Y6 Y4 B46 B6 z6l g6l bl6 k1 k2 HF1 HF2 HXS
     generalize ((((w6.setCell _ _).setCell _ _).setCell _ _).setCell _ _).drew=W1 at *
     generalize (a0M q s ⟨7,(n:Int),tm,[x]⟩).1=s1 at *
     go_wp2_with fail
     go_loopw [5] (fun i wr=>∃ k:Nat,i=.int .i64 (k:Nat)/\k<=1/\Hid ((a0d (a0M q) (([x].take k).map a0f).flatten s1).2=true)/\Hid (a1I W wr g (a0d (a0M q) (([x].take k).map a0f).flatten s1).1)/\Hid (a0h [g] W1 wr)) (fun i _=>match i with | .int _ p=>((1:Int)-p).toNat | _=>0)
     case atStart=>exact⟨0,rfl,by omega,a0a rfl,HH1.out,a0h.refl _ _⟩
     case round=>
      obtain⟨k,rfl,hk,HK,HHk,HTk⟩:=hrel
      have HTw:=a0a (a0D HT1.out HTk.out)
      have Yk:=Y1.out.turn HTk.out (by simp;omega)
      have z3:=Yk.cell 3 _ rfl
      have zl:=Yk.lt
      have HBr:=a0a (a0L HBw.out HTw.out (fun b hm=>by simp at hm;omega))
      by_cases hlt:k<1
      ·have hlt':(k:Int)<1:=by omega
       have hl1:k<[x].length:=by simpa using hlt
       obtain⟨b,off,cap',hv,-,-,hbl,hx⟩:=HPa.out.open (by omega)
       simp only[Value.slice.injEq,Option.some.injEq,Addr.mk.injEq,and_true] at hv
       obtain⟨⟨rfl,rfl⟩,-,rfl⟩:=hv
       obtain⟨u,h6,hu⟩:=hx k hl1
       have y0:=a0c HBr.out h6.c0
       have y1:=a0c HBr.out h6.c1
       have y2:=a0c HBr.out h6.c2
       have y3:=a0c HBr.out h6.c3
       have lbr:b<wr.heap.size:=ZA hbl HBr.out.size
       have HS2:Hid (a0d (a0M q) (([x].take (k+1)).map a0f).flatten s1=a0d (a0M q) (a0f [x][k]) (a0d (a0M q) (([x].take k).map a0f).flatten s1).1):=by
        show _=_
        rw[a2K [x] k hl1,a0k,if_pos HK.out]
       have HQ2:Hid ((a0d (a0M q) (a0f [x][k]) (a0d (a0M q) (([x].take k).map a0f).flatten s1).1).2=false->(a0d (a0M q) ([x].map a0f).flatten s1).2=false):=fun h=>by
        rw[a2k [x] k hl1,a0k,if_pos HK.out,a0k,if_neg (by rw[h];simp)]
       have HCl:=a0a (HI.out _ (List.getElem_mem hl1) (a0d (a0M q) (([x].take k).map a0f).flatten s1).1 u)
       obtain⟨au,cu,rfl,-,-⟩:=hu.parts.shape
       have HU:=a0a hu
       clear hx h6 hu
       generalize ([x]:List Co)[k]=xx at *
       clear hl1
       obtain⟨xk,xn,xm,xps⟩:=xx
       dsimp only at *
       generalize xps.length=L at *
       unfold b2C at HCl
       generalize a0d (a0M q) (a0f ⟨xk,xn,xm,xps⟩) (a0d (a0M q) (([x].take k).map a0f).flatten s1).1=qq at *
       go_wp2_with fail
       refine ZE (HCl.out wr HHk.out HBr.out hg HU.out) ?_
       rintro e w1 ⟨rfl,hh,t2⟩
       have HT2:=a0a (a0D HTk.out t2)
       have HT2w:=a0a (a0D HTw.out t2)
       have Hh:=a0a hh
       clear hh t2 y0 y1 y2 y3 z3 zl Yk HCl
       obtain⟨qs,qb⟩:=qq
       cases qb with
       | false=>
         have hP:Hid (b2C q W g (a0f ⟨7,(n:Int),tm,[x]⟩) s w (.returned (.bool false)) w1):=by
          have e2:(a0d (a0M q) (a0f ⟨7,(n:Int),tm,[x]⟩) s).2=false:=by rw[HE.out];exact HQ2.out rfl
          refine⟨by rw[e2],fun h=>?_,HT2w.out⟩
          rw[e2] at h
          cases h
         clear HQ2 HS2
         simp only[]
         go_wp2_with fail
         go_ret
         exact hP.out
       | true=>
         have H3:Hid ((a0d (a0M q) (([x].take (k+1)).map a0f).flatten s1).2=true):=by show _=_;rw[HS2.out]
         have H4:Hid (a1I W w1 g (a0d (a0M q) (([x].take (k+1)).map a0f).flatten s1).1):=by rw[HS2.out];exact Hh.out rfl
         clear HQ2 HS2 Hh
         simp only[]
         go_wp2_with fail
         go_roundw
         case rel=>exact⟨k+1,by go_num,by omega,H3.out,H4.out,HT2.out⟩
         case measure=>simp;omega
      ·have hlt':¬(k:Int)<1:=by omega
       have hkN:k=1:=by omega
       have e1:[x].take k=[x]:=by rw[hkN];rfl
       rw[e1] at HK HHk
       have hP:Hid (b2C q W g (a0f ⟨7,(n:Int),tm,[x]⟩) s w (.returned (.bool true)) wr):=by
        have e2:a0d (a0M q) (a0f ⟨7,(n:Int),tm,[x]⟩) s=a0d (a0M q) ([x].map a0f).flatten s1:=HE.out
        refine⟨by rw[e2,HK.out],fun _=>by rw[e2];exact HHk.out,HTw.out⟩
       go_wp2_with fail
       go_ret
       exact hP.out
 ·have h7':(op==7)=false:=by simpa using h7
  clear hD
  go_enter Tryz.func57,Tryz.ntmps57
  go_wp2_with fail
  obtain⟨s1,hs1⟩:∃ s1,Hid (s1=s):=⟨_,rfl⟩
  have HE:Hid (a0d (a0M q) (a0f ⟨op,tn,tm,ps⟩) s=a0d (a0M q) (ps.map a0f).flatten s1):=by
   show _=_
   rw[a1P,a0d]
   have e0:a0M q s ⟨op,tn,tm,ps⟩=(s,true):=if_neg h7
   rw[e0,if_pos rfl,hs1.out]
  have HH1:Hid (a1I W (w.alloc (.cells #[.int .i64 op,.int .i64 tn,.int .i64 tm,.slice ad N cap] 30)) g s1):=by rw[hs1.out];exact HH.out.next (HA.out _)
  have HT1:Hid (a0h [g] w (w.alloc (.cells #[.int .i64 op,.int .i64 tn,.int .i64 tm,.slice ad N cap] 30))):=a0h.of_below (HA.out _)
  have Y1:=Y0
  clear Y0 hs1 h7 h7'
  generalize w.alloc _=W1 at *
  go_loopw [5] (fun i wr=>∃ k:Nat,i=.int .i64 (k:Nat)/\k<=N/\Hid ((a0d (a0M q) ((ps.take k).map a0f).flatten s1).2=true)/\Hid (a1I W wr g (a0d (a0M q) ((ps.take k).map a0f).flatten s1).1)/\Hid (a0h [g] W1 wr)) (fun i _=>match i with | .int _ p=>((N:Int)-p).toNat | _=>0)
  case atStart=>exact⟨0,rfl,by omega,a0a rfl,HH1.out,a0h.refl _ _⟩
  case round=>
   obtain⟨k,rfl,hk,HK,HHk,HTk⟩:=hrel
   have HTw:=a0a (a0D HT1.out HTk.out)
   have Yk:=Y1.out.turn HTk.out (by simp;omega)
   have z3:=Yk.cell 3 _ rfl
   have zl:=Yk.lt
   have HBr:=a0a (a0L HBw.out HTw.out (fun b hm=>by simp at hm;omega))
   by_cases hlt:k<N
   ·have hlt':(k:Int)<(N:Int):=by omega
    have hl1:k<ps.length:=by rw[<-hN.out];exact hlt
    obtain⟨b,off,cap',hv,-,-,hbl,hx⟩:=HPa.out.open (by omega)
    simp only[Value.slice.injEq] at hv
    obtain⟨rfl,-,rfl⟩:=hv
    obtain⟨u,h6,hu⟩:=hx k hl1
    have y0:=a0c HBr.out h6.c0
    have y1:=a0c HBr.out h6.c1
    have y2:=a0c HBr.out h6.c2
    have y3:=a0c HBr.out h6.c3
    have lbr:b<wr.heap.size:=ZA hbl HBr.out.size
    have HS2:Hid (a0d (a0M q) ((ps.take (k+1)).map a0f).flatten s1=a0d (a0M q) (a0f ps[k]) (a0d (a0M q) ((ps.take k).map a0f).flatten s1).1):=by
     show _=_
     rw[a2K ps k hl1,a0k,if_pos HK.out]
    have HQ2:Hid ((a0d (a0M q) (a0f ps[k]) (a0d (a0M q) ((ps.take k).map a0f).flatten s1).1).2=false->(a0d (a0M q) (ps.map a0f).flatten s1).2=false):=fun h=>by
     rw[a2k ps k hl1,a0k,if_pos HK.out,a0k,if_neg (by rw[h];simp)]
    have HCl:=a0a (HI.out _ (List.getElem_mem hl1) (a0d (a0M q) ((ps.take k).map a0f).flatten s1).1 u)
    obtain⟨au,cu,rfl,-,-⟩:=hu.parts.shape
    have HU:=a0a hu
    clear hx h6 hu
    generalize ps[k]=x at *
    clear hl1
    obtain⟨xk,xn,xm,xps⟩:=x
    dsimp only at *
    generalize xps.length=L at *
    unfold b2C at HCl
    generalize a0d (a0M q) (a0f ⟨xk,xn,xm,xps⟩) (a0d (a0M q) ((ps.take k).map a0f).flatten s1).1=qq at *
    go_wp2_with fail
    refine ZE (HCl.out wr HHk.out HBr.out hg HU.out) ?_
    rintro e w1 ⟨rfl,hh,t2⟩
    have HT2:=a0a (a0D HTk.out t2)
    have HT2w:=a0a (a0D HTw.out t2)
    have Hh:=a0a hh
    clear hh t2 y0 y1 y2 y3 z3 zl Yk HCl
    obtain⟨qs,qb⟩:=qq
    cases qb with
    | false=>
      have hP:Hid (b2C q W g (a0f ⟨op,tn,tm,ps⟩) s w (.returned (.bool false)) w1):=by
       have e2:(a0d (a0M q) (a0f ⟨op,tn,tm,ps⟩) s).2=false:=by rw[HE.out];exact HQ2.out rfl
       refine⟨by rw[e2],fun h=>?_,HT2w.out⟩
       rw[e2] at h
       cases h
      clear HQ2 HS2
      simp only[]
      go_wp2_with fail
      go_ret
      exact hP.out
    | true=>
      have H3:Hid ((a0d (a0M q) ((ps.take (k+1)).map a0f).flatten s1).2=true):=by show _=_;rw[HS2.out]
      have H4:Hid (a1I W w1 g (a0d (a0M q) ((ps.take (k+1)).map a0f).flatten s1).1):=by rw[HS2.out];exact Hh.out rfl
      clear HQ2 HS2 Hh
      simp only[]
      go_wp2_with fail
      go_roundw
      case rel=>exact⟨k+1,by go_num,by omega,H3.out,H4.out,HT2.out⟩
      case measure=>simp;omega
   ·have hlt':¬(k:Int)<(N:Int):=by omega
    have hkN:k=N:=by omega
    have e1:ps.take k=ps:=by rw[hkN,hN.out];exact List.take_length
    rw[e1] at HK HHk
    have hP:Hid (b2C q W g (a0f ⟨op,tn,tm,ps⟩) s w (.returned (.bool true)) wr):=by
     have e2:a0d (a0M q) (a0f ⟨op,tn,tm,ps⟩) s=a0d (a0M q) (ps.map a0f).flatten s1:=HE.out
     refine⟨by rw[e2,HK.out],fun _=>by rw[e2];exact HHk.out,HTw.out⟩
    go_wp2_with fail
    go_ret
    exact hP.out
theorem c1d (q:Co->Co->Bool)(hq:∀ a b,q a b=true↔a=b)(W:World)(g:Nat)(t:Co):(∀ x,x∈a0f t->b7E x)->b7A q W g t:=by
 induction t using Co.ind with
 | h t ih=>exact fun hD=>b3a q hq W g t (hD t (a6x t)) (fun x hx=>ih x hx (fun y hy=>hD y (a6y hx hy)))
theorem b8X (wn cn ln:Int)(h64:C64 wn/\C64 cn/\C64 ln)(t:Co):RSo wn cn ln t:=by
 induction t using Co.ind with
 | h t ih=>exact b1A wn cn ln h64 t ih
theorem b3G (n:Nat):(madeCells (coV ⟨0,0,0,[]⟩ (.slice none 0 0)).cells (n*4)).toList=flC (List.replicate n ((⟨0,0,0,[]⟩:Co),Value.slice none 0 0)):=by
 apply List.ext_getElem?
 intro i
 by_cases hi:i<n*4
 ·have h1:i/4<(List.replicate n ((⟨0,0,0,[]⟩:Co),Value.slice none 0 0)).length:=by simp;omega
  have hm:i%4=0\/i%4=1\/i%4=2\/i%4=3:=by omega
  have hd:i/4*4+i%4=i:=by omega
  have hL:(madeCells (coV ⟨0,0,0,[]⟩ (.slice none 0 0)).cells (n*4)).toList[i]? = some ((coV ⟨0,0,0,[]⟩ (.slice none 0 0)).cells[i%4]!):=by
   have:(coV ⟨0,0,0,[]⟩ (.slice none 0 0)).cells.size=4:=rfl
   simp[madeCells,hi,this]
  rw[hL]
  have hR:=b0N (List.replicate n ((⟨0,0,0,[]⟩:Co),Value.slice none 0 0)) (i/4) h1 (i%4)
  rw[hd] at hR
  symm
  apply hR
  rw[List.getElem_replicate]
  rcases hm with h | h | h | h<;>rw[h]<;>rfl
 ·rw[List.getElem?_eq_none (by simp[size_madeCells];omega),List.getElem?_eq_none (by rw[a7z];simp;omega)]
theorem b6K {W w:World}{g:Nat}(h:Box w g (flC (List.replicate 256 ((⟨0,0,0,[]⟩:Co),Value.slice none 0 0)))):a1I W w g []:=by
 refine⟨_,List.length_replicate,h,fun x hx=>?_,fun n hn=>⟨fun _=>by rw[List.getElem_replicate],fun c hc=>by cases hc⟩⟩
 rw[List.eq_of_mem_replicate hx]
 exact a1G.2 ⟨⟨by unfold C64;decide,by unfold C64;decide,by unfold C64;decide⟩,none,0,rfl,ZB _,by omega,.inl rfl⟩
theorem b4C {σ : Type}{vs : σ -> Co -> σ × Bool}{l:List Co}{k:Nat}(hk:k<l.length){s : σ}(h1:(a0d vs ((l.take k).map a0f).flatten s).2=true):a0d vs ((l.take (k+1)).map a0f).flatten s=a0d vs (a0f l[k]) (a0d vs ((l.take k).map a0f).flatten s).1/\((a0d vs (a0f l[k]) (a0d vs ((l.take k).map a0f).flatten s).1).2=false->(a0d vs (l.map a0f).flatten s).2=false):=by
 refine⟨by rw[a2K l k hk,a0k,if_pos h1],fun h=>?_⟩
 rw[a2k l k hk,a0k,if_pos h1,a0k,if_neg (by rw[h];simp)]
set_option maxHeartbeats 8000000 in
set_option maxRecDepth 20000 in
theorem b3o (q:Co->Co->Bool)(hq:∀ a b,q a b=true↔a=b)(p:PlP)(v:PlV)(w:World)(hs:a4n w p v)(hL:p.gs.length*96<=140737488355328):Calls Tryz.prog 29 #[plV p v] w fun e w'=>e=.returned (.bool (a0s q p))/\Below w.heap.size w w':=by
 have HS:=a0a hs
 have HRi:=a0a (fun W=>b6d p.ru W)
 have HCo:=a0a (fun W (hW:Below w.heap.size w W)=>b0w p v W (hs.next hW) hL)
 have HWi:=a0a hs.wi
 have HCr:=a0a hs.cr
 have HCk:=a0a hs.cok
 have HWk:=a0a hs.wok
 have HLo:=a0a hs.loc
 obtain⟨a1,c1,a2,c2,a3,c3,a4,c4,a5,c5,rfl,g1,g2,g3,g4⟩:=hs.shapes
 dsimp only at HWi HCr
 obtain⟨Q,hQ⟩:∃ Q,Hid (Q=a0s q p):=⟨_,rfl⟩
 rw[<-hQ.out]
 have Y0:=a0a (Box.new w (plL p ⟨.slice a1 p.mets.length c1,.slice a2 p.wins.length c2,.slice a3 p.crons.length c3,.slice a4 p.gs.length c4,.slice a5 p.fin.parts.length c5⟩) 32)
 have B0:=a0a ((ZD w.heap.size w).alloc (ZB _) (.cells (plL p ⟨.slice a1 p.mets.length c1,.slice a2 p.wins.length c2,.slice a3 p.crons.length c3,.slice a4 p.gs.length c4,.slice a5 p.fin.parts.length c5⟩).toArray 32))
 have noS:Hid (a2T p=false->Q=false):=fun h1=>by rw[hQ.out,a0s,h1];simp
 have noR:Hid (ruB p.ru=false->Q=false):=fun h1=>by rw[hQ.out,a0s,h1];simp
 have noW:Hid (p.wins.all (wiB p.mets.length)=false->Q=false):=fun h1=>by rw[hQ.out,a0s,a3z,h1];simp
 have noC:Hid (p.crons.all cfB=false->Q=false):=fun h1=>by rw[hQ.out,a0s,a3z,h1];simp
 have noF:Hid (a4Z p=false->Q=false):=fun h1=>by rw[hQ.out,a0s,h1];simp
 have noO:Hid (a1A p=false->Q=false):=fun h1=>by rw[hQ.out,a0s,h1];simp
 have noA:Hid (a1W q p=false->Q=false):=fun h1=>by rw[hQ.out,a0s,h1];simp
 have yes:Hid (a2T p=true->ruB p.ru=true->p.wins.all (wiB p.mets.length)=true->p.crons.all cfB=true->a4Z p=true->a1A p=true->a1W q p=true->Q=true):=fun h1 h2 h3 h4 h5 h6 h7=>by rw[hQ.out,a0s,a3z,h1,h2,h3,h4,h5,h6,h7];rfl
 clear hs hL hQ
 by_cases h1:p.mets.length<=64
 case neg=>
  have e1:Hid (Q=false):=noS.out (decide_eq_false (fun h=>h1 h.1))
  have h1':64<(p.mets.length:Int):=by omega
  go_enter Tryz.func29,Tryz.ntmps29
  go_wp2_with fail
  go_ret
  exact⟨by rw[e1.out];rfl,B0.out⟩
 have h1':¬ 64<(p.mets.length:Int):=by omega
 by_cases h2:p.wins.length<=256
 case neg=>
  have e1:Hid (Q=false):=noS.out (decide_eq_false (fun h=>h2 h.2.1))
  have h2':256<(p.wins.length:Int):=by omega
  go_enter Tryz.func29,Tryz.ntmps29
  go_wp2_with fail
  go_ret
  exact⟨by rw[e1.out];rfl,B0.out⟩
 have h2':¬ 256<(p.wins.length:Int):=by omega
 by_cases h3:p.crons.length<=256
 case neg=>
  have e1:Hid (Q=false):=noS.out (decide_eq_false (fun h=>h3 h.2.2.1))
  have h3':256<(p.crons.length:Int):=by omega
  go_enter Tryz.func29,Tryz.ntmps29
  go_wp2_with fail
  go_ret
  exact⟨by rw[e1.out];rfl,B0.out⟩
 have h3':¬ 256<(p.crons.length:Int):=by omega
 obtain⟨y3,hy3⟩:∃ y3,Hid (ruB p.ru=y3):=⟨_,rfl⟩
 rw[hy3.out] at HRi noR yes
 cases y3 with
 | false=>
   have e1:Hid (Q=false):=noR.out (by first | rfl | trivial)
   go_enter Tryz.func29,Tryz.ntmps29
   go_wp2_with fail
   refine ZE (HRi.out _) ?_
   rintro e w1 ⟨rfl,b1⟩
   have B1:=kb B0 b1
   have Y1:=a0a (Y0.out.next b1)
   have t8:=Y1.out.cell 8 _ rfl
   have tl:=Y1.out.lt
   clear b1 Y0
   go_wp2_with fail
   go_ret
   exact⟨by rw[e1.out];rfl,B1.out⟩
 | true=>
 by_cases h4:0<=p.loc
 case neg=>
  have e1:Hid (Q=false):=noS.out (decide_eq_false (fun h=>h4 h.2.2.2.1))
  have hx:p.loc<0:=by omega
  go_enter Tryz.func29,Tryz.ntmps29
  go_wp2_with fail
  refine ZE (HRi.out _) ?_
  rintro e w1 ⟨rfl,b1⟩
  have B1:=kb B0 b1
  have Y1:=a0a (Y0.out.next b1)
  have t8:=Y1.out.cell 8 _ rfl
  have tl:=Y1.out.lt
  clear b1 Y0
  go_wp2_with fail
  go_ret
  exact⟨by rw[e1.out];rfl,B1.out⟩
 by_cases h5:p.loc<=256
 case neg=>
  have e1:Hid (Q=false):=noS.out (decide_eq_false (fun h=>h5 h.2.2.2.2))
  have hx:256<p.loc:=by omega
  go_enter Tryz.func29,Tryz.ntmps29
  go_wp2_with fail
  refine ZE (HRi.out _) ?_
  rintro e w1 ⟨rfl,b1⟩
  have B1:=kb B0 b1
  have Y1:=a0a (Y0.out.next b1)
  have t8:=Y1.out.cell 8 _ rfl
  have tl:=Y1.out.lt
  clear b1 Y0
  go_wp2_with fail
  go_ret
  exact⟨by rw[e1.out];rfl,B1.out⟩
 have h4':¬ p.loc<0:=by omega
 have h5':¬ 256<p.loc:=by omega
 have hsz:Hid (a2T p=true):=a0a (decide_eq_true ⟨h1,h2,h3,h4,h5⟩)
 have h64:Hid (C64 p.wins.length/\C64 p.crons.length/\C64 p.loc):=⟨⟨by omega,by omega⟩,⟨by omega,by omega⟩,HLo.out⟩
 have H256:=a0a h5
 have yes2:Hid (p.wins.all (wiB p.mets.length)=true->p.crons.all cfB=true->a4Z p=true->a1A p=true->a1W q p=true->Q=true):=fun a b c d e=>yes.out hsz.out (by first | rfl | trivial) a b c d e
 have noO2:=noO
 clear h1 h2 h3 h4 h5 yes hsz noS noR hy3 HLo
 obtain⟨NW,hNW⟩:∃ N,Hid (N=p.wins.length):=⟨_,rfl⟩
 obtain⟨NC,hNC⟩:∃ N,Hid (N=p.crons.length):=⟨_,rfl⟩
 obtain⟨NM,hNM⟩:∃ N,Hid (N=p.mets.length):=⟨_,rfl⟩
 have HSo:=a0a (fun t=>b8X p.wins.length p.crons.length p.loc h64.out t)
 rw[<-hNW.out] at h2' Y0 B0 HCo g2 HWi HSo ⊢
 rw[<-hNC.out] at h3' Y0 B0 HCo g3 HCr HSo ⊢
 rw[<-hNM.out] at h1' Y0 B0 HCo g1 noW yes2 ⊢
 go_enter Tryz.func29,Tryz.ntmps29
 go_wp2_with fail
 refine ZE (HRi.out _) ?_
 rintro e w1 ⟨rfl,b1⟩
 have B1:=kb B0 b1
 have Y1:=a0a (Y0.out.next b1)
 have t8:=Y1.out.cell 8 _ rfl
 have tl:=Y1.out.lt
 clear b1 Y0
 have t6:=Y1.out.cell 6 _ rfl
 go_wp2_with fail
 clear t8 h1' h2' h3' h4' h5' t6
 go_loopw [3] (fun i wr=>∃ k:Nat,i=.int .i64 (k:Nat)/\k<=NW/\Hid ((p.wins.take k).all (wiB NM)=true)/\Hid (Below w1.heap.size w1 wr)) (fun i _=>match i with | .int _ p=>((NW:Int)-p).toNat | _=>0)
 case atStart=>exact⟨0,rfl,by omega,a0a rfl,ZD _ _⟩
 case round=>
 obtain⟨k,rfl,hk,HK,HB⟩:=hrel
 have BW:=a0a (a0b B1.out HB.out B1.out.size)
 have X:=Y1.out.next HB.out
 have x0:=X.cell 0 _ rfl
 have x6:=X.cell 6 _ rfl
 have x7:=X.cell 7 _ rfl
 have xl:=X.lt
 by_cases hlt:k<NW
 case pos=>
  have hlt':(k:Int)<(NW:Int):=by omega
  have hl1:k<p.wins.length:=by rw[<-hNW.out];exact hlt
  obtain⟨b,off,cap',hv,hle,-,hbl,hx⟩:=a0Q.open HWi.out (by omega)
  simp only[Value.slice.injEq] at hv
  obtain⟨rfl,-,rfl⟩:=hv
  have hxk:=hx k hl1
  rw[b7i hl1] at hxk
  have y0:wr.cell? ⟨b,off+k*4,none⟩=_:=a0c BW.out (hxk 0 _ rfl)
  have y1:=a0c BW.out (hxk 1 _ rfl)
  have y2:=a0c BW.out (hxk 2 _ rfl)
  have y3:=a0c BW.out (hxk 3 _ rfl)
  have lbr:b<wr.heap.size:=ZA hbl BW.out.size
  have HC:=a0a (fun W=>c1D p.wins[k].m p.wins[k].a p.wins[k].s p.wins[k].p W)
  have HT:=a0a (a4k (f:=wiB NM) hl1)
  have HNo:=a0a (fun h=>noW.out (a8X (f:=wiB NM) hl1 h))
  have hM2:=HWk.out _ (List.getElem_mem hl1)
  clear hxk hx hle
  generalize p.wins[k]=x at *
  clear hl1
  obtain⟨m,a,s,pp⟩:=x
  dsimp only at *
  have hm1:=hM2.m
  obtain⟨y,hy⟩:∃ y,Hid (a2B m a s pp=y):=⟨_,rfl⟩
  unfold tv at HC
  rw[hy.out] at HC
  have hwi:Hid (wiB NM ⟨m,a,s,pp⟩=(y&&decide (m<(NM:Int)))):=by show (a2B m a s pp&&_)=_;rw[hy.out]
  rw[hwi.out] at HT HNo
  clear hwi hM2
  cases y with
  | false=>
    have hq0:Hid (Q=false):=a0a (HNo.out rfl)
    go_wp2_with fail
    obtain⟨f,hf1,hf2⟩:=a7N wr
    have HF1:=a0a hf1
    have HF2:=a0a hf2
    have x0':=fun n=>a0c (hf1 n) x0
    have x6':=fun n=>a0c (hf1 n) x6
    have y0':=fun n=>a0c (hf1 n) y0
    have y1':=fun n=>a0c (hf1 n) y1
    have y2':=fun n=>a0c (hf1 n) y2
    have y3':=fun n=>a0c (hf1 n) y3
    clear hf1 hf2 x0 x6 x7 y0 y1 y2 y3 X
    refine a0i f (by kernel_rfl) (by kernel_rfl) (HF2.out _ (ZD _ _).drew) ?_
    repeat (go_big_quiet_step (first|(go_at_call 54;with_reducible refine ZE (HC.out _) ?_;rintro e W1 ⟨rfl,b5⟩;exact⟨rfl,HF2.out _ (a0b (HF1.out _) b5 (HF1.out _).size)⟩)))
    refine wpQuiet_nil ?_
    intro w6 hw6
    obtain⟨n6,rfl⟩:=hw6
    have B2:=a0a (a0b HB.out (HF1.out n6) HB.out.size)
    have B2w:=a0a (a0b B1.out B2.out B1.out.size)
    clear x0' x6' y0' y1' y2' y3'
    generalize f n6=w6 at *
    go_wp2_with fail
    go_ret
    exact⟨by rw[hq0.out];rfl,B2w.out⟩
  | true=>
    by_cases hmM:m<(NM:Int)
    ·have H3:Hid ((p.wins.take (k+1)).all (wiB NM)=true):=a0a (by rw[HT.out,HK.out,decide_eq_true hmM];rfl)
     clear HT HNo
     have hm2:¬(NM:Int)<=m:=by omega
     have hm3:decide ((NM:Int)<=m)=false:=decide_eq_false hm2
     go_wp2_with fail
     obtain⟨f,hf1,hf2⟩:=a7N wr
     have HF1:=a0a hf1
     have HF2:=a0a hf2
     have x0':=fun n=>a0c (hf1 n) x0
     have x6':=fun n=>a0c (hf1 n) x6
     have y0':=fun n=>a0c (hf1 n) y0
     have y1':=fun n=>a0c (hf1 n) y1
     have y2':=fun n=>a0c (hf1 n) y2
     have y3':=fun n=>a0c (hf1 n) y3
     clear hf1 hf2 x0 x6 x7 y0 y1 y2 y3 X
     refine a0i f (by kernel_rfl) (by kernel_rfl) (HF2.out _ (ZD _ _).drew) ?_
     repeat (go_big_quiet_step (first|(go_at_call 54;with_reducible refine ZE (HC.out _) ?_;rintro e W1 ⟨rfl,b5⟩;exact⟨rfl,HF2.out _ (a0b (HF1.out _) b5 (HF1.out _).size)⟩)))
     refine wpQuiet_nil ?_
     intro w6 hw6
     obtain⟨n6,rfl⟩:=hw6
     have B2:=a0a (a0b HB.out (HF1.out n6) HB.out.size)
     have B2w:=a0a (a0b B1.out B2.out B1.out.size)
     clear x0' x6' y0' y1' y2' y3'
     generalize f n6=w6 at *
     go_wp2_with fail
     go_roundw
     case rel=>exact⟨k+1,by go_num,by omega,H3.out,B2.out⟩
     case measure=>simp;omega
    ·have hq0:Hid (Q=false):=a0a (HNo.out (by rw[decide_eq_false hmM];rfl))
     clear HT HNo
     have hm2:(NM:Int)<=m:=by omega
     have hm3:decide ((NM:Int)<=m)=true:=decide_eq_true hm2
     go_wp2_with fail
     obtain⟨f,hf1,hf2⟩:=a7N wr
     have HF1:=a0a hf1
     have HF2:=a0a hf2
     have x0':=fun n=>a0c (hf1 n) x0
     have x6':=fun n=>a0c (hf1 n) x6
     have y0':=fun n=>a0c (hf1 n) y0
     have y1':=fun n=>a0c (hf1 n) y1
     have y2':=fun n=>a0c (hf1 n) y2
     have y3':=fun n=>a0c (hf1 n) y3
     clear hf1 hf2 x0 x6 x7 y0 y1 y2 y3 X
     refine a0i f (by kernel_rfl) (by kernel_rfl) (HF2.out _ (ZD _ _).drew) ?_
     repeat (go_big_quiet_step (first|(go_at_call 54;with_reducible refine ZE (HC.out _) ?_;rintro e W1 ⟨rfl,b5⟩;exact⟨rfl,HF2.out _ (a0b (HF1.out _) b5 (HF1.out _).size)⟩)))
     refine wpQuiet_nil ?_
     intro w6 hw6
     obtain⟨n6,rfl⟩:=hw6
     have B2:=a0a (a0b HB.out (HF1.out n6) HB.out.size)
     have B2w:=a0a (a0b B1.out B2.out B1.out.size)
     clear x0' x6' y0' y1' y2' y3'
     generalize f n6=w6 at *
     go_wp2_with fail
     go_ret
     exact⟨by rw[hq0.out];rfl,B2w.out⟩
 have hlt':¬(k:Int)<(NW:Int):=by omega
 have hkN:k=NW:=by omega
 have e1:p.wins.take k=p.wins:=by rw[hkN,hNW.out];exact List.take_length
 rw[e1] at HK
 have yes3:Hid (p.crons.all cfB=true->a4Z p=true->a1A p=true->a1W q p=true->Q=true):=fun b c d e=>yes2.out HK.out b c d e
 clear e1 HK yes2 noW hkN x0
 go_wp2_with fail
 clear x6 x7 xl X hlt hlt'
 obtain⟨w3,hw3⟩:∃ w3,w3=wr:=⟨_,rfl⟩
 rw[<-hw3] at HB BW ⊢
 clear hw3
 go_loopw [4] (fun i wr=>∃ k:Nat,i=.int .i64 (k:Nat)/\k<=NC/\Hid ((p.crons.take k).all cfB=true)/\Hid (Below w3.heap.size w3 wr)) (fun i _=>match i with | .int _ p=>((NC:Int)-p).toNat | _=>0)
 case atStart=>exact⟨0,rfl,by omega,a0a rfl,ZD _ _⟩
 case round=>
 obtain⟨k2,rfl,hk2,HK2,HB2⟩:=hrel
 have B3:=a0a (a0b HB.out HB2.out HB.out.size)
 have B3w:=a0a (a0b BW.out HB2.out BW.out.size)
 have X:=Y1.out.next B3.out
 have x6:=X.cell 6 _ rfl
 have x7:=X.cell 7 _ rfl
 have xl:=X.lt
 by_cases hlt:k2<NC
 case pos=>
  have hlt':(k2:Int)<(NC:Int):=by omega
  have hl1:k2<p.crons.length:=by rw[<-hNC.out];exact hlt
  obtain⟨b,off,cap',hv,hle,-,hbl,hx⟩:=a0Q.open HCr.out (by omega)
  simp only[Value.slice.injEq] at hv
  obtain⟨rfl,-,rfl⟩:=hv
  have hxk:=hx k2 hl1
  rw[b7i hl1] at hxk
  have y0:wr.cell? ⟨b,off+k2*5,none⟩=_:=a0c B3w.out (hxk 0 _ rfl)
  have y1:=a0c B3w.out (hxk 1 _ rfl)
  have y2:=a0c B3w.out (hxk 2 _ rfl)
  have y3:=a0c B3w.out (hxk 3 _ rfl)
  have y4:=a0c B3w.out (hxk 4 _ rfl)
  have lbr:b<wr.heap.size:=ZA hbl B3w.out.size
  have HC:=a0a (fun W=>a9v p.crons[k2] (HCk.out _ (List.getElem_mem hl1)) W)
  have HT:=a0a (a4k (f:=cfB) hl1)
  have HNo:=a0a (fun h=>noC.out (a8X (f:=cfB) hl1 h))
  clear hxk hx hle
  generalize p.crons[k2]=x at *
  clear hl1
  obtain⟨y,hy⟩:∃ y,Hid (cfB x=y):=⟨_,rfl⟩
  unfold a3s at HC
  rw[hy.out] at HC HT HNo
  go_wp2_with fail
  refine ZE (HC.out _) ?_
  rintro e w4 ⟨rfl,b1⟩
  have B4:=kb HB2 b1
  have B4w:=kb B3w b1
  clear b1 y0 y1 y2 y3 y4 x6 x7 xl X
  cases y with
  | false=>
    have hq0:Hid (Q=false):=a0a (HNo.out rfl)
    go_wp2_with fail
    go_ret
    exact⟨by rw[hq0.out];rfl,B4w.out⟩
  | true=>
    have H3:Hid ((p.crons.take (k2+1)).all cfB=true):=a0a (by rw[HT.out,HK2.out];rfl)
    clear HT HNo
    go_wp2_with fail
    go_roundw
    case rel=>exact⟨k2+1,by go_num,by omega,H3.out,B4.out⟩
    case measure=>simp;omega
 have hlt':¬(k2:Int)<(NC:Int):=by omega
 have hkN:k2=NC:=by omega
 have e1:p.crons.take k2=p.crons:=by rw[hkN,hNC.out];exact List.take_length
 rw[e1] at HK2
 have yes4:Hid (a4Z p=true->a1A p=true->a1W q p=true->Q=true):=fun c d e=>yes3.out HK2.out c d e
 clear e1 HK2 yes3 noC hkN
 obtain⟨x0,x1,x2,x3⟩:=Box.c4 X
 have x4:=X.cell 4 _ rfl
 have x5:=X.cell 5 _ rfl
 have x8:=X.cell 8 _ rfl
 have x9:=X.cell 9 _ rfl
 have x10:=X.cell 10 _ rfl
 have x11:=X.cell 11 _ rfl
 have x12:=X.cell 12 _ rfl
 have x13:=X.cell 13 _ rfl
 go_wp2_with fail
 refine ZE (HCo.out _ B3w.out) ?_
 rintro e w5 ⟨u,rfl,hu,b5⟩
 have B5:=kb B3 b5
 have B5w:=kb B3w b5
 have HU:=a0a hu
 obtain⟨ad,cap,rfl,hc1,hc2⟩:=hu.shape
 obtain⟨C,hC⟩:∃ C,Hid (C=a0V p):=⟨_,rfl⟩
 rw[<-hC.out] at HU hc1 ⊢
 obtain⟨N,hN⟩:∃ N,Hid (N=C.length):=⟨_,rfl⟩
 rw[<-hN.out] at HU hc1 ⊢
 have hNp:1<=N:=by rw[hN.out,hC.out,a8M];omega
 have hplo:Hid (a2P p=(C.map a0f).flatten):=a0a (by rw[hC.out];exact a9y p)
 clear hu b5 HCo x0 x1 x2 x3 x4 x5 x6 x7 x8 x9 x10 x11 x12 x13 xl X hlt hlt' B3 B3w HB2 HB BW
 go_wp2_with fail
 go_loopw [6,7] (fun n i wr=>∃ (k m:Nat),i=.int .i64 (k:Nat)/\n=.int .i64 (m:Nat)/\k<=N/\m<=4096/\Hid (m=a0C (C.take k))/\Hid (Below w5.heap.size w5 wr)) (fun _ i _=>match i with | .int _ p=>((N:Int)-p).toNat | _=>0)
 case atStart=>exact⟨0,0,rfl,rfl,by omega,by omega,a0a rfl,ZD _ _⟩
 case round=>
 obtain⟨k3,m,rfl,rfl,hk3,hm,HM,HB3⟩:=hrel
 have B6:=a0a (a0b B5.out HB3.out B5.out.size)
 have B6w:=a0a (a0b B5w.out HB3.out B5w.out.size)
 by_cases hlt:k3<N
 case pos=>
  have hlt':(k3:Int)<(N:Int):=by omega
  have hl1:k3<C.length:=by rw[<-hN.out];exact hlt
  obtain⟨b,off,cap',hv,-,-,hbl,hx⟩:=HU.out.open (by omega)
  simp only[Value.slice.injEq] at hv
  obtain⟨rfl,-,rfl⟩:=hv
  obtain⟨u,h6,hu⟩:=hx k3 hl1
  have y0:=a0c HB3.out h6.c0
  have y1:=a0c HB3.out h6.c1
  have y2:=a0c HB3.out h6.c2
  have y3:=a0c HB3.out h6.c3
  have lbr:b<wr.heap.size:=ZA hbl HB3.out.size
  have HCl:=a0a (a8L C[k3] u wr (hu.next HB3.out))
  unfold b0d at HCl
  have HT:Hid (a0C (C.take (k3+1))=a0C (C.take k3)+a0G C[k3]):=by
   show _=_
   rw[List.take_succ_eq_append_getElem hl1,a1R,a2q];simp[a5F]
  have HNo:Hid (4096<a0C (C.take k3)+a0G C[k3]->Q=false):=fun h=>by
   apply noF.out
   unfold a4Z
   rw[hplo.out]
   apply decide_eq_false
   have e:a0C C=a0C (C.take (k3+1))+a0C (C.drop (k3+1)):=by rw[<-a1R,List.take_append_drop]
   have e2:((C.map a0f).flatten).length=a0C C:=rfl
   rw[e2,e,HT.out]
   omega
  obtain⟨au,cu,rfl,-,-⟩:=hu.parts.shape
  clear hx h6 hu
  generalize a0G C[k3]=Z at *
  have hmn:min Z 4097<=4097:=Nat.min_le_right _ _
  obtain⟨M,hM⟩:∃ M,Hid (M=min Z 4097):=⟨_,a0a rfl⟩
  rw[<-hM.out] at HCl hmn
  generalize C[k3]=x at *
  clear hl1
  obtain⟨xk,xn,xm,xps⟩:=x
  dsimp only at *
  generalize xps.length=L at *
  go_wp2_with fail
  refine ZE HCl.out ?_
  rintro e w7 ⟨rfl,b2⟩
  have B7:=kb HB3 b2
  have B7w:=kb B6w b2
  clear b2 HCl y0 y1 y2 y3
  obtain⟨S,hS⟩:∃ S,Hid (S=m+M):=⟨_,a0a rfl⟩
  have i3:(m:Int)+(M:Int)=(S:Int):=by have:=hS.out;omega
  have i4:(S:Int)<=8193:=by have:=hS.out;omega
  have hm2:=a0a hm
  have hmn2:=a0a hmn
  clear hmn hm
  by_cases hS4:S<=4096
  ·have hS5:¬ 4096<(S:Int):=by omega
   have H3:Hid (S=a0C (C.take (k3+1))):=a0a (by rw[HT.out];have:=hS.out;have:=hM.out;have:=HM.out;omega)
   clear HT HNo
   go_wp2_with fail
   go_roundw
   case rel=>exact⟨k3+1,S,by go_num,rfl,by omega,hS4,H3.out,B7.out⟩
   case measure=>simp;omega
  ·have hS5:4096<(S:Int):=by omega
   have hq0:Hid (Q=false):=a0a (HNo.out (by have:=hS.out;have:=hM.out;have:=HM.out;omega))
   clear HT HNo
   go_wp2_with fail
   go_ret
   exact⟨by rw[hq0.out];rfl,B7w.out⟩
 have hlt':¬(k3:Int)<(N:Int):=by omega
 have hkN:k3=N:=by omega
 have e1:C.take k3=C:=by rw[hkN,hN.out];exact List.take_length
 rw[e1] at HM
 have hfew:Hid (a4Z p=true):=by
  show _=_
  unfold a4Z
  rw[hplo.out]
  apply decide_eq_true
  have e2:((C.map a0f).flatten).length=a0C C:=rfl
  rw[e2,<-HM.out]
  exact hm
 have hsm:Hid (∀ i (h:i<C.length),a0G C[i]<=8192):=fun i h=>by
  have h1:=a5G (List.getElem_mem h)
  have h2:=HM.out
  omega
 have yes5:Hid (a1A p=true->a1W q p=true->Q=true):=fun d e=>yes4.out hfew.out d e
 have X:=Y1.out.next B6.out
 have x6:=X.cell 6 _ rfl
 have x7:=X.cell 7 _ rfl
 have x8:=X.cell 8 _ rfl
 have xl:=X.lt
 clear e1 HM yes4 noF hkN hfew
 go_wp2_with fail
 clear x6 x7 x8 xl X hlt hlt'
 have R8:=a0a (Box.new wr [.int .i64 (NW:Int),.int .i64 (NC:Int),.int .i64 p.loc] 113)
 have A8:Below wr.heap.size wr (wr.alloc (.cells [.int .i64 (NW:Int),.int .i64 (NC:Int),.int .i64 p.loc].toArray 113)):=(ZD _ _).alloc (ZB _) _
 have B8:=kb HB3 A8
 have B8w:=kb B6w A8
 obtain⟨RB,hRB⟩:∃ RB,Hid (RB=wr.heap.size):=⟨_,rfl⟩
 rw[<-hRB.out] at R8 ⊢
 clear A8 B6 B6w HB3 hRB
 generalize wr.alloc _=w8 at *
 have hN64:(N:Int)<=9223372036854775807:=by omega
 go_loopw [9,10] (fun i _ wr=>∃ k4:Nat,i=.int .i64 (k4:Nat)/\k4<=N/\Hid (∀ i (h:i<C.length),i<k4->soP p C[i]=a4p N i)/\Hid (Below w8.heap.size w8 wr)) (fun i _ _=>match i with | .int _ p=>((N:Int)-p).toNat | _=>0)
 case atStart=>exact⟨0,rfl,by omega,(fun i h hi=>absurd hi (by omega)),ZD _ _⟩
 case round=>
 obtain⟨k4,rfl,hk4,HK4,HB4⟩:=hrel
 have B9:=a0a (a0b B8.out HB4.out B8.out.size)
 have B9w:=a0a (a0b B8w.out HB4.out B8w.out.size)
 have R9:=R8.out.next HB4.out
 obtain⟨z0,z1,z2⟩:=Box.c3 R9
 have zl:=R9.lt
 by_cases hlt:k4<N
 case pos=>
  have hlt':(k4:Int)<(N:Int):=by omega
  have hl1:k4<C.length:=by rw[<-hN.out];exact hlt
  obtain⟨b,off,cap',hv,-,-,hbl,hx⟩:=HU.out.open (by omega)
  simp only[Value.slice.injEq] at hv
  obtain⟨rfl,-,rfl⟩:=hv
  obtain⟨u,h6,hu⟩:=hx k4 hl1
  have y0:=a0c B9.out h6.c0
  have y1:=a0c B9.out h6.c1
  have y2:=a0c B9.out h6.c2
  have y3:=a0c B9.out h6.c3
  have lbr:b<wr.heap.size:=ZA hbl B9.out.size
  have HCl:=a0a (fun W (hW:Below w5.heap.size w5 W)=>HSo.out C[k4] u W (hu.next hW) (hsm.out k4 hl1))
  have HT:Hid (soP p C[k4]=a4p N k4->∀ i (h:i<C.length),i<k4+1->soP p C[i]=a4p N i):=fun h i hi hik=>by
   by_cases e:i=k4
   ·subst e;exact h
   ·exact HK4.out i hi (by omega)
  have HNo:Hid (soP p C[k4]≠a4p N k4->Q=false):=fun h=>by
   apply noO.out
   cases hb:a1A p with
   | false=>rfl
   | true=>
     have:=(a8f p).1 hb k4 (by rw[<-hC.out];exact hl1)
     simp only[<-hC.out,<-hN.out] at this
     exact absurd this h
  have hso:Hid (soP p C[k4]=a0l a0H NW NC p.loc C[k4]):=a0a (by rw[hNW.out,hNC.out])
  rw[hso.out] at HT HNo
  generalize a0l a0H NW NC p.loc C[k4]=sv at *
  clear hso
  obtain⟨au,cu,rfl,-,-⟩:=hu.parts.shape
  clear hx h6 hu
  generalize C[k4]=x at *
  clear hl1
  obtain⟨xk,xn,xm,xps⟩:=x
  dsimp only at *
  generalize xps.length=L at *
  have ht:(k4:Int).tmod 2=((k4%2:Nat):Int):=by rw[Int.tmod_eq_emod_of_nonneg (by omega)];omega
  unfold b8Q at HCl
  obtain⟨wn,hwn⟩:∃ wn,Hid (wn=a4p N k4):=⟨_,rfl⟩
  rw[<-hwn.out] at HT HNo
  have key:((k4%2=0/\k4+1<N)/\wn=2)\/((k4%2=0/\¬ k4+1<N)/\wn=3)\/(k4%2=1/\wn=3):=by
   rw[hwn.out]
   unfold a4p
   by_cases h1:k4%2=0
   ·by_cases h2:k4+1<N
    ·exact .inl ⟨⟨h1,h2⟩,if_pos ⟨h1,h2⟩⟩
    ·exact .inr (.inl ⟨⟨h1,h2⟩,if_neg (fun h=>h2 h.2)⟩)
   ·exact .inr (.inr ⟨by omega,if_neg (fun h=>h1 h.1)⟩)
  clear hwn
  rcases key with ⟨⟨m1,m2⟩,rfl⟩ | ⟨⟨m1,m2⟩,rfl⟩ | ⟨m1,rfl⟩
  ·have m1':((k4%2:Nat):Int)=0:=by omega
   have m2':(k4:Int)<(N:Int)-1:=by omega
   rw[m1'] at ht
   clear m1 m1' hk4 hN64
   by_cases hsv:sv=2
   ·subst hsv
    go_wp2_with fail
    obtain⟨f,hf1,hf2⟩:=a7N wr
    have HF1:=a0a hf1
    have HF2:=a0a hf2
    have z0':=fun n=>a0c (hf1 n) z0
    have z1':=fun n=>a0c (hf1 n) z1
    have z2':=fun n=>a0c (hf1 n) z2
    have y0':=fun n=>a0c (hf1 n) y0
    have y1':=fun n=>a0c (hf1 n) y1
    have y2':=fun n=>a0c (hf1 n) y2
    have y3':=fun n=>a0c (hf1 n) y3
    clear hf1 hf2 z0 z1 z2 y0 y1 y2 y3 R9
    refine a0i f (by kernel_rfl) (by kernel_rfl) (HF2.out _ (ZD _ _).drew) ?_
    repeat (go_big_quiet_step (first|(go_at_call 56;with_reducible refine ZE (HCl.out _ (a0b B9.out (HF1.out _) B9.out.size)) ?_;rintro e W1 ⟨rfl,b5⟩;exact⟨rfl,HF2.out _ (a0b (HF1.out _) b5 (HF1.out _).size)⟩)))
    refine wpQuiet_nil ?_
    intro w6 hw6
    obtain⟨n6,rfl⟩:=hw6
    have B10:=a0a (a0b HB4.out (HF1.out n6) HB4.out.size)
    clear z0' z1' z2' y0' y1' y2' y3' HCl
    generalize f n6=w6 at *
    have H3:=a0a (HT.out (by first | rfl | trivial))
    clear HT HNo
    go_wp2_with fail
    go_roundw
    case rel=>exact⟨k4+1,by go_num,by omega,H3.out,B10.out⟩
    case measure=>simp;omega
   ·have hsv':(sv != 2)=true:=by simpa using hsv
    have hq0:Hid (Q=false):=a0a (HNo.out hsv)
    go_wp2_with fail
    obtain⟨f,hf1,hf2⟩:=a7N wr
    have HF1:=a0a hf1
    have HF2:=a0a hf2
    have z0':=fun n=>a0c (hf1 n) z0
    have z1':=fun n=>a0c (hf1 n) z1
    have z2':=fun n=>a0c (hf1 n) z2
    have y0':=fun n=>a0c (hf1 n) y0
    have y1':=fun n=>a0c (hf1 n) y1
    have y2':=fun n=>a0c (hf1 n) y2
    have y3':=fun n=>a0c (hf1 n) y3
    clear hf1 hf2 z0 z1 z2 y0 y1 y2 y3 R9
    refine a0i f (by kernel_rfl) (by kernel_rfl) (HF2.out _ (ZD _ _).drew) ?_
    repeat (go_big_quiet_step (first|(go_at_call 56;with_reducible refine ZE (HCl.out _ (a0b B9.out (HF1.out _) B9.out.size)) ?_;rintro e W1 ⟨rfl,b5⟩;exact⟨rfl,HF2.out _ (a0b (HF1.out _) b5 (HF1.out _).size)⟩)))
    refine wpQuiet_nil ?_
    intro w6 hw6
    obtain⟨n6,rfl⟩:=hw6
    have B10:=a0a (a0b B9w.out (HF1.out n6) B9w.out.size)
    clear z0' z1' z2' y0' y1' y2' y3' HCl
    generalize f n6=w6 at *
    clear HT HNo
    go_wp2_with fail
    go_ret
    exact⟨by rw[hq0.out];rfl,B10.out⟩
  ·have m1':((k4%2:Nat):Int)=0:=by omega
   have m2':¬(k4:Int)<(N:Int)-1:=by omega
   rw[m1'] at ht
   clear m1 m1' hk4 hN64
   by_cases hsv:sv=3
   ·subst hsv
    go_wp2_with fail
    obtain⟨f,hf1,hf2⟩:=a7N wr
    have HF1:=a0a hf1
    have HF2:=a0a hf2
    have z0':=fun n=>a0c (hf1 n) z0
    have z1':=fun n=>a0c (hf1 n) z1
    have z2':=fun n=>a0c (hf1 n) z2
    have y0':=fun n=>a0c (hf1 n) y0
    have y1':=fun n=>a0c (hf1 n) y1
    have y2':=fun n=>a0c (hf1 n) y2
    have y3':=fun n=>a0c (hf1 n) y3
    clear hf1 hf2 z0 z1 z2 y0 y1 y2 y3 R9
    refine a0i f (by kernel_rfl) (by kernel_rfl) (HF2.out _ (ZD _ _).drew) ?_
    repeat (go_big_quiet_step (first|(go_at_call 56;with_reducible refine ZE (HCl.out _ (a0b B9.out (HF1.out _) B9.out.size)) ?_;rintro e W1 ⟨rfl,b5⟩;exact⟨rfl,HF2.out _ (a0b (HF1.out _) b5 (HF1.out _).size)⟩)))
    refine wpQuiet_nil ?_
    intro w6 hw6
    obtain⟨n6,rfl⟩:=hw6
    have B10:=a0a (a0b HB4.out (HF1.out n6) HB4.out.size)
    clear z0' z1' z2' y0' y1' y2' y3' HCl
    generalize f n6=w6 at *
    have H3:=a0a (HT.out (by first | rfl | trivial))
    clear HT HNo
    go_wp2_with fail
    go_roundw
    case rel=>exact⟨k4+1,by go_num,by omega,H3.out,B10.out⟩
    case measure=>simp;omega
   ·have hsv':(sv != 3)=true:=by simpa using hsv
    have hq0:Hid (Q=false):=a0a (HNo.out hsv)
    go_wp2_with fail
    obtain⟨f,hf1,hf2⟩:=a7N wr
    have HF1:=a0a hf1
    have HF2:=a0a hf2
    have z0':=fun n=>a0c (hf1 n) z0
    have z1':=fun n=>a0c (hf1 n) z1
    have z2':=fun n=>a0c (hf1 n) z2
    have y0':=fun n=>a0c (hf1 n) y0
    have y1':=fun n=>a0c (hf1 n) y1
    have y2':=fun n=>a0c (hf1 n) y2
    have y3':=fun n=>a0c (hf1 n) y3
    clear hf1 hf2 z0 z1 z2 y0 y1 y2 y3 R9
    refine a0i f (by kernel_rfl) (by kernel_rfl) (HF2.out _ (ZD _ _).drew) ?_
    repeat (go_big_quiet_step (first|(go_at_call 56;with_reducible refine ZE (HCl.out _ (a0b B9.out (HF1.out _) B9.out.size)) ?_;rintro e W1 ⟨rfl,b5⟩;exact⟨rfl,HF2.out _ (a0b (HF1.out _) b5 (HF1.out _).size)⟩)))
    refine wpQuiet_nil ?_
    intro w6 hw6
    obtain⟨n6,rfl⟩:=hw6
    have B10:=a0a (a0b B9w.out (HF1.out n6) B9w.out.size)
    clear z0' z1' z2' y0' y1' y2' y3' HCl
    generalize f n6=w6 at *
    clear HT HNo
    go_wp2_with fail
    go_ret
    exact⟨by rw[hq0.out];rfl,B10.out⟩
  ·have m1':((k4%2:Nat):Int)=1:=by omega
   rw[m1'] at ht
   clear m1 m1' hk4 hN64
   by_cases hsv:sv=3
   ·subst hsv
    go_wp2_with fail
    obtain⟨f,hf1,hf2⟩:=a7N wr
    have HF1:=a0a hf1
    have HF2:=a0a hf2
    have z0':=fun n=>a0c (hf1 n) z0
    have z1':=fun n=>a0c (hf1 n) z1
    have z2':=fun n=>a0c (hf1 n) z2
    have y0':=fun n=>a0c (hf1 n) y0
    have y1':=fun n=>a0c (hf1 n) y1
    have y2':=fun n=>a0c (hf1 n) y2
    have y3':=fun n=>a0c (hf1 n) y3
    clear hf1 hf2 z0 z1 z2 y0 y1 y2 y3 R9
    refine a0i f (by kernel_rfl) (by kernel_rfl) (HF2.out _ (ZD _ _).drew) ?_
    repeat (go_big_quiet_step (first|(go_at_call 56;with_reducible refine ZE (HCl.out _ (a0b B9.out (HF1.out _) B9.out.size)) ?_;rintro e W1 ⟨rfl,b5⟩;exact⟨rfl,HF2.out _ (a0b (HF1.out _) b5 (HF1.out _).size)⟩)))
    refine wpQuiet_nil ?_
    intro w6 hw6
    obtain⟨n6,rfl⟩:=hw6
    have B10:=a0a (a0b HB4.out (HF1.out n6) HB4.out.size)
    clear z0' z1' z2' y0' y1' y2' y3' HCl
    generalize f n6=w6 at *
    have H3:=a0a (HT.out (by first | rfl | trivial))
    clear HT HNo
    go_wp2_with fail
    go_roundw
    case rel=>exact⟨k4+1,by go_num,by omega,H3.out,B10.out⟩
    case measure=>simp;omega
   ·have hsv':(sv != 3)=true:=by simpa using hsv
    have hq0:Hid (Q=false):=a0a (HNo.out hsv)
    go_wp2_with fail
    obtain⟨f,hf1,hf2⟩:=a7N wr
    have HF1:=a0a hf1
    have HF2:=a0a hf2
    have z0':=fun n=>a0c (hf1 n) z0
    have z1':=fun n=>a0c (hf1 n) z1
    have z2':=fun n=>a0c (hf1 n) z2
    have y0':=fun n=>a0c (hf1 n) y0
    have y1':=fun n=>a0c (hf1 n) y1
    have y2':=fun n=>a0c (hf1 n) y2
    have y3':=fun n=>a0c (hf1 n) y3
    clear hf1 hf2 z0 z1 z2 y0 y1 y2 y3 R9
    refine a0i f (by kernel_rfl) (by kernel_rfl) (HF2.out _ (ZD _ _).drew) ?_
    repeat (go_big_quiet_step (first|(go_at_call 56;with_reducible refine ZE (HCl.out _ (a0b B9.out (HF1.out _) B9.out.size)) ?_;rintro e W1 ⟨rfl,b5⟩;exact⟨rfl,HF2.out _ (a0b (HF1.out _) b5 (HF1.out _).size)⟩)))
    refine wpQuiet_nil ?_
    intro w6 hw6
    obtain⟨n6,rfl⟩:=hw6
    have B10:=a0a (a0b B9w.out (HF1.out n6) B9w.out.size)
    clear z0' z1' z2' y0' y1' y2' y3' HCl
    generalize f n6=w6 at *
    clear HT HNo
    go_wp2_with fail
    go_ret
    exact⟨by rw[hq0.out];rfl,B10.out⟩
 have hlt':¬(k4:Int)<(N:Int):=by omega
 have hkN:k4=N:=by omega
 have hsrt:Hid (a1A p=true):=by
  apply (a8f p).2
  intro i hi
  have:=HK4.out i (by rw[hC.out];exact hi) (by rw[hkN,hN.out,hC.out];exact hi)
  simp only[hC.out,hN.out] at this
  exact this
 have hDp:Hid (∀ x,x∈a2P p->b7E x):=a8C hsrt.out H256.out
 have yes6:Hid (a1W q p=true->Q=true):=fun e=>yes5.out hsrt.out e
 have hal:Hid (a1W q p=(a0d (a0M q) (C.map a0f).flatten []).2):=by show _=_;unfold a1W;rw[hplo.out]
 rw[hal.out] at yes6 noA
 have hDc:Hid (∀ i (h:i<C.length),∀ y,y∈a0f C[i]->b7E y):=fun i h y hy=>hDp.out y (by rw[hplo.out];exact List.mem_flatten.2 ⟨_,List.mem_map.2 ⟨_,List.getElem_mem h,rfl⟩,hy⟩)
 obtain⟨i0,hi,hz0,hz1,hz2⟩:=a6t
 clear HK4 hkN hsrt yes5 hal hDp noO z0 z1 z2 zl R9 hsm
 go_wp2_with (at_make;refine wpList_make_full _ rfl _ _ 28 rfl wr.heap.size 30 i0 (coV ⟨0,0,0,[]⟩ (.slice none 0 0)) 4 Tryz.underlying28 hi hz0 hz1 _ _ _ _ 256 rfl rfl rfl rfl (by rw[hz2];decide) (by unfold maxLen;omega) (ZB _) ?_;intro w10 hown hgrow;have hb10:Below wr.heap.size wr w10:=(ZD _ _).grown hgrow (ZB _) (by simp);have HB10:=a0a hb10;have HO:=a0a hown;clear hb10 hown hgrow)
 have HBx:Hid (Box w10 wr.heap.size (flC (List.replicate 256 ((⟨0,0,0,[]⟩:Co),Value.slice none 0 0)))):=by
  rcases b0V HO.out with ⟨h,_⟩ | ⟨g,c,h,_,hb⟩
  ·cases h
  ·simp only[Value.slice.injEq,Option.some.injEq,Addr.mk.injEq,and_true] at h
   obtain⟨⟨rfl,_⟩,_⟩:=h
   rw[b3G] at hb
   exact hb
 have B10:=a0a (a0b B9.out HB10.out B9.out.size)
 have B10w:=a0a (a0b B9w.out HB10.out B9w.out.size)
 obtain⟨G,hG⟩:∃ G,Hid (G=wr.heap.size):=⟨_,rfl⟩
 have hGw:Hid (w5.heap.size<=G):=a0a (by rw[hG.out];exact B9.out.size)
 rw[<-hG.out] at HBx ⊢
 have HH0:Hid (a1I w5 w10 G []):=b6K HBx.out
 have hGw2:Hid (w.heap.size<=G):=ZC B5w.out.size hGw.out
 clear HO HB10 hG HBx B9 B9w HB4 hlt hlt' hi hz0 hz1 hz2
 go_loopw [12] (fun i wr=>∃ k5:Nat,i=.int .i64 (k5:Nat)/\k5<=N/\Hid ((a0d (a0M q) ((C.take k5).map a0f).flatten []).2=true)/\Hid (a1I w5 wr G (a0d (a0M q) ((C.take k5).map a0f).flatten []).1)/\Hid (a0h [G] w10 wr)) (fun i _=>match i with | .int _ p=>((N:Int)-p).toNat | _=>0)
 case atStart=>exact⟨0,rfl,by omega,a0a rfl,HH0.out,a0h.refl _ _⟩
 case round=>
 obtain⟨k5,rfl,hk5,HK5,HH5,HT5⟩:=hrel
 have B11:=a0a (a0L B10.out HT5.out (fun b hm=>by simp at hm;have:=hGw.out;omega))
 have B11w:=a0a (B10w.out.trans (HT5.out.below (fun b hm=>by simp at hm;have:=hGw2.out;omega) B10w.out.size))
 by_cases hlt:k5<N
 case pos=>
  have hlt':(k5:Int)<(N:Int):=by omega
  have hl1:k5<C.length:=by rw[<-hN.out];exact hlt
  obtain⟨b,off,cap',hv,-,-,hbl,hx⟩:=HU.out.open (by omega)
  simp only[Value.slice.injEq] at hv
  obtain⟨rfl,-,rfl⟩:=hv
  obtain⟨u,h6,hu⟩:=hx k5 hl1
  have y0:=a0c B11.out h6.c0
  have y1:=a0c B11.out h6.c1
  have y2:=a0c B11.out h6.c2
  have y3:=a0c B11.out h6.c3
  have lbr:b<wr.heap.size:=ZA hbl B11.out.size
  have HCl:=a0a (c1d q hq w5 G C[k5] (hDc.out k5 hl1) (a0d (a0M q) ((C.take k5).map a0f).flatten []).1 u wr HH5.out B11.out hGw.out hu)
  have HCut:=a0a (b4C (vs:=a0M q) hl1 HK5.out)
  obtain⟨au,cu,rfl,-,-⟩:=hu.parts.shape
  clear hx h6 hu
  generalize C[k5]=x at *
  clear hl1
  obtain⟨xk,xn,xm,xps⟩:=x
  dsimp only at *
  generalize xps.length=L at *
  unfold b2C at HCl
  generalize a0d (a0M q) (a0f ⟨xk,xn,xm,xps⟩) (a0d (a0M q) ((C.take k5).map a0f).flatten []).1=qq at *
  go_wp2_with fail
  refine ZE HCl.out ?_
  rintro e w12 ⟨rfl,hh,t2⟩
  have HT6:=a0a (a0D HT5.out t2)
  have B12w:=a0a (B11w.out.trans (t2.below (fun b hm=>by simp at hm;have:=hGw2.out;omega) B11w.out.size))
  have Hh:=a0a hh
  clear hh t2 y0 y1 y2 y3 HCl
  obtain⟨qs,qb⟩:=qq
  cases qb with
  | false=>
    have hq0:Hid (Q=false):=a0a (noA.out (HCut.out.2 rfl))
    clear HCut
    simp only[]
    go_wp2_with fail
    go_ret
    exact⟨by rw[hq0.out];rfl,B12w.out⟩
  | true=>
    have H3:Hid ((a0d (a0M q) ((C.take (k5+1)).map a0f).flatten []).2=true):=by show _=_;rw[HCut.out.1]
    have H4:Hid (a1I w5 w12 G (a0d (a0M q) ((C.take (k5+1)).map a0f).flatten []).1):=by rw[HCut.out.1];exact Hh.out (by first | rfl | trivial)
    clear HCut Hh
    simp only[]
    go_wp2_with fail
    go_roundw
    case rel=>exact⟨k5+1,by go_num,by omega,H3.out,H4.out,HT6.out⟩
    case measure=>simp;omega
 have hlt':¬(k5:Int)<(N:Int):=by omega
 have hkN:k5=N:=by omega
 have e1:C.take k5=C:=by rw[hkN,hN.out];exact List.take_length
 rw[e1] at HK5
 have hq1:Hid (Q=true):=a0a (yes6.out HK5.out)
 clear e1 HK5 HH5 HH0 hkN yes6 noA
 go_wp2_with fail
 go_ret
 exact⟨by rw[hq1.out];rfl,B11w.out⟩
end Go.Proofs.YtbddbnjhmdbkbaaGreatDoor
