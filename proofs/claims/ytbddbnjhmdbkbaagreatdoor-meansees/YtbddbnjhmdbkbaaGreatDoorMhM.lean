import Derived.Test.YtbddbnjhmdbkbaaGreatDoorMhL
import Derived.Test.YtbddbnjhmdbkbaaGreatDoorMgD
import Derived.Test.YtbddbnjhmdbkbaaGreatDoorMhB
namespace Go.Proofs.YtbddbnjhmdbkbaaGreatDoor
open Go.RowKit
set_option maxHeartbeats 1000000 in
theorem c3D (f:Nat)(q:Array Value)(hE:Ent f)(B:Co×Co->Bool)(l:List (Co×Co))(v:Value)(w:World)(hs:b2D w v l)
 (hC:∀ g,g∈l->∀ u1 u2 w',Below w.heap.size w w'->a0p w' g.1 u1->a0p w' g.2 u2->Calls Tryz.prog f (#[guV g u1 u2]++q) w' fun e w''=>e=.returned (.bool (B g))/\Below w'.heap.size w' w'') :
 Calls Tryz.prog 79 #[v,.func (.func f) #[] q] w fun e w'=>e=.returned (.bool (l.all B))/\Below w.heap.size w w':=by
 by_cases hn:l=[]
 ·subst hn
  obtain⟨ad,cap,rfl,-,-⟩:=hs.shape
  clear hC hs
  go_enter Tryz.func79,Tryz.ntmps79
  go_wp2_with fail
  refine wp_loop_rounds 1 ?_
  rw[rounds_succ]
  go_wp2_with fail
  go_ret
  exact⟨rfl,ZD _ _⟩
 ·obtain⟨b,off,cap,rfl,hle,hc,hbl,hx⟩:=hs.open (List.length_pos_iff.2 hn)
  have HX:=a0a hx
  have HCc:=a0a hC
  obtain⟨N,hN⟩:∃ N,Hid (N=l.length):=⟨_,rfl⟩
  have hpos:0<N:=by rw[hN.out];exact List.length_pos_iff.2 hn
  rw[<-hN.out] at hle ⊢
  obtain⟨Q,hQ⟩:∃ Q,Hid (Q=l.all B):=⟨_,rfl⟩
  rw[<-hQ.out]
  unfold Ent at hE
  clear hC hs hn hx
  go_enter Tryz.func79,Tryz.ntmps79
  go_wp2_with fail
  go_loopw [9] (fun i wr=>∃ k:Nat,i=.int .i64 (k:Nat)/\k<=N/\Hid ((l.take k).all B=true)/\Hid (Below w.heap.size w wr)) (fun i _=>match i with | .int _ p=>((N:Int)-p).toNat | _=>0)
  case atStart=>exact⟨0,rfl,by omega,a0a rfl,ZD _ _⟩
  case round=>
   obtain⟨k,rfl,hk,HK,HB⟩:=hrel
   by_cases hlt:k<N
   ·have hlt':(k:Int)<(N:Int):=by omega
    have hl1:k<l.length:=by rw[<-hN.out];exact hlt
    obtain⟨u1,u2,h6,h7,hu1,hu2⟩:=HX.out k hl1
    have c0:=a0c HB.out h6.c0
    have c1:=a0c HB.out h6.c1
    have c2:=a0c HB.out h6.c2
    have c3:=a0c HB.out h6.c3
    have c4:=a0c HB.out h7.c0
    have c5:wr.cell? ⟨b,off+k*8+5,none⟩=_:=a0c HB.out h7.c1
    have c6:wr.cell? ⟨b,off+k*8+6,none⟩=_:=a0c HB.out h7.c2
    have c7:wr.cell? ⟨b,off+k*8+7,none⟩=_:=a0c HB.out h7.c3
    have lbr:b<wr.heap.size:=ZA hbl HB.out.size
    have A:∀ o,Below wr.heap.size wr (wr.alloc o):=fun o=>(ZD _ _).alloc (ZB _) _
    have HA:=a0a A
    have HW:=a0a (fun o=>HCc.out l[k] (List.getElem_mem hl1) u1 u2 (wr.alloc o) (a0b HB.out (A o) HB.out.size) ((hu1.next HB.out).next (A o)) ((hu2.next HB.out).next (A o)))
    have HT:=a0a (a4k (f:=B) hl1)
    have HNo:=a0a (fun h=>a8X (f:=B) hl1 h)
    obtain⟨au,cu,rfl,-,-⟩:=hu1.parts.shape
    obtain⟨av,cv,rfl,-,-⟩:=hu2.parts.shape
    clear h6 h7 hu1 hu2 HX A HCc
    generalize l[k]=x at *
    clear hl1
    obtain⟨⟨k1,n1,m1,ps1⟩,⟨k2,n2,m2,ps2⟩⟩:=x
    dsimp only at *
    generalize ps1.length=L1 at *
    generalize ps2.length=L2 at *
    generalize B (⟨k1,n1,m1,ps1⟩,⟨k2,n2,m2,ps2⟩)=y at *
    go_wp2_with fail
    refine ZE (HW.out _) ?_
    rintro e w1 ⟨rfl,b1⟩
    have B1:=a0a (a0b HB.out (a0b (HA.out _) b1 (by simp)) HB.out.size)
    clear b1 c0 c1 c2 c3 c4 c5 c6 c7
    cases y with
    | false=>
      have hq0:Hid (Q=false):=a0a (by rw[hQ.out];exact HNo.out rfl)
      go_wp2_with fail
      go_ret
      exact⟨by rw[hq0.out];rfl,B1.out⟩
    | true=>
      have H3:Hid ((l.take (k+1)).all B=true):=a0a (by rw[HT.out,HK.out];rfl)
      go_wp2_with fail
      go_roundw
      case rel=>exact⟨k+1,by go_num,by omega,H3.out,B1.out⟩
      case measure=>simp;omega
   ·have hlt':¬(k:Int)<(N:Int):=by omega
    have hkN:k=N:=by omega
    subst hkN
    have e1:l.take k=l:=by rw[hN.out];exact List.take_length
    rw[e1,<-hQ.out] at HK
    go_wp2_with fail
    go_ret
    exact⟨by rw[HK.out];rfl,HB.out⟩
set_option maxHeartbeats 1000000 in
theorem c1a (wn cn ln:Int)(h64:C64 wn/\C64 cn/\C64 ln)(g:Co×Co)(u1 u2:Value)(b sb:Nat)(w:World)(h1:a0p w g.1 u1)(h2:a0p w g.2 u2)(n1:a0G g.1<=4096)(n2:a0G g.2<=4096)(hb:Box w sb (soL b wn cn ln))(hr:a3h w b):
 Calls Tryz.prog 80 (#[guV g u1 u2]++#[.pointer (some ⟨sb,0,none⟩)]) w fun e w'=>e=.returned (.bool (decide (a0l a0H wn cn ln g.1=2)&&decide (a0l a0H wn cn ln g.2=3)))/\Below w.heap.size w w':=by
 have HA:Hid (∀ o,Below w.heap.size w (w.alloc o)):=fun o=>(ZD _ _).alloc (ZB _) _
 have HS1:=a0a (fun W (hW:Below w.heap.size w W)=>b0a wn cn ln h64 g.1 u1 b sb W (h1.next hW) (by omega) (hb.next hW) (hr.next hW))
 have HS2:=a0a (fun W (hW:Below w.heap.size w W)=>b0a wn cn ln h64 g.2 u2 b sb W (h2.next hW) (by omega) (hb.next hW) (hr.next hW))
 obtain⟨a1,c1,rfl,-,-⟩:=h1.parts.shape
 obtain⟨a2,c2,rfl,-,-⟩:=h2.parts.shape
 clear h1 h2 n1 n2 hb hr
 obtain⟨⟨k1,o1,m1,ps1⟩,⟨k2,o2,m2,ps2⟩⟩:=g
 dsimp only at *
 generalize ps1.length=L1 at *
 generalize ps2.length=L2 at *
 generalize a0l a0H wn cn ln ⟨k1,o1,m1,ps1⟩=s1 at *
 generalize a0l a0H wn cn ln ⟨k2,o2,m2,ps2⟩=s2 at *
 have Y0:=a0a (Box.new w [.int .i64 k1,.int .i64 o1,.int .i64 m1,.slice a1 L1 c1,.int .i64 k2,.int .i64 o2,.int .i64 m2,.slice a2 L2 c2] 101)
 show Calls Tryz.prog 80 #[.agg #[.int .i64 k1,.int .i64 o1,.int .i64 m1,.slice a1 L1 c1,.int .i64 k2,.int .i64 o2,.int .i64 m2,.slice a2 L2 c2],.pointer (some ⟨sb,0,none⟩)] w _
 go_enter Tryz.func80,Tryz.ntmps80
 go_wp2_with fail
 refine ZE (HS1.out _ (HA.out _)) ?_
 rintro e w1 ⟨rfl,b1⟩
 have B1:=a0a (a0b (HA.out _) b1 (by simp))
 have Z:=Y0.out.next b1
 have z4:=Z.cell 4 _ rfl
 have z5:=Z.cell 5 _ rfl
 have z6:=Z.cell 6 _ rfl
 have z7:=Z.cell 7 _ rfl
 have zl:=Z.lt
 clear b1 Z Y0 HS1
 by_cases hs1:s1=2
 ·subst hs1
  go_wp2_with fail
  refine ZE (HS2.out _ B1.out) ?_
  rintro e w2 ⟨rfl,b2⟩
  have B2:=kb B1 b2
  clear b2 z4 z5 z6 z7 zl
  go_wp2_with fail
  go_ret
  exact⟨by simp;rfl,B2.out⟩
 ·have k1':(s1==2)=false:=by simpa using hs1
  have e1:Hid (decide (s1=2)=false):=decide_eq_false hs1
  go_wp2_with fail
  go_ret
  exact⟨by rw[e1.out];rfl,B1.out⟩
theorem b4q:Ent 80:=by intro args W;kernel_rfl
set_option maxHeartbeats 2000000 in
theorem a8o (p:PlP)(v:PlV)(w:World)(hs:a4n w p v)(hfew:a4Z p=true):Calls Tryz.prog 46 #[plV p v] w fun e w'=>e=.returned (.bool (a1A p))/\Below w.heap.size w w':=by
 have HS:=a0a hs
 have hshape:=hs.shapes
 obtain⟨a1,c1,a2,c2,a3,c3,a4,c4,a5,c5,rfl,g1,g2,g3,g4⟩:=hshape
 have h64:C64 p.wins.length/\C64 p.crons.length/\C64 p.loc:=⟨⟨by omega,by omega⟩,⟨by omega,by omega⟩,hs.loc⟩
 have HAl:=a0a (fun W (hW:Below w.heap.size w W) b sb (hb:Box W sb (soL b p.wins.length p.crons.length p.loc)) (hr:a3h W b)=>
  c3D 80 #[.pointer (some ⟨sb,0,none⟩)] b4q (fun g=>decide (soP p g.1=2)&&decide (soP p g.2=3)) p.gs (.slice a4 p.gs.length c4) W (b2D.next HS.out.gs hW) (fun g hg u1 u2 w' hw' s1 s2=>c1a p.wins.length p.crons.length p.loc h64 g u1 u2 b sb w' s1 s2 (a5D hfew hg).1 (a5D hfew hg).2 (hb.next hw') (hr.next hw')))
 have HFi:=a0a (fun W (hW:Below w.heap.size w W) b sb (hb:Box W sb (soL b p.wins.length p.crons.length p.loc)) (hr:a3h W b)=>b0a p.wins.length p.crons.length p.loc h64 p.fin (.slice a5 p.fin.parts.length c5) b sb W (HS.out.fi.next hW) (by have:=b4j hfew;omega) hb hr)
 obtain⟨Q,hQ⟩:∃ Q,Hid (Q=a1A p):=⟨_,rfl⟩
 rw[<-hQ.out]
 have hQ2:Hid (Q=(p.gs.all (fun g=>decide (soP p g.1=2)&&decide (soP p g.2=3))&&decide (a0l a0H p.wins.length p.crons.length p.loc p.fin=3))):=hQ
 generalize p.gs.all (fun g=>decide (soP p g.1=2)&&decide (soP p g.2=3))=Y at *
 generalize a0l a0H p.wins.length p.crons.length p.loc p.fin=s3 at *
 have HRo:=a0a (fun W=>b0U W)
 clear hs hfew hQ
 have Y0:=a0a (Box.new w (plL p ⟨.slice a1 p.mets.length c1,.slice a2 p.wins.length c2,.slice a3 p.crons.length c3,.slice a4 p.gs.length c4,.slice a5 p.fin.parts.length c5⟩) 32)
 have B0:=a0a ((ZD w.heap.size w).alloc (ZB _) (.cells (plL p ⟨.slice a1 p.mets.length c1,.slice a2 p.wins.length c2,.slice a3 p.crons.length c3,.slice a4 p.gs.length c4,.slice a5 p.fin.parts.length c5⟩).toArray 32))
 have x6:=Y0.out.cell 6 _ rfl
 have x7:=Y0.out.cell 7 _ rfl
 have x8:=Y0.out.cell 8 _ rfl
 have xl:=Y0.out.lt
 generalize p.wins.length=LW at *
 generalize p.crons.length=LC at *
 generalize p.gs.length=LG at *
 go_enter Tryz.func46,Tryz.ntmps46
 go_wp2_with fail
 generalize hW0:w.alloc _=w0 at *
 clear hW0
 go_region_held3 (fun w'=>w'.cell? ⟨w.heap.size,6,none⟩=some (.slice a2 LW c2)/\w'.cell? ⟨w.heap.size,7,none⟩=some (.slice a3 LC c3)/\w'.cell? ⟨w.heap.size,8,none⟩=some (.int .i64 p.loc)) (simp[go_sem, *]) (first|(go_at_call 78;refine ZE (HRo.out _) ?_;rintro e w1 ⟨b,rfl,hr,B1⟩;have BW:Below w0.heap.size w0 w1:=⟨B1.os,B1.tape,B1.output,B1.size,B1.block⟩;replace x6:=a0c BW x6;replace x7:=a0c BW x7;replace x8:=a0c BW x8;have xl1:w.heap.size<w1.heap.size:=ZA xl BW.size;have HR1:=a0a hr;have HB1:=a0a BW;clear hr B1 BW)|(go_at_call 78;refine ZE (HRo.out _) ?_;rintro e w1 ⟨b,rfl,hr,B1⟩;have BW:Below w0.heap.size w0 w1:=a0b ((ZD w0.heap.size w0).alloc (ZB _) _).drew B1 (by simp);replace x6:=a0c BW x6;replace x7:=a0c BW x7;replace x8:=a0c BW x8;have xl1:w.heap.size<w1.heap.size:=ZA xl BW.size;have Z:=(Box.new w0 [.slice none 0 0,.int .i64 0,.int .i64 0,.int .i64 0] 136).next (w':=w1) ⟨B1.os,B1.tape,B1.output,B1.size,B1.block⟩;have z0:=Z.cell 0 _ rfl;have z1:=Z.cell 1 _ rfl;have z2:=Z.cell 2 _ rfl;have z3:=Z.cell 3 _ rfl;have y0:=Z.free 0 (by simp);have y1:=Z.free 1 (by simp);have y2:=Z.free 2 (by simp);have y3:=Z.free 3 (by simp);have yl:=Z.lt;have HZ:=a0a Z;have HR1:=a0a hr;have HB1:=a0a BW;clear hr B1 BW Z))
 all_goals (first
  | (have X9:=a0a ((((HZ.out.set 0 (by simp) (.slice (some ⟨b,0,none⟩) 33 33)).set 1 (by simp) (.int .i64 (LW:Int))).set 2 (by simp) (.int .i64 (LC:Int))).set 3 (by simp) (.int .i64 p.loc))
     have zg:=HZ.out.lt
     have T9:a0h [w0.heap.size] w1 ((((w1.setCell ⟨w0.heap.size,0,none⟩ (.slice (some ⟨b,0,none⟩) 33 33)).setCell ⟨w0.heap.size,1,none⟩ (.int .i64 (LW:Int))).setCell ⟨w0.heap.size,2,none⟩ (.int .i64 (LC:Int))).setCell ⟨w0.heap.size,3,none⟩ (.int .i64 p.loc)):=a0D (a0D (a0D (a0q _ _ _ _) (a0q _ _ _ _)) (a0q _ _ _ _)) (a0q _ _ _ _)
     have R9:=a0a (HR1.out _ T9.size (fun k h1 h2=>T9.block k h2 (by simp at h1;simp;omega)))
     have B9:=a0a (HB1.out.trans (T9.below (B:=w0.heap.size) (fun k hk=>by simp at hk;omega) HB1.out.size))
     clear T9 zg
     generalize ((((w1.setCell _ _).setCell _ _).setCell _ _).setCell _ _)=w9 at *
     generalize w0.heap.size=sb at X9 ⊢)
  | (have X9:=a0a (Box.new w1 (soL b LW LC p.loc) 136)
     have A9:Below w1.heap.size w1 (w1.alloc (.cells (soL b LW LC p.loc).toArray 136)):=(ZD _ _).alloc (ZB _) _
     have R9:=a0a (HR1.out.at.next A9)
     have B9:=kb HB1 A9
     clear A9
     generalize w1.alloc _=w9 at *
     generalize w1.heap.size=sb at X9 ⊢))
 all_goals (
  clear x6 x7 x8
  have BW:=a0a (a0b B0.out B9.out B0.out.size)
  have X:=Y0.out.next B9.out
  have x9:=X.cell 9 _ rfl
  have xl9:=X.lt
  have HX:=a0a X
  clear X
  go_wp2_with fail
  refine ZE (HAl.out _ BW.out b sb X9.out R9.out) ?_
  rintro e w2 ⟨rfl,b2⟩
  have BW2:=kb BW b2
  have X2:=HX.out.next b2
  have u0:=X2.cell 10 _ rfl
  have u1:=X2.cell 11 _ rfl
  have u2:=X2.cell 12 _ rfl
  have u3:=X2.cell 13 _ rfl
  have ul:=X2.lt
  have S2:=a0a (X9.out.next b2)
  have R2:=a0a (R9.out.next b2)
  clear b2 X2 x9 xl9 HX HAl
  cases Y with
  | false=>
    have hq:Hid (Q=false):=a0a (by rw[hQ2.out];rfl)
    go_wp2_with fail
    go_ret
    exact⟨by rw[hq.out];rfl,BW2.out⟩
  | true=>
    have hq:Hid (Q=decide (s3=3)):=a0a (by rw[hQ2.out];rfl)
    go_wp2_with fail
    refine ZE (HFi.out _ BW2.out b sb S2.out R2.out) ?_
    rintro e w3 ⟨rfl,b3⟩
    have BW3:=kb BW2 b3
    clear b3 u0 u1 u2 u3
    go_wp2_with fail
    go_ret
    exact⟨by rw[hq.out];rfl,BW3.out⟩)
theorem a6P {wn cn ln:Int}{t:Co}(h:a0l a0H wn cn ln t≠0):∃ k:Nat,t.op=(k:Int)/\1<=k/\k<=32/\a0m k wn cn ln t=true/\(∀ x,x∈t.parts->a0l a0H wn cn ln x≠0)/\a0l a0H wn cn ln t=a1s a0H k t (t.parts.map (a0l a0H wn cn ln)):=by
 have e:=a1f a0H wn cn ln t
 by_cases h1:1<=t.op/\t.op<=32
 ·rw[if_pos h1] at e
  by_cases h2:a0m t.op.toNat wn cn ln t=true
  ·rw[if_pos h2] at e
   by_cases h3:(t.parts.map (a0l a0H wn cn ln)).contains 0=true
   ·rw[if_pos h3] at e;exact absurd e h
   ·rw[if_neg h3] at e
    refine⟨t.op.toNat,by omega,by omega,by omega,h2,fun x hx hz=>h3 ?_,e⟩
    rw[List.contains_iff_mem,List.mem_map]
    exact⟨x,hx,hz⟩
  ·rw[if_neg h2] at e;exact absurd e h
 ·rw[if_neg h1] at e;exact absurd e h
theorem a4q {wn cn ln:Int}(t:Co):a0l a0H wn cn ln t≠0->∀ x,x∈a0f t->a0l a0H wn cn ln x≠0:=by
 induction t using Co.ind with
 | h t ih=>
   intro h x hx
   rw[a1P] at hx
   rcases List.mem_cons.1 hx with rfl | hx
   ·exact h
   ·obtain⟨l,hl,hm⟩:=List.mem_flatten.1 hx
    obtain⟨y,hy,rfl⟩:=List.mem_map.1 hl
    obtain⟨k,-,-,-,-,hp,-⟩:=a6P h
    exact ih y hy (hp y hy) x hm
theorem a9F {wn cn ln:Int}(hl:ln<=256){t:Co}(h:a0l a0H wn cn ln t≠0):b7E t:=by
 intro h7
 obtain⟨k,hk,h1,h2,hf,hp,hs⟩:=a6P h
 obtain rfl:k=7:=by omega
 have hf2:a0m 7 wn cn ln t=true:=hf
 have e1:a1s a0H 7 t (t.parts.map (a0l a0H wn cn ln))=a0R 1 (t.parts.map (a0l a0H wn cn ln)):=rfl
 rw[hs,e1] at h
 obtain⟨g1,-⟩:=a3r h
 obtain⟨x,hx⟩:=c3e (by simpa using g1:t.parts.length=1)
 refine⟨?_,x,hx,fun h0=>?_⟩
 ·simp[a0m,a0w] at hf2
  omega
 ·obtain⟨j,hj,j1,-⟩:=a6P (hp x (by rw[hx];simp))
  omega
theorem a8C {p:PlP}(hs:a1A p=true)(hl:p.loc<=256):∀ x,x∈a2P p->b7E x:=by
 unfold a1A at hs
 rw[Bool.and_eq_true,List.all_eq_true] at hs
 obtain⟨hg,hf⟩:=hs
 have hf2:soP p p.fin≠0:=by have:=of_decide_eq_true hf;omega
 intro x hx
 unfold a2P at hx
 rcases List.mem_append.1 hx with hx | hx
 ·obtain⟨l,hm,hxl⟩:=List.mem_flatten.1 hx
  obtain⟨g,hgm,rfl⟩:=List.mem_map.1 hm
  have hgg:=hg g hgm
  rw[Bool.and_eq_true] at hgg
  have h1:=of_decide_eq_true hgg.1
  have h2:=of_decide_eq_true hgg.2
  rcases List.mem_append.1 hxl with h | h
  ·have n1:soP p g.1≠0:=by omega
   exact a9F hl (a4q g.1 n1 x h)
  ·have n2:soP p g.2≠0:=by omega
   exact a9F hl (a4q g.2 n2 x h)
 ·exact a9F hl (a4q p.fin hf2 x hx)
set_option maxHeartbeats 2000000 in
theorem a9V (p:PlP)(v:PlV)(w:World)(hs:a4n w p v):Calls Tryz.prog 43 #[plV p v] w fun e w'=>e=.returned (.bool (a2T p&&a4Z p))/\Below w.heap.size w w':=by
 have HF:=a0a (fun W (hW:Below w.heap.size w W)=>b2h p v W (hs.next hW))
 obtain⟨a1,c1,a2,c2,a3,c3,a4,c4,a5,c5,rfl,g1,g2,g3,g4⟩:=hs.shapes
 obtain⟨Q,hQ⟩:∃ Q,Hid (Q=(a2T p&&a4Z p)):=⟨_,rfl⟩
 rw[<-hQ.out]
 have hQ2:Hid (Q=(decide (p.mets.length<=64/\p.wins.length<=256/\p.crons.length<=256/\0<=p.loc/\p.loc<=256)&&a4Z p)):=hQ
 have B0:=a0a ((ZD w.heap.size w).alloc (ZB _) (.cells (plL p ⟨.slice a1 p.mets.length c1,.slice a2 p.wins.length c2,.slice a3 p.crons.length c3,.slice a4 p.gs.length c4,.slice a5 p.fin.parts.length c5⟩).toArray 32))
 generalize a4Z p=Y at *
 clear hs hQ g4
 have no:Hid (¬(p.mets.length<=64/\p.wins.length<=256/\p.crons.length<=256/\0<=p.loc/\p.loc<=256)->Q=false):=fun h=>by rw[hQ2.out,decide_eq_false h];rfl
 by_cases h1:p.mets.length<=64
 case neg=>
  have e1:=no.out (fun h=>h1 h.1)
  subst e1
  have h1':¬(p.mets.length:Int)<=64:=by omega
  clear no hQ2
  go_enter Tryz.func43,Tryz.ntmps43
  go_wp2_with fail
  go_ret
  exact⟨rfl,B0.out⟩
 have h1':(p.mets.length:Int)<=64:=by omega
 by_cases h2:p.wins.length<=256
 case neg=>
  have e1:=no.out (fun h=>h2 h.2.1)
  subst e1
  have h2':¬(p.wins.length:Int)<=256:=by omega
  clear no hQ2
  go_enter Tryz.func43,Tryz.ntmps43
  go_wp2_with fail
  go_ret
  exact⟨rfl,B0.out⟩
 have h2':(p.wins.length:Int)<=256:=by omega
 by_cases h3:p.crons.length<=256
 case neg=>
  have e1:=no.out (fun h=>h3 h.2.2.1)
  subst e1
  have h3':¬(p.crons.length:Int)<=256:=by omega
  clear no hQ2
  go_enter Tryz.func43,Tryz.ntmps43
  go_wp2_with fail
  go_ret
  exact⟨rfl,B0.out⟩
 have h3':(p.crons.length:Int)<=256:=by omega
 by_cases h4:0<=p.loc
 case neg=>
  have e1:=no.out (fun h=>h4 h.2.2.2.1)
  subst e1
  clear no hQ2
  go_enter Tryz.func43,Tryz.ntmps43
  go_wp2_with fail
  go_ret
  exact⟨rfl,B0.out⟩
 by_cases h5:p.loc<=256
 case neg=>
  have e1:=no.out (fun h=>h5 h.2.2.2.2)
  subst e1
  clear no hQ2
  go_enter Tryz.func43,Tryz.ntmps43
  go_wp2_with fail
  go_ret
  exact⟨rfl,B0.out⟩
 have e1:Q=Y:=by rw[hQ2.out,decide_eq_true ⟨h1,h2,h3,h4,h5⟩];rfl
 subst e1
 clear no hQ2
 go_enter Tryz.func43,Tryz.ntmps43
 go_wp2_with fail
 refine ZE (HF.out _ B0.out) ?_
 rintro e w1 ⟨rfl,b1⟩
 have B1:=kb B0 b1
 clear b1
 go_wp2_with fail
 go_ret
 exact⟨rfl,B1.out⟩
set_option maxHeartbeats 2000000 in
theorem a8S (q:Co->Co->Bool)(hq:∀ a b,q a b=true↔a=b)(p:PlP)(v:PlV)(w:World)(hF:a2M w)(hs:a4n w p v):Calls Tryz.prog 25 #[plV p v] w fun e w'=>e=.returned (.bool (a0s q p))/\Below w.heap.size w w':=by
 have H1:=a0a (fun W (hW:Below w.heap.size w W)=>a9V p v W (hs.next hW))
 have H2:=a0a (fun W=>b7n p.ru W)
 have H3:=a0a (fun W (hW:Below w.heap.size w W)=>a8p p v W (hF.later hW) (hs.next hW))
 have H4:=a0a (fun h W (hW:Below w.heap.size w W)=>a8o p v W (hs.next hW) h)
 have H5:=a0a (fun h1 h2 W (hW:Below w.heap.size w W)=>a9L q hq p v W (a8C h1 h2) (hs.next hW))
 have hsz:Hid (a2T p=true->p.loc<=256):=fun h=>(of_decide_eq_true h).2.2.2.2
 obtain⟨a1,c1,a2,c2,a3,c3,a4,c4,a5,c5,rfl,g1,g2,g3,g4⟩:=hs.shapes
 obtain⟨Q,hQ⟩:∃ Q,Hid (Q=a0s q p):=⟨_,rfl⟩
 rw[<-hQ.out]
 have hQ2:Hid (Q=(a2T p&&a4Z p&&ruB p.ru&&a3z p&&a1A p&&a1W q p)):=hQ
 have X0:=a0a (Box.new w (plL p ⟨.slice a1 p.mets.length c1,.slice a2 p.wins.length c2,.slice a3 p.crons.length c3,.slice a4 p.gs.length c4,.slice a5 p.fin.parts.length c5⟩) 32)
 have B0:=a0a ((ZD w.heap.size w).alloc (ZB _) (.cells (plL p ⟨.slice a1 p.mets.length c1,.slice a2 p.wins.length c2,.slice a3 p.crons.length c3,.slice a4 p.gs.length c4,.slice a5 p.fin.parts.length c5⟩).toArray 32))
 generalize a2T p=y1 at *
 generalize a4Z p=y2 at *
 generalize ruB p.ru=y3 at *
 generalize a3z p=y4 at *
 generalize a1A p=y5 at *
 generalize a1W q p=y6 at *
 clear hs hQ hF g1 g2 g3 g4
 go_enter Tryz.func25,Tryz.ntmps25
 go_wp2_with fail
 refine ZE (H1.out _ B0.out) ?_
 rintro e w1 ⟨rfl,b1⟩
 have B1:=kb B0 b1
 have X1:=a0a (X0.out.next b1)
 clear b1 X0 H1
 cases y1 with
 | false=>
   have e1:Hid (Q=false):=a0a (by rw[hQ2.out];simp)
   simp only[Bool.false_and]
   go_wp2_with fail
   go_ret
   exact⟨by rw[e1.out];rfl,B1.out⟩
 | true=>
 cases y2 with
 | false=>
   have e1:Hid (Q=false):=a0a (by rw[hQ2.out];simp)
   simp only[Bool.true_and]
   go_wp2_with fail
   go_ret
   exact⟨by rw[e1.out];rfl,B1.out⟩
 | true=>
 have z1:=X1.out.cell 1 _ rfl
 have z2:=X1.out.cell 2 _ rfl
 have z3:=X1.out.cell 3 _ rfl
 have z4:=X1.out.cell 4 _ rfl
 have z5:=X1.out.cell 5 _ rfl
 have zl:=X1.out.lt
 simp only[Bool.true_and]
 go_wp2_with fail
 refine ZE (H2.out _) ?_
 rintro e w2 ⟨rfl,b2⟩
 have B2:=kb B1 b2
 have X2:=a0a (X1.out.next b2)
 clear b2 X1 z1 z2 z3 z4 z5 zl H2
 cases y3 with
 | false=>
   have e1:Hid (Q=false):=a0a (by rw[hQ2.out];simp)
   go_wp2_with fail
   go_ret
   exact⟨by rw[e1.out];rfl,B2.out⟩
 | true=>
 obtain⟨t0,t1,t2,t3,t4,t5,t6,t7,t8,t9,t10,t11,t12,t13⟩:=Box.c14 X2.out
 have tl:=X2.out.lt
 go_wp2_with fail
 refine ZE (H3.out _ B2.out) ?_
 rintro e w3 ⟨rfl,b⟩
 have B3:=kb B2 b
 have X3:=a0a (X2.out.next b)
 clear b X2 t0 t1 t2 t3 t4 t5 t6 t7 t8 t9 t10 t11 t12 t13 tl
 cases y4 with
 | false=>
   have e1:Hid (Q=false):=a0a (by rw[hQ2.out];simp)
   go_wp2_with fail
   go_ret
   exact⟨by rw[e1.out];rfl,B3.out⟩
 | true=>
 obtain⟨t0,t1,t2,t3,t4,t5,t6,t7,t8,t9,t10,t11,t12,t13⟩:=Box.c14 X3.out
 have tl:=X3.out.lt
 go_wp2_with fail
 refine ZE (H4.out trivial _ B3.out) ?_
 rintro e w4 ⟨rfl,b⟩
 have B4:=kb B3 b
 have X4:=a0a (X3.out.next b)
 clear b X3 t0 t1 t2 t3 t4 t5 t6 t7 t8 t9 t10 t11 t12 t13 tl
 cases y5 with
 | false=>
   have e1:Hid (Q=false):=a0a (by rw[hQ2.out];simp)
   go_wp2_with fail
   go_ret
   exact⟨by rw[e1.out];rfl,B4.out⟩
 | true=>
 obtain⟨t0,t1,t2,t3,t4,t5,t6,t7,t8,t9,t10,t11,t12,t13⟩:=Box.c14 X4.out
 have tl:=X4.out.lt
 go_wp2_with fail
 refine ZE (H5.out trivial (hsz.out trivial) _ B4.out) ?_
 rintro e w5 ⟨rfl,b⟩
 have B5:=kb B4 b
 have X5:=a0a (X4.out.next b)
 clear b X4 t0 t1 t2 t3 t4 t5 t6 t7 t8 t9 t10 t11 t12 t13 tl
 have e1:Hid (Q=y6):=a0a (by rw[hQ2.out];simp)
 go_wp2_with fail
 go_ret
 exact⟨by rw[e1.out];rfl,B5.out⟩
end Go.Proofs.YtbddbnjhmdbkbaaGreatDoor
