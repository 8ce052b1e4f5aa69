import Derived.Test.YtkbmgloilckdhaaGreatDoorMhB
namespace Go.Proofs.YtkbmgloilckdhaaGreatDoor
open Go.RowKit
abbrev a6O (E:a0C)(v1 v2:Value):Value:=.agg #[.int .i64 E.rep,v1,v2]
structure a6N (w:World)(E:a0C)(v1 v2:Value):Prop where
 ok:a6M E
 wins:a5U w v1 E.wins
 crons:a4q w v2 E.crons
theorem a6N.next {w w':World}{E:a0C}{v1 v2:Value}(h:a6N w E v1 v2)(k:Below w.heap.size w w'):a6N w' E v1 v2:=⟨h.ok,h.wins.next k,h.crons.next k⟩
theorem a6N.shape {w:World}{E:a0C}{v1 v2:Value}(h:a6N w E v1 v2):∃ a1 c1 a2 c2,v1=.slice a1 E.wins.length c1/\v2=.slice a2 E.crons.length c2:=by
 obtain⟨a1,c1,e1,-⟩:=h.wins
 obtain⟨a2,c2,e2,-⟩:=h.crons
 exact⟨a1,c1,a2,c2,e1,e2⟩
set_option maxHeartbeats 1000000 in
theorem a7Q (E:a0C)(v1 v2:Value)(w:World)(h:a6N w E v1 v2)(hg:GlE w):Calls Tryz.prog 168 #[a6O E v1 v2] w fun e w'=>∃ tb b,e=.returned (.pointer (some ⟨tb,0,none⟩))/\a7A w' tb b E/\Below w.heap.size w w':=by
 obtain⟨a1,c1,a2,c2,rfl,rfl⟩:=h.shape
 have H:=a0a h
 have HG:=a0a hg
 have HA:Hid (∀ o,Below w.heap.size w (w.alloc o)):=fun o=>(Below.refl _ _).alloc (Nat.le_refl _) _
 generalize E.wins.length=L1 at *
 generalize E.crons.length=L2 at *
 have X0:=Box.new w [.int .i64 E.rep,.slice a1 L1 c1,.slice a2 L2 c2] 123
 obtain⟨d0,d1,d2⟩:=Box.c3 X0
 have x0:=X0.lt
 have HKa:=a0a (HA.out (.cells [.int .i64 E.rep,.slice a1 L1 c1,.slice a2 L2 c2].toArray 123))
 clear h hg HA X0
 go_enter Tryz.func168,Tryz.ntmps168
 go_wp2_with fail
 generalize hW0:w.alloc _=w0 at *
 clear hW0
 go_region_held3 (fun w'=>w'.cell? ⟨w.heap.size,0,none⟩=some (.int .i64 E.rep)/\w'.cell? ⟨w.heap.size,1,none⟩=some (.slice a1 L1 c1)/\w'.cell? ⟨w.heap.size,2,none⟩=some (.slice a2 L2 c2)) (simp[go_sem, *]) (first|(go_at_call 49;refine Calls.mono (b1z _) ?_;rintro e w1 ⟨b,rfl,hr,B1⟩;have g0:=fun p v hp hv=>(B1.cell (p:=p) hp).trans (hv:w0.cell? p=some v);replace d0:=g0 _ _ x0 d0;replace d1:=g0 _ _ x0 d1;replace d2:=g0 _ _ x0 d2;have x1:w.heap.size<w1.heap.size:=Nat.lt_of_lt_of_le x0 B1.size;clear g0))
 have hb1:Below w0.heap.size w0 w1:=⟨B1.os,B1.tape,B1.output,B1.size,B1.block⟩
 have hb2:=(Below.refl w1.heap.size w1).alloc (Nat.le_refl _) (.cells [.slice (some ⟨b,0,none⟩) 33 33,.int .i64 E.rep,.slice a1 L1 c1,.slice a2 L2 c2].toArray 130)
 have X2:=Box.new w1 [.slice (some ⟨b,0,none⟩) 33 33,.int .i64 E.rep,.slice a1 L1 c1,.slice a2 L2 c2] 130
 have HB1:=a0b HKa.out hb1 HKa.out.size
 have HB2:=a0b HB1 hb2 HB1.size
 have HT:Hid (a7A (w1.alloc (.cells [.slice (some ⟨b,0,none⟩) 33 33,.int .i64 E.rep,.slice a1 L1 c1,.slice a2 L2 c2].toArray 130)) w1.heap.size b E):=⟨H.out.ok,⟨_,_,X2,H.out.wins.next HB2,H.out.crons.next HB2⟩,hr.next hb2,GlE.next HG.out HB2⟩
 have HBe:=a0a HB2
 clear d0 d1 d2 hb1 hb2 X2 HB1 HB2 hr B1
 go_wp2_with fail
 go_ret
 exact⟨_,_,rfl,HT.out,HBe.out⟩
def rsV (x:Rs):Value:=if x.2=0 then .agg #[.int .i64 0,.int .i64 x.1] else .agg #[.int .i64 x.2,.int .i64 0]
set_option maxHeartbeats 1000000 in
theorem b2D (E:a0C)(t:Co)(HT:TeC E t)(v:Value)(tb b:Nat)(w:World)(hs:a0m w t v)(ht:a7A w tb b E):Calls Tryz.prog 169 #[.pointer (some ⟨tb,0,none⟩),coV t v] w fun e w'=>e=.returned (rsV (a0f E t))/\Below w.heap.size w w':=by
 have HA:Hid (∀ o o',Below w.heap.size w ((w.alloc o).alloc o')):=fun o o'=>((Below.refl _ _).alloc (Nat.le_refl _) _).alloc (by simp) _
 have HC:=a0a (fun W (hW:Below w.heap.size w W)=>HT v tb b W (hs.next hW) (ht.next hW))
 have HG:=a0a (fun W (hW:Below w.heap.size w W) r=>a5y r W (GlE.next ht.gl hW))
 obtain⟨ad,cap,rfl,-,-⟩:=hs.parts.shape
 obtain⟨-,Y1,-⟩:=a0e w 30 118 (coL t (.slice ad t.parts.length cap)) [.int .i64 0,.int .i64 0]
 have HY:=a0a Y1
 clear HT hs ht Y1
 obtain⟨Rv,hRv⟩:∃ Rv,Hid (Rv=rsV (a0f E t)):=⟨_,rfl⟩
 rw[<-hRv.out]
 generalize a0f E t=r at *
 obtain⟨n,e⟩:=r
 by_cases he:e=0
 ·subst he
  have hR:Hid (Rv=.agg #[.int .i64 0,.int .i64 n]):=by show _=_;rw[hRv.out];exact if_pos rfl
  have HG0:=a0a (fun W hW=>HG.out W hW 0)
  rw[a5J] at HG0
  clear hRv HG
  go_enter Tryz.func169,Tryz.ntmps169
  go_wp2_with fail
  refine Calls.mono (HC.out _ (HA.out _ _)) ?_
  rintro e w1 ⟨he1,b1⟩
  rw[a0J (n,0) rfl] at he1
  subst he1
  have HB:=a0a (a0b (HA.out _ _) b1 (by simp;omega))
  have HY1:=a0a (HY.out.next b1)
  clear b1 HC HY
  go_wp2_with fail
  refine Calls.mono (HG0.out _ HB.out) ?_
  rintro e w2 ⟨rfl,b2⟩
  have HB2:=kb HB b2
  have Z:=HY1.out.next b2
  obtain⟨q0,q1⟩:=Box.c2 Z
  have r0:=Z.free 0 (by simp)
  have r1:=Z.free 1 (by simp)
  have zl:=Z.lt
  clear b2 HG0 HY1 Z
  go_wp2_with fail
  refine bodyPost_ret (v:=.agg #[.int .i64 0,.int .i64 n]) (by simp[results,Tryz.results169,go_sem, *]) rfl ?_
  exact⟨by rw[hR.out],(HB2.out.setCell (p:=⟨w.heap.size+1,0,none⟩) (by simp) _).setCell (p:=⟨w.heap.size+1,1,none⟩) (by simp) _⟩
 ·have hR:Hid (Rv=.agg #[.int .i64 e,.int .i64 0]):=by show _=_;rw[hRv.out];exact if_neg he
  have HG0:=a0a (fun W hW=>HG.out W hW e)
  rw[a3v he] at HG0
  have kz:(e != 0)=true:=by simpa using he
  clear hRv HG
  go_enter Tryz.func169,Tryz.ntmps169
  go_wp2_with fail
  refine Calls.mono (HC.out _ (HA.out _ _)) ?_
  rintro e1 w1 ⟨he1,b1⟩
  rw[a0E n he] at he1
  subst he1
  have HB:=a0a (a0b (HA.out _ _) b1 (by simp;omega))
  have HY1:=a0a (HY.out.next b1)
  clear b1 HC HY
  go_wp2_with fail
  refine Calls.mono (HG0.out _ HB.out) ?_
  rintro e1 w2 ⟨rfl,b2⟩
  have HB2:=kb HB b2
  have Z:=HY1.out.next b2
  obtain⟨q0,q1⟩:=Box.c2 Z
  have r0:=Z.free 0 (by simp)
  have r1:=Z.free 1 (by simp)
  have zl:=Z.lt
  clear b2 HG0 HY1 Z
  go_wp2_with fail
  refine bodyPost_ret (v:=.agg #[.int .i64 e,.int .i64 0]) (by simp[results,Tryz.results169,go_sem, *]) rfl ?_
  exact⟨by rw[hR.out],(HB2.out.setCell (p:=⟨w.heap.size+1,0,none⟩) (by simp) _).setCell (p:=⟨w.heap.size+1,1,none⟩) (by simp) _⟩
def evV (s:Int)(r:Rs):Value:=if s=1\/s=2 then .tuple #[rsV r,.int .i64 0] else .tuple #[.agg #[.int .i64 0,.int .i64 0],.int .i64 1]
set_option maxHeartbeats 4000000 in
set_option maxRecDepth 20000 in
theorem b6F (E:a0C)(t:Co)(v v1 v2:Value)(w:World)(hs:a0m w t v)(hn:a0q t<=8192)(he:a6N w E v1 v2)(hg:GlE w):Calls Tryz.prog 154 #[coV t v,a6O E v1 v2] w fun e w'=>e=.returned (evV (srt E t) (a0f E t))/\Below w.heap.size w w':=by
 have HS:=a0a (fun W (hW:Below w.heap.size w W)=>b1O t v E.wins.length E.crons.length 256 W (hs.next hW) hn ⟨⟨by omega,by have:=he.ok.wl;omega⟩,⟨by omega,by have:=he.ok.cl;omega⟩,by unfold C64;decide⟩)
 have HT:Hid (srt E t≠0->TeC E t):=fun h=>b2s E he.ok t ⟨w,v,hs⟩ hn h
 have HN:=a0a (fun W (hW:Below w.heap.size w W)=>a7Q E v1 v2 W (he.next hW) (GlE.next hg hW))
 have HSi:=a0a hs
 obtain⟨ad,cap,rfl,-,-⟩:=hs.parts.shape
 obtain⟨a1,c1,a2,c2,rfl,rfl⟩:=he.shape
 obtain⟨Y0,Y1,Y2,B0⟩:=a0I w 30 123 118 (coL t (.slice ad t.parts.length cap)) [.int .i64 E.rep,.slice a1 E.wins.length c1,.slice a2 E.crons.length c2] [.int .i64 0,.int .i64 0]
 have HY:=a0a (And.intro Y0 (And.intro Y1 Y2))
 have HB0:=a0a B0
 clear Y0 Y1 Y2 B0
 obtain⟨Rv,hRv⟩:∃ Rv,Hid (Rv=evV (srt E t) (a0f E t)):=⟨_,rfl⟩
 rw[<-hRv.out]
 have hL1:E.wins.length<=9223372036854775807:=he.ok.wl
 have hL2:E.crons.length<=9223372036854775807:=he.ok.cl
 clear hs he hn hg
 go_enter Tryz.func154,Tryz.ntmps154
 go_wp2_with fail
 refine Calls.mono (HS.out _ HB0.out) ?_
 rintro e w1 ⟨rfl,b1⟩
 have HB1:=kb HB0 b1
 obtain⟨Y0,Y1,Y2⟩:=HY.out
 have Z0:=Y0.next b1
 have Z1:=Y1.next b1
 have Z2:=Y2.next b1
 have HZ0:=a0a Z0
 have HZ2:=a0a Z2
 obtain⟨c0,c1',c2'⟩:=Box.c3 Z1
 have l1:=Z1.lt
 clear b1 HS HB0 HY Y0 Y1 Y2 Z0 Z1 Z2
 generalize hs:a0k a0t E.wins.length E.crons.length 256 t=s at *
 have HTs:Hid (s≠0->TeC E t):=fun h=>HT.out (by unfold srt;rw[hs];exact h)
 have hRs:Hid (Rv=evV s (a0f E t)):=by show _=_;rw[hRv.out];unfold srt;rw[hs]
 clear hs HT hRv
 by_cases h12:s=1\/s=2
 ·have hR:Hid (Rv=.tuple #[rsV (a0f E t),.int .i64 0]):=by show _=_;rw[hRs.out];exact if_pos h12
  have HR:=a0a (fun tb b W hsi hti=>b2D E t (HTs.out (by omega)) (.slice ad t.parts.length cap) tb b W hsi hti)
  clear hRs HTs
  obtain⟨q0,q1⟩:=Box.c2 HZ2.out
  have r0:=HZ2.out.free 0 (by simp)
  have r1:=HZ2.out.free 1 (by simp)
  have zl:=HZ2.out.lt
  obtain⟨p0,p1,p2,p3⟩:=Box.c4 HZ0.out
  have l0:=HZ0.out.lt
  obtain⟨A,B,hAB⟩:∃ A B,Hid (rsV (a0f E t)=.agg #[.int .i64 A,.int .i64 B]):=by unfold rsV;split;exact⟨_,_,a0a rfl⟩;exact⟨_,_,a0a rfl⟩
  rw[hAB.out] at hR HR
  rcases h12 with rfl | rfl
  ·go_wp2_with fail
   go_region_held3 (fun w'=>(w'.cell? ⟨w.heap.size+1,0,none⟩=some (.int .i64 E.rep)/\w'.cell? ⟨w.heap.size+1,1,none⟩=some (.slice a1 E.wins.length c1)/\w'.cell? ⟨w.heap.size+1,2,none⟩=some (.slice a2 E.crons.length c2))/\(w'.cell? ⟨w.heap.size,0,none⟩=some (.int .i64 t.op)/\w'.cell? ⟨w.heap.size,1,none⟩=some (.int .i64 t.n)/\w'.cell? ⟨w.heap.size,2,none⟩=some (.int .i64 t.m)/\w'.cell? ⟨w.heap.size,3,none⟩=some (.slice ad t.parts.length cap))) (simp[go_sem, *]) (first|(go_at_call 168;refine Calls.mono (HN.out _ (by exact a0j HB1.out _)) ?_;rintro e w2 ⟨tb,b,rfl,ht,B2⟩;have g0:=fun p v hp hv=>(B2.cell (p:=p) hp).trans (hv:w1.cell? p=some v);replace c0:=g0 _ _ l1 c0;replace c1':=g0 _ _ l1 c1';replace c2':=g0 _ _ l1 c2';replace p0:=g0 _ _ l0 p0;replace p1:=g0 _ _ l0 p1;replace p2:=g0 _ _ l0 p2;replace p3:=g0 _ _ l0 p3;have HB2:=a0a (a0b HB1.out (b:=w2) ⟨B2.os,B2.tape,B2.output,B2.size,B2.block⟩ HB1.out.size);have Z3:=HZ2.out.next (w':=w2) ⟨B2.os,B2.tape,B2.output,B2.size,B2.block⟩;replace q0:=Z3.cell 0 _ rfl;replace q1:=Z3.cell 1 _ rfl;replace r0:=Z3.free 0 (by simp);replace r1:=Z3.free 1 (by simp);replace zl:=Z3.lt;replace HZ2:=a0a Z3;replace l1:w.heap.size+1<w2.heap.size:=Nat.lt_of_lt_of_le l1 B2.size;replace l0:w.heap.size<w2.heap.size:=Nat.lt_of_lt_of_le l0 B2.size;have HT2:=a0a ht;clear g0 B2 Z3 ht)|(go_at_call 169;refine Calls.mono (HR.out _ _ _ (HSi.out.next HB2.out) HT2.out) ?_;rintro e w3 ⟨rfl,B3⟩;have g0:=fun p v hp hv=>(B3.cell (p:=p) hp).trans (hv:w2.cell? p=some v);replace c0:=g0 _ _ l1 c0;replace c1':=g0 _ _ l1 c1';replace c2':=g0 _ _ l1 c2';replace p0:=g0 _ _ l0 p0;replace p1:=g0 _ _ l0 p1;replace p2:=g0 _ _ l0 p2;replace p3:=g0 _ _ l0 p3;have HB3:=kb HB2 B3;have Z3:=HZ2.out.next B3;replace q0:=Z3.cell 0 _ rfl;replace q1:=Z3.cell 1 _ rfl;replace r0:=Z3.free 0 (by simp);replace r1:=Z3.free 1 (by simp);replace zl:=Z3.lt;clear g0 B3 Z3))
   clear c0 c1' c2' p0 p1 p2 p3 HN HR HT2 HB1 HB2 HZ2
   go_wp2_with fail
   refine bodyPost_ret (v:=.tuple #[.agg #[.int .i64 A,.int .i64 B],.int .i64 0]) (by simp[results,Tryz.results154,go_sem, *]) rfl ?_
   exact⟨by rw[hR.out],(HB3.out.setCell (p:=⟨w.heap.size+1+1,0,none⟩) (by simp;omega) _).setCell (p:=⟨w.heap.size+1+1,1,none⟩) (by simp;omega) _⟩
  ·go_wp2_with fail
   go_region_held3 (fun w'=>(w'.cell? ⟨w.heap.size+1,0,none⟩=some (.int .i64 E.rep)/\w'.cell? ⟨w.heap.size+1,1,none⟩=some (.slice a1 E.wins.length c1)/\w'.cell? ⟨w.heap.size+1,2,none⟩=some (.slice a2 E.crons.length c2))/\(w'.cell? ⟨w.heap.size,0,none⟩=some (.int .i64 t.op)/\w'.cell? ⟨w.heap.size,1,none⟩=some (.int .i64 t.n)/\w'.cell? ⟨w.heap.size,2,none⟩=some (.int .i64 t.m)/\w'.cell? ⟨w.heap.size,3,none⟩=some (.slice ad t.parts.length cap))) (simp[go_sem, *]) (first|(go_at_call 168;refine Calls.mono (HN.out _ (by exact a0j HB1.out _)) ?_;rintro e w2 ⟨tb,b,rfl,ht,B2⟩;have g0:=fun p v hp hv=>(B2.cell (p:=p) hp).trans (hv:w1.cell? p=some v);replace c0:=g0 _ _ l1 c0;replace c1':=g0 _ _ l1 c1';replace c2':=g0 _ _ l1 c2';replace p0:=g0 _ _ l0 p0;replace p1:=g0 _ _ l0 p1;replace p2:=g0 _ _ l0 p2;replace p3:=g0 _ _ l0 p3;have HB2:=a0a (a0b HB1.out (b:=w2) ⟨B2.os,B2.tape,B2.output,B2.size,B2.block⟩ HB1.out.size);have Z3:=HZ2.out.next (w':=w2) ⟨B2.os,B2.tape,B2.output,B2.size,B2.block⟩;replace q0:=Z3.cell 0 _ rfl;replace q1:=Z3.cell 1 _ rfl;replace r0:=Z3.free 0 (by simp);replace r1:=Z3.free 1 (by simp);replace zl:=Z3.lt;replace HZ2:=a0a Z3;replace l1:w.heap.size+1<w2.heap.size:=Nat.lt_of_lt_of_le l1 B2.size;replace l0:w.heap.size<w2.heap.size:=Nat.lt_of_lt_of_le l0 B2.size;have HT2:=a0a ht;clear g0 B2 Z3 ht)|(go_at_call 169;refine Calls.mono (HR.out _ _ _ (HSi.out.next HB2.out) HT2.out) ?_;rintro e w3 ⟨rfl,B3⟩;have g0:=fun p v hp hv=>(B3.cell (p:=p) hp).trans (hv:w2.cell? p=some v);replace c0:=g0 _ _ l1 c0;replace c1':=g0 _ _ l1 c1';replace c2':=g0 _ _ l1 c2';replace p0:=g0 _ _ l0 p0;replace p1:=g0 _ _ l0 p1;replace p2:=g0 _ _ l0 p2;replace p3:=g0 _ _ l0 p3;have HB3:=kb HB2 B3;have Z3:=HZ2.out.next B3;replace q0:=Z3.cell 0 _ rfl;replace q1:=Z3.cell 1 _ rfl;replace r0:=Z3.free 0 (by simp);replace r1:=Z3.free 1 (by simp);replace zl:=Z3.lt;clear g0 B3 Z3))
   clear c0 c1' c2' p0 p1 p2 p3 HN HR HT2 HB1 HB2 HZ2
   go_wp2_with fail
   refine bodyPost_ret (v:=.tuple #[.agg #[.int .i64 A,.int .i64 B],.int .i64 0]) (by simp[results,Tryz.results154,go_sem, *]) rfl ?_
   exact⟨by rw[hR.out],(HB3.out.setCell (p:=⟨w.heap.size+1+1,0,none⟩) (by simp;omega) _).setCell (p:=⟨w.heap.size+1+1,1,none⟩) (by simp;omega) _⟩
 ·have hR:Hid (Rv=.tuple #[.agg #[.int .i64 0,.int .i64 0],.int .i64 1]):=by show _=_;rw[hRs.out];exact if_neg h12
  have k1:(s==1)=false:=by simp;omega
  have k2:(s==2)=false:=by simp;omega
  obtain⟨q0,q1⟩:=Box.c2 HZ2.out
  have r0:=HZ2.out.free 0 (by simp)
  have r1:=HZ2.out.free 1 (by simp)
  have zl:=HZ2.out.lt
  clear hRs HTs HN c0 c1' c2' l1
  go_wp2_with fail
  refine bodyPost_ret (v:=.tuple #[.agg #[.int .i64 0,.int .i64 0],.int .i64 1]) (by simp[results,Tryz.results154,go_sem, *]) rfl ?_
  exact⟨by rw[hR.out],(HB1.out.setCell (p:=⟨w.heap.size+1+1,0,none⟩) (by simp;omega) _).setCell (p:=⟨w.heap.size+1+1,1,none⟩) (by simp;omega) _⟩
end Go.Proofs.YtkbmgloilckdhaaGreatDoor
