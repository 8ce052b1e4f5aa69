import Derived.Test.YtbddbnjhmdbkbaaGreatDoorMhM
import Derived.Test.YtbddbnjhmdbkbaaGreatDoorMhB
import Derived.Test.YtbddbnjhmdbkbaaGreatDoorMgG
namespace Go.Proofs.YtbddbnjhmdbkbaaGreatDoor
open Go.RowKit
theorem b4g {k:Nat}{wn cn ln ln':Int}{t:Co}(h:a0m k wn cn ln t=true)(hl:ln<=ln'):a0m k wn cn ln' t=true:=by
 unfold a0m at h ⊢
 by_cases h7:k=7
 ·subst h7
  simp[a0w] at h ⊢
  omega
 ·simp only[h7,if_false] at h ⊢
  exact h
theorem b2q {wn cn ln ln':Int}(hl:ln<=ln')(t:Co):a0l a0H wn cn ln t≠0->a0l a0H wn cn ln' t=a0l a0H wn cn ln t:=by
 induction t using Co.ind with
 | h t ih=>
   intro h
   obtain⟨k,hk,h1,h2,hf,hp,hs⟩:=a6P h
   have hm:t.parts.map (a0l a0H wn cn ln')=t.parts.map (a0l a0H wn cn ln):=List.map_congr_left (fun x hx=>ih x hx (hp x hx))
   have hc:¬(t.parts.map (a0l a0H wn cn ln)).contains 0=true:=fun hc=>by
    rw[List.contains_iff_mem,List.mem_map] at hc
    obtain⟨x,hx,hz⟩:=hc
    exact hp x hx hz
   have hkn:t.op.toNat=k:=by omega
   rw[a1f a0H wn cn ln' t,if_pos (by omega),hkn,if_pos (b4g hf hl),hm,if_neg hc,hs]
theorem b2W {p:PlP}{E:a0z}(hw:E.wins.length=p.wins.length)(hc:E.crons.length=p.crons.length)(hl:p.loc<=256){t:Co}(h:soP p t≠0):srt E t=soP p t:=by
 unfold srt
 rw[hw,hc]
 exact b2q hl t h
theorem b9R (E:a0z){gs:List (Co×Co)}{f:Co}{k:Nat}(hk:k<gs.length):gsR E (gs.drop k) f=if (a0e E gs[k].1).2=0 then (if (a0e E gs[k].1).1=1 then a0e E gs[k].2 else gsR E (gs.drop (k+1)) f) else noR (a0e E gs[k].1).2:=by
 rw[List.drop_eq_getElem_cons hk,gsR]
structure c4Q (E:a0z)(p:PlP):Prop where
 gs:∀ g,g∈p.gs->srt E g.1=2/\srt E g.2=3
 fin:srt E p.fin=3
theorem b9i {q:Co->Co->Bool}{p:PlP}{E:a0z}(h:a0s q p=true)(hw:E.wins.length=p.wins.length)(hc:E.crons.length=p.crons.length):c4Q E p/\a4Z p=true:=by
 unfold a0s at h
 simp only[Bool.and_eq_true] at h
 obtain⟨⟨⟨⟨⟨h1,h2⟩,h3⟩,h4⟩,h5⟩,h6⟩:=h
 have hl:p.loc<=256:=(of_decide_eq_true h1).2.2.2.2
 unfold a1A at h5
 rw[Bool.and_eq_true,List.all_eq_true] at h5
 refine⟨⟨fun g hg=>?_,?_⟩,h2⟩
 ·have hgg:=h5.1 g hg
  rw[Bool.and_eq_true] at hgg
  have e1:soP p g.1=2:=of_decide_eq_true hgg.1
  have e2:soP p g.2=3:=of_decide_eq_true hgg.2
  exact⟨by rw[b2W hw hc hl (by rw[e1];decide),e1],by rw[b2W hw hc hl (by rw[e2];decide),e2]⟩
 ·have e3:soP p p.fin=3:=of_decide_eq_true h5.2
  rw[b2W hw hc hl (by rw[e3];decide),e3]
set_option maxHeartbeats 4000000 in
set_option maxRecDepth 20000 in
theorem c1l (E:a0z)(p:PlP)(v:PlV)(tb b:Nat)(w:World)(hT:∀ g,g∈p.gs->TeC E g.1/\TeC E g.2)(hTf:TeC E p.fin)(hs:a4n w p v)(ht:a7U w tb b E):Calls Tryz.prog 109 #[.pointer (some ⟨tb,0,none⟩),plV p v] w fun e w'=>e=.returned (a1Z (gsR E p.gs p.fin))/\Below w.heap.size w w':=by
 have HG:=a0a hs.gs
 have HTl:=a0a ht
 have HTe:=a0a hT
 have HTf:=a0a (fun W (hW:Below w.heap.size w W)=>hTf v.fi tb b W (hs.fi.next hW) (ht.next hW))
 obtain⟨a1,c1,a2,c2,a3,c3,a4,c4,a5,c5,rfl,g1,g2,g3,g4⟩:=hs.shapes
 dsimp only at HG HTf
 have X0:=a0a (Box.new w (plL p ⟨.slice a1 p.mets.length c1,.slice a2 p.wins.length c2,.slice a3 p.crons.length c3,.slice a4 p.gs.length c4,.slice a5 p.fin.parts.length c5⟩) 32)
 have B0:=a0a ((ZD w.heap.size w).alloc (ZB _) (.cells (plL p ⟨.slice a1 p.mets.length c1,.slice a2 p.wins.length c2,.slice a3 p.crons.length c3,.slice a4 p.gs.length c4,.slice a5 p.fin.parts.length c5⟩).toArray 32))
 obtain⟨R,hR⟩:∃ R,Hid (R=gsR E p.gs p.fin):=⟨_,rfl⟩
 rw[<-hR.out]
 obtain⟨N,hN⟩:∃ N,Hid (N=p.gs.length):=⟨_,rfl⟩
 rw[<-hN.out] at X0 B0 g4 ⊢
 clear hs ht hT hTf g1 g2 g3
 go_enter Tryz.func109,Tryz.ntmps109
 go_wp2_with fail
 generalize hw0:w.alloc _=w0 at *
 clear hw0
 go_loopw [13] (fun i wr=>∃ k:Nat,i=.int .i64 (k:Nat)/\k<=N/\Hid (gsR E (p.gs.drop k) p.fin=R)/\Hid (Below w0.heap.size w0 wr)) (fun i _=>match i with | .int _ p=>((N:Int)-p).toNat | _=>0)
 case atStart=>exact⟨0,rfl,by omega,a0a (by rw[hR.out];rfl),ZD _ _⟩
 case round=>
  obtain⟨k,rfl,hk,HK,HB⟩:=hrel
  have BW:=a0a (a0b B0.out HB.out B0.out.size)
  by_cases hlt:k<N
  ·have hlt':(k:Int)<(N:Int):=by omega
   have hl1:k<p.gs.length:=by rw[<-hN.out];exact hlt
   obtain⟨bg,off,cap',hv,-,-,hbl,hx⟩:=HG.out.open (by omega)
   simp only[Value.slice.injEq] at hv
   obtain⟨rfl,-,rfl⟩:=hv
   obtain⟨u1,u2,f1,f2,s1,s2⟩:=hx k hl1
   have y0:=a0c BW.out f1.c0
   have y1:=a0c BW.out f1.c1
   have y2:=a0c BW.out f1.c2
   have y3:=a0c BW.out f1.c3
   have y4:=a0c BW.out f2.c0
   have y5:wr.cell? ⟨bg,off+k*8+5,none⟩=_:=a0c BW.out f2.c1
   have y6:wr.cell? ⟨bg,off+k*8+6,none⟩=_:=a0c BW.out f2.c2
   have y7:wr.cell? ⟨bg,off+k*8+7,none⟩=_:=a0c BW.out f2.c3
   have lbr:bg<wr.heap.size:=ZA hbl BW.out.size
   have HC1:=a0a (fun W (hW:Below w.heap.size w W)=>(HTe.out _ (List.getElem_mem hl1)).1 u1 tb b W (s1.next hW) (HTl.out.next hW))
   have HC2:=a0a (fun W (hW:Below w.heap.size w W)=>(HTe.out _ (List.getElem_mem hl1)).2 u2 tb b W (s2.next hW) (HTl.out.next hW))
   have hK2:=b9R E (f:=p.fin) hl1
   rw[HK.out] at hK2
   have HK2:=a0a hK2
   obtain⟨au,cu,rfl,-,-⟩:=s1.parts.shape
   obtain⟨av,cv,rfl,-,-⟩:=s2.parts.shape
   clear hx f1 f2 s1 s2 hK2 HK
   generalize p.gs[k]=x at *
   clear hl1
   obtain⟨⟨k1,n1,m1,ps1⟩,⟨k2,n2,m2,ps2⟩⟩:=x
   dsimp only at *
   generalize ps1.length=L1 at *
   generalize ps2.length=L2 at *
   generalize a0e E ⟨k1,n1,m1,ps1⟩=r1 at *
   generalize a0e E ⟨k2,n2,m2,ps2⟩=r2 at *
   have A1:Below wr.heap.size wr (wr.alloc (.cells #[.int .i64 k1,.int .i64 n1,.int .i64 m1,.slice au L1 cu,.int .i64 k2,.int .i64 n2,.int .i64 m2,.slice av L2 cv] 101)):=(ZD _ _).alloc (ZB _) _
   have Z:=a0a (Box.new wr [.int .i64 k1,.int .i64 n1,.int .i64 m1,.slice au L1 cu,.int .i64 k2,.int .i64 n2,.int .i64 m2,.slice av L2 cv] 101)
   have B1:=kb HB A1
   have B1w:=kb BW A1
   clear A1
   go_wp2_with fail
   refine ZE (HC1.out _ B1w.out) ?_
   rintro e w2 ⟨he,b2⟩
   have B2:=kb B1 b2
   have B2w:=kb B1w b2
   have Z2:=Z.out.next b2
   have z4:=Z2.cell 4 _ rfl
   have z5:=Z2.cell 5 _ rfl
   have z6:=Z2.cell 6 _ rfl
   have z7:=Z2.cell 7 _ rfl
   have zl:=Z2.lt
   clear b2 Z2 Z HC1 y0 y1 y2 y3 y4 y5 y6 y7
   obtain⟨r1n,r1e⟩:=r1
   by_cases he1:r1e=0
   ·subst he1
    rw[a0u (r1n,0) rfl] at he
    subst he
    by_cases hn1:r1n=1
    ·subst hn1
     have hRR:Hid (R=r2):=a0a (by rw[HK2.out];rfl)
     obtain⟨r2n,r2e⟩:=r2
     have HC3:=HC2
     by_cases he2:r2e=0
     ·subst he2
      rw[a0u (r2n,0) rfl] at HC3
      have hRR2:Hid (a1Z R=.tuple #[.int .i64 r2n,.nilIface]):=a0a (by rw[hRR.out];exact a0u _ rfl)
      clear HC2 hRR HK2
      go_wp2_with fail
      refine ZE (HC3.out _ B2w.out) ?_
      rintro e w3 ⟨rfl,b3⟩
      have B3w:=kb B2w b3
      clear b3 z4 z5 z6 z7
      go_wp2_with fail
      go_ret2
      exact⟨by rw[hRR2.out];rfl,B3w.out⟩
     ·rw[a0o r2n he2] at HC3
      have hRR2:Hid (a1Z R=.tuple #[.int .i64 r2n,.iface 238 (.agg #[.int .i64 r2e])]):=a0a (by rw[hRR.out];exact a0o _ he2)
      clear HC2 hRR HK2
      go_wp2_with fail
      refine ZE (HC3.out _ B2w.out) ?_
      rintro e w3 ⟨rfl,b3⟩
      have B3w:=kb B2w b3
      clear b3 z4 z5 z6 z7
      go_wp2_with fail
      go_ret2
      exact⟨by rw[hRR2.out];rfl,B3w.out⟩
    ·have hn1':(r1n==1)=false:=by simpa using hn1
     have H3:Hid (gsR E (p.gs.drop (k+1)) p.fin=R):=a0a (by rw[HK2.out];simp[hn1])
     clear HK2 HC2 z4 z5 z6 z7
     go_wp2_with fail
     go_roundw
     case rel=>exact⟨k+1,by go_num,by omega,H3.out,B2.out⟩
     case measure=>simp;omega
   ·rw[a0o r1n he1] at he
    subst he
    have hRR:Hid (a1Z R=.tuple #[.int .i64 0,.iface 238 (.agg #[.int .i64 r1e])]):=a0a (by rw[HK2.out];simp only[he1,if_false];exact a0o 0 he1)
    clear HK2 HC2 z4 z5 z6 z7
    go_wp2_with fail
    go_ret2
    exact⟨by rw[hRR.out];rfl,B2w.out⟩
  ·have hlt':¬(k:Int)<(N:Int):=by omega
   have hkN:k=N:=by omega
   have e1:p.gs.drop k=[]:=List.drop_eq_nil_of_le (by rw[hkN,hN.out];exact ZB _)
   rw[e1] at HK
   have hRR:Hid (R=a0e E p.fin):=a0a HK.out.symm
   have X:=X0.out.next HB.out
   have x0:=X.cell 10 _ rfl
   have x1:=X.cell 11 _ rfl
   have x2:=X.cell 12 _ rfl
   have x3:=X.cell 13 _ rfl
   have xl:=X.lt
   clear X e1 HK
   rw[<-hRR.out] at HTf
   obtain⟨rn,re⟩:=R
   by_cases he:re=0
   ·subst he
    have hRR2:Hid (a1Z (rn,0)=.tuple #[.int .i64 rn,.nilIface]):=a0a (a0u _ rfl)
    rw[hRR2.out] at HTf
    go_wp2_with fail
    refine ZE (HTf.out _ BW.out) ?_
    rintro e w3 ⟨rfl,b3⟩
    have B3w:=kb BW b3
    clear b3 x0 x1 x2 x3
    go_wp2_with fail
    go_ret2
    exact⟨by rw[hRR2.out];rfl,B3w.out⟩
   ·have hRR2:Hid (a1Z (rn,re)=.tuple #[.int .i64 rn,.iface 238 (.agg #[.int .i64 re])]):=a0a (a0o rn he)
    rw[hRR2.out] at HTf
    go_wp2_with fail
    refine ZE (HTf.out _ BW.out) ?_
    rintro e w3 ⟨rfl,b3⟩
    have B3w:=kb BW b3
    clear b3 x0 x1 x2 x3
    go_wp2_with fail
    go_ret2
    exact⟨by rw[hRR2.out];rfl,B3w.out⟩
set_option maxHeartbeats 4000000 in
set_option maxRecDepth 20000 in
theorem c2y (E:a0z)(p:PlP)(v:PlV)(tb b:Nat)(w:World)(hT:∀ g,g∈p.gs->TeC E g.1/\TeC E g.2)(hTf:TeC E p.fin)(hs:a4n w p v)(ht:a7U w tb b E):Calls Tryz.prog 63 #[.pointer (some ⟨tb,0,none⟩),plV p v] w fun e w'=>e=.returned (b5o (gsR E p.gs p.fin))/\Below w.heap.size w w':=by
 have HP:=a0a (fun W (hW:Below w.heap.size w W)=>c1l E p v tb b W hT hTf (hs.next hW) (ht.next hW))
 have HG:=a0a (fun W (hW:Below w.heap.size w W) r=>a6h r W (GlE.next ht.gl hW))
 obtain⟨a1,c1,a2,c2,a3,c3,a4,c4,a5,c5,rfl,-⟩:=hs.shapes
 have HA:Hid (∀ o o',Below w.heap.size w ((w.alloc o).alloc o')):=fun o o'=>((ZD _ _).alloc (ZB _) _).alloc (by simp) _
 obtain⟨-,Y1,-⟩:=a0n w 32 48 (plL p ⟨.slice a1 p.mets.length c1,.slice a2 p.wins.length c2,.slice a3 p.crons.length c3,.slice a4 p.gs.length c4,.slice a5 p.fin.parts.length c5⟩) [.bool false,.int .i64 0,.int .i64 0]
 have HY:=a0a Y1
 clear hT hTf hs ht Y1
 obtain⟨Rv,hRv⟩:∃ Rv,Hid (Rv=b5o (gsR E p.gs p.fin)):=⟨_,rfl⟩
 rw[<-hRv.out]
 generalize gsR E p.gs p.fin=r at *
 obtain⟨n,e⟩:=r
 by_cases he:e=0
 ·subst he
  have hR:Hid (Rv=.agg #[.bool false,.int .i64 0,.int .i64 n]):=by show _=_;rw[hRv.out];exact b8W n
  have HG0:=a0a (fun W hW=>HG.out W hW 0)
  rw[a6w] at HG0
  clear hRv HG
  go_enter Tryz.func63,Tryz.ntmps63
  go_wp2_with fail
  refine ZE (HP.out _ (HA.out _ _)) ?_
  rintro e1 w1 ⟨he1,b1⟩
  rw[a0u (n,0) rfl] at he1
  subst he1
  have HB:=a0a (a0b (HA.out _ _) b1 (by simp;omega))
  have HY1:=a0a (HY.out.next b1)
  clear b1 HP HY
  go_wp2_with fail
  refine ZE (HG0.out _ HB.out) ?_
  rintro e1 w2 ⟨rfl,b2⟩
  have HB2:=kb HB b2
  have Z:=HY1.out.next b2
  obtain⟨q0,q1,q2⟩:=Box.c3 Z
  have r0:=Z.free 0 (by simp)
  have r1:=Z.free 1 (by simp)
  have r2:=Z.free 2 (by simp)
  have zl:=Z.lt
  clear b2 HG0 HY1 Z
  go_wp2_with fail
  refine bodyPost_ret (v:=.agg #[.bool false,.int .i64 0,.int .i64 n]) (by simp[results,Tryz.results63,go_sem, *]) rfl ?_
  exact⟨by rw[hR.out],((HB2.out.setCell (p:=⟨w.heap.size+1,0,none⟩) (by simp) _).setCell (p:=⟨w.heap.size+1,1,none⟩) (by simp) _).setCell (p:=⟨w.heap.size+1,2,none⟩) (by simp) _⟩
 ·have hR:Hid (Rv=.agg #[.bool true,.int .i64 e,.int .i64 0]):=by show _=_;rw[hRv.out];exact b5V n he
  have HG0:=a0a (fun W hW=>HG.out W hW e)
  rw[a3B he] at HG0
  have kz:(e != 0)=true:=by simpa using he
  clear hRv HG
  go_enter Tryz.func63,Tryz.ntmps63
  go_wp2_with fail
  refine ZE (HP.out _ (HA.out _ _)) ?_
  rintro e1 w1 ⟨he1,b1⟩
  rw[a0o n he] at he1
  subst he1
  have HB:=a0a (a0b (HA.out _ _) b1 (by simp;omega))
  have HY1:=a0a (HY.out.next b1)
  clear b1 HP HY
  go_wp2_with fail
  refine ZE (HG0.out _ HB.out) ?_
  rintro e1 w2 ⟨rfl,b2⟩
  have HB2:=kb HB b2
  have Z:=HY1.out.next b2
  obtain⟨q0,q1,q2⟩:=Box.c3 Z
  have r0:=Z.free 0 (by simp)
  have r1:=Z.free 1 (by simp)
  have r2:=Z.free 2 (by simp)
  have zl:=Z.lt
  clear b2 HG0 HY1 Z
  go_wp2_with fail
  refine bodyPost_ret (v:=.agg #[.bool true,.int .i64 e,.int .i64 0]) (by simp[results,Tryz.results63,go_sem, *]) rfl ?_
  exact⟨by rw[hR.out],((HB2.out.setCell (p:=⟨w.heap.size+1,0,none⟩) (by simp) _).setCell (p:=⟨w.heap.size+1,1,none⟩) (by simp) _).setCell (p:=⟨w.heap.size+1,2,none⟩) (by simp) _⟩
def c0g (ok:Bool)(r:Rs):Value:=if ok=true then .tuple #[b5o r,.int .i64 0] else .tuple #[.agg #[.bool false,.int .i64 0,.int .i64 0],.int .i64 1]
def b0O (E:a0z)(p:PlP):Bool:=decide (E.wins.length=p.wins.length)&&decide (E.crons.length=p.crons.length)
set_option maxHeartbeats 8000000 in
set_option maxRecDepth 20000 in
theorem b4O (q:Co->Co->Bool)(hq:∀ a b,q a b=true↔a=b)(E:a0z)(p:PlP)(v:PlV)(v1 v2:Value)(w:World)(hs:a4n w p v)(he:a3v w E v1 v2)(hF:a2M w)(hg:GlE w):Calls Tryz.prog 32 #[plV p v,c2j E v1 v2] w fun e w'=>e=.returned (c0g (a0s q p&&b0O E p) (gsR E p.gs p.fin))/\Below w.heap.size w w':=by
 have HFo:=a0a (fun W (hW:Below w.heap.size w W)=>a8S q hq p v W (hF.later hW) (hs.next hW))
 have HN:=a0a (fun W (hW:Below w.heap.size w W)=>a9C E v1 v2 W (he.next hW) (GlE.next hg hW))
 have HR:Hid (a0s q p=true->b0O E p=true->∀ tb b W,Below w.heap.size w W->a7U W tb b E->Calls Tryz.prog 63 #[.pointer (some ⟨tb,0,none⟩),plV p v] W fun e w'=>e=.returned (b5o (gsR E p.gs p.fin))/\Below W.heap.size W w'):=fun h1 h2 tb b W hW hT=>by
  unfold b0O at h2
  rw[Bool.and_eq_true] at h2
  obtain⟨ho,hfew⟩:=b9i (q:=q) (E:=E) h1 (of_decide_eq_true h2.1) (of_decide_eq_true h2.2)
  obtain⟨gv,hgv⟩:∃ x,Hid (x=v.gs):=⟨_,rfl⟩
  refine c2y E p v tb b W (fun g hgm=>?_) ?_ (hs.next hW) hT
  ·obtain⟨i,hi,rfl⟩:=List.getElem_of_mem hgm
   obtain⟨b',off,cap,-,-,-,-,hx⟩:=hs.gs.open (by omega)
   obtain⟨u1,u2,-,-,s1,s2⟩:=hx i hi
   have hn:=a5D hfew hgm
   have h3:=ho.gs _ hgm
   exact⟨a6O E he.ok _ ⟨w,u1,s1⟩ (by omega) (by rw[h3.1];decide),a6O E he.ok _ ⟨w,u2,s2⟩ (by omega) (by rw[h3.2];decide)⟩
  ·exact a6O E he.ok _ ⟨w,_,hs.fi⟩ (by have:=b4j hfew;omega) (by rw[ho.fin];decide)
 obtain⟨a1,c1,a2,c2,a3,c3,a4,c4,a5,c5,rfl,g1,g2,g3,g4⟩:=hs.shapes
 obtain⟨e1,d1,e2,d2,rfl,rfl⟩:=he.shape
 have hL1:E.wins.length<=9223372036854775807:=he.ok.wl
 have hL2:E.crons.length<=9223372036854775807:=he.ok.cl
 obtain⟨Y0,Y1,Y2,B0⟩:=a2f w 32 40 48 (plL p ⟨.slice a1 p.mets.length c1,.slice a2 p.wins.length c2,.slice a3 p.crons.length c3,.slice a4 p.gs.length c4,.slice a5 p.fin.parts.length c5⟩) [.int .i64 E.rep,.slice e1 E.wins.length d1,.slice e2 E.crons.length d2] [.bool false,.int .i64 0,.int .i64 0]
 have HY0:=a0a Y0
 have HY1:=a0a Y1
 have HY2:=a0a Y2
 have HB0:=a0a B0
 clear hs he hF hg Y0 Y1 Y2 B0 g1 g4
 obtain⟨Rv,hRv⟩:∃ Rv,Hid (Rv=c0g (a0s q p&&b0O E p) (gsR E p.gs p.fin)):=⟨_,rfl⟩
 rw[<-hRv.out]
 generalize gsR E p.gs p.fin=r at *
 go_enter Tryz.func32,Tryz.ntmps32
 go_wp2_with fail
 refine ZE (HFo.out _ HB0.out) ?_
 rintro e w1 ⟨rfl,b1⟩
 have HB1:=kb HB0 b1
 replace HY0:=kn HY0 b1
 replace HY1:=kn HY1 b1
 replace HY2:=kn HY2 b1
 clear b1 HFo HB0
 obtain⟨p0,p1,p2,p3,p4,p5,p6,p7,p8,p9,p10,p11,p12,p13⟩:=Box.c14 HY0.out
 have pl:=HY0.out.lt
 obtain⟨c0,k1,k2⟩:=Box.c3 HY1.out
 have cl:=HY1.out.lt
 obtain⟨q0,q1,q2⟩:=Box.c3 HY2.out
 have r0:=HY2.out.free 0 (by simp)
 have r1:=HY2.out.free 1 (by simp)
 have r2:=HY2.out.free 2 (by simp)
 have zl:=HY2.out.lt
 obtain⟨y1,hy1⟩:∃ y1,Hid (a0s q p=y1):=⟨_,rfl⟩
 rw[hy1.out] at hRv HR ⊢
 cases y1 with
 | false=>
   have hR0:Hid (Rv=.tuple #[.agg #[.bool false,.int .i64 0,.int .i64 0],.int .i64 1]):=a0a hRv.out
   clear hRv HR HN
   go_wp2_with fail
   refine bodyPost_ret (v:=.tuple #[.agg #[.bool false,.int .i64 0,.int .i64 0],.int .i64 1]) (by simp[results,Tryz.results32,go_sem, *]) rfl ?_
   exact⟨by rw[hR0.out],((HB1.out.setCell (p:=⟨w.heap.size+1+1,0,none⟩) (by simp;omega) _).setCell (p:=⟨w.heap.size+1+1,1,none⟩) (by simp;omega) _).setCell (p:=⟨w.heap.size+1+1,2,none⟩) (by simp;omega) _⟩
 | true=>
 by_cases h1:E.wins.length=p.wins.length
 case neg=>
  have hf:b0O E p=false:=by unfold b0O;rw[decide_eq_false h1];rfl
  have hR0:Hid (Rv=.tuple #[.agg #[.bool false,.int .i64 0,.int .i64 0],.int .i64 1]):=a0a (by rw[hRv.out,hf];rfl)
  have h1':((E.wins.length:Int) != (p.wins.length:Int))=true:=by simp;omega
  clear hRv HR HN hf
  go_wp2_with fail
  refine bodyPost_ret (v:=.tuple #[.agg #[.bool false,.int .i64 0,.int .i64 0],.int .i64 1]) (by simp[results,Tryz.results32,go_sem, *]) rfl ?_
  exact⟨by rw[hR0.out],((HB1.out.setCell (p:=⟨w.heap.size+1+1,0,none⟩) (by simp;omega) _).setCell (p:=⟨w.heap.size+1+1,1,none⟩) (by simp;omega) _).setCell (p:=⟨w.heap.size+1+1,2,none⟩) (by simp;omega) _⟩
 have h1':((E.wins.length:Int) != (p.wins.length:Int))=false:=by simp;omega
 by_cases h2:E.crons.length=p.crons.length
 case neg=>
  have hf:b0O E p=false:=by unfold b0O;rw[decide_eq_false h2];simp
  have hR0:Hid (Rv=.tuple #[.agg #[.bool false,.int .i64 0,.int .i64 0],.int .i64 1]):=a0a (by rw[hRv.out,hf];rfl)
  have h2':((E.crons.length:Int) != (p.crons.length:Int))=true:=by simp;omega
  clear hRv HR HN hf h1
  go_wp2_with fail
  refine bodyPost_ret (v:=.tuple #[.agg #[.bool false,.int .i64 0,.int .i64 0],.int .i64 1]) (by simp[results,Tryz.results32,go_sem, *]) rfl ?_
  exact⟨by rw[hR0.out],((HB1.out.setCell (p:=⟨w.heap.size+1+1,0,none⟩) (by simp;omega) _).setCell (p:=⟨w.heap.size+1+1,1,none⟩) (by simp;omega) _).setCell (p:=⟨w.heap.size+1+1,2,none⟩) (by simp;omega) _⟩
 have h2':((E.crons.length:Int) != (p.crons.length:Int))=false:=by simp;omega
 have hf:b0O E p=true:=by unfold b0O;rw[decide_eq_true h1,decide_eq_true h2];rfl
 have hR1:Hid (Rv=.tuple #[b5o r,.int .i64 0]):=a0a (by rw[hRv.out,hf];rfl)
 have HR1:=a0a (HR.out (by first | rfl | trivial) hf)
 obtain⟨ra,rb,rc,hra⟩:∃ ra rb rc,Hid (b5o r=.agg #[.bool ra,.int .i64 rb,.int .i64 rc]):=by unfold b5o;split;exact⟨_,_,_,a0a rfl⟩;exact⟨_,_,_,a0a rfl⟩
 rw[hra.out] at hR1 HR1
 clear hRv HR hf h1 h2 hy1
 go_wp2_with fail
 go_region_held3 (fun w'=>(w'.cell? ⟨w.heap.size,0,none⟩=some (.slice a1 p.mets.length c1)/\w'.cell? ⟨w.heap.size,1,none⟩=some (.int .i64 p.ru.mn)/\w'.cell? ⟨w.heap.size,2,none⟩=some (.int .i64 p.ru.mx)/\w'.cell? ⟨w.heap.size,3,none⟩=some (.int .i64 p.ru.st)/\w'.cell? ⟨w.heap.size,4,none⟩=some (.int .i64 p.ru.up)/\w'.cell? ⟨w.heap.size,5,none⟩=some (.int .i64 p.ru.dn)/\w'.cell? ⟨w.heap.size,6,none⟩=some (.slice a2 p.wins.length c2)/\w'.cell? ⟨w.heap.size,7,none⟩=some (.slice a3 p.crons.length c3)/\w'.cell? ⟨w.heap.size,8,none⟩=some (.int .i64 p.loc)/\w'.cell? ⟨w.heap.size,9,none⟩=some (.slice a4 p.gs.length c4)/\w'.cell? ⟨w.heap.size,10,none⟩=some (.int .i64 p.fin.op)/\w'.cell? ⟨w.heap.size,11,none⟩=some (.int .i64 p.fin.n)/\w'.cell? ⟨w.heap.size,12,none⟩=some (.int .i64 p.fin.m)/\w'.cell? ⟨w.heap.size,13,none⟩=some (.slice a5 p.fin.parts.length c5))/\(w'.cell? ⟨w.heap.size+1,0,none⟩=some (.int .i64 E.rep)/\w'.cell? ⟨w.heap.size+1,1,none⟩=some (.slice e1 E.wins.length d1)/\w'.cell? ⟨w.heap.size+1,2,none⟩=some (.slice e2 E.crons.length d2))) (simp[go_sem, *]) (first|(go_at_call 62;refine ZE (HN.out _ (by exact HB1.out.drew)) ?_;rintro e w2 ⟨tb,b,rfl,ht,B2⟩;have BW:Below w1.heap.size w1 w2:=⟨B2.os,B2.tape,B2.output,B2.size,B2.block⟩;replace p0:=a0c BW p0;replace p1:=a0c BW p1;replace p2:=a0c BW p2;replace p3:=a0c BW p3;replace p4:=a0c BW p4;replace p5:=a0c BW p5;replace p6:=a0c BW p6;replace p7:=a0c BW p7;replace p8:=a0c BW p8;replace p9:=a0c BW p9;replace p10:=a0c BW p10;replace p11:=a0c BW p11;replace p12:=a0c BW p12;replace p13:=a0c BW p13;replace c0:=a0c BW c0;replace k1:=a0c BW k1;replace k2:=a0c BW k2;have HB2:=kb HB1 BW;have HZ:=a0a (HY2.out.next BW);replace q0:=HZ.out.cell 0 _ rfl;replace r0:=HZ.out.free 0 (by simp);replace q1:=HZ.out.cell 1 _ rfl;replace r1:=HZ.out.free 1 (by simp);replace q2:=HZ.out.cell 2 _ rfl;replace r2:=HZ.out.free 2 (by simp);replace zl:=HZ.out.lt;have HT2:=a0a ht;clear B2 BW ht)|(go_at_call 63;refine ZE (HR1.out _ _ _ HB2.out HT2.out) ?_;rintro e w3 ⟨rfl,B3⟩;replace p0:=a0c B3 p0;replace p1:=a0c B3 p1;replace p2:=a0c B3 p2;replace p3:=a0c B3 p3;replace p4:=a0c B3 p4;replace p5:=a0c B3 p5;replace p6:=a0c B3 p6;replace p7:=a0c B3 p7;replace p8:=a0c B3 p8;replace p9:=a0c B3 p9;replace p10:=a0c B3 p10;replace p11:=a0c B3 p11;replace p12:=a0c B3 p12;replace p13:=a0c B3 p13;replace c0:=a0c B3 c0;replace k1:=a0c B3 k1;replace k2:=a0c B3 k2;have HB3:=kb HB2 B3;have HZ3:=a0a (HZ.out.next B3);replace q0:=HZ3.out.cell 0 _ rfl;replace r0:=HZ3.out.free 0 (by simp);replace q1:=HZ3.out.cell 1 _ rfl;replace r1:=HZ3.out.free 1 (by simp);replace q2:=HZ3.out.cell 2 _ rfl;replace r2:=HZ3.out.free 2 (by simp);replace zl:=HZ3.out.lt;clear B3))
 clear p0 p1 p2 p3 p4 p5 p6 p7 p8 p9 p10 p11 p12 p13 c0 k1 k2 HN HR1 HT2 HB1 HB2 HZ HY0 HY1 HY2
 go_wp2_with fail
 refine bodyPost_ret (v:=.tuple #[.agg #[.bool ra,.int .i64 rb,.int .i64 rc],.int .i64 0]) (by simp[results,Tryz.results32,go_sem, *]) rfl ?_
 exact⟨by rw[hR1.out],((HB3.out.setCell (p:=⟨w.heap.size+1+1,0,none⟩) (by simp;omega) _).setCell (p:=⟨w.heap.size+1+1,1,none⟩) (by simp;omega) _).setCell (p:=⟨w.heap.size+1+1,2,none⟩) (by simp;omega) _⟩
end Go.Proofs.YtbddbnjhmdbkbaaGreatDoor
