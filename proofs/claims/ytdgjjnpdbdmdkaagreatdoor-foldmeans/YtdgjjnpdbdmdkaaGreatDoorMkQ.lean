import Derived.Test.YtdgjjnpdbdmdkaaGreatDoorMhM
import Derived.Test.YtdgjjnpdbdmdkaaGreatDoorMhB
import Derived.Test.YtdgjjnpdbdmdkaaGreatDoorMgQ
import Derived.Test.YtdgjjnpdbdmdkaaGreatDoorMgP
namespace Go.Proofs.YtdgjjnpdbdmdkaaGreatDoor
open Go.RowKit
theorem b1a {k:Nat}{wn cn ln ln':Int}{t:Co}(h:a0t k wn cn ln t=true)(hl:ln<=ln'):a0t k wn cn ln' t=true:=by
 unfold a0t at h ⊢
 by_cases h7:k=7
 ·subst h7
  simp[a0C] at h ⊢
  omega
 ·simp only[h7,if_false] at h ⊢
  exact h
theorem a9z {wn cn ln ln':Int}(hl:ln<=ln')(t:Co):a0f a0n wn cn ln t≠0->a0f a0n wn cn ln' t=a0f a0n wn cn ln t:=by
 induction t using Co.ind with
 | h t ih=>
   intro h
   obtain⟨k,hk,h1,h2,hf,hp,hs⟩:=a6h h
   have hm:t.parts.map (a0f a0n wn cn ln')=t.parts.map (a0f a0n wn cn ln):=List.map_congr_left (fun x hx=>ih x hx (hp x hx))
   have hc:¬(t.parts.map (a0f a0n wn cn ln)).contains 0=true:=fun hc=>by
    rw[List.contains_iff_mem,List.mem_map] at hc
    obtain⟨x,hx,hz⟩:=hc
    exact hp x hx hz
   have hkn:t.op.toNat=k:=by omega
   rw[a0S a0n wn cn ln' t,if_pos (by omega),hkn,if_pos (b1a hf hl),hm,if_neg hc,hs]
theorem a9X {p:PlP}{E:a0y}(hw:E.wins.length=p.wins.length)(hc:E.crons.length=p.crons.length)(hl:p.loc<=256){t:Co}(h:soP p t≠0):srt E t=soP p t:=by
 unfold srt
 rw[hw,hc]
 exact a9z hl t h
theorem b5Q (E:a0y){gs:List (Co×Co)}{f:Co}{k:Nat}(hk:k<gs.length):gsR E (gs.drop k) f=if (a0e E gs[k].1).2=0 then (if (a0e E gs[k].1).1=1 then a0e E gs[k].2 else gsR E (gs.drop (k+1)) f) else noR (a0e E gs[k].1).2:=by
 rw[List.drop_eq_getElem_cons hk,gsR]
structure b7X (E:a0y)(p:PlP):Prop where
 gs:∀ g,g∈p.gs->srt E g.1=2/\srt E g.2=3
 fin:srt E p.fin=3
theorem b0p {q:Co->Co->Bool}{p:PlP}{E:a0y}(h:a0O q p=true)(hw:E.wins.length=p.wins.length)(hc:E.crons.length=p.crons.length):b7X E p/\a5o p=true:=by
 unfold a0O at h
 simp only[Bool.and_eq_true] at h
 obtain⟨⟨⟨⟨⟨h1,h2⟩,h3⟩,h4⟩,h5⟩,h6⟩:=h
 have hl:p.loc<=256:=(of_decide_eq_true h1).2.2.2.2
 unfold a1s at h5
 rw[Bool.and_eq_true,List.all_eq_true] at h5
 refine⟨⟨fun g hg=>?_,?_⟩,h2⟩
 ·have hgg:=h5.1 g hg
  rw[Bool.and_eq_true] at hgg
  have e1:soP p g.1=2:=of_decide_eq_true hgg.1
  have e2:soP p g.2=3:=of_decide_eq_true hgg.2
  exact⟨by rw[a9X hw hc hl (by rw[e1];decide),e1],by rw[a9X hw hc hl (by rw[e2];decide),e2]⟩
 ·have e3:soP p p.fin=3:=of_decide_eq_true h5.2
  rw[a9X hw hc hl (by rw[e3];decide),e3]
set_option maxHeartbeats 8000000 in
set_option maxRecDepth 20000 in
theorem a7d (E:a0y)(p:PlP)(v:PlV)(v1 v2:Value)(w:World)(hok:a4E E)(hp:b7X E p)(hs:a4h w p v)(he:a4y w E v1 v2):Calls Tryz.prog 11 #[plV p v,a2q E v1 v2] w fun e w'=>e=.returned (a3K (gsR E p.gs p.fin))/\Below w.heap.size w w':=by
 have HG:=a0a hs.gs
 have HE:=a0a he
 have HP:=a0a hp
 have HOk:=a0a hok
 have HFi:=a0a (fun W (hW:Below w.heap.size w W)=>a8t E hok p.fin ⟨w,_,hs.fi⟩ hp.fin v.fi v1 v2 W (hs.fi.next hW) (he.next hW))
 obtain⟨a1,c1,a2,c2,a3,c3,a4,c4,a5,c5,rfl,g1,g2,g3,g4⟩:=hs.shapes
 dsimp only at HG HFi
 obtain⟨e1,d1,e2,d2,rfl,rfl⟩:=he.shape
 obtain⟨Y0,Y1,Y2,B0⟩:=a0s w 32 42 45 (plL p ⟨.slice a1 p.mets.length c1,.slice a2 p.wins.length c2,.slice a3 p.crons.length c3,.slice a4 p.gs.length c4,.slice a5 p.fin.parts.length c5⟩) [.int .i64 E.rep,.slice e1 E.wins.length d1,.slice e2 E.crons.length d2] [.bool false,.int .i64 0,.int .i64 0]
 have HY0:=a0a Y0
 have HY1:=a0a Y1
 have HY2:=a0a Y2
 have HB0:=a0a B0
 obtain⟨R,hR⟩:∃ R,Hid (R=gsR E p.gs p.fin):=⟨_,rfl⟩
 rw[<-hR.out]
 obtain⟨N,hN⟩:∃ N,Hid (N=p.gs.length):=⟨_,rfl⟩
 rw[<-hN.out] at HY0 HY1 HY2 HB0 g4 ⊢
 clear hok hp hs he Y0 Y1 Y2 B0 g1 g2 g3
 obtain⟨w0,hw0⟩:∃ w0,Hid (w0=((w.alloc (.cells (plL p ⟨.slice a1 p.mets.length c1,.slice a2 p.wins.length c2,.slice a3 p.crons.length c3,.slice a4 N c4,.slice a5 p.fin.parts.length c5⟩).toArray 32)).alloc (.cells #[.int .i64 E.rep,.slice e1 E.wins.length d1,.slice e2 E.crons.length d2] 42)).alloc (.cells #[.bool false,.int .i64 0,.int .i64 0] 45)):=⟨_,a0a rfl⟩
 replace HY0:Hid (Box w0 w.heap.size (plL p ⟨.slice a1 p.mets.length c1,.slice a2 p.wins.length c2,.slice a3 p.crons.length c3,.slice a4 N c4,.slice a5 p.fin.parts.length c5⟩)):=by rw[hw0.out];exact HY0
 replace HY1:Hid (Box w0 (w.heap.size+1) [.int .i64 E.rep,.slice e1 E.wins.length d1,.slice e2 E.crons.length d2]):=by rw[hw0.out];exact HY1
 replace HY2:Hid (Box w0 (w.heap.size+1+1) [.bool false,.int .i64 0,.int .i64 0]):=by rw[hw0.out];exact HY2
 replace HB0:Hid (Below w.heap.size w w0):=by rw[hw0.out];exact HB0
 go_enter Tryz.func11,Tryz.ntmps11
 go_wp2_with fail
 rw[<-hw0.out]
 clear hw0
 go_loopw [5] (fun i wr=>∃ k:Nat,i=.int .i64 (k:Nat)/\k<=N/\Hid (gsR E (p.gs.drop k) p.fin=R)/\Hid (Below w0.heap.size w0 wr)) (fun i _=>match i with | .int _ p=>((N:Int)-p).toNat | _=>0)
 case atStart=>exact⟨0,rfl,by omega,a0a (by rw[hR.out];rfl),Below.refl _ _⟩
 case round=>
  obtain⟨k,rfl,hk,HK,HB⟩:=hrel
  have BW:=a0a (a0b HB0.out HB.out HB0.out.size)
  replace HY0:=a0a (HY0.out.next HB.out)
  replace HY1:=a0a (HY1.out.next HB.out)
  replace HY2:=a0a (HY2.out.next HB.out)
  have x9:=HY0.out.cell 9 _ rfl
  have xl:=HY0.out.lt
  by_cases hlt:k<N
  case pos=>
   have hlt':(k:Int)<(N:Int):=by omega
   have hl1:k<p.gs.length:=by rw[<-hN.out];exact hlt
   obtain⟨bg,off,cap',hv,-,-,hbl,hx⟩:=HG.out.open (by omega)
   simp only[Value.slice.injEq] at hv
   obtain⟨rfl,-,rfl⟩:=hv
   obtain⟨u1,u2,f1,f2,s1,s2⟩:=hx k hl1
   have hgm:=List.getElem_mem hl1
   have HC1:=a0a (fun W (hW:Below w.heap.size w W)=>a7c E HOk.out _ ⟨w,_,s1⟩ (.inr (HP.out.gs _ hgm).1) u1 (.slice e1 E.wins.length d1) (.slice e2 E.crons.length d2) W (s1.next hW) (HE.out.next hW))
   have HCa:=a0a (fun W (hW:Below w.heap.size w W)=>a8t E HOk.out _ ⟨w,_,s2⟩ (HP.out.gs _ hgm).2 u2 (.slice e1 E.wins.length d1) (.slice e2 E.crons.length d2) W (s2.next hW) (HE.out.next hW))
   have HF2:=a0a f2
   have hK2:=b5Q E (f:=p.fin) hl1
   rw[HK.out] at hK2
   have HK2:=a0a hK2
   have y0:=a0d BW.out f1.c0
   have y1:=a0d BW.out f1.c1
   have y2:=a0d BW.out f1.c2
   have y3:=a0d BW.out f1.c3
   have lb:bg<wr.heap.size:=Nat.lt_of_lt_of_le hbl BW.out.size
   obtain⟨au,cu,rfl,-,-⟩:=s1.parts.shape
   obtain⟨av,cv,rfl,-,-⟩:=s2.parts.shape
   clear hx f1 f2 s1 s2 hK2 HK hgm
   generalize p.gs[k]=x at *
   clear hl1
   obtain⟨⟨k1,n1,m1,ps1⟩,⟨k2,n2,m2,ps2⟩⟩:=x
   dsimp only at *
   generalize ps1.length=L1 at *
   generalize ps2.length=L2 at *
   generalize a0e E ⟨k1,n1,m1,ps1⟩=r at *
   generalize a0e E ⟨k2,n2,m2,ps2⟩=r6 at *
   obtain⟨t0,t1,t2⟩:=Box.c3 HY1.out
   have le:=HY1.out.lt
   obtain⟨G,hG⟩:∃ G:Nat->World->Prop,Hid (G=fun dd w'=>Box w' dd [.int .i64 r.2,.int .i64 r.1]/\Below wr.heap.size wr w'):=⟨_,a0a rfl⟩
   have nlb:bg≠wr.heap.size:=Nat.ne_of_lt lb
   have nlb':wr.heap.size≠bg:=Nat.ne_of_gt lb
   have nlc:w.heap.size≠wr.heap.size:=Nat.ne_of_lt xl
   have nlc':wr.heap.size≠w.heap.size:=Nat.ne_of_gt xl
   have nle:w.heap.size+1≠wr.heap.size:=Nat.ne_of_lt le
   have nle':wr.heap.size≠w.heap.size+1:=Nat.ne_of_gt le
   go_wp2_with fail
   apply a2L G
   case hreg=>
    go_region_held3 (fun w'=>w'.cell? ⟨w.heap.size,9,none⟩=some (.slice (some ⟨bg,off,none⟩) N c4)/\w'.cell? ⟨w.heap.size+1,0,none⟩=some (.int .i64 E.rep)/\w'.cell? ⟨w.heap.size+1,1,none⟩=some (.slice e1 E.wins.length d1)/\w'.cell? ⟨w.heap.size+1,2,none⟩=some (.slice e2 E.crons.length d2)/\w'.cell? ⟨bg,off+k*8,none⟩=some (.int .i64 k1)/\w'.cell? ⟨bg,off+k*8+1,none⟩=some (.int .i64 n1)/\w'.cell? ⟨bg,off+k*8+2,none⟩=some (.int .i64 m1)/\w'.cell? ⟨bg,off+k*8+3,none⟩=some (.slice au L1 cu)) (simp[go_sem, *]) (first|(go_at_call 26;refine Calls.mono (HC1.out _ (by exact a0c BW.out _)) ?_;rintro e u1 ⟨rfl,b⟩;have Hu1:Hid (Below wr.heap.size wr u1):=⟨b.os,b.tape,b.output,b.size,b.block⟩;have g0:=fun p v hp hv=>(Hu1.out.cell (p:=p) hp).trans (hv:wr.cell? p=some v);replace x9:=g0 _ _ xl x9;replace t0:=g0 _ _ le t0;replace t1:=g0 _ _ le t1;replace t2:=g0 _ _ le t2;replace y0:=g0 _ _ lb y0;replace y1:=g0 _ _ lb y1;replace y2:=g0 _ _ lb y2;replace y3:=g0 _ _ lb y3;replace lb:=Nat.lt_of_lt_of_le lb Hu1.out.size;replace xl:=Nat.lt_of_lt_of_le xl Hu1.out.size;replace le:=Nat.lt_of_lt_of_le le Hu1.out.size;clear g0;clear b)|(go_at_call 26;refine Calls.mono (HC1.out _ (by exact a0b BW.out ((a0c (Below.refl wr.heap.size wr) _).alloc (Nat.le_refl _) _) BW.out.size)) ?_;rintro e u2 ⟨rfl,b⟩;have Hu2:Hid (Below wr.heap.size wr u2):=a0a (a0b ((a0c (Below.refl wr.heap.size wr) _).alloc (Nat.le_refl _) _) b ((a0c (Below.refl wr.heap.size wr) _).alloc (Nat.le_refl _) _).size);have Zz:Box u2 wr.heap.size [.int .i64 0,.int .i64 0]:=Box.next (Box.new (wr.drewN _) [.int .i64 0,.int .i64 0] 71) b;have z0:=Zz.cell 0 _ rfl;have z1:=Zz.cell 1 _ rfl;have z2:=Zz.free 0 (by simp);have z3:=Zz.free 1 (by simp);have zl:=Zz.lt;have HZ:=a0a Zz;clear Zz;have g0:=fun p v hp hv=>(Hu2.out.cell (p:=p) hp).trans (hv:wr.cell? p=some v);replace x9:=g0 _ _ xl x9;replace t0:=g0 _ _ le t0;replace t1:=g0 _ _ le t1;replace t2:=g0 _ _ le t2;replace y0:=g0 _ _ lb y0;replace y1:=g0 _ _ lb y1;replace y2:=g0 _ _ lb y2;replace y3:=g0 _ _ lb y3;replace lb:=Nat.lt_of_lt_of_le lb Hu2.out.size;replace xl:=Nat.lt_of_lt_of_le xl Hu2.out.size;replace le:=Nat.lt_of_lt_of_le le Hu2.out.size;clear g0;clear b))
    ·first|(obtain⟨dd,hdd⟩:∃ dd,dd=u1.heap.size:=⟨_,rfl⟩;rw[<-hdd];refine⟨dd,rfl,?_⟩;rw[hG.out,hdd];exact⟨Box.new u1 [.int .i64 r.2,.int .i64 r.1] 71,Hu1.out.alloc Hu1.out.size _⟩)|(obtain⟨dd,hdd⟩:∃ dd,dd=wr.heap.size:=⟨_,rfl⟩;rw[<-hdd];refine⟨dd,rfl,?_⟩;rw[hG.out,hdd];exact⟨(HZ.out.set 0 (by simp) (.int .i64 r.2)).set 1 (by simp) (.int .i64 r.1),(Hu2.out.setCell (p:=⟨_,0,none⟩) (Nat.le_refl _) _).setCell (p:=⟨_,1,none⟩) (Nat.le_refl _) _⟩)
    ·first|(obtain⟨dd,hdd⟩:∃ dd,dd=u1.heap.size:=⟨_,rfl⟩;rw[<-hdd];refine⟨dd,rfl,?_⟩;rw[hG.out,hdd];exact⟨Box.new u1 [.int .i64 r.2,.int .i64 r.1] 71,Hu1.out.alloc Hu1.out.size _⟩)|(obtain⟨dd,hdd⟩:∃ dd,dd=wr.heap.size:=⟨_,rfl⟩;rw[<-hdd];refine⟨dd,rfl,?_⟩;rw[hG.out,hdd];exact⟨(HZ.out.set 0 (by simp) (.int .i64 r.2)).set 1 (by simp) (.int .i64 r.1),(Hu2.out.setCell (p:=⟨_,0,none⟩) (Nat.le_refl _) _).setCell (p:=⟨_,1,none⟩) (Nat.le_refl _) _⟩)
   case hrest=>
   intro aD wa hGd
   rw[hG.out] at hGd
   obtain⟨Ya,ka⟩:=hGd
   clear x9 xl t0 t1 t2 le y0 y1 y2 y3 lb nlb nlb' nlc nlc' nle nle' hG G HC1
   have HB1:=kb BW ka
   have HBr:=kb HB ka
   replace HY0:=kn HY0 ka
   replace HY1:=kn HY1 ka
   replace HY2:=kn HY2 ka
   have Xa:=a0a Ya
   clear ka Ya
   obtain⟨z0,z1⟩:=Box.c2 Xa.out
   have zl:=Xa.out.lt
   have q0:=HY2.out.cell 0 _ rfl
   have j0:=HY2.out.free 0 (by simp)
   have q1:=HY2.out.cell 1 _ rfl
   have j1:=HY2.out.free 1 (by simp)
   have q2:=HY2.out.cell 2 _ rfl
   have j2:=HY2.out.free 2 (by simp)
   have ql:=HY2.out.lt
   by_cases hz:r.2=0
   case neg=>
    have d0:(r.2 != 0)=true:=by simpa using hz
    have hQr:Hid (a3K R=.agg #[.bool true,.int .i64 r.2,.int .i64 0]):=by
     show _=_
     rw[HK2.out,if_neg hz]
     exact a4H 0 hz
    clear HCa HK2
    go_wp2_with fail
    refine bodyPost_ret (v:=.agg #[.bool true,.int .i64 r.2,.int .i64 0]) (by simp[results,Tryz.results11,go_sem, *]) rfl ?_
    exact⟨by rw[hQr.out],((HB1.out.setCell (p:=⟨w.heap.size+1+1,0,none⟩) (by simp;omega) _).setCell (p:=⟨w.heap.size+1+1,1,none⟩) (by simp;omega) _).setCell (p:=⟨w.heap.size+1+1,2,none⟩) (by simp;omega) _⟩
   obtain⟨r1,r2⟩:=r
   obtain rfl:r2=0:=hz
   change _=some (Value.int .i64 0) at z0
   change _=some (Value.int .i64 r1) at z1
   by_cases hr1:r1=1
   case neg=>
    have hr1':(r1==1)=false:=by simpa using hr1
    have H3:Hid (gsR E (p.gs.drop (k+1)) p.fin=R):=a0a (by rw[HK2.out];simp[hr1])
    clear HK2 HCa q0 q1 q2 j0 j1 j2 ql
    go_wp2_with fail
    go_roundw
    case rel=>exact⟨k+1,by go_num,by omega,H3.out,HBr.out⟩
    case measure=>simp;omega
   subst hr1
   have hQr:Hid (a3K R=a3K r6):=a0a (by rw[HK2.out];rfl)
   obtain⟨ra,rb,rc,hra⟩:∃ ra rb rc,Hid (a3K r6=.agg #[.bool ra,.int .i64 rb,.int .i64 rc]):=by unfold a3K;split;exact⟨_,_,_,a0a rfl⟩;exact⟨_,_,_,a0a rfl⟩
   rw[hra.out] at HCa
   have y0:=a0d HB1.out HF2.out.c0
   have y1:wa.cell? ⟨bg,off+k*8+5,none⟩=_:=a0d HB1.out HF2.out.c1
   have y2:wa.cell? ⟨bg,off+k*8+6,none⟩=_:=a0d HB1.out HF2.out.c2
   have y3:wa.cell? ⟨bg,off+k*8+7,none⟩=_:=a0d HB1.out HF2.out.c3
   have lb:bg<wa.heap.size:=Nat.lt_of_lt_of_le hbl HB1.out.size
   have x9:=HY0.out.cell 9 _ rfl
   have xl:=HY0.out.lt
   obtain⟨t0,t1,t2⟩:=Box.c3 HY1.out
   have le:=HY1.out.lt
   clear HK2
   go_wp2_with fail
   go_region_held3 (fun w'=>w'.cell? ⟨w.heap.size,9,none⟩=some (.slice (some ⟨bg,off,none⟩) N c4)/\w'.cell? ⟨bg,off+k*8+4,none⟩=some (.int .i64 k2)/\w'.cell? ⟨bg,off+k*8+5,none⟩=some (.int .i64 n2)/\w'.cell? ⟨bg,off+k*8+6,none⟩=some (.int .i64 m2)/\w'.cell? ⟨bg,off+k*8+7,none⟩=some (.slice av L2 cv)/\w'.cell? ⟨w.heap.size+1,0,none⟩=some (.int .i64 E.rep)/\w'.cell? ⟨w.heap.size+1,1,none⟩=some (.slice e1 E.wins.length d1)/\w'.cell? ⟨w.heap.size+1,2,none⟩=some (.slice e2 E.crons.length d2)) (simp[go_sem, *]) (first|(go_at_call 27;refine Calls.mono (HCa.out _ (by exact HB1.out.drew)) ?_;rintro e w2 ⟨rfl,bb⟩;have BB:Below wa.heap.size wa w2:=⟨bb.os,bb.tape,bb.output,bb.size,bb.block⟩;replace x9:=a0d BB x9;replace y0:=a0d BB y0;replace y1:=a0d BB y1;replace y2:=a0d BB y2;replace y3:=a0d BB y3;replace t0:=a0d BB t0;replace t1:=a0d BB t1;replace t2:=a0d BB t2;replace HY2:=kn HY2 BB;replace q0:=HY2.out.cell 0 _ rfl;replace j0:=HY2.out.free 0 (by simp);replace q1:=HY2.out.cell 1 _ rfl;replace j1:=HY2.out.free 1 (by simp);replace q2:=HY2.out.cell 2 _ rfl;replace j2:=HY2.out.free 2 (by simp);replace ql:=HY2.out.lt;have HB2:=kb HB1 BB;clear bb BB))
   clear t0 t1 t2 x9 y0 y1 y2 y3
   go_wp2_with fail
   refine bodyPost_ret (v:=.agg #[.bool ra,.int .i64 rb,.int .i64 rc]) (by simp[results,Tryz.results11,go_sem, *]) rfl ?_
   exact⟨by rw[hQr.out,hra.out],((HB2.out.setCell (p:=⟨w.heap.size+1+1,0,none⟩) (by simp;omega) _).setCell (p:=⟨w.heap.size+1+1,1,none⟩) (by simp;omega) _).setCell (p:=⟨w.heap.size+1+1,2,none⟩) (by simp;omega) _⟩
  have hlt':¬(k:Int)<(N:Int):=by omega
  have hkN:k=N:=by omega
  have e0:p.gs.drop k=[]:=List.drop_eq_nil_of_le (by rw[hkN,hN.out];exact Nat.le_refl _)
  rw[e0] at HK
  have hQr:Hid (a3K R=a3K (a0e E p.fin)):=a0a (by rw[<-HK.out];rfl)
  obtain⟨ra,rb,rc,hra⟩:∃ ra rb rc,Hid (a3K (a0e E p.fin)=.agg #[.bool ra,.int .i64 rb,.int .i64 rc]):=by unfold a3K;split;exact⟨_,_,_,a0a rfl⟩;exact⟨_,_,_,a0a rfl⟩
  rw[hra.out] at HFi
  have HCa:=HFi
  have y0:=HY0.out.cell 10 _ rfl
  have y1:=HY0.out.cell 11 _ rfl
  have y2:=HY0.out.cell 12 _ rfl
  have y3:=HY0.out.cell 13 _ rfl
  obtain⟨t0,t1,t2⟩:=Box.c3 HY1.out
  have le:=HY1.out.lt
  have q0:=HY2.out.cell 0 _ rfl
  have j0:=HY2.out.free 0 (by simp)
  have q1:=HY2.out.cell 1 _ rfl
  have j1:=HY2.out.free 1 (by simp)
  have q2:=HY2.out.cell 2 _ rfl
  have j2:=HY2.out.free 2 (by simp)
  have ql:=HY2.out.lt
  clear HK e0 HFi
  go_wp2_with fail
  refine Calls.mono (HCa.out _ BW.out) ?_
  rintro e w2 ⟨rfl,bb⟩
  replace HY2:=kn HY2 bb
  have HB2:=kb BW bb
  clear bb y0 y1 y2 y3 t0 t1 t2 le q0 q1 q2 j0 j1 j2 ql
  have q0:=HY2.out.cell 0 _ rfl
  have j0:=HY2.out.free 0 (by simp)
  have q1:=HY2.out.cell 1 _ rfl
  have j1:=HY2.out.free 1 (by simp)
  have q2:=HY2.out.cell 2 _ rfl
  have j2:=HY2.out.free 2 (by simp)
  have ql:=HY2.out.lt
  go_wp2_with fail
  refine bodyPost_ret (v:=.agg #[.bool ra,.int .i64 rb,.int .i64 rc]) (by simp[results,Tryz.results11,go_sem, *]) rfl ?_
  exact⟨by rw[hQr.out,hra.out],((HB2.out.setCell (p:=⟨w.heap.size+1+1,0,none⟩) (by simp;omega) _).setCell (p:=⟨w.heap.size+1+1,1,none⟩) (by simp;omega) _).setCell (p:=⟨w.heap.size+1+1,2,none⟩) (by simp;omega) _⟩
end Go.Proofs.YtdgjjnpdbdmdkaaGreatDoor
