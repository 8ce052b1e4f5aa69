import Derived.Test.YtepncopdjodfgaaGreatDoorChD
namespace Go.Proofs.YtepncopdjodfgaaGreatDoor
open Go.RowKit
set_option maxHeartbeats 8000000 in
set_option maxRecDepth 20000 in
theorem act_ladder (E:EnvP)(n m:Int)(ps:List Co)(hl2:2<=ps.length)(hle2:ps.length%2=0)(h0:0<ps.length)(ih0:REv E ps[0])(hg0:C64 (telV E ps[0]).1)(hAc:∀ j (h:j<ps.length),(j%2=0/\2<=j)\/j+1=ps.length->RAct E ps[j]):RAct E ⟨32,n,m,ps⟩:=by
 obtain⟨x,hx0⟩:∃ x,Hid (x=ps[0]):=⟨_,chid rfl⟩
 have ih:REv E x:=by rw[hx0.out];exact ih0
 have hg:C64 (telV E x).1:=by rw[hx0.out];exact hg0
 intro v v1 v2 w hs he
 have HE:=chid he
 have HS:=chid hs
 obtain⟨r,hr⟩:∃ r,Hid (r=telV E x):=⟨_,chid rfl⟩
 obtain⟨Q,hQ⟩:∃ Q,Hid (Q=telV E ⟨32,n,m,ps⟩):=⟨_,chid rfl⟩
 rw[<-hQ.out]
 have HT:Hid (Q=if r.2=0 then (ps.map (telV E)).getD (ladI ps r.1 ps.length ps.length 1) (0,0) else noR r.2):=chid (by rw[hQ.out,hr.out,telV_eq,hx0.out];show ladR ps (ps.map (telV E))=_;unfold ladR;rw[show (ps.map (telV E)).getD 0 (0,0)=telV E (ps[0]'h0) by simp[List.getD,h0]])
 obtain⟨b,off,cap,rfl,hle,hcm,hbl,hx⟩:=hs.parts.open (by show 0<ps.length;omega)
 obtain⟨u0,f0,s0⟩:∃ u,Four w b (off+0*4) x u/\CSits w x u:=by rw[hx0.out];exact hx 0 (by show 0<ps.length;omega)
 have HXp:=chid hx
 obtain⟨L,hL⟩:∃ L,Hid (L=ps.length):=⟨_,chid rfl⟩
 have hL2:2<=L:=by rw[hL.out];exact hl2
 have hL0:(0:Int)<(L:Int):=by omega
 have hLa:0<L:=by omega
 have hLb:¬ L=0:=by omega
 have hLd:¬(L:Int)<=0:=by omega
 have hLe:Hid (L%2=0):=chid (by rw[hL.out];exact hle2)
 have hLc:L<=9223372036854775807:=by rw[hL.out];exact Nat.le_trans hle hcm
 dsimp only
 rw[<-hL.out]
 obtain⟨a1,c1,a2,c2,rfl,rfl⟩:=he.shape
 have HC:Hid (∀ W,Below w.heap.size w W->Calls Tryz.prog 35 #[coV x u0,envV E (.slice a1 E.wins.length c1) (.slice a2 E.crons.length c2)] W fun e w'=>e=.returned (reV r)/\Below W.heap.size W w'):=chid (fun W hW=>by rw[hr.out];exact ih u0 _ _ W (s0.next hW) (HE.out.next hW))
 rw[<-hr.out] at hg
 obtain⟨ad0,cap0,rfl,-,-⟩:=s0.parts.shape
 obtain⟨Y0,Y1,Y2,B0⟩:=three_boxes w 30 40 48 (coL ⟨32,n,m,ps⟩ (.slice (some ⟨b,off,none⟩) L cap)) [.int .i64 E.rep,.slice a1 E.wins.length c1,.slice a2 E.crons.length c2] [.bool false,.int .i64 0,.int .i64 0]
 have X0:=chid Y0
 have X1:=chid Y1
 have X2:=chid Y2
 have HB0:=chid B0
 have HF0:=chid f0
 have HBl:=chid hbl
 clear hs he ih Y0 Y1 Y2 B0 f0 s0 hr hQ hbl hx
 obtain⟨w0,hw0⟩:∃ w0,Hid (w0=((w.alloc (.cells (coL ⟨32,n,m,ps⟩ (.slice (some ⟨b,off,none⟩) L cap)).toArray 30)).alloc (.cells #[.int .i64 E.rep,.slice a1 E.wins.length c1,.slice a2 E.crons.length c2] 40)).alloc (.cells #[.bool false,.int .i64 0,.int .i64 0] 48)):=⟨_,chid rfl⟩
 replace X0:Hid (Box w0 (w.heap.size) (coL ⟨32,n,m,ps⟩ (.slice (some ⟨b,off,none⟩) L cap))):=by rw[hw0.out];exact X0
 replace X1:Hid (Box w0 (w.heap.size+1) ([.int .i64 E.rep,.slice a1 E.wins.length c1,.slice a2 E.crons.length c2])):=by rw[hw0.out];exact X1
 replace X2:Hid (Box w0 (w.heap.size+1+1) ([.bool false,.int .i64 0,.int .i64 0])):=by rw[hw0.out];exact X2
 replace HB0:Hid (Below w.heap.size w w0):=by rw[hw0.out];exact HB0
 go_enter Tryz.func34,Tryz.ntmps34
 go_wp2_with fail
 rw[<-hw0.out]
 clear hw0
 have c3:=X0.out.cell 3 _ rfl
 have e0:=X1.out.cell 0 _ rfl
 have e1:=X1.out.cell 1 _ rfl
 have e2:=X1.out.cell 2 _ rfl
 obtain⟨p0,p1,p2,p3⟩:=HF0.out.keep (w':=w0) (fun q=>HB0.out.cell (p:=⟨b,q,none⟩) HBl.out)
 simp only[Nat.zero_mul,Nat.add_zero] at p0 p1 p2 p3
 change _=some (Value.int .i64 x.op) at p0
 change _=some (Value.int .i64 x.n) at p1
 change _=some (Value.int .i64 x.m) at p2
 change _=some (Value.slice ad0 x.parts.length cap0) at p3
 have lc:=X0.out.lt
 have le:=X1.out.lt
 have lb:=Nat.lt_of_lt_of_le HBl.out HB0.out.size
 obtain⟨G,hG⟩:∃ G:Nat->World->Prop,Hid (G=fun dd w'=>Box w' dd [.int .i64 r.2,.int .i64 r.1]/\Below w0.heap.size w0 w'):=⟨_,chid rfl⟩
 have nlb:b≠w0.heap.size:=Nat.ne_of_lt lb
 have nlb':w0.heap.size≠b:=Nat.ne_of_gt lb
 have nlc:w.heap.size≠w0.heap.size:=Nat.ne_of_lt lc
 have nlc':w0.heap.size≠w.heap.size:=Nat.ne_of_gt lc
 have nle:w.heap.size+1≠w0.heap.size:=Nat.ne_of_lt le
 have nle':w0.heap.size≠w.heap.size+1:=Nat.ne_of_gt le
 apply via1 G
 case hreg=>
  go_region_held3 (fun w'=>w'.cell? ⟨w.heap.size,3,none⟩=some (.slice (some ⟨b,off,none⟩) L cap)/\w'.cell? ⟨w.heap.size+1,0,none⟩=some (.int .i64 E.rep)/\w'.cell? ⟨w.heap.size+1,1,none⟩=some (.slice a1 E.wins.length c1)/\w'.cell? ⟨w.heap.size+1,2,none⟩=some (.slice a2 E.crons.length c2)/\w'.cell? ⟨b,off,none⟩=some (.int .i64 x.op)/\w'.cell? ⟨b,off+1,none⟩=some (.int .i64 x.n)/\w'.cell? ⟨b,off+2,none⟩=some (.int .i64 x.m)/\w'.cell? ⟨b,off+3,none⟩=some (.slice ad0 x.parts.length cap0)) (simp[go_sem, *]) (first|(go_at_call 35;refine Calls.mono (HC.out _ (by exact cdrewN HB0.out _)) ?_;rintro e u1 ⟨rfl,b⟩;have Hu1:Hid (Below w0.heap.size w0 u1):=⟨b.os,b.tape,b.output,b.size,b.block⟩;have g0:=fun p v hp hv=>(Hu1.out.cell (p:=p) hp).trans (hv:w0.cell? p=some v);replace c3:=g0 _ _ lc c3;replace e0:=g0 _ _ le e0;replace e1:=g0 _ _ le e1;replace e2:=g0 _ _ le e2;replace p0:=g0 _ _ lb p0;replace p1:=g0 _ _ lb p1;replace p2:=g0 _ _ lb p2;replace p3:=g0 _ _ lb p3;replace lb:=Nat.lt_of_lt_of_le lb Hu1.out.size;replace lc:=Nat.lt_of_lt_of_le lc Hu1.out.size;replace le:=Nat.lt_of_lt_of_le le Hu1.out.size;clear g0;clear b)|(go_at_call 35;refine Calls.mono (HC.out _ (by exact cbelow_on HB0.out ((cdrewN (Below.refl w0.heap.size w0) _).alloc (Nat.le_refl _) _) HB0.out.size)) ?_;rintro e u2 ⟨rfl,b⟩;have Hu2:Hid (Below w0.heap.size w0 u2):=chid (cbelow_on ((cdrewN (Below.refl w0.heap.size w0) _).alloc (Nat.le_refl _) _) b ((cdrewN (Below.refl w0.heap.size w0) _).alloc (Nat.le_refl _) _).size);have Zz:Box u2 w0.heap.size [.int .i64 0,.int .i64 0]:=Box.next (Box.new (w0.drewN _) [.int .i64 0,.int .i64 0] 72) b;have z0:=Zz.cell 0 _ rfl;have z1:=Zz.cell 1 _ rfl;have z2:=Zz.free 0 (by simp);have z3:=Zz.free 1 (by simp);have zl:=Zz.lt;have HZ:=chid Zz;clear Zz;have g0:=fun p v hp hv=>(Hu2.out.cell (p:=p) hp).trans (hv:w0.cell? p=some v);replace c3:=g0 _ _ lc c3;replace e0:=g0 _ _ le e0;replace e1:=g0 _ _ le e1;replace e2:=g0 _ _ le e2;replace p0:=g0 _ _ lb p0;replace p1:=g0 _ _ lb p1;replace p2:=g0 _ _ lb p2;replace p3:=g0 _ _ lb p3;replace lb:=Nat.lt_of_lt_of_le lb Hu2.out.size;replace lc:=Nat.lt_of_lt_of_le lc Hu2.out.size;replace le:=Nat.lt_of_lt_of_le le Hu2.out.size;clear g0;clear b))
  ·first|(obtain⟨dd,hdd⟩:∃ dd,dd=u1.heap.size:=⟨_,rfl⟩;rw[<-hdd];refine⟨dd,rfl,?_⟩;rw[hG.out,hdd];exact⟨Box.new u1 [.int .i64 r.2,.int .i64 r.1] 72,Hu1.out.alloc Hu1.out.size _⟩)|(obtain⟨dd,hdd⟩:∃ dd,dd=w0.heap.size:=⟨_,rfl⟩;rw[<-hdd];refine⟨dd,rfl,?_⟩;rw[hG.out,hdd];exact⟨(HZ.out.set 0 (by simp) (.int .i64 r.2)).set 1 (by simp) (.int .i64 r.1),(Hu2.out.setCell (p:=⟨_,0,none⟩) (Nat.le_refl _) _).setCell (p:=⟨_,1,none⟩) (Nat.le_refl _) _⟩)
  ·first|(obtain⟨dd,hdd⟩:∃ dd,dd=u1.heap.size:=⟨_,rfl⟩;rw[<-hdd];refine⟨dd,rfl,?_⟩;rw[hG.out,hdd];exact⟨Box.new u1 [.int .i64 r.2,.int .i64 r.1] 72,Hu1.out.alloc Hu1.out.size _⟩)|(obtain⟨dd,hdd⟩:∃ dd,dd=w0.heap.size:=⟨_,rfl⟩;rw[<-hdd];refine⟨dd,rfl,?_⟩;rw[hG.out,hdd];exact⟨(HZ.out.set 0 (by simp) (.int .i64 r.2)).set 1 (by simp) (.int .i64 r.1),(Hu2.out.setCell (p:=⟨_,0,none⟩) (Nat.le_refl _) _).setCell (p:=⟨_,1,none⟩) (Nat.le_refl _) _⟩)
 case hrest=>
 intro aD wa hGd
 rw[hG.out] at hGd
 obtain⟨Ya,ka⟩:=hGd
 clear c3 e0 e1 e2 p0 p1 p2 p3 lb lc le nlb nlb' nlc nlc' nle nle'
 clear hG G
 have HB1:=chid (cbelow_on HB0.out ka HB0.out.size)
 replace X0:=chid (X0.out.next ka)
 replace X1:=chid (X1.out.next ka)
 replace X2:=chid (X2.out.next ka)
 have Xa:=chid Ya
 clear ka Ya
 have c0:=X0.out.cell 0 _ rfl
 have c3:=X0.out.cell 3 _ rfl
 have lc:=X0.out.lt
 have e0:=X1.out.cell 0 _ rfl
 have e1:=X1.out.cell 1 _ rfl
 have e2:=X1.out.cell 2 _ rfl
 have le:=X1.out.lt
 have z0:=Xa.out.cell 0 _ rfl
 have z1:=Xa.out.cell 1 _ rfl
 have zl:=Xa.out.lt
 have q0:=X2.out.cell 0 _ rfl
 have q1:=X2.out.cell 1 _ rfl
 have q2:=X2.out.cell 2 _ rfl
 have j0:=X2.out.free 0 (by simp)
 have j1:=X2.out.free 1 (by simp)
 have j2:=X2.out.free 2 (by simp)
 have ql:=X2.out.lt
 by_cases hz:r.2=0
 case neg=>
  have d0:(r.2 != 0)=true:=by simpa using hz
  have hQr:Hid (rawV Q=.agg #[.bool true,.int .i64 r.2,.int .i64 0]):=by
   show _=_
   rw[HT.out]
   first | rw[ofOneR,if_neg hz] | rw[if_neg hz]
   exact rawV_err 0 hz
  clear HC HT
  go_wp2_with fail
  refine bodyPost_ret (v:=.agg #[.bool true,.int .i64 r.2,.int .i64 0]) (by simp[results,Tryz.results34,go_sem, *]) rfl ?_
  exact⟨by rw[hQr.out],((HB1.out.setCell (p:=⟨w.heap.size+1+1,0,none⟩) (by simp;omega) _).setCell (p:=⟨w.heap.size+1+1,1,none⟩) (by simp;omega) _).setCell (p:=⟨w.heap.size+1+1,2,none⟩) (by simp;omega) _⟩
 obtain⟨r1,r2⟩:=r
 obtain rfl:r2=0:=hz
 change _=some (Value.int .i64 0) at z0
 change _=some (Value.int .i64 r1) at z1
 have hQ2:Hid (Q=(ps.map (telV E)).getD (ladI ps r1 L L 1) (0,0)):=chid (by rw[HT.out,hL.out];rfl)
 clear HT hg HC
 obtain⟨M,rfl⟩:∃ M,L=M+1:=⟨L-1,by omega⟩
 have hLp:Hid (ps.length=M+1):=chid hL.out.symm
 have hlb:b<wa.heap.size:=Nat.lt_of_lt_of_le HBl.out HB1.out.size
 go_wp2_with fail
 clear c0 c3 lc e0 e1 e2 le z0 z1 zl q0 q1 q2 j0 j1 j2 ql
 go_loopw [7] (fun x wr=>∃ (i f:Nat),x=.int .i64 (i:Nat)/\i<=M/\Hid (i%2=1)/\Hid (M+1<=i+2*f)/\Hid (ladI ps r1 (M+1) f i=ladI ps r1 (M+1) (M+1) 1)/\Hid (Below wa.heap.size wa wr)) (fun x _=>match x with | .int _ p=>((M:Int)-p).toNat | _=>0)
 case atStart=>exact⟨1,M+1,rfl,by omega,chid rfl,chid (by omega),chid rfl,Below.refl _ _⟩
 case round=>
 obtain⟨i,f,rfl,hj,HO,HF,HJ,HBr⟩:=hrel
 have HB1r:=chid (cbelow_on HB1.out HBr.out HB1.out.size)
 replace X0:=chid (X0.out.next HBr.out)
 replace X1:=chid (X1.out.next HBr.out)
 replace X2:=chid (X2.out.next HBr.out)
 replace Xa:=chid (Xa.out.next HBr.out)
 by_cases hlt:i<M
 case pos=>
  have hlt':(i:Int)<(M:Int):=by omega
  have hi1:i<ps.length:=by rw[hLp.out];omega
  have hi2:i+1<ps.length:=by rw[hLp.out];omega
  obtain⟨u5,h5,hu5⟩:=HXp.out i hi1
  have t1:=keepc HB1r.out h5.c1
  have z1:=Xa.out.cell 1 _ rfl
  have c3:=X0.out.cell 3 _ rfl
  have gp:ps.getD i co0=ps[i]:=by simp[List.getD,hi1]
  have hil:(i:Int)<(M:Int)+1:=by omega
  obtain⟨fw,hf1,hf2⟩:=calm wr
  have HF1:=chid hf1
  have HF2:=chid hf2
  have t1':=fun n=>keepc (hf1 n) t1
  have z1':=fun n=>keepc (hf1 n) z1
  have c3':=fun n=>keepc (hf1 n) c3
  clear hf1 hf2 t1 z1 c3
  by_cases hv:r1<ps[i].n
  ·have hJ2:ladI ps r1 (M+1) f i=i+1:=ladI_hit (by omega) (by rw[gp];exact hv) (by have:=HF.out;omega)
   obtain⟨u,h6,hu⟩:=HXp.out (i+1) hi2
   have hQr:Hid (rawV Q=rawV (telV E ps[i+1])):=chid (by rw[hQ2.out,<-HJ.out,hJ2];simp[List.getD,hi2])
   have HCa:=chid (fun W (hW:Below w.heap.size w W)=>hAc (i+1) hi2 (.inl (by have:=HO.out;omega)) u (.slice a1 E.wins.length c1) (.slice a2 E.crons.length c2) W (hu.next hW) (HE.out.next hW))
   obtain⟨au,cu,rfl,-,-⟩:=hu.parts.shape
   have H6:=chid h6
   have hil2:(i:Int)+1<(M:Int)+1:=by omega
   have hil3:(0:Int)<=(i:Int)+1:=by omega
   have hw1:IntKind.i64.wrap ((i:Int)+1)=(i:Int)+1:=by rw[IntKind.wrap_i64];omega
   have hw2:((i:Int)+1).toNat=i+1:=by omega
   obtain⟨ra,rb,rc,hra⟩:∃ ra rb rc,Hid (rawV (telV E ps[i+1])=.agg #[.bool ra,.int .i64 rb,.int .i64 rc]):=by unfold rawV;split;exact⟨_,_,_,chid rfl⟩;exact⟨_,_,_,chid rfl⟩
   rw[hra.out] at HCa
   clear hQ2 HJ hJ2 gp h5 hu5 h6 hu
   generalize telV E ps[i+1]=r6 at *
   generalize ps[i+1]=x6 at *
   generalize ps[i].n=n7 at *
   obtain⟨xk,xn,xm,xps⟩:=x6
   dsimp only at *
   generalize xps.length=XL at *
   go_wp2_with fail
   refine wp_region_calm fw (by kernel_rfl) (by kernel_rfl) (HF2.out _ (Below.refl _ _).drew) ?_
   repeat (go_big_quiet_step (fail))
   refine wpQuiet_nil ?_
   intro w6 hw6
   obtain⟨n6,rfl⟩:=hw6
   have HBr6:=chid (cbelow_on HBr.out (HF1.out n6) HBr.out.size)
   have HB1q:=chid (cbelow_on HB1r.out (HF1.out n6) HB1r.out.size)
   replace X0:=chid (X0.out.next (HF1.out n6))
   replace X1:=chid (X1.out.next (HF1.out n6))
   replace X2:=chid (X2.out.next (HF1.out n6))
   clear t1' z1' c3'
   generalize fw n6=w6 at *
   have y0:=keepc HB1q.out H6.out.c0
   have y1:=keepc HB1q.out H6.out.c1
   have y2:=keepc HB1q.out H6.out.c2
   have y3:=keepc HB1q.out H6.out.c3
   have lby:b<w6.heap.size:=Nat.lt_of_lt_of_le HBl.out HB1q.out.size
   have c3:=X0.out.cell 3 _ rfl
   have lc:=X0.out.lt
   have e0:=X1.out.cell 0 _ rfl
   have e1:=X1.out.cell 1 _ rfl
   have e2:=X1.out.cell 2 _ rfl
   have le:=X1.out.lt
   have q0:=X2.out.cell 0 _ rfl
   have q1:=X2.out.cell 1 _ rfl
   have q2:=X2.out.cell 2 _ rfl
   have j0:=X2.out.free 0 (by simp)
   have j1:=X2.out.free 1 (by simp)
   have j2:=X2.out.free 2 (by simp)
   have ql:=X2.out.lt
   go_wp2_with fail
   go_region_held3 (fun w'=>w'.cell? ⟨w.heap.size,3,none⟩=some (.slice (some ⟨b,off,none⟩) (M+1) cap)/\w'.cell? ⟨w.heap.size+1,0,none⟩=some (.int .i64 E.rep)/\w'.cell? ⟨w.heap.size+1,1,none⟩=some (.slice a1 E.wins.length c1)/\w'.cell? ⟨w.heap.size+1,2,none⟩=some (.slice a2 E.crons.length c2)/\w'.cell? ⟨b,off+(i+1)*4,none⟩=some (.int .i64 xk)/\w'.cell? ⟨b,off+(i+1)*4+1,none⟩=some (.int .i64 xn)/\w'.cell? ⟨b,off+(i+1)*4+2,none⟩=some (.int .i64 xm)/\w'.cell? ⟨b,off+(i+1)*4+3,none⟩=some (.slice au XL cu)) (simp[go_sem, *]) (first|(go_at_call 34;refine Calls.mono (HCa.out _ (by exact HB1q.out.drew)) ?_;rintro e w2 ⟨rfl,bb⟩;have BW:Below w6.heap.size w6 w2:=⟨bb.os,bb.tape,bb.output,bb.size,bb.block⟩;replace c3:=keepc BW c3;replace e0:=keepc BW e0;replace e1:=keepc BW e1;replace e2:=keepc BW e2;replace y0:=keepc BW y0;replace y1:=keepc BW y1;replace y2:=keepc BW y2;replace y3:=keepc BW y3;replace X2:=chid (X2.out.next BW);replace q0:=X2.out.cell 0 _ rfl;replace j0:=X2.out.free 0 (by simp);replace q1:=X2.out.cell 1 _ rfl;replace j1:=X2.out.free 1 (by simp);replace q2:=X2.out.cell 2 _ rfl;replace j2:=X2.out.free 2 (by simp);replace ql:=X2.out.lt;have HB2:=chid (cbelow_on HB1q.out BW HB1q.out.size);clear bb BW))
   clear c3 lc e0 e1 e2 le y0 y1 y2 y3
   go_wp2_with fail
   refine bodyPost_ret (v:=.agg #[.bool ra,.int .i64 rb,.int .i64 rc]) (by simp[results,Tryz.results34,go_sem, *]) rfl ?_
   exact⟨by rw[hQr.out,hra.out],((HB2.out.setCell (p:=⟨w.heap.size+1+1,0,none⟩) (by simp;omega) _).setCell (p:=⟨w.heap.size+1+1,1,none⟩) (by simp;omega) _).setCell (p:=⟨w.heap.size+1+1,2,none⟩) (by simp;omega) _⟩
  ·obtain⟨f',rfl⟩:∃ f',f=f'+1:=⟨f-1,by have:=HF.out;omega⟩
   have hJ2:Hid (ladI ps r1 (M+1) f' (i+2)=ladI ps r1 (M+1) (M+1) 1):=by
    show _=_
    rw[<-HJ.out,ladI_on (by omega) (by rw[gp];exact hv)]
   clear hQ2 HJ gp h5 hu5
   generalize ps[i].n=n7 at *
   go_wp2_with fail
   refine wp_region_calm fw (by kernel_rfl) (by kernel_rfl) (HF2.out _ (Below.refl _ _).drew) ?_
   repeat (go_big_quiet_step (fail))
   refine wpQuiet_nil ?_
   intro w6 hw6
   obtain⟨n6,rfl⟩:=hw6
   have HBr6:=chid (cbelow_on HBr.out (HF1.out n6) HBr.out.size)
   have HB1q:=chid (cbelow_on HB1r.out (HF1.out n6) HB1r.out.size)
   replace X0:=chid (X0.out.next (HF1.out n6))
   replace X1:=chid (X1.out.next (HF1.out n6))
   replace X2:=chid (X2.out.next (HF1.out n6))
   clear t1' z1' c3'
   generalize fw n6=w6 at *
   go_wp2_with fail
   go_roundw
   case rel=>exact⟨i+2,f',by go_num,by have:=HO.out;have:=hLe.out;omega,chid (by have:=HO.out;omega),chid (by have:=HF.out;omega),hJ2.out,HBr6.out⟩
   case measure=>simp;omega
 have hlt':¬(i:Int)<(M:Int):=by omega
 obtain rfl:i=M:=by omega
 have hiM:i<ps.length:=by rw[hLp.out];omega
 have hJ2:ladI ps r1 (i+1) f i=i:=ladI_end (by omega) (by have:=HF.out;omega)
 obtain⟨u,h6,hu⟩:=HXp.out i hiM
 have hQr:Hid (rawV Q=rawV (telV E ps[i])):=chid (by rw[hQ2.out,<-HJ.out,hJ2];simp[List.getD,hiM])
 have HCa:=chid (fun W (hW:Below w.heap.size w W)=>hAc i hiM (.inr hLp.out.symm) u (.slice a1 E.wins.length c1) (.slice a2 E.crons.length c2) W (hu.next hW) (HE.out.next hW))
 obtain⟨au,cu,rfl,-,-⟩:=hu.parts.shape
 have H6:=chid h6
 obtain⟨ra,rb,rc,hra⟩:∃ ra rb rc,Hid (rawV (telV E ps[i])=.agg #[.bool ra,.int .i64 rb,.int .i64 rc]):=by unfold rawV;split;exact⟨_,_,_,chid rfl⟩;exact⟨_,_,_,chid rfl⟩
 rw[hra.out] at HCa
 clear hQ2 HJ hJ2 h6 hu
 generalize telV E ps[i]=r6 at *
 generalize ps[i]=x6 at *
 obtain⟨xk,xn,xm,xps⟩:=x6
 dsimp only at *
 generalize xps.length=XL at *
 have hil:(i:Int)<(i:Int)+1:=by omega
 have hii:(i:Int)+1-1=(i:Int):=by omega
 have hi64:(i:Int)<=9223372036854775807:=by omega
 have hw1:IntKind.i64.wrap ((i:Int)+1-1)=(i:Int):=by rw[IntKind.wrap_i64];omega
 have hw3:IntKind.i64.wrap (i:Int)=(i:Int):=by rw[IntKind.wrap_i64];omega
 have y0:=keepc HB1r.out H6.out.c0
 have y1:=keepc HB1r.out H6.out.c1
 have y2:=keepc HB1r.out H6.out.c2
 have y3:=keepc HB1r.out H6.out.c3
 have lby:b<wr.heap.size:=Nat.lt_of_lt_of_le HBl.out HB1r.out.size
 have c3:=X0.out.cell 3 _ rfl
 have lc:=X0.out.lt
 have e0:=X1.out.cell 0 _ rfl
 have e1:=X1.out.cell 1 _ rfl
 have e2:=X1.out.cell 2 _ rfl
 have le:=X1.out.lt
 have q0:=X2.out.cell 0 _ rfl
 have q1:=X2.out.cell 1 _ rfl
 have q2:=X2.out.cell 2 _ rfl
 have j0:=X2.out.free 0 (by simp)
 have j1:=X2.out.free 1 (by simp)
 have j2:=X2.out.free 2 (by simp)
 have ql:=X2.out.lt
 go_wp2_with fail
 go_region_held3 (fun w'=>w'.cell? ⟨w.heap.size,3,none⟩=some (.slice (some ⟨b,off,none⟩) (i+1) cap)/\w'.cell? ⟨w.heap.size+1,0,none⟩=some (.int .i64 E.rep)/\w'.cell? ⟨w.heap.size+1,1,none⟩=some (.slice a1 E.wins.length c1)/\w'.cell? ⟨w.heap.size+1,2,none⟩=some (.slice a2 E.crons.length c2)/\w'.cell? ⟨b,off+i*4,none⟩=some (.int .i64 xk)/\w'.cell? ⟨b,off+i*4+1,none⟩=some (.int .i64 xn)/\w'.cell? ⟨b,off+i*4+2,none⟩=some (.int .i64 xm)/\w'.cell? ⟨b,off+i*4+3,none⟩=some (.slice au XL cu)) (simp[go_sem, *]) (first|(go_at_call 34;refine Calls.mono (HCa.out _ (by exact HB1r.out.drew)) ?_;rintro e w2 ⟨rfl,bb⟩;have BW:Below wr.heap.size wr w2:=⟨bb.os,bb.tape,bb.output,bb.size,bb.block⟩;replace c3:=keepc BW c3;replace e0:=keepc BW e0;replace e1:=keepc BW e1;replace e2:=keepc BW e2;replace y0:=keepc BW y0;replace y1:=keepc BW y1;replace y2:=keepc BW y2;replace y3:=keepc BW y3;replace X2:=chid (X2.out.next BW);replace q0:=X2.out.cell 0 _ rfl;replace j0:=X2.out.free 0 (by simp);replace q1:=X2.out.cell 1 _ rfl;replace j1:=X2.out.free 1 (by simp);replace q2:=X2.out.cell 2 _ rfl;replace j2:=X2.out.free 2 (by simp);replace ql:=X2.out.lt;have HB2:=chid (cbelow_on HB1r.out BW HB1r.out.size);clear bb BW))
 clear c3 lc e0 e1 e2 le y0 y1 y2 y3
 go_wp2_with fail
 refine bodyPost_ret (v:=.agg #[.bool ra,.int .i64 rb,.int .i64 rc]) (by simp[results,Tryz.results34,go_sem, *]) rfl ?_
 exact⟨by rw[hQr.out,hra.out],((HB2.out.setCell (p:=⟨w.heap.size+1+1,0,none⟩) (by simp;omega) _).setCell (p:=⟨w.heap.size+1+1,1,none⟩) (by simp;omega) _).setCell (p:=⟨w.heap.size+1+1,2,none⟩) (by simp;omega) _⟩
theorem rAct_all (E:EnvP)(hE:EnvOk E)(t:Co):Lies t->srt E t=3->RAct E t:=by
 induction t using Co.ind with
 | h t ih=>
   intro hl h3
   have hz:srt E t≠0:=by omega
   obtain⟨k,hop,h1,h2,hb,hp,hs⟩:=formed_of hz
   have hG:∀ x,x∈t.parts->Good E x:=fun x hx=>good_all E hE x (hl.parts hx) (hp x hx)
   have hV:∀ x,x∈t.parts->srt E x=1->REv E x:=fun x hx h=>rEval_all E hE x (hl.parts hx) (.inl h)
   have hI:∀ x,x∈t.parts->srt E x=3->RAct E x:=fun x hx h=>ih x hx (hl.parts hx) h
   have hzs:sortF ladF k t (t.parts.map (srt E))≠0:=by rw[<-hs];exact hz
   rw[hs] at h3
   clear ih hz hs hl
   obtain⟨op,n,m,ps⟩:=t
   dsimp only at hop hp hG hI hV hzs h3
   subst hop
   cases hm:mkT.getD k none with
   | some x=>
     obtain⟨r,ts⟩:=x
     obtain⟨e1,e2⟩:=mk_of hm hzs
     rw[e2] at h3
     have key:∀ j:Fin 33,1<=j.val->∀ r ts,mkT.getD j.val none=some (r,ts)->r=3->j.val=29/\ts=[]\/j.val=30/\ts=[1]\/j.val=31/\ts=[1]:=by
      intro j
      obtain⟨j,hj⟩:=j
      dsimp only
      intro hj1
      rcases(show j=1\/j=2\/j=3\/j=4\/j=5\/j=6\/j=7\/j=8\/j=9\/j=10\/j=11\/j=12\/j=13\/j=14\/j=15\/j=16\/j=17\/j=18\/j=19\/j=20\/j=21\/j=22\/j=23\/j=24\/j=25\/j=26\/j=27\/j=28\/j=29\/j=30\/j=31\/j=32 by omega) with rfl | rfl | rfl | rfl | rfl | rfl | rfl | rfl | rfl | rfl | rfl | rfl | rfl | rfl | rfl | rfl | rfl | rfl | rfl | rfl | rfl | rfl | rfl | rfl | rfl | rfl | rfl | rfl | rfl | rfl | rfl | rfl<;>(intro r ts h hr;first|(cases h;done)|(cases h;first|(exact absurd hr (by decide)) | exact .inl ⟨rfl,rfl⟩ | exact .inr (.inl ⟨rfl,rfl⟩) | exact .inr (.inr ⟨rfl,rfl⟩)))
     rcases key ⟨k,by omega⟩ h1 r ts hm h3 with ⟨hk,rfl⟩ | ⟨hk,rfl⟩ | ⟨hk,rfl⟩<;>dsimp only at hk<;>subst hk
     ·exact act_hold E n m ps
     ·obtain⟨x,rfl,hx1⟩:=map1 e1
      exact act_to E n m x (hV x (by simp) hx1) (hG x (by simp)).1
     ·obtain⟨x,rfl,hx1⟩:=map1 e1
      exact act_by E hE n m x (hV x (by simp) hx1) (hG x (by simp)).1
   | none=>
     rcases mk_none ⟨k,by omega⟩ h1 hm with e | e | e | e | e<;>dsimp only at e<;>subst e
     ·exfalso
      have hh:(if ps.map (srt E)=[] then m else 0)=3:=h3
      simp[fitsB] at hb
      split at hh<;>omega
     ·exfalso
      have hh:alikeF 1 (ps.map (srt E))=3:=h3
      obtain⟨-,g2,-,g4⟩:=alike_of (k:=1) (by rw[hh];decide)
      rw[g4] at hh
      exact g2 hh
     ·exfalso
      have hh:alikeF 2 (ps.map (srt E))=3:=h3
      obtain⟨-,g2,-,g4⟩:=alike_of (k:=2) (by rw[hh];decide)
      rw[g4] at hh
      exact g2 hh
     ·exfalso
      have hh:choiceF (ps.map (srt E))=3:=h3
      unfold choiceF at hh
      split at hh
      ·obtain⟨-,g2,-,g4⟩:=alike_of (by rw[hh];decide)
       rw[g4] at hh
       exact g2 hh
      ·exact absurd hh (by decide)
     ·have hh:ladF ⟨32,n,m,ps⟩ (ps.map (srt E))≠0:=hzs
      have hl:LadOk ⟨32,n,m,ps⟩ (ps.map (srt E)):=(ladB_iff _ _).1 (by
       unfold ladF at hh
       split at hh
       ·assumption
       ·exact absurd rfl hh)
      obtain⟨l1,l2,l3,l4,l5⟩:=hl
      rw[List.length_map] at l1 l2 l4 l5
      have hat:∀ j (h:j<ps.length),(ps.map (srt E)).getD j 0=srt E ps[j]:=fun j h=>by simp[List.getD,h]
      have h0:0<ps.length:=by omega
      rw[hat 0 h0] at l3
      rw[hat (ps.length-1) (by omega)] at l4
      refine act_ladder E n m ps l1 l2 h0 (hV _ (List.getElem_mem h0) l3) (hG _ (List.getElem_mem h0)).1 (fun j h hj=>hI _ (List.getElem_mem h) ?_)
      rcases hj with ⟨hj1,hj2⟩ | hj
      ·have:=l5 (j-1) (by omega) (by omega)
       unfold lstep at this
       have e5:(ps.map (srt E)).getD (j-1+1) 0=srt E ps[j]:=by rw[show j-1+1=j by omega];exact hat j h
       rw[<-e5]
       first | exact this.2.1 | exact this.2.2 | exact this.1 | exact this.2.2.1 | exact this.2.2.2
      ·have e6:j=ps.length-1:=by omega
       subst e6
       exact l4
end Go.Proofs.YtepncopdjodfgaaGreatDoor
