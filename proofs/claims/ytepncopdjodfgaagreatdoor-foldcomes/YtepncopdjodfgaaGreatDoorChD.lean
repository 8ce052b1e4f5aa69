import Derived.Test.YtepncopdjodfgaaGreatDoorCdV
import Derived.Test.YtepncopdjodfgaaGreatDoorMgZ
import Derived.Test.YtepncopdjodfgaaGreatDoorMgU
namespace Go.Proofs.YtepncopdjodfgaaGreatDoor
open Go.RowKit
def RAct (E:EnvP)(t:Co):Prop:=∀ (v v1 v2:Value) (w:World),CSits w t v->EnvAt w E v1 v2->Calls Tryz.prog 34 #[coV t v,envV E v1 v2] w fun e w'=>e=.returned (rawV (telV E t))/\Below w.heap.size w w'
set_option maxHeartbeats 4000000 in
set_option maxRecDepth 20000 in
theorem act_hold (E:EnvP)(n m:Int)(ps:List Co):RAct E ⟨29,n,m,ps⟩:=by
 intro v v1 v2 w hs he
 obtain⟨ad,cap,rfl,-,-⟩:=hs.parts.shape
 obtain⟨e1,d1,e2,d2,rfl,rfl⟩:=he.shape
 have hR:Hid (rawV (telV E ⟨29,n,m,ps⟩)=.agg #[.bool true,.int .i64 4,.int .i64 0]):=chid (by rw[telV_eq];rfl)
 have HA:Hid (∀ o o' o'',Below w.heap.size w (((w.alloc o).alloc o').alloc o'')):=fun o o' o''=>(((Below.refl _ _).alloc (Nat.le_refl _) _).alloc (by simp) _).alloc (by simp;omega) _
 clear hs he
 go_enter Tryz.func34,Tryz.ntmps34
 go_wp2_with fail
 refine bodyPost_ret (v:=.agg #[.bool true,.int .i64 4,.int .i64 0]) (by simp[results,Tryz.results34,go_sem, *]) rfl ?_
 exact⟨by rw[hR.out],HA.out _ _ _⟩
set_option maxHeartbeats 4000000 in
set_option maxRecDepth 20000 in
theorem act_to (E:EnvP)(n m:Int)(x:Co)(ih:REv E x)(hg:C64 (telV E x).1):RAct E ⟨30,n,m,[x]⟩:=by
 intro v v1 v2 w hs he
 have HE:=chid he
 have HS:=chid hs
 obtain⟨r,hr⟩:∃ r,Hid (r=telV E x):=⟨_,chid rfl⟩
 obtain⟨Q,hQ⟩:∃ Q,Hid (Q=telV E ⟨30,n,m,[x]⟩):=⟨_,chid rfl⟩
 rw[<-hQ.out]
 have HT:Hid (Q=ofOneR countF r):=chid (by rw[hQ.out,hr.out,telV_eq];rfl)
 obtain⟨b,off,cap,rfl,-,-,hbl,hx⟩:=hs.parts.open (by show 0<1;decide)
 obtain⟨u0,f0,s0⟩:∃ u,Four w b (off+0*4) x u/\CSits w x u:=hx 0 (by show 0<1;decide)
 obtain⟨a1,c1,a2,c2,rfl,rfl⟩:=he.shape
 have HC:Hid (∀ W,Below w.heap.size w W->Calls Tryz.prog 35 #[coV x u0,envV E (.slice a1 E.wins.length c1) (.slice a2 E.crons.length c2)] W fun e w'=>e=.returned (reV r)/\Below W.heap.size W w'):=chid (fun W hW=>by rw[hr.out];exact ih u0 _ _ W (s0.next hW) (HE.out.next hW))
 rw[<-hr.out] at hg
 obtain⟨ad0,cap0,rfl,-,-⟩:=s0.parts.shape
 obtain⟨Y0,Y1,Y2,B0⟩:=three_boxes w 30 40 48 (coL ⟨30,n,m,[x]⟩ (.slice (some ⟨b,off,none⟩) 1 cap)) [.int .i64 E.rep,.slice a1 E.wins.length c1,.slice a2 E.crons.length c2] [.bool false,.int .i64 0,.int .i64 0]
 have X0:=chid Y0
 have X1:=chid Y1
 have X2:=chid Y2
 have HB0:=chid B0
 have HF0:=chid f0
 have HBl:=chid hbl
 clear hs he ih hx Y0 Y1 Y2 B0 f0 s0 hr hQ hbl
 obtain⟨w0,hw0⟩:∃ w0,Hid (w0=((w.alloc (.cells (coL ⟨30,n,m,[x]⟩ (.slice (some ⟨b,off,none⟩) 1 cap)).toArray 30)).alloc (.cells #[.int .i64 E.rep,.slice a1 E.wins.length c1,.slice a2 E.crons.length c2] 40)).alloc (.cells #[.bool false,.int .i64 0,.int .i64 0] 48)):=⟨_,chid rfl⟩
 replace X0:Hid (Box w0 (w.heap.size) (coL ⟨30,n,m,[x]⟩ (.slice (some ⟨b,off,none⟩) 1 cap))):=by rw[hw0.out];exact X0
 replace X1:Hid (Box w0 (w.heap.size+1) ([.int .i64 E.rep,.slice a1 E.wins.length c1,.slice a2 E.crons.length c2])):=by rw[hw0.out];exact X1
 replace X2:Hid (Box w0 (w.heap.size+1+1) ([.bool false,.int .i64 0,.int .i64 0])):=by rw[hw0.out];exact X2
 replace HB0:Hid (Below w.heap.size w w0):=by rw[hw0.out];exact HB0
 go_enter Tryz.func34,Tryz.ntmps34
 go_wp2_with fail
 rw[<-hw0.out]
 clear hw0
 have c3:=X0.out.cell 3 _ rfl
 have e0:=X1.out.cell 0 _ rfl
 have e1:=X1.out.cell 1 _ rfl
 have e2:=X1.out.cell 2 _ rfl
 obtain⟨p0,p1,p2,p3⟩:=HF0.out.keep (w':=w0) (fun q=>HB0.out.cell (p:=⟨b,q,none⟩) HBl.out)
 simp only[Nat.zero_mul,Nat.add_zero] at p0 p1 p2 p3
 change _=some (Value.int .i64 x.op) at p0
 change _=some (Value.int .i64 x.n) at p1
 change _=some (Value.int .i64 x.m) at p2
 change _=some (Value.slice ad0 x.parts.length cap0) at p3
 have lc:=X0.out.lt
 have le:=X1.out.lt
 have lb:=Nat.lt_of_lt_of_le HBl.out HB0.out.size
 obtain⟨G,hG⟩:∃ G:Nat->World->Prop,Hid (G=fun dd w'=>Box w' dd [.int .i64 r.2,.int .i64 r.1]/\Below w0.heap.size w0 w'):=⟨_,chid rfl⟩
 have nlb:b≠w0.heap.size:=Nat.ne_of_lt lb
 have nlb':w0.heap.size≠b:=Nat.ne_of_gt lb
 have nlc:w.heap.size≠w0.heap.size:=Nat.ne_of_lt lc
 have nlc':w0.heap.size≠w.heap.size:=Nat.ne_of_gt lc
 have nle:w.heap.size+1≠w0.heap.size:=Nat.ne_of_lt le
 have nle':w0.heap.size≠w.heap.size+1:=Nat.ne_of_gt le
 apply via1 G
 case hreg=>
  go_region_held3 (fun w'=>w'.cell? ⟨w.heap.size,3,none⟩=some (.slice (some ⟨b,off,none⟩) 1 cap)/\w'.cell? ⟨w.heap.size+1,0,none⟩=some (.int .i64 E.rep)/\w'.cell? ⟨w.heap.size+1,1,none⟩=some (.slice a1 E.wins.length c1)/\w'.cell? ⟨w.heap.size+1,2,none⟩=some (.slice a2 E.crons.length c2)/\w'.cell? ⟨b,off,none⟩=some (.int .i64 x.op)/\w'.cell? ⟨b,off+1,none⟩=some (.int .i64 x.n)/\w'.cell? ⟨b,off+2,none⟩=some (.int .i64 x.m)/\w'.cell? ⟨b,off+3,none⟩=some (.slice ad0 x.parts.length cap0)) (simp[go_sem, *]) (first|(go_at_call 35;refine Calls.mono (HC.out _ (by exact cdrewN HB0.out _)) ?_;rintro e u1 ⟨rfl,b⟩;have Hu1:Hid (Below w0.heap.size w0 u1):=⟨b.os,b.tape,b.output,b.size,b.block⟩;have g0:=fun p v hp hv=>(Hu1.out.cell (p:=p) hp).trans (hv:w0.cell? p=some v);replace c3:=g0 _ _ lc c3;replace e0:=g0 _ _ le e0;replace e1:=g0 _ _ le e1;replace e2:=g0 _ _ le e2;replace p0:=g0 _ _ lb p0;replace p1:=g0 _ _ lb p1;replace p2:=g0 _ _ lb p2;replace p3:=g0 _ _ lb p3;replace lb:=Nat.lt_of_lt_of_le lb Hu1.out.size;replace lc:=Nat.lt_of_lt_of_le lc Hu1.out.size;replace le:=Nat.lt_of_lt_of_le le Hu1.out.size;clear g0;clear b)|(go_at_call 35;refine Calls.mono (HC.out _ (by exact cbelow_on HB0.out ((cdrewN (Below.refl w0.heap.size w0) _).alloc (Nat.le_refl _) _) HB0.out.size)) ?_;rintro e u2 ⟨rfl,b⟩;have Hu2:Hid (Below w0.heap.size w0 u2):=chid (cbelow_on ((cdrewN (Below.refl w0.heap.size w0) _).alloc (Nat.le_refl _) _) b ((cdrewN (Below.refl w0.heap.size w0) _).alloc (Nat.le_refl _) _).size);have Zz:Box u2 w0.heap.size [.int .i64 0,.int .i64 0]:=Box.next (Box.new (w0.drewN _) [.int .i64 0,.int .i64 0] 72) b;have z0:=Zz.cell 0 _ rfl;have z1:=Zz.cell 1 _ rfl;have z2:=Zz.free 0 (by simp);have z3:=Zz.free 1 (by simp);have zl:=Zz.lt;have HZ:=chid Zz;clear Zz;have g0:=fun p v hp hv=>(Hu2.out.cell (p:=p) hp).trans (hv:w0.cell? p=some v);replace c3:=g0 _ _ lc c3;replace e0:=g0 _ _ le e0;replace e1:=g0 _ _ le e1;replace e2:=g0 _ _ le e2;replace p0:=g0 _ _ lb p0;replace p1:=g0 _ _ lb p1;replace p2:=g0 _ _ lb p2;replace p3:=g0 _ _ lb p3;replace lb:=Nat.lt_of_lt_of_le lb Hu2.out.size;replace lc:=Nat.lt_of_lt_of_le lc Hu2.out.size;replace le:=Nat.lt_of_lt_of_le le Hu2.out.size;clear g0;clear b))
  ·first|(obtain⟨dd,hdd⟩:∃ dd,dd=u1.heap.size:=⟨_,rfl⟩;rw[<-hdd];refine⟨dd,rfl,?_⟩;rw[hG.out,hdd];exact⟨Box.new u1 [.int .i64 r.2,.int .i64 r.1] 72,Hu1.out.alloc Hu1.out.size _⟩)|(obtain⟨dd,hdd⟩:∃ dd,dd=w0.heap.size:=⟨_,rfl⟩;rw[<-hdd];refine⟨dd,rfl,?_⟩;rw[hG.out,hdd];exact⟨(HZ.out.set 0 (by simp) (.int .i64 r.2)).set 1 (by simp) (.int .i64 r.1),(Hu2.out.setCell (p:=⟨_,0,none⟩) (Nat.le_refl _) _).setCell (p:=⟨_,1,none⟩) (Nat.le_refl _) _⟩)
  ·first|(obtain⟨dd,hdd⟩:∃ dd,dd=u1.heap.size:=⟨_,rfl⟩;rw[<-hdd];refine⟨dd,rfl,?_⟩;rw[hG.out,hdd];exact⟨Box.new u1 [.int .i64 r.2,.int .i64 r.1] 72,Hu1.out.alloc Hu1.out.size _⟩)|(obtain⟨dd,hdd⟩:∃ dd,dd=w0.heap.size:=⟨_,rfl⟩;rw[<-hdd];refine⟨dd,rfl,?_⟩;rw[hG.out,hdd];exact⟨(HZ.out.set 0 (by simp) (.int .i64 r.2)).set 1 (by simp) (.int .i64 r.1),(Hu2.out.setCell (p:=⟨_,0,none⟩) (Nat.le_refl _) _).setCell (p:=⟨_,1,none⟩) (Nat.le_refl _) _⟩)
 case hrest=>
 intro aD wa hGd
 rw[hG.out] at hGd
 obtain⟨Ya,ka⟩:=hGd
 clear c3 e0 e1 e2 p0 p1 p2 p3 lb lc le nlb nlb' nlc nlc' nle nle'
 clear hG G
 have HB1:=chid (cbelow_on HB0.out ka HB0.out.size)
 replace X0:=chid (X0.out.next ka)
 replace X1:=chid (X1.out.next ka)
 replace X2:=chid (X2.out.next ka)
 have Xa:=chid Ya
 clear ka Ya
 have c0:=X0.out.cell 0 _ rfl
 have c3:=X0.out.cell 3 _ rfl
 have lc:=X0.out.lt
 have e0:=X1.out.cell 0 _ rfl
 have e1:=X1.out.cell 1 _ rfl
 have e2:=X1.out.cell 2 _ rfl
 have le:=X1.out.lt
 have z0:=Xa.out.cell 0 _ rfl
 have z1:=Xa.out.cell 1 _ rfl
 have zl:=Xa.out.lt
 have q0:=X2.out.cell 0 _ rfl
 have q1:=X2.out.cell 1 _ rfl
 have q2:=X2.out.cell 2 _ rfl
 have j0:=X2.out.free 0 (by simp)
 have j1:=X2.out.free 1 (by simp)
 have j2:=X2.out.free 2 (by simp)
 have ql:=X2.out.lt
 by_cases hz:r.2=0
 case neg=>
  have d0:(r.2 != 0)=true:=by simpa using hz
  have hQr:Hid (rawV Q=.agg #[.bool true,.int .i64 r.2,.int .i64 0]):=by
   show _=_
   rw[HT.out]
   first | rw[ofOneR,if_neg hz] | rw[if_neg hz]
   exact rawV_err 0 hz
  clear HC HT
  go_wp2_with fail
  refine bodyPost_ret (v:=.agg #[.bool true,.int .i64 r.2,.int .i64 0]) (by simp[results,Tryz.results34,go_sem, *]) rfl ?_
  exact⟨by rw[hQr.out],((HB1.out.setCell (p:=⟨w.heap.size+1+1,0,none⟩) (by simp;omega) _).setCell (p:=⟨w.heap.size+1+1,1,none⟩) (by simp;omega) _).setCell (p:=⟨w.heap.size+1+1,2,none⟩) (by simp;omega) _⟩
 obtain⟨r1,r2⟩:=r
 obtain rfl:r2=0:=hz
 change _=some (Value.int .i64 0) at z0
 change _=some (Value.int .i64 r1) at z1
 have hQr:Hid (rawV Q=.agg #[.bool false,.int .i64 0,.int .i64 (countF r1)]):=by
  show _=_
  rw[HT.out]
  exact rawV_ok _
 have HU:=chid (fun W:World=>rCount_any r1 hg.1 (lt64 hg) W)
 change Hid (∀ W:World,Calls Tryz.prog 61 #[.int .i64 r1] W fun e w'=>e=.returned (.int .i64 (countF r1))/\Below W.heap.size W w') at HU
 clear HT hg HC
 generalize countF r1=cf at *
 go_wp2_with fail
 refine Calls.mono (HU.out _) ?_
 rintro e w2 ⟨rfl,b2⟩
 have HB2:=chid (cbelow_on HB1.out b2 HB1.out.size)
 replace X2:=chid (X2.out.next b2)
 replace q0:=X2.out.cell 0 _ rfl
 replace q1:=X2.out.cell 1 _ rfl
 replace q2:=X2.out.cell 2 _ rfl
 replace j0:=X2.out.free 0 (by simp)
 replace j1:=X2.out.free 1 (by simp)
 replace j2:=X2.out.free 2 (by simp)
 replace ql:=X2.out.lt
 clear b2 c0 c3 lc e0 e1 e2 le z0 z1 zl
 go_wp2_with fail
 refine bodyPost_ret (v:=.agg #[.bool false,.int .i64 0,.int .i64 cf]) (by simp[results,Tryz.results34,go_sem, *]) rfl ?_
 exact⟨by rw[hQr.out],((HB2.out.setCell (p:=⟨w.heap.size+1+1,0,none⟩) (by simp;omega) _).setCell (p:=⟨w.heap.size+1+1,1,none⟩) (by simp;omega) _).setCell (p:=⟨w.heap.size+1+1,2,none⟩) (by simp;omega) _⟩
set_option maxHeartbeats 4000000 in
set_option maxRecDepth 20000 in
theorem act_by (E:EnvP)(hE:EnvOk E)(n m:Int)(x:Co)(ih:REv E x)(hg:C64 (telV E x).1):RAct E ⟨31,n,m,[x]⟩:=by
 intro v v1 v2 w hs he
 have HE:=chid he
 have HS:=chid hs
 obtain⟨r,hr⟩:∃ r,Hid (r=telV E x):=⟨_,chid rfl⟩
 obtain⟨Q,hQ⟩:∃ Q,Hid (Q=telV E ⟨31,n,m,[x]⟩):=⟨_,chid rfl⟩
 rw[<-hQ.out]
 have HT:Hid (Q=ofOneR (fun a=>held (E.rep+countF a)) r):=chid (by rw[hQ.out,hr.out,telV_eq];rfl)
 obtain⟨b,off,cap,rfl,-,-,hbl,hx⟩:=hs.parts.open (by show 0<1;decide)
 obtain⟨u0,f0,s0⟩:∃ u,Four w b (off+0*4) x u/\CSits w x u:=hx 0 (by show 0<1;decide)
 obtain⟨a1,c1,a2,c2,rfl,rfl⟩:=he.shape
 have HC:Hid (∀ W,Below w.heap.size w W->Calls Tryz.prog 35 #[coV x u0,envV E (.slice a1 E.wins.length c1) (.slice a2 E.crons.length c2)] W fun e w'=>e=.returned (reV r)/\Below W.heap.size W w'):=chid (fun W hW=>by rw[hr.out];exact ih u0 _ _ W (s0.next hW) (HE.out.next hW))
 rw[<-hr.out] at hg
 obtain⟨ad0,cap0,rfl,-,-⟩:=s0.parts.shape
 obtain⟨Y0,Y1,Y2,B0⟩:=three_boxes w 30 40 48 (coL ⟨31,n,m,[x]⟩ (.slice (some ⟨b,off,none⟩) 1 cap)) [.int .i64 E.rep,.slice a1 E.wins.length c1,.slice a2 E.crons.length c2] [.bool false,.int .i64 0,.int .i64 0]
 have X0:=chid Y0
 have X1:=chid Y1
 have X2:=chid Y2
 have HB0:=chid B0
 have HF0:=chid f0
 have HBl:=chid hbl
 clear hs he ih hx Y0 Y1 Y2 B0 f0 s0 hr hQ hbl
 obtain⟨w0,hw0⟩:∃ w0,Hid (w0=((w.alloc (.cells (coL ⟨31,n,m,[x]⟩ (.slice (some ⟨b,off,none⟩) 1 cap)).toArray 30)).alloc (.cells #[.int .i64 E.rep,.slice a1 E.wins.length c1,.slice a2 E.crons.length c2] 40)).alloc (.cells #[.bool false,.int .i64 0,.int .i64 0] 48)):=⟨_,chid rfl⟩
 replace X0:Hid (Box w0 (w.heap.size) (coL ⟨31,n,m,[x]⟩ (.slice (some ⟨b,off,none⟩) 1 cap))):=by rw[hw0.out];exact X0
 replace X1:Hid (Box w0 (w.heap.size+1) ([.int .i64 E.rep,.slice a1 E.wins.length c1,.slice a2 E.crons.length c2])):=by rw[hw0.out];exact X1
 replace X2:Hid (Box w0 (w.heap.size+1+1) ([.bool false,.int .i64 0,.int .i64 0])):=by rw[hw0.out];exact X2
 replace HB0:Hid (Below w.heap.size w w0):=by rw[hw0.out];exact HB0
 go_enter Tryz.func34,Tryz.ntmps34
 go_wp2_with fail
 rw[<-hw0.out]
 clear hw0
 have c3:=X0.out.cell 3 _ rfl
 have e0:=X1.out.cell 0 _ rfl
 have e1:=X1.out.cell 1 _ rfl
 have e2:=X1.out.cell 2 _ rfl
 obtain⟨p0,p1,p2,p3⟩:=HF0.out.keep (w':=w0) (fun q=>HB0.out.cell (p:=⟨b,q,none⟩) HBl.out)
 simp only[Nat.zero_mul,Nat.add_zero] at p0 p1 p2 p3
 change _=some (Value.int .i64 x.op) at p0
 change _=some (Value.int .i64 x.n) at p1
 change _=some (Value.int .i64 x.m) at p2
 change _=some (Value.slice ad0 x.parts.length cap0) at p3
 have lc:=X0.out.lt
 have le:=X1.out.lt
 have lb:=Nat.lt_of_lt_of_le HBl.out HB0.out.size
 obtain⟨G,hG⟩:∃ G:Nat->World->Prop,Hid (G=fun dd w'=>Box w' dd [.int .i64 r.2,.int .i64 r.1]/\Below w0.heap.size w0 w'):=⟨_,chid rfl⟩
 have nlb:b≠w0.heap.size:=Nat.ne_of_lt lb
 have nlb':w0.heap.size≠b:=Nat.ne_of_gt lb
 have nlc:w.heap.size≠w0.heap.size:=Nat.ne_of_lt lc
 have nlc':w0.heap.size≠w.heap.size:=Nat.ne_of_gt lc
 have nle:w.heap.size+1≠w0.heap.size:=Nat.ne_of_lt le
 have nle':w0.heap.size≠w.heap.size+1:=Nat.ne_of_gt le
 apply via1 G
 case hreg=>
  go_region_held3 (fun w'=>w'.cell? ⟨w.heap.size,3,none⟩=some (.slice (some ⟨b,off,none⟩) 1 cap)/\w'.cell? ⟨w.heap.size+1,0,none⟩=some (.int .i64 E.rep)/\w'.cell? ⟨w.heap.size+1,1,none⟩=some (.slice a1 E.wins.length c1)/\w'.cell? ⟨w.heap.size+1,2,none⟩=some (.slice a2 E.crons.length c2)/\w'.cell? ⟨b,off,none⟩=some (.int .i64 x.op)/\w'.cell? ⟨b,off+1,none⟩=some (.int .i64 x.n)/\w'.cell? ⟨b,off+2,none⟩=some (.int .i64 x.m)/\w'.cell? ⟨b,off+3,none⟩=some (.slice ad0 x.parts.length cap0)) (simp[go_sem, *]) (first|(go_at_call 35;refine Calls.mono (HC.out _ (by exact cdrewN HB0.out _)) ?_;rintro e u1 ⟨rfl,b⟩;have Hu1:Hid (Below w0.heap.size w0 u1):=⟨b.os,b.tape,b.output,b.size,b.block⟩;have g0:=fun p v hp hv=>(Hu1.out.cell (p:=p) hp).trans (hv:w0.cell? p=some v);replace c3:=g0 _ _ lc c3;replace e0:=g0 _ _ le e0;replace e1:=g0 _ _ le e1;replace e2:=g0 _ _ le e2;replace p0:=g0 _ _ lb p0;replace p1:=g0 _ _ lb p1;replace p2:=g0 _ _ lb p2;replace p3:=g0 _ _ lb p3;replace lb:=Nat.lt_of_lt_of_le lb Hu1.out.size;replace lc:=Nat.lt_of_lt_of_le lc Hu1.out.size;replace le:=Nat.lt_of_lt_of_le le Hu1.out.size;clear g0;clear b)|(go_at_call 35;refine Calls.mono (HC.out _ (by exact cbelow_on HB0.out ((cdrewN (Below.refl w0.heap.size w0) _).alloc (Nat.le_refl _) _) HB0.out.size)) ?_;rintro e u2 ⟨rfl,b⟩;have Hu2:Hid (Below w0.heap.size w0 u2):=chid (cbelow_on ((cdrewN (Below.refl w0.heap.size w0) _).alloc (Nat.le_refl _) _) b ((cdrewN (Below.refl w0.heap.size w0) _).alloc (Nat.le_refl _) _).size);have Zz:Box u2 w0.heap.size [.int .i64 0,.int .i64 0]:=Box.next (Box.new (w0.drewN _) [.int .i64 0,.int .i64 0] 72) b;have z0:=Zz.cell 0 _ rfl;have z1:=Zz.cell 1 _ rfl;have z2:=Zz.free 0 (by simp);have z3:=Zz.free 1 (by simp);have zl:=Zz.lt;have HZ:=chid Zz;clear Zz;have g0:=fun p v hp hv=>(Hu2.out.cell (p:=p) hp).trans (hv:w0.cell? p=some v);replace c3:=g0 _ _ lc c3;replace e0:=g0 _ _ le e0;replace e1:=g0 _ _ le e1;replace e2:=g0 _ _ le e2;replace p0:=g0 _ _ lb p0;replace p1:=g0 _ _ lb p1;replace p2:=g0 _ _ lb p2;replace p3:=g0 _ _ lb p3;replace lb:=Nat.lt_of_lt_of_le lb Hu2.out.size;replace lc:=Nat.lt_of_lt_of_le lc Hu2.out.size;replace le:=Nat.lt_of_lt_of_le le Hu2.out.size;clear g0;clear b))
  ·first|(obtain⟨dd,hdd⟩:∃ dd,dd=u1.heap.size:=⟨_,rfl⟩;rw[<-hdd];refine⟨dd,rfl,?_⟩;rw[hG.out,hdd];exact⟨Box.new u1 [.int .i64 r.2,.int .i64 r.1] 72,Hu1.out.alloc Hu1.out.size _⟩)|(obtain⟨dd,hdd⟩:∃ dd,dd=w0.heap.size:=⟨_,rfl⟩;rw[<-hdd];refine⟨dd,rfl,?_⟩;rw[hG.out,hdd];exact⟨(HZ.out.set 0 (by simp) (.int .i64 r.2)).set 1 (by simp) (.int .i64 r.1),(Hu2.out.setCell (p:=⟨_,0,none⟩) (Nat.le_refl _) _).setCell (p:=⟨_,1,none⟩) (Nat.le_refl _) _⟩)
  ·first|(obtain⟨dd,hdd⟩:∃ dd,dd=u1.heap.size:=⟨_,rfl⟩;rw[<-hdd];refine⟨dd,rfl,?_⟩;rw[hG.out,hdd];exact⟨Box.new u1 [.int .i64 r.2,.int .i64 r.1] 72,Hu1.out.alloc Hu1.out.size _⟩)|(obtain⟨dd,hdd⟩:∃ dd,dd=w0.heap.size:=⟨_,rfl⟩;rw[<-hdd];refine⟨dd,rfl,?_⟩;rw[hG.out,hdd];exact⟨(HZ.out.set 0 (by simp) (.int .i64 r.2)).set 1 (by simp) (.int .i64 r.1),(Hu2.out.setCell (p:=⟨_,0,none⟩) (Nat.le_refl _) _).setCell (p:=⟨_,1,none⟩) (Nat.le_refl _) _⟩)
 case hrest=>
 intro aD wa hGd
 rw[hG.out] at hGd
 obtain⟨Ya,ka⟩:=hGd
 clear c3 e0 e1 e2 p0 p1 p2 p3 lb lc le nlb nlb' nlc nlc' nle nle'
 clear hG G
 have HB1:=chid (cbelow_on HB0.out ka HB0.out.size)
 replace X0:=chid (X0.out.next ka)
 replace X1:=chid (X1.out.next ka)
 replace X2:=chid (X2.out.next ka)
 have Xa:=chid Ya
 clear ka Ya
 have c0:=X0.out.cell 0 _ rfl
 have c3:=X0.out.cell 3 _ rfl
 have lc:=X0.out.lt
 have e0:=X1.out.cell 0 _ rfl
 have e1:=X1.out.cell 1 _ rfl
 have e2:=X1.out.cell 2 _ rfl
 have le:=X1.out.lt
 have z0:=Xa.out.cell 0 _ rfl
 have z1:=Xa.out.cell 1 _ rfl
 have zl:=Xa.out.lt
 have q0:=X2.out.cell 0 _ rfl
 have q1:=X2.out.cell 1 _ rfl
 have q2:=X2.out.cell 2 _ rfl
 have j0:=X2.out.free 0 (by simp)
 have j1:=X2.out.free 1 (by simp)
 have j2:=X2.out.free 2 (by simp)
 have ql:=X2.out.lt
 by_cases hz:r.2=0
 case neg=>
  have d0:(r.2 != 0)=true:=by simpa using hz
  have hQr:Hid (rawV Q=.agg #[.bool true,.int .i64 r.2,.int .i64 0]):=by
   show _=_
   rw[HT.out]
   first | rw[ofOneR,if_neg hz] | rw[if_neg hz]
   exact rawV_err 0 hz
  clear HC HT
  go_wp2_with fail
  refine bodyPost_ret (v:=.agg #[.bool true,.int .i64 r.2,.int .i64 0]) (by simp[results,Tryz.results34,go_sem, *]) rfl ?_
  exact⟨by rw[hQr.out],((HB1.out.setCell (p:=⟨w.heap.size+1+1,0,none⟩) (by simp;omega) _).setCell (p:=⟨w.heap.size+1+1,1,none⟩) (by simp;omega) _).setCell (p:=⟨w.heap.size+1+1,2,none⟩) (by simp;omega) _⟩
 obtain⟨r1,r2⟩:=r
 obtain rfl:r2=0:=hz
 change _=some (Value.int .i64 0) at z0
 change _=some (Value.int .i64 r1) at z1
 have hQr:Hid (rawV Q=.agg #[.bool false,.int .i64 0,.int .i64 (held (E.rep+countF r1))]):=by
  show _=_
  rw[HT.out]
  exact rawV_ok _
 have HU:=chid (fun W:World=>rCount_any r1 hg.1 (lt64 hg) W)
 change Hid (∀ W:World,Calls Tryz.prog 61 #[.int .i64 r1] W fun e w'=>e=.returned (.int .i64 (countF r1))/\Below W.heap.size W w') at HU
 have HV:=chid (fun W:World=>rAdd_any E.rep (countF r1) hE.rep.1 (lt64 hE.rep) (count_64 r1).1 (lt64 (count_64 r1)) W)
 change Hid (∀ W:World,Calls Tryz.prog 62 #[.int .i64 E.rep,.int .i64 (countF r1)] W fun e w'=>e=.returned (.int .i64 (held (E.rep+countF r1)))/\Below W.heap.size W w') at HV
 clear HT hg HC
 generalize held (E.rep+countF r1)=hf at *
 generalize countF r1=cf at *
 have hne:aD≠w.heap.size+1+1:=fun h=>by
  rw[h,q0] at z0
  cases z0
 have hne':=hne.symm
 go_wp2_with fail
 go_region_held3 (fun w'=>w'.cell? ⟨w.heap.size+1,0,none⟩=some (.int .i64 E.rep)/\w'.cell? ⟨aD,1,none⟩=some (.int .i64 r1)) (simp[go_sem, *]) (first|(go_at_call 62;refine Calls.mono (HV.out _) ?_;rintro e w3 ⟨rfl,bb⟩;have BW:Below w2.heap.size w2 w3:=⟨bb.os,bb.tape,bb.output,bb.size,bb.block⟩;replace e0:=keepc BW e0;replace z1:=keepc BW z1;replace X2:=chid (X2.out.next BW);replace q0:=X2.out.cell 0 _ rfl;replace j0:=X2.out.free 0 (by simp);replace q1:=X2.out.cell 1 _ rfl;replace j1:=X2.out.free 1 (by simp);replace q2:=X2.out.cell 2 _ rfl;replace j2:=X2.out.free 2 (by simp);replace ql:=X2.out.lt;have HB3:=chid (cbelow_on HB2.out BW HB2.out.size);clear bb BW)|(go_at_call 61;refine Calls.mono (HU.out _) ?_;rintro e w2 ⟨rfl,bb⟩;have BW:Below wa.heap.size wa w2:=⟨bb.os,bb.tape,bb.output,bb.size,bb.block⟩;replace e0:=keepc BW e0;replace z1:=keepc BW z1;replace X2:=chid (X2.out.next BW);replace q0:=X2.out.cell 0 _ rfl;replace j0:=X2.out.free 0 (by simp);replace q1:=X2.out.cell 1 _ rfl;replace j1:=X2.out.free 1 (by simp);replace q2:=X2.out.cell 2 _ rfl;replace j2:=X2.out.free 2 (by simp);replace ql:=X2.out.lt;have HB2:=chid (cbelow_on HB1.out BW HB1.out.size);clear bb BW))
 clear e0 z1 c0 c3 lc e1 e2 le z0 zl
 go_wp2_with fail
 refine bodyPost_ret (v:=.agg #[.bool false,.int .i64 0,.int .i64 hf]) (by simp[results,Tryz.results34,go_sem, *]) rfl ?_
 exact⟨by rw[hQr.out],((HB3.out.setCell (p:=⟨w.heap.size+1+1,0,none⟩) (by simp;omega) _).setCell (p:=⟨w.heap.size+1+1,1,none⟩) (by simp;omega) _).setCell (p:=⟨w.heap.size+1+1,2,none⟩) (by simp;omega) _⟩
end Go.Proofs.YtepncopdjodfgaaGreatDoor
