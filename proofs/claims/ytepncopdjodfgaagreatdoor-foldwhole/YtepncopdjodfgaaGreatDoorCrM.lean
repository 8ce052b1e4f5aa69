import Derived.Test.YtepncopdjodfgaaGreatDoorCrF
namespace Go.Proofs.YtepncopdjodfgaaGreatDoor
open Go.RowKit
def NormR (r:Rs):Prop:=r.2≠0->r.1=0
theorem normR_ok (n:Int):NormR (okR n):=fun h=>absurd rfl h
theorem normR_no (n:Int):NormR (noR n):=fun _=>rfl
theorem normR_one (f:Int->Int)(a:Rs):NormR (ofOneR f a):=by unfold ofOneR;split;exact normR_ok _;exact normR_no _
theorem normR_div (a b:Int):NormR (divR a b):=by unfold divR;split;exact normR_no _;exact normR_ok _
theorem normR_two (f:Int->Int->Rs)(hf:∀ a b,NormR (f a b))(a b:Rs):NormR (ofTwoR f a b):=by unfold ofTwoR;split;(split;exact hf _ _;exact normR_no _);exact normR_no _
theorem normR_get (rs:List Rs)(h:∀ r,r∈rs->NormR r)(i:Nat):NormR (rs.getD i (0,0)):=by
 rw[List.getD_eq_getElem?_getD]
 cases e:rs[i]? with
 | none=>exact normR_ok 0
 | some r=>exact h r (List.mem_of_getElem? e)
theorem normR_ite {c:Prop}[Decidable c]{a b:Rs}(ha:NormR a)(hb:NormR b):NormR (if c then a else b):=by split<;>assumption
theorem normR_work (E:EnvP)(k:Nat)(c:Co)(rs:List Rs)(h:∀ r,r∈rs->NormR r):NormR (workF E k c rs):=by
 unfold workF
 repeat' (refine normR_ite ?_ ?_)
 all_goals first | exact normR_ok _ | exact normR_no _ | exact normR_one _ _ | exact normR_two _ normR_div _ _ | exact normR_two _ (fun a b=>normR_ok _) _ _ | exact normR_get _ h _
theorem normR_tel (E:EnvP)(t:Co):NormR (telV E t):=by
 induction t using Co.ind with
 | h t ih=>
   rw[telV_eq]
   exact normR_work E _ t _ (fun r hr=>by obtain⟨x,hx,rfl⟩:=List.mem_map.1 hr;exact ih x hx)
theorem rsV_re (E:EnvP)(t:Co):rsV (telV E t)=reV (telV E t):=by
 unfold rsV
 split
 next h=>show _=Value.agg #[.int .i64 (telV E t).2,.int .i64 (telV E t).1];rw[h]
 next h=>show _=Value.agg #[.int .i64 (telV E t).2,.int .i64 (telV E t).1];rw[normR_tel E t h]
def REv (E:EnvP)(t:Co):Prop:=∀ (v v1 v2:Value) (w:World),CSits w t v->EnvAt w E v1 v2->Calls Tryz.prog 35 #[coV t v,envV E v1 v2] w fun e w'=>e=.returned (reV (telV E t))/\Below w.heap.size w w'
theorem via1 {P:Program}{c:Code}{K:Act->World->Prop}{Q':Exit->Act->World->Prop}{a:Act}{w:World}{F:Nat->Act}(G:Nat->World->Prop)
 (hreg:c.wp P (Exit.then (fun a' w'=>∃ dd,a'=F dd/\G dd w') Q') a w) (hrest:∀ dd w',G dd w'->K (F dd) w'):c.wp P (Exit.then K Q') a w:=by
 refine Code.wp_mono (fun e a w h=>?_) hreg
 cases e with
 | normal=>obtain⟨dd,rfl,hg⟩:=h;exact hrest _ _ hg
 | _=>exact h
set_option maxHeartbeats 2000000 in
theorem runary7_c (c:Co)(a:Int)(hc:c.op=7)(ad:Option Addr)(n cap:Nat)(w:World):Calls Tryz.prog 66 #[coV c (.slice ad n cap),.int .i64 a] w fun e w'=>e=.returned (reV (okR a))/\Below w.heap.size w w':=by
 obtain⟨op,nn,mm,ps⟩:=c
 obtain rfl:op=7:=hc
 obtain⟨Y0,Y1,B0⟩:=two_boxes w 30 72 (coL ⟨7,nn,mm,ps⟩ (.slice ad n cap)) [.int .i64 0,.int .i64 0]
 have X1:=chid Y1
 have HB0:=chid B0
 have c0:=Y0.cell 0 _ rfl
 have l0:=Y0.lt
 dsimp only at c0
 clear Y0 Y1 B0
 go_enter Tryz.func66,Tryz.ntmps66
 go_wp2_with fail
 refine Calls.mono (rnum_c _ _) ?_
 rintro e w2 ⟨rfl,b2⟩
 have B2:=chid (cbelow_on HB0.out b2 HB0.out.size)
 replace X1:=chid (X1.out.next b2)
 clear b2 c0 l0
 have z0:=X1.out.cell 0 _ rfl
 have z1:=X1.out.cell 1 _ rfl
 have f0:=X1.out.free 0 (by simp)
 have f1:=X1.out.free 1 (by simp)
 have zl:=X1.out.lt
 go_wp2_with fail
 refine bodyPost_ret (v:=reV (okR a)) (by simp[results,Tryz.results66,go_sem, *]) rfl ?_
 exact⟨rfl,(B2.out.setCell (p:=⟨w.heap.size+1,0,none⟩) (by simp) _).setCell (p:=⟨w.heap.size+1,1,none⟩) (by simp) _⟩
set_option maxHeartbeats 8000000 in
set_option maxRecDepth 20000 in
theorem rEval_u (E:EnvP)(k:Nat)(n m:Int)(x:Co)(hk:k=7\/k=8\/k=9\/k=10\/k=11\/k=12\/k=13)(hm:k=13->0<=n/\1<=m)(hb:k=9->(telV E x).1=0\/(telV E x).1=1)(ih:REv E x)(hg:C64 (telV E x).1):REv E ⟨(k:Int),n,m,[x]⟩:=by
 intro v v1 v2 w hs he
 have HS:=chid hs
 have HE:=chid he
 have HFt:=chid hs.fit
 have HNm:=chid (normR_tel E x)
 obtain⟨r,hr⟩:∃ r,Hid (r=telV E x):=⟨_,chid rfl⟩
 have HT:Hid (telV E ⟨(k:Int),n,m,[x]⟩=if k=7 then r else if k=13 then ofOneR (fun a=>held (a*n/m)) r else ofOneR (uF k) r):=by
  show _=_
  rw[hr.out,telV_eq]
  rcases hk with rfl | rfl | rfl | rfl | rfl | rfl | rfl<;>rfl
 obtain⟨Q,hQ⟩:∃ Q,Hid (Q=telV E ⟨(k:Int),n,m,[x]⟩):=⟨_,chid rfl⟩
 rw[<-hQ.out]
 rw[<-hQ.out] at HT
 obtain⟨b,off,cap,rfl,-,-,hbl,hx⟩:=hs.parts.open (by show 0<1;decide)
 obtain⟨u0,f0,s0⟩:∃ u,Four w b (off+0*4) x u/\CSits w x u:=hx 0 (by show 0<1;decide)
 obtain⟨a1,c1,a2,c2,rfl,rfl⟩:=he.shape
 have HC:Hid (∀ W,Below w.heap.size w W->Calls Tryz.prog 35 #[coV x u0,envV E (.slice a1 E.wins.length c1) (.slice a2 E.crons.length c2)] W fun e w'=>e=.returned (reV r)/\Below W.heap.size W w'):=chid (fun W hW=>by rw[hr.out];exact ih u0 _ _ W (s0.next hW) (HE.out.next hW))
 rw[<-hr.out] at hg hb HNm
 obtain⟨ad0,cap0,rfl,-,-⟩:=s0.parts.shape
 obtain⟨Y0,Y1,Y2,B0⟩:=three_boxes w 30 40 72 (coL ⟨(k:Int),n,m,[x]⟩ (.slice (some ⟨b,off,none⟩) 1 cap)) [.int .i64 E.rep,.slice a1 E.wins.length c1,.slice a2 E.crons.length c2] [.int .i64 0,.int .i64 0]
 have X0:=chid Y0
 have X1:=chid Y1
 have X2:=chid Y2
 have HB0:=chid B0
 have HF0:=chid f0
 have HBl:=chid hbl
 clear hs he ih hx Y0 Y1 Y2 B0 f0 s0 hr hQ hbl
 rcases hk with rfl | rfl | rfl | rfl | rfl | rfl | rfl
 ·obtain⟨w0,hw0⟩:∃ w0,Hid (w0=((w.alloc (.cells (coL ⟨7,n,m,[x]⟩ (.slice (some ⟨b,off,none⟩) 1 cap)).toArray 30)).alloc (.cells #[.int .i64 E.rep,.slice a1 E.wins.length c1,.slice a2 E.crons.length c2] 40)).alloc (.cells #[.int .i64 0,.int .i64 0] 72)):=⟨_,chid rfl⟩
  replace X0:Hid (Box w0 (w.heap.size) (coL ⟨7,n,m,[x]⟩ (.slice (some ⟨b,off,none⟩) 1 cap))):=by rw[hw0.out];exact X0
  replace X1:Hid (Box w0 (w.heap.size+1) ([.int .i64 E.rep,.slice a1 E.wins.length c1,.slice a2 E.crons.length c2])):=by rw[hw0.out];exact X1
  replace X2:Hid (Box w0 (w.heap.size+1+1) ([.int .i64 0,.int .i64 0])):=by rw[hw0.out];exact X2
  replace HB0:Hid (Below w.heap.size w w0):=by rw[hw0.out];exact HB0
  go_enter Tryz.func35,Tryz.ntmps35
  go_wp2_with fail
  rw[<-hw0.out]
  clear hw0
  have c3:=X0.out.cell 3 _ rfl
  have e0:=X1.out.cell 0 _ rfl
  have e1:=X1.out.cell 1 _ rfl
  have e2:=X1.out.cell 2 _ rfl
  obtain⟨p0,p1,p2,p3⟩:=HF0.out.keep (w':=w0) (fun q=>HB0.out.cell (p:=⟨b,q,none⟩) HBl.out)
  simp only[Nat.zero_mul,Nat.add_zero] at p0 p1 p2 p3
  change _=some (Value.int .i64 x.op) at p0
  change _=some (Value.int .i64 x.n) at p1
  change _=some (Value.int .i64 x.m) at p2
  change _=some (Value.slice ad0 x.parts.length cap0) at p3
  have lc:=X0.out.lt
  have le:=X1.out.lt
  have lb:=Nat.lt_of_lt_of_le HBl.out HB0.out.size
  obtain⟨G,hG⟩:∃ G:Nat->World->Prop,Hid (G=fun dd w'=>Box w' dd [.int .i64 r.2,.int .i64 r.1]/\Below w0.heap.size w0 w'):=⟨_,chid rfl⟩
  have nlb:b≠w0.heap.size:=Nat.ne_of_lt lb
  have nlb':w0.heap.size≠b:=Nat.ne_of_gt lb
  have nlc:w.heap.size≠w0.heap.size:=Nat.ne_of_lt lc
  have nlc':w0.heap.size≠w.heap.size:=Nat.ne_of_gt lc
  have nle:w.heap.size+1≠w0.heap.size:=Nat.ne_of_lt le
  have nle':w0.heap.size≠w.heap.size+1:=Nat.ne_of_gt le
  apply via1 G
  case hreg=>
   go_region_held3 (fun w'=>w'.cell? ⟨w.heap.size,3,none⟩=some (.slice (some ⟨b,off,none⟩) 1 cap)/\w'.cell? ⟨w.heap.size+1,0,none⟩=some (.int .i64 E.rep)/\w'.cell? ⟨w.heap.size+1,1,none⟩=some (.slice a1 E.wins.length c1)/\w'.cell? ⟨w.heap.size+1,2,none⟩=some (.slice a2 E.crons.length c2)/\w'.cell? ⟨b,off,none⟩=some (.int .i64 x.op)/\w'.cell? ⟨b,off+1,none⟩=some (.int .i64 x.n)/\w'.cell? ⟨b,off+2,none⟩=some (.int .i64 x.m)/\w'.cell? ⟨b,off+3,none⟩=some (.slice ad0 x.parts.length cap0)) (simp[go_sem, *]) (first|(go_at_call 35;refine Calls.mono (HC.out _ (by exact cdrewN HB0.out _)) ?_;rintro e u1 ⟨rfl,b⟩;have Hu1:Hid (Below w0.heap.size w0 u1):=⟨b.os,b.tape,b.output,b.size,b.block⟩;have g0:=fun p v hp hv=>(Hu1.out.cell (p:=p) hp).trans (hv:w0.cell? p=some v);replace c3:=g0 _ _ lc c3;replace e0:=g0 _ _ le e0;replace e1:=g0 _ _ le e1;replace e2:=g0 _ _ le e2;replace p0:=g0 _ _ lb p0;replace p1:=g0 _ _ lb p1;replace p2:=g0 _ _ lb p2;replace p3:=g0 _ _ lb p3;replace lb:=Nat.lt_of_lt_of_le lb Hu1.out.size;replace lc:=Nat.lt_of_lt_of_le lc Hu1.out.size;replace le:=Nat.lt_of_lt_of_le le Hu1.out.size;clear g0;clear b)|(go_at_call 35;refine Calls.mono (HC.out _ (by exact cbelow_on HB0.out ((cdrewN (Below.refl w0.heap.size w0) _).alloc (Nat.le_refl _) _) HB0.out.size)) ?_;rintro e u2 ⟨rfl,b⟩;have Hu2:Hid (Below w0.heap.size w0 u2):=chid (cbelow_on ((cdrewN (Below.refl w0.heap.size w0) _).alloc (Nat.le_refl _) _) b ((cdrewN (Below.refl w0.heap.size w0) _).alloc (Nat.le_refl _) _).size);have Zz:Box u2 w0.heap.size [.int .i64 0,.int .i64 0]:=Box.next (Box.new (w0.drewN _) [.int .i64 0,.int .i64 0] 72) b;have z0:=Zz.cell 0 _ rfl;have z1:=Zz.cell 1 _ rfl;have z2:=Zz.free 0 (by simp);have z3:=Zz.free 1 (by simp);have zl:=Zz.lt;have HZ:=chid Zz;clear Zz;have g0:=fun p v hp hv=>(Hu2.out.cell (p:=p) hp).trans (hv:w0.cell? p=some v);replace c3:=g0 _ _ lc c3;replace e0:=g0 _ _ le e0;replace e1:=g0 _ _ le e1;replace e2:=g0 _ _ le e2;replace p0:=g0 _ _ lb p0;replace p1:=g0 _ _ lb p1;replace p2:=g0 _ _ lb p2;replace p3:=g0 _ _ lb p3;replace lb:=Nat.lt_of_lt_of_le lb Hu2.out.size;replace lc:=Nat.lt_of_lt_of_le lc Hu2.out.size;replace le:=Nat.lt_of_lt_of_le le Hu2.out.size;clear g0;clear b))
   ·first|(obtain⟨dd,hdd⟩:∃ dd,dd=u1.heap.size:=⟨_,rfl⟩;rw[<-hdd];refine⟨dd,rfl,?_⟩;rw[hG.out,hdd];exact⟨Box.new u1 [.int .i64 r.2,.int .i64 r.1] 72,Hu1.out.alloc Hu1.out.size _⟩)|(obtain⟨dd,hdd⟩:∃ dd,dd=w0.heap.size:=⟨_,rfl⟩;rw[<-hdd];refine⟨dd,rfl,?_⟩;rw[hG.out,hdd];exact⟨(HZ.out.set 0 (by simp) (.int .i64 r.2)).set 1 (by simp) (.int .i64 r.1),(Hu2.out.setCell (p:=⟨_,0,none⟩) (Nat.le_refl _) _).setCell (p:=⟨_,1,none⟩) (Nat.le_refl _) _⟩)
   ·first|(obtain⟨dd,hdd⟩:∃ dd,dd=u1.heap.size:=⟨_,rfl⟩;rw[<-hdd];refine⟨dd,rfl,?_⟩;rw[hG.out,hdd];exact⟨Box.new u1 [.int .i64 r.2,.int .i64 r.1] 72,Hu1.out.alloc Hu1.out.size _⟩)|(obtain⟨dd,hdd⟩:∃ dd,dd=w0.heap.size:=⟨_,rfl⟩;rw[<-hdd];refine⟨dd,rfl,?_⟩;rw[hG.out,hdd];exact⟨(HZ.out.set 0 (by simp) (.int .i64 r.2)).set 1 (by simp) (.int .i64 r.1),(Hu2.out.setCell (p:=⟨_,0,none⟩) (Nat.le_refl _) _).setCell (p:=⟨_,1,none⟩) (Nat.le_refl _) _⟩)
  case hrest=>
  intro aD wa hGd
  rw[hG.out] at hGd
  obtain⟨Ya,ka⟩:=hGd
  clear c3 e0 e1 e2 p0 p1 p2 p3 lb lc le nlb nlb' nlc nlc' nle nle'
  clear hG G
  have HB1:=chid (cbelow_on HB0.out ka HB0.out.size)
  replace X0:=chid (X0.out.next ka)
  replace X1:=chid (X1.out.next ka)
  replace X2:=chid (X2.out.next ka)
  have Xa:=chid Ya
  clear ka Ya
  have c0:=X0.out.cell 0 _ rfl
  have c1:=X0.out.cell 1 _ rfl
  have c2:=X0.out.cell 2 _ rfl
  have c3:=X0.out.cell 3 _ rfl
  have lc:=X0.out.lt
  have z0:=Xa.out.cell 0 _ rfl
  have z1:=Xa.out.cell 1 _ rfl
  have zl:=Xa.out.lt
  have q0:=X2.out.cell 0 _ rfl
  have q1:=X2.out.cell 1 _ rfl
  have q2:=X2.out.free 0 (by simp)
  have q3:=X2.out.free 1 (by simp)
  have ql:=X2.out.lt
  by_cases hz:r.2=0
  case neg=>
   have d0:(r.2 != 0)=true:=by simpa using hz
   have hQr:Hid (Q=r):=by
    show _=_
    rw[HT.out]
    rfl
   clear HT hb hm hg HC
   go_wp2_with fail
   refine bodyPost_ret (v:=reV r) (by simp[results,Tryz.results35,go_sem, *]) rfl ?_
   exact⟨by rw[hQr.out],(HB1.out.setCell (p:=⟨w.heap.size+1+1,0,none⟩) (by simp;omega) _).setCell (p:=⟨w.heap.size+1+1,1,none⟩) (by simp;omega) _⟩
  obtain⟨r1,r2⟩:=r
  obtain rfl:r2=0:=hz
  change _=some (Value.int .i64 0) at z0
  change _=some (Value.int .i64 r1) at z1
  have hQr:Hid (Q=okR (r1)):=by show _=_;rw[HT.out];rfl
  have HU:=chid (fun W:World=>runary7_c ⟨7,n,m,[x]⟩ r1 rfl (some ⟨b,off,none⟩) 1 cap W)
  clear HT hb hm hg HC HNm
  go_wp2_with fail
  refine Calls.mono (HU.out _) ?_
  rintro e w2 ⟨rfl,b2⟩
  have HB2:=chid (cbelow_on HB1.out b2 HB1.out.size)
  replace X2:=chid (X2.out.next b2)
  clear b2 c0 c1 c2 c3 lc z0 z1 zl q0 q1 q2 q3 ql
  have q0:=X2.out.cell 0 _ rfl
  have q1:=X2.out.cell 1 _ rfl
  have q2:=X2.out.free 0 (by simp)
  have q3:=X2.out.free 1 (by simp)
  have ql:=X2.out.lt
  go_wp2_with fail
  refine bodyPost_ret (v:=reV (okR (r1))) (by simp[results,Tryz.results35,go_sem, *]) rfl ?_
  exact⟨by rw[hQr.out],(HB2.out.setCell (p:=⟨w.heap.size+1+1,0,none⟩) (by simp;omega) _).setCell (p:=⟨w.heap.size+1+1,1,none⟩) (by simp;omega) _⟩
 ·obtain⟨w0,hw0⟩:∃ w0,Hid (w0=((w.alloc (.cells (coL ⟨8,n,m,[x]⟩ (.slice (some ⟨b,off,none⟩) 1 cap)).toArray 30)).alloc (.cells #[.int .i64 E.rep,.slice a1 E.wins.length c1,.slice a2 E.crons.length c2] 40)).alloc (.cells #[.int .i64 0,.int .i64 0] 72)):=⟨_,chid rfl⟩
  replace X0:Hid (Box w0 (w.heap.size) (coL ⟨8,n,m,[x]⟩ (.slice (some ⟨b,off,none⟩) 1 cap))):=by rw[hw0.out];exact X0
  replace X1:Hid (Box w0 (w.heap.size+1) ([.int .i64 E.rep,.slice a1 E.wins.length c1,.slice a2 E.crons.length c2])):=by rw[hw0.out];exact X1
  replace X2:Hid (Box w0 (w.heap.size+1+1) ([.int .i64 0,.int .i64 0])):=by rw[hw0.out];exact X2
  replace HB0:Hid (Below w.heap.size w w0):=by rw[hw0.out];exact HB0
  go_enter Tryz.func35,Tryz.ntmps35
  go_wp2_with fail
  rw[<-hw0.out]
  clear hw0
  have c3:=X0.out.cell 3 _ rfl
  have e0:=X1.out.cell 0 _ rfl
  have e1:=X1.out.cell 1 _ rfl
  have e2:=X1.out.cell 2 _ rfl
  obtain⟨p0,p1,p2,p3⟩:=HF0.out.keep (w':=w0) (fun q=>HB0.out.cell (p:=⟨b,q,none⟩) HBl.out)
  simp only[Nat.zero_mul,Nat.add_zero] at p0 p1 p2 p3
  change _=some (Value.int .i64 x.op) at p0
  change _=some (Value.int .i64 x.n) at p1
  change _=some (Value.int .i64 x.m) at p2
  change _=some (Value.slice ad0 x.parts.length cap0) at p3
  have lc:=X0.out.lt
  have le:=X1.out.lt
  have lb:=Nat.lt_of_lt_of_le HBl.out HB0.out.size
  obtain⟨G,hG⟩:∃ G:Nat->World->Prop,Hid (G=fun dd w'=>Box w' dd [.int .i64 r.2,.int .i64 r.1]/\Below w0.heap.size w0 w'):=⟨_,chid rfl⟩
  have nlb:b≠w0.heap.size:=Nat.ne_of_lt lb
  have nlb':w0.heap.size≠b:=Nat.ne_of_gt lb
  have nlc:w.heap.size≠w0.heap.size:=Nat.ne_of_lt lc
  have nlc':w0.heap.size≠w.heap.size:=Nat.ne_of_gt lc
  have nle:w.heap.size+1≠w0.heap.size:=Nat.ne_of_lt le
  have nle':w0.heap.size≠w.heap.size+1:=Nat.ne_of_gt le
  apply via1 G
  case hreg=>
   go_region_held3 (fun w'=>w'.cell? ⟨w.heap.size,3,none⟩=some (.slice (some ⟨b,off,none⟩) 1 cap)/\w'.cell? ⟨w.heap.size+1,0,none⟩=some (.int .i64 E.rep)/\w'.cell? ⟨w.heap.size+1,1,none⟩=some (.slice a1 E.wins.length c1)/\w'.cell? ⟨w.heap.size+1,2,none⟩=some (.slice a2 E.crons.length c2)/\w'.cell? ⟨b,off,none⟩=some (.int .i64 x.op)/\w'.cell? ⟨b,off+1,none⟩=some (.int .i64 x.n)/\w'.cell? ⟨b,off+2,none⟩=some (.int .i64 x.m)/\w'.cell? ⟨b,off+3,none⟩=some (.slice ad0 x.parts.length cap0)) (simp[go_sem, *]) (first|(go_at_call 35;refine Calls.mono (HC.out _ (by exact cdrewN HB0.out _)) ?_;rintro e u1 ⟨rfl,b⟩;have Hu1:Hid (Below w0.heap.size w0 u1):=⟨b.os,b.tape,b.output,b.size,b.block⟩;have g0:=fun p v hp hv=>(Hu1.out.cell (p:=p) hp).trans (hv:w0.cell? p=some v);replace c3:=g0 _ _ lc c3;replace e0:=g0 _ _ le e0;replace e1:=g0 _ _ le e1;replace e2:=g0 _ _ le e2;replace p0:=g0 _ _ lb p0;replace p1:=g0 _ _ lb p1;replace p2:=g0 _ _ lb p2;replace p3:=g0 _ _ lb p3;replace lb:=Nat.lt_of_lt_of_le lb Hu1.out.size;replace lc:=Nat.lt_of_lt_of_le lc Hu1.out.size;replace le:=Nat.lt_of_lt_of_le le Hu1.out.size;clear g0;clear b)|(go_at_call 35;refine Calls.mono (HC.out _ (by exact cbelow_on HB0.out ((cdrewN (Below.refl w0.heap.size w0) _).alloc (Nat.le_refl _) _) HB0.out.size)) ?_;rintro e u2 ⟨rfl,b⟩;have Hu2:Hid (Below w0.heap.size w0 u2):=chid (cbelow_on ((cdrewN (Below.refl w0.heap.size w0) _).alloc (Nat.le_refl _) _) b ((cdrewN (Below.refl w0.heap.size w0) _).alloc (Nat.le_refl _) _).size);have Zz:Box u2 w0.heap.size [.int .i64 0,.int .i64 0]:=Box.next (Box.new (w0.drewN _) [.int .i64 0,.int .i64 0] 72) b;have z0:=Zz.cell 0 _ rfl;have z1:=Zz.cell 1 _ rfl;have z2:=Zz.free 0 (by simp);have z3:=Zz.free 1 (by simp);have zl:=Zz.lt;have HZ:=chid Zz;clear Zz;have g0:=fun p v hp hv=>(Hu2.out.cell (p:=p) hp).trans (hv:w0.cell? p=some v);replace c3:=g0 _ _ lc c3;replace e0:=g0 _ _ le e0;replace e1:=g0 _ _ le e1;replace e2:=g0 _ _ le e2;replace p0:=g0 _ _ lb p0;replace p1:=g0 _ _ lb p1;replace p2:=g0 _ _ lb p2;replace p3:=g0 _ _ lb p3;replace lb:=Nat.lt_of_lt_of_le lb Hu2.out.size;replace lc:=Nat.lt_of_lt_of_le lc Hu2.out.size;replace le:=Nat.lt_of_lt_of_le le Hu2.out.size;clear g0;clear b))
   ·first|(obtain⟨dd,hdd⟩:∃ dd,dd=u1.heap.size:=⟨_,rfl⟩;rw[<-hdd];refine⟨dd,rfl,?_⟩;rw[hG.out,hdd];exact⟨Box.new u1 [.int .i64 r.2,.int .i64 r.1] 72,Hu1.out.alloc Hu1.out.size _⟩)|(obtain⟨dd,hdd⟩:∃ dd,dd=w0.heap.size:=⟨_,rfl⟩;rw[<-hdd];refine⟨dd,rfl,?_⟩;rw[hG.out,hdd];exact⟨(HZ.out.set 0 (by simp) (.int .i64 r.2)).set 1 (by simp) (.int .i64 r.1),(Hu2.out.setCell (p:=⟨_,0,none⟩) (Nat.le_refl _) _).setCell (p:=⟨_,1,none⟩) (Nat.le_refl _) _⟩)
   ·first|(obtain⟨dd,hdd⟩:∃ dd,dd=u1.heap.size:=⟨_,rfl⟩;rw[<-hdd];refine⟨dd,rfl,?_⟩;rw[hG.out,hdd];exact⟨Box.new u1 [.int .i64 r.2,.int .i64 r.1] 72,Hu1.out.alloc Hu1.out.size _⟩)|(obtain⟨dd,hdd⟩:∃ dd,dd=w0.heap.size:=⟨_,rfl⟩;rw[<-hdd];refine⟨dd,rfl,?_⟩;rw[hG.out,hdd];exact⟨(HZ.out.set 0 (by simp) (.int .i64 r.2)).set 1 (by simp) (.int .i64 r.1),(Hu2.out.setCell (p:=⟨_,0,none⟩) (Nat.le_refl _) _).setCell (p:=⟨_,1,none⟩) (Nat.le_refl _) _⟩)
  case hrest=>
  intro aD wa hGd
  rw[hG.out] at hGd
  obtain⟨Ya,ka⟩:=hGd
  clear c3 e0 e1 e2 p0 p1 p2 p3 lb lc le nlb nlb' nlc nlc' nle nle'
  clear hG G
  have HB1:=chid (cbelow_on HB0.out ka HB0.out.size)
  replace X0:=chid (X0.out.next ka)
  replace X1:=chid (X1.out.next ka)
  replace X2:=chid (X2.out.next ka)
  have Xa:=chid Ya
  clear ka Ya
  have c0:=X0.out.cell 0 _ rfl
  have c1:=X0.out.cell 1 _ rfl
  have c2:=X0.out.cell 2 _ rfl
  have c3:=X0.out.cell 3 _ rfl
  have lc:=X0.out.lt
  have z0:=Xa.out.cell 0 _ rfl
  have z1:=Xa.out.cell 1 _ rfl
  have zl:=Xa.out.lt
  have q0:=X2.out.cell 0 _ rfl
  have q1:=X2.out.cell 1 _ rfl
  have q2:=X2.out.free 0 (by simp)
  have q3:=X2.out.free 1 (by simp)
  have ql:=X2.out.lt
  by_cases hz:r.2=0
  case neg=>
   have d0:(r.2 != 0)=true:=by simpa using hz
   have hQr:Hid (Q=r):=by
    show _=_
    rw[HT.out]
    have e:ofOneR (uF 8) r=noR r.2:=if_neg hz
    exact e.trans (Prod.ext (HNm.out hz).symm rfl)
   clear HT hb hm hg HC
   go_wp2_with fail
   refine bodyPost_ret (v:=reV r) (by simp[results,Tryz.results35,go_sem, *]) rfl ?_
   exact⟨by rw[hQr.out],(HB1.out.setCell (p:=⟨w.heap.size+1+1,0,none⟩) (by simp;omega) _).setCell (p:=⟨w.heap.size+1+1,1,none⟩) (by simp;omega) _⟩
  obtain⟨r1,r2⟩:=r
  obtain rfl:r2=0:=hz
  change _=some (Value.int .i64 0) at z0
  change _=some (Value.int .i64 r1) at z1
  have hQr:Hid (Q=okR (uF 8 r1)):=by show _=_;rw[HT.out];rfl
  have HU:=chid (fun W:World=>runary_c 8 (by decide) (by decide) ⟨8,n,m,[x]⟩ (.slice (some ⟨b,off,none⟩) 1 cap) rfl HFt.out r1 hg (fun h=>absurd h (by decide)) (fun h=>absurd h (by decide)) ⟨_,_,_,rfl⟩ W (uF 8 r1) rfl)
  clear HT hb hm hg HC HNm
  go_wp2_with fail
  refine Calls.mono (HU.out _) ?_
  rintro e w2 ⟨rfl,b2⟩
  have HB2:=chid (cbelow_on HB1.out b2 HB1.out.size)
  replace X2:=chid (X2.out.next b2)
  clear b2 c0 c1 c2 c3 lc z0 z1 zl q0 q1 q2 q3 ql
  have q0:=X2.out.cell 0 _ rfl
  have q1:=X2.out.cell 1 _ rfl
  have q2:=X2.out.free 0 (by simp)
  have q3:=X2.out.free 1 (by simp)
  have ql:=X2.out.lt
  go_wp2_with fail
  refine bodyPost_ret (v:=reV (okR (uF 8 r1))) (by simp[results,Tryz.results35,go_sem, *]) rfl ?_
  exact⟨by rw[hQr.out],(HB2.out.setCell (p:=⟨w.heap.size+1+1,0,none⟩) (by simp;omega) _).setCell (p:=⟨w.heap.size+1+1,1,none⟩) (by simp;omega) _⟩
 ·obtain⟨w0,hw0⟩:∃ w0,Hid (w0=((w.alloc (.cells (coL ⟨9,n,m,[x]⟩ (.slice (some ⟨b,off,none⟩) 1 cap)).toArray 30)).alloc (.cells #[.int .i64 E.rep,.slice a1 E.wins.length c1,.slice a2 E.crons.length c2] 40)).alloc (.cells #[.int .i64 0,.int .i64 0] 72)):=⟨_,chid rfl⟩
  replace X0:Hid (Box w0 (w.heap.size) (coL ⟨9,n,m,[x]⟩ (.slice (some ⟨b,off,none⟩) 1 cap))):=by rw[hw0.out];exact X0
  replace X1:Hid (Box w0 (w.heap.size+1) ([.int .i64 E.rep,.slice a1 E.wins.length c1,.slice a2 E.crons.length c2])):=by rw[hw0.out];exact X1
  replace X2:Hid (Box w0 (w.heap.size+1+1) ([.int .i64 0,.int .i64 0])):=by rw[hw0.out];exact X2
  replace HB0:Hid (Below w.heap.size w w0):=by rw[hw0.out];exact HB0
  go_enter Tryz.func35,Tryz.ntmps35
  go_wp2_with fail
  rw[<-hw0.out]
  clear hw0
  have c3:=X0.out.cell 3 _ rfl
  have e0:=X1.out.cell 0 _ rfl
  have e1:=X1.out.cell 1 _ rfl
  have e2:=X1.out.cell 2 _ rfl
  obtain⟨p0,p1,p2,p3⟩:=HF0.out.keep (w':=w0) (fun q=>HB0.out.cell (p:=⟨b,q,none⟩) HBl.out)
  simp only[Nat.zero_mul,Nat.add_zero] at p0 p1 p2 p3
  change _=some (Value.int .i64 x.op) at p0
  change _=some (Value.int .i64 x.n) at p1
  change _=some (Value.int .i64 x.m) at p2
  change _=some (Value.slice ad0 x.parts.length cap0) at p3
  have lc:=X0.out.lt
  have le:=X1.out.lt
  have lb:=Nat.lt_of_lt_of_le HBl.out HB0.out.size
  obtain⟨G,hG⟩:∃ G:Nat->World->Prop,Hid (G=fun dd w'=>Box w' dd [.int .i64 r.2,.int .i64 r.1]/\Below w0.heap.size w0 w'):=⟨_,chid rfl⟩
  have nlb:b≠w0.heap.size:=Nat.ne_of_lt lb
  have nlb':w0.heap.size≠b:=Nat.ne_of_gt lb
  have nlc:w.heap.size≠w0.heap.size:=Nat.ne_of_lt lc
  have nlc':w0.heap.size≠w.heap.size:=Nat.ne_of_gt lc
  have nle:w.heap.size+1≠w0.heap.size:=Nat.ne_of_lt le
  have nle':w0.heap.size≠w.heap.size+1:=Nat.ne_of_gt le
  apply via1 G
  case hreg=>
   go_region_held3 (fun w'=>w'.cell? ⟨w.heap.size,3,none⟩=some (.slice (some ⟨b,off,none⟩) 1 cap)/\w'.cell? ⟨w.heap.size+1,0,none⟩=some (.int .i64 E.rep)/\w'.cell? ⟨w.heap.size+1,1,none⟩=some (.slice a1 E.wins.length c1)/\w'.cell? ⟨w.heap.size+1,2,none⟩=some (.slice a2 E.crons.length c2)/\w'.cell? ⟨b,off,none⟩=some (.int .i64 x.op)/\w'.cell? ⟨b,off+1,none⟩=some (.int .i64 x.n)/\w'.cell? ⟨b,off+2,none⟩=some (.int .i64 x.m)/\w'.cell? ⟨b,off+3,none⟩=some (.slice ad0 x.parts.length cap0)) (simp[go_sem, *]) (first|(go_at_call 35;refine Calls.mono (HC.out _ (by exact cdrewN HB0.out _)) ?_;rintro e u1 ⟨rfl,b⟩;have Hu1:Hid (Below w0.heap.size w0 u1):=⟨b.os,b.tape,b.output,b.size,b.block⟩;have g0:=fun p v hp hv=>(Hu1.out.cell (p:=p) hp).trans (hv:w0.cell? p=some v);replace c3:=g0 _ _ lc c3;replace e0:=g0 _ _ le e0;replace e1:=g0 _ _ le e1;replace e2:=g0 _ _ le e2;replace p0:=g0 _ _ lb p0;replace p1:=g0 _ _ lb p1;replace p2:=g0 _ _ lb p2;replace p3:=g0 _ _ lb p3;replace lb:=Nat.lt_of_lt_of_le lb Hu1.out.size;replace lc:=Nat.lt_of_lt_of_le lc Hu1.out.size;replace le:=Nat.lt_of_lt_of_le le Hu1.out.size;clear g0;clear b)|(go_at_call 35;refine Calls.mono (HC.out _ (by exact cbelow_on HB0.out ((cdrewN (Below.refl w0.heap.size w0) _).alloc (Nat.le_refl _) _) HB0.out.size)) ?_;rintro e u2 ⟨rfl,b⟩;have Hu2:Hid (Below w0.heap.size w0 u2):=chid (cbelow_on ((cdrewN (Below.refl w0.heap.size w0) _).alloc (Nat.le_refl _) _) b ((cdrewN (Below.refl w0.heap.size w0) _).alloc (Nat.le_refl _) _).size);have Zz:Box u2 w0.heap.size [.int .i64 0,.int .i64 0]:=Box.next (Box.new (w0.drewN _) [.int .i64 0,.int .i64 0] 72) b;have z0:=Zz.cell 0 _ rfl;have z1:=Zz.cell 1 _ rfl;have z2:=Zz.free 0 (by simp);have z3:=Zz.free 1 (by simp);have zl:=Zz.lt;have HZ:=chid Zz;clear Zz;have g0:=fun p v hp hv=>(Hu2.out.cell (p:=p) hp).trans (hv:w0.cell? p=some v);replace c3:=g0 _ _ lc c3;replace e0:=g0 _ _ le e0;replace e1:=g0 _ _ le e1;replace e2:=g0 _ _ le e2;replace p0:=g0 _ _ lb p0;replace p1:=g0 _ _ lb p1;replace p2:=g0 _ _ lb p2;replace p3:=g0 _ _ lb p3;replace lb:=Nat.lt_of_lt_of_le lb Hu2.out.size;replace lc:=Nat.lt_of_lt_of_le lc Hu2.out.size;replace le:=Nat.lt_of_lt_of_le le Hu2.out.size;clear g0;clear b))
   ·first|(obtain⟨dd,hdd⟩:∃ dd,dd=u1.heap.size:=⟨_,rfl⟩;rw[<-hdd];refine⟨dd,rfl,?_⟩;rw[hG.out,hdd];exact⟨Box.new u1 [.int .i64 r.2,.int .i64 r.1] 72,Hu1.out.alloc Hu1.out.size _⟩)|(obtain⟨dd,hdd⟩:∃ dd,dd=w0.heap.size:=⟨_,rfl⟩;rw[<-hdd];refine⟨dd,rfl,?_⟩;rw[hG.out,hdd];exact⟨(HZ.out.set 0 (by simp) (.int .i64 r.2)).set 1 (by simp) (.int .i64 r.1),(Hu2.out.setCell (p:=⟨_,0,none⟩) (Nat.le_refl _) _).setCell (p:=⟨_,1,none⟩) (Nat.le_refl _) _⟩)
   ·first|(obtain⟨dd,hdd⟩:∃ dd,dd=u1.heap.size:=⟨_,rfl⟩;rw[<-hdd];refine⟨dd,rfl,?_⟩;rw[hG.out,hdd];exact⟨Box.new u1 [.int .i64 r.2,.int .i64 r.1] 72,Hu1.out.alloc Hu1.out.size _⟩)|(obtain⟨dd,hdd⟩:∃ dd,dd=w0.heap.size:=⟨_,rfl⟩;rw[<-hdd];refine⟨dd,rfl,?_⟩;rw[hG.out,hdd];exact⟨(HZ.out.set 0 (by simp) (.int .i64 r.2)).set 1 (by simp) (.int .i64 r.1),(Hu2.out.setCell (p:=⟨_,0,none⟩) (Nat.le_refl _) _).setCell (p:=⟨_,1,none⟩) (Nat.le_refl _) _⟩)
  case hrest=>
  intro aD wa hGd
  rw[hG.out] at hGd
  obtain⟨Ya,ka⟩:=hGd
  clear c3 e0 e1 e2 p0 p1 p2 p3 lb lc le nlb nlb' nlc nlc' nle nle'
  clear hG G
  have HB1:=chid (cbelow_on HB0.out ka HB0.out.size)
  replace X0:=chid (X0.out.next ka)
  replace X1:=chid (X1.out.next ka)
  replace X2:=chid (X2.out.next ka)
  have Xa:=chid Ya
  clear ka Ya
  have c0:=X0.out.cell 0 _ rfl
  have c1:=X0.out.cell 1 _ rfl
  have c2:=X0.out.cell 2 _ rfl
  have c3:=X0.out.cell 3 _ rfl
  have lc:=X0.out.lt
  have z0:=Xa.out.cell 0 _ rfl
  have z1:=Xa.out.cell 1 _ rfl
  have zl:=Xa.out.lt
  have q0:=X2.out.cell 0 _ rfl
  have q1:=X2.out.cell 1 _ rfl
  have q2:=X2.out.free 0 (by simp)
  have q3:=X2.out.free 1 (by simp)
  have ql:=X2.out.lt
  by_cases hz:r.2=0
  case neg=>
   have d0:(r.2 != 0)=true:=by simpa using hz
   have hQr:Hid (Q=r):=by
    show _=_
    rw[HT.out]
    have e:ofOneR (uF 9) r=noR r.2:=if_neg hz
    exact e.trans (Prod.ext (HNm.out hz).symm rfl)
   clear HT hb hm hg HC
   go_wp2_with fail
   refine bodyPost_ret (v:=reV r) (by simp[results,Tryz.results35,go_sem, *]) rfl ?_
   exact⟨by rw[hQr.out],(HB1.out.setCell (p:=⟨w.heap.size+1+1,0,none⟩) (by simp;omega) _).setCell (p:=⟨w.heap.size+1+1,1,none⟩) (by simp;omega) _⟩
  obtain⟨r1,r2⟩:=r
  obtain rfl:r2=0:=hz
  change _=some (Value.int .i64 0) at z0
  change _=some (Value.int .i64 r1) at z1
  have hQr:Hid (Q=okR (uF 9 r1)):=by show _=_;rw[HT.out];rfl
  have HU:=chid (fun W:World=>runary_c 9 (by decide) (by decide) ⟨9,n,m,[x]⟩ (.slice (some ⟨b,off,none⟩) 1 cap) rfl HFt.out r1 hg (fun _=>hb trivial) (fun h=>absurd h (by decide)) ⟨_,_,_,rfl⟩ W (uF 9 r1) rfl)
  clear HT hb hm hg HC HNm
  go_wp2_with fail
  refine Calls.mono (HU.out _) ?_
  rintro e w2 ⟨rfl,b2⟩
  have HB2:=chid (cbelow_on HB1.out b2 HB1.out.size)
  replace X2:=chid (X2.out.next b2)
  clear b2 c0 c1 c2 c3 lc z0 z1 zl q0 q1 q2 q3 ql
  have q0:=X2.out.cell 0 _ rfl
  have q1:=X2.out.cell 1 _ rfl
  have q2:=X2.out.free 0 (by simp)
  have q3:=X2.out.free 1 (by simp)
  have ql:=X2.out.lt
  go_wp2_with fail
  refine bodyPost_ret (v:=reV (okR (uF 9 r1))) (by simp[results,Tryz.results35,go_sem, *]) rfl ?_
  exact⟨by rw[hQr.out],(HB2.out.setCell (p:=⟨w.heap.size+1+1,0,none⟩) (by simp;omega) _).setCell (p:=⟨w.heap.size+1+1,1,none⟩) (by simp;omega) _⟩
 ·obtain⟨w0,hw0⟩:∃ w0,Hid (w0=((w.alloc (.cells (coL ⟨10,n,m,[x]⟩ (.slice (some ⟨b,off,none⟩) 1 cap)).toArray 30)).alloc (.cells #[.int .i64 E.rep,.slice a1 E.wins.length c1,.slice a2 E.crons.length c2] 40)).alloc (.cells #[.int .i64 0,.int .i64 0] 72)):=⟨_,chid rfl⟩
  replace X0:Hid (Box w0 (w.heap.size) (coL ⟨10,n,m,[x]⟩ (.slice (some ⟨b,off,none⟩) 1 cap))):=by rw[hw0.out];exact X0
  replace X1:Hid (Box w0 (w.heap.size+1) ([.int .i64 E.rep,.slice a1 E.wins.length c1,.slice a2 E.crons.length c2])):=by rw[hw0.out];exact X1
  replace X2:Hid (Box w0 (w.heap.size+1+1) ([.int .i64 0,.int .i64 0])):=by rw[hw0.out];exact X2
  replace HB0:Hid (Below w.heap.size w w0):=by rw[hw0.out];exact HB0
  go_enter Tryz.func35,Tryz.ntmps35
  go_wp2_with fail
  rw[<-hw0.out]
  clear hw0
  have c3:=X0.out.cell 3 _ rfl
  have e0:=X1.out.cell 0 _ rfl
  have e1:=X1.out.cell 1 _ rfl
  have e2:=X1.out.cell 2 _ rfl
  obtain⟨p0,p1,p2,p3⟩:=HF0.out.keep (w':=w0) (fun q=>HB0.out.cell (p:=⟨b,q,none⟩) HBl.out)
  simp only[Nat.zero_mul,Nat.add_zero] at p0 p1 p2 p3
  change _=some (Value.int .i64 x.op) at p0
  change _=some (Value.int .i64 x.n) at p1
  change _=some (Value.int .i64 x.m) at p2
  change _=some (Value.slice ad0 x.parts.length cap0) at p3
  have lc:=X0.out.lt
  have le:=X1.out.lt
  have lb:=Nat.lt_of_lt_of_le HBl.out HB0.out.size
  obtain⟨G,hG⟩:∃ G:Nat->World->Prop,Hid (G=fun dd w'=>Box w' dd [.int .i64 r.2,.int .i64 r.1]/\Below w0.heap.size w0 w'):=⟨_,chid rfl⟩
  have nlb:b≠w0.heap.size:=Nat.ne_of_lt lb
  have nlb':w0.heap.size≠b:=Nat.ne_of_gt lb
  have nlc:w.heap.size≠w0.heap.size:=Nat.ne_of_lt lc
  have nlc':w0.heap.size≠w.heap.size:=Nat.ne_of_gt lc
  have nle:w.heap.size+1≠w0.heap.size:=Nat.ne_of_lt le
  have nle':w0.heap.size≠w.heap.size+1:=Nat.ne_of_gt le
  apply via1 G
  case hreg=>
   go_region_held3 (fun w'=>w'.cell? ⟨w.heap.size,3,none⟩=some (.slice (some ⟨b,off,none⟩) 1 cap)/\w'.cell? ⟨w.heap.size+1,0,none⟩=some (.int .i64 E.rep)/\w'.cell? ⟨w.heap.size+1,1,none⟩=some (.slice a1 E.wins.length c1)/\w'.cell? ⟨w.heap.size+1,2,none⟩=some (.slice a2 E.crons.length c2)/\w'.cell? ⟨b,off,none⟩=some (.int .i64 x.op)/\w'.cell? ⟨b,off+1,none⟩=some (.int .i64 x.n)/\w'.cell? ⟨b,off+2,none⟩=some (.int .i64 x.m)/\w'.cell? ⟨b,off+3,none⟩=some (.slice ad0 x.parts.length cap0)) (simp[go_sem, *]) (first|(go_at_call 35;refine Calls.mono (HC.out _ (by exact cdrewN HB0.out _)) ?_;rintro e u1 ⟨rfl,b⟩;have Hu1:Hid (Below w0.heap.size w0 u1):=⟨b.os,b.tape,b.output,b.size,b.block⟩;have g0:=fun p v hp hv=>(Hu1.out.cell (p:=p) hp).trans (hv:w0.cell? p=some v);replace c3:=g0 _ _ lc c3;replace e0:=g0 _ _ le e0;replace e1:=g0 _ _ le e1;replace e2:=g0 _ _ le e2;replace p0:=g0 _ _ lb p0;replace p1:=g0 _ _ lb p1;replace p2:=g0 _ _ lb p2;replace p3:=g0 _ _ lb p3;replace lb:=Nat.lt_of_lt_of_le lb Hu1.out.size;replace lc:=Nat.lt_of_lt_of_le lc Hu1.out.size;replace le:=Nat.lt_of_lt_of_le le Hu1.out.size;clear g0;clear b)|(go_at_call 35;refine Calls.mono (HC.out _ (by exact cbelow_on HB0.out ((cdrewN (Below.refl w0.heap.size w0) _).alloc (Nat.le_refl _) _) HB0.out.size)) ?_;rintro e u2 ⟨rfl,b⟩;have Hu2:Hid (Below w0.heap.size w0 u2):=chid (cbelow_on ((cdrewN (Below.refl w0.heap.size w0) _).alloc (Nat.le_refl _) _) b ((cdrewN (Below.refl w0.heap.size w0) _).alloc (Nat.le_refl _) _).size);have Zz:Box u2 w0.heap.size [.int .i64 0,.int .i64 0]:=Box.next (Box.new (w0.drewN _) [.int .i64 0,.int .i64 0] 72) b;have z0:=Zz.cell 0 _ rfl;have z1:=Zz.cell 1 _ rfl;have z2:=Zz.free 0 (by simp);have z3:=Zz.free 1 (by simp);have zl:=Zz.lt;have HZ:=chid Zz;clear Zz;have g0:=fun p v hp hv=>(Hu2.out.cell (p:=p) hp).trans (hv:w0.cell? p=some v);replace c3:=g0 _ _ lc c3;replace e0:=g0 _ _ le e0;replace e1:=g0 _ _ le e1;replace e2:=g0 _ _ le e2;replace p0:=g0 _ _ lb p0;replace p1:=g0 _ _ lb p1;replace p2:=g0 _ _ lb p2;replace p3:=g0 _ _ lb p3;replace lb:=Nat.lt_of_lt_of_le lb Hu2.out.size;replace lc:=Nat.lt_of_lt_of_le lc Hu2.out.size;replace le:=Nat.lt_of_lt_of_le le Hu2.out.size;clear g0;clear b))
   ·first|(obtain⟨dd,hdd⟩:∃ dd,dd=u1.heap.size:=⟨_,rfl⟩;rw[<-hdd];refine⟨dd,rfl,?_⟩;rw[hG.out,hdd];exact⟨Box.new u1 [.int .i64 r.2,.int .i64 r.1] 72,Hu1.out.alloc Hu1.out.size _⟩)|(obtain⟨dd,hdd⟩:∃ dd,dd=w0.heap.size:=⟨_,rfl⟩;rw[<-hdd];refine⟨dd,rfl,?_⟩;rw[hG.out,hdd];exact⟨(HZ.out.set 0 (by simp) (.int .i64 r.2)).set 1 (by simp) (.int .i64 r.1),(Hu2.out.setCell (p:=⟨_,0,none⟩) (Nat.le_refl _) _).setCell (p:=⟨_,1,none⟩) (Nat.le_refl _) _⟩)
   ·first|(obtain⟨dd,hdd⟩:∃ dd,dd=u1.heap.size:=⟨_,rfl⟩;rw[<-hdd];refine⟨dd,rfl,?_⟩;rw[hG.out,hdd];exact⟨Box.new u1 [.int .i64 r.2,.int .i64 r.1] 72,Hu1.out.alloc Hu1.out.size _⟩)|(obtain⟨dd,hdd⟩:∃ dd,dd=w0.heap.size:=⟨_,rfl⟩;rw[<-hdd];refine⟨dd,rfl,?_⟩;rw[hG.out,hdd];exact⟨(HZ.out.set 0 (by simp) (.int .i64 r.2)).set 1 (by simp) (.int .i64 r.1),(Hu2.out.setCell (p:=⟨_,0,none⟩) (Nat.le_refl _) _).setCell (p:=⟨_,1,none⟩) (Nat.le_refl _) _⟩)
  case hrest=>
  intro aD wa hGd
  rw[hG.out] at hGd
  obtain⟨Ya,ka⟩:=hGd
  clear c3 e0 e1 e2 p0 p1 p2 p3 lb lc le nlb nlb' nlc nlc' nle nle'
  clear hG G
  have HB1:=chid (cbelow_on HB0.out ka HB0.out.size)
  replace X0:=chid (X0.out.next ka)
  replace X1:=chid (X1.out.next ka)
  replace X2:=chid (X2.out.next ka)
  have Xa:=chid Ya
  clear ka Ya
  have c0:=X0.out.cell 0 _ rfl
  have c1:=X0.out.cell 1 _ rfl
  have c2:=X0.out.cell 2 _ rfl
  have c3:=X0.out.cell 3 _ rfl
  have lc:=X0.out.lt
  have z0:=Xa.out.cell 0 _ rfl
  have z1:=Xa.out.cell 1 _ rfl
  have zl:=Xa.out.lt
  have q0:=X2.out.cell 0 _ rfl
  have q1:=X2.out.cell 1 _ rfl
  have q2:=X2.out.free 0 (by simp)
  have q3:=X2.out.free 1 (by simp)
  have ql:=X2.out.lt
  by_cases hz:r.2=0
  case neg=>
   have d0:(r.2 != 0)=true:=by simpa using hz
   have hQr:Hid (Q=r):=by
    show _=_
    rw[HT.out]
    have e:ofOneR (uF 10) r=noR r.2:=if_neg hz
    exact e.trans (Prod.ext (HNm.out hz).symm rfl)
   clear HT hb hm hg HC
   go_wp2_with fail
   refine bodyPost_ret (v:=reV r) (by simp[results,Tryz.results35,go_sem, *]) rfl ?_
   exact⟨by rw[hQr.out],(HB1.out.setCell (p:=⟨w.heap.size+1+1,0,none⟩) (by simp;omega) _).setCell (p:=⟨w.heap.size+1+1,1,none⟩) (by simp;omega) _⟩
  obtain⟨r1,r2⟩:=r
  obtain rfl:r2=0:=hz
  change _=some (Value.int .i64 0) at z0
  change _=some (Value.int .i64 r1) at z1
  have hQr:Hid (Q=okR (uF 10 r1)):=by show _=_;rw[HT.out];rfl
  have HU:=chid (fun W:World=>runary_c 10 (by decide) (by decide) ⟨10,n,m,[x]⟩ (.slice (some ⟨b,off,none⟩) 1 cap) rfl HFt.out r1 hg (fun h=>absurd h (by decide)) (fun h=>absurd h (by decide)) ⟨_,_,_,rfl⟩ W (uF 10 r1) rfl)
  clear HT hb hm hg HC HNm
  go_wp2_with fail
  refine Calls.mono (HU.out _) ?_
  rintro e w2 ⟨rfl,b2⟩
  have HB2:=chid (cbelow_on HB1.out b2 HB1.out.size)
  replace X2:=chid (X2.out.next b2)
  clear b2 c0 c1 c2 c3 lc z0 z1 zl q0 q1 q2 q3 ql
  have q0:=X2.out.cell 0 _ rfl
  have q1:=X2.out.cell 1 _ rfl
  have q2:=X2.out.free 0 (by simp)
  have q3:=X2.out.free 1 (by simp)
  have ql:=X2.out.lt
  go_wp2_with fail
  refine bodyPost_ret (v:=reV (okR (uF 10 r1))) (by simp[results,Tryz.results35,go_sem, *]) rfl ?_
  exact⟨by rw[hQr.out],(HB2.out.setCell (p:=⟨w.heap.size+1+1,0,none⟩) (by simp;omega) _).setCell (p:=⟨w.heap.size+1+1,1,none⟩) (by simp;omega) _⟩
 ·obtain⟨w0,hw0⟩:∃ w0,Hid (w0=((w.alloc (.cells (coL ⟨11,n,m,[x]⟩ (.slice (some ⟨b,off,none⟩) 1 cap)).toArray 30)).alloc (.cells #[.int .i64 E.rep,.slice a1 E.wins.length c1,.slice a2 E.crons.length c2] 40)).alloc (.cells #[.int .i64 0,.int .i64 0] 72)):=⟨_,chid rfl⟩
  replace X0:Hid (Box w0 (w.heap.size) (coL ⟨11,n,m,[x]⟩ (.slice (some ⟨b,off,none⟩) 1 cap))):=by rw[hw0.out];exact X0
  replace X1:Hid (Box w0 (w.heap.size+1) ([.int .i64 E.rep,.slice a1 E.wins.length c1,.slice a2 E.crons.length c2])):=by rw[hw0.out];exact X1
  replace X2:Hid (Box w0 (w.heap.size+1+1) ([.int .i64 0,.int .i64 0])):=by rw[hw0.out];exact X2
  replace HB0:Hid (Below w.heap.size w w0):=by rw[hw0.out];exact HB0
  go_enter Tryz.func35,Tryz.ntmps35
  go_wp2_with fail
  rw[<-hw0.out]
  clear hw0
  have c3:=X0.out.cell 3 _ rfl
  have e0:=X1.out.cell 0 _ rfl
  have e1:=X1.out.cell 1 _ rfl
  have e2:=X1.out.cell 2 _ rfl
  obtain⟨p0,p1,p2,p3⟩:=HF0.out.keep (w':=w0) (fun q=>HB0.out.cell (p:=⟨b,q,none⟩) HBl.out)
  simp only[Nat.zero_mul,Nat.add_zero] at p0 p1 p2 p3
  change _=some (Value.int .i64 x.op) at p0
  change _=some (Value.int .i64 x.n) at p1
  change _=some (Value.int .i64 x.m) at p2
  change _=some (Value.slice ad0 x.parts.length cap0) at p3
  have lc:=X0.out.lt
  have le:=X1.out.lt
  have lb:=Nat.lt_of_lt_of_le HBl.out HB0.out.size
  obtain⟨G,hG⟩:∃ G:Nat->World->Prop,Hid (G=fun dd w'=>Box w' dd [.int .i64 r.2,.int .i64 r.1]/\Below w0.heap.size w0 w'):=⟨_,chid rfl⟩
  have nlb:b≠w0.heap.size:=Nat.ne_of_lt lb
  have nlb':w0.heap.size≠b:=Nat.ne_of_gt lb
  have nlc:w.heap.size≠w0.heap.size:=Nat.ne_of_lt lc
  have nlc':w0.heap.size≠w.heap.size:=Nat.ne_of_gt lc
  have nle:w.heap.size+1≠w0.heap.size:=Nat.ne_of_lt le
  have nle':w0.heap.size≠w.heap.size+1:=Nat.ne_of_gt le
  apply via1 G
  case hreg=>
   go_region_held3 (fun w'=>w'.cell? ⟨w.heap.size,3,none⟩=some (.slice (some ⟨b,off,none⟩) 1 cap)/\w'.cell? ⟨w.heap.size+1,0,none⟩=some (.int .i64 E.rep)/\w'.cell? ⟨w.heap.size+1,1,none⟩=some (.slice a1 E.wins.length c1)/\w'.cell? ⟨w.heap.size+1,2,none⟩=some (.slice a2 E.crons.length c2)/\w'.cell? ⟨b,off,none⟩=some (.int .i64 x.op)/\w'.cell? ⟨b,off+1,none⟩=some (.int .i64 x.n)/\w'.cell? ⟨b,off+2,none⟩=some (.int .i64 x.m)/\w'.cell? ⟨b,off+3,none⟩=some (.slice ad0 x.parts.length cap0)) (simp[go_sem, *]) (first|(go_at_call 35;refine Calls.mono (HC.out _ (by exact cdrewN HB0.out _)) ?_;rintro e u1 ⟨rfl,b⟩;have Hu1:Hid (Below w0.heap.size w0 u1):=⟨b.os,b.tape,b.output,b.size,b.block⟩;have g0:=fun p v hp hv=>(Hu1.out.cell (p:=p) hp).trans (hv:w0.cell? p=some v);replace c3:=g0 _ _ lc c3;replace e0:=g0 _ _ le e0;replace e1:=g0 _ _ le e1;replace e2:=g0 _ _ le e2;replace p0:=g0 _ _ lb p0;replace p1:=g0 _ _ lb p1;replace p2:=g0 _ _ lb p2;replace p3:=g0 _ _ lb p3;replace lb:=Nat.lt_of_lt_of_le lb Hu1.out.size;replace lc:=Nat.lt_of_lt_of_le lc Hu1.out.size;replace le:=Nat.lt_of_lt_of_le le Hu1.out.size;clear g0;clear b)|(go_at_call 35;refine Calls.mono (HC.out _ (by exact cbelow_on HB0.out ((cdrewN (Below.refl w0.heap.size w0) _).alloc (Nat.le_refl _) _) HB0.out.size)) ?_;rintro e u2 ⟨rfl,b⟩;have Hu2:Hid (Below w0.heap.size w0 u2):=chid (cbelow_on ((cdrewN (Below.refl w0.heap.size w0) _).alloc (Nat.le_refl _) _) b ((cdrewN (Below.refl w0.heap.size w0) _).alloc (Nat.le_refl _) _).size);have Zz:Box u2 w0.heap.size [.int .i64 0,.int .i64 0]:=Box.next (Box.new (w0.drewN _) [.int .i64 0,.int .i64 0] 72) b;have z0:=Zz.cell 0 _ rfl;have z1:=Zz.cell 1 _ rfl;have z2:=Zz.free 0 (by simp);have z3:=Zz.free 1 (by simp);have zl:=Zz.lt;have HZ:=chid Zz;clear Zz;have g0:=fun p v hp hv=>(Hu2.out.cell (p:=p) hp).trans (hv:w0.cell? p=some v);replace c3:=g0 _ _ lc c3;replace e0:=g0 _ _ le e0;replace e1:=g0 _ _ le e1;replace e2:=g0 _ _ le e2;replace p0:=g0 _ _ lb p0;replace p1:=g0 _ _ lb p1;replace p2:=g0 _ _ lb p2;replace p3:=g0 _ _ lb p3;replace lb:=Nat.lt_of_lt_of_le lb Hu2.out.size;replace lc:=Nat.lt_of_lt_of_le lc Hu2.out.size;replace le:=Nat.lt_of_lt_of_le le Hu2.out.size;clear g0;clear b))
   ·first|(obtain⟨dd,hdd⟩:∃ dd,dd=u1.heap.size:=⟨_,rfl⟩;rw[<-hdd];refine⟨dd,rfl,?_⟩;rw[hG.out,hdd];exact⟨Box.new u1 [.int .i64 r.2,.int .i64 r.1] 72,Hu1.out.alloc Hu1.out.size _⟩)|(obtain⟨dd,hdd⟩:∃ dd,dd=w0.heap.size:=⟨_,rfl⟩;rw[<-hdd];refine⟨dd,rfl,?_⟩;rw[hG.out,hdd];exact⟨(HZ.out.set 0 (by simp) (.int .i64 r.2)).set 1 (by simp) (.int .i64 r.1),(Hu2.out.setCell (p:=⟨_,0,none⟩) (Nat.le_refl _) _).setCell (p:=⟨_,1,none⟩) (Nat.le_refl _) _⟩)
   ·first|(obtain⟨dd,hdd⟩:∃ dd,dd=u1.heap.size:=⟨_,rfl⟩;rw[<-hdd];refine⟨dd,rfl,?_⟩;rw[hG.out,hdd];exact⟨Box.new u1 [.int .i64 r.2,.int .i64 r.1] 72,Hu1.out.alloc Hu1.out.size _⟩)|(obtain⟨dd,hdd⟩:∃ dd,dd=w0.heap.size:=⟨_,rfl⟩;rw[<-hdd];refine⟨dd,rfl,?_⟩;rw[hG.out,hdd];exact⟨(HZ.out.set 0 (by simp) (.int .i64 r.2)).set 1 (by simp) (.int .i64 r.1),(Hu2.out.setCell (p:=⟨_,0,none⟩) (Nat.le_refl _) _).setCell (p:=⟨_,1,none⟩) (Nat.le_refl _) _⟩)
  case hrest=>
  intro aD wa hGd
  rw[hG.out] at hGd
  obtain⟨Ya,ka⟩:=hGd
  clear c3 e0 e1 e2 p0 p1 p2 p3 lb lc le nlb nlb' nlc nlc' nle nle'
  clear hG G
  have HB1:=chid (cbelow_on HB0.out ka HB0.out.size)
  replace X0:=chid (X0.out.next ka)
  replace X1:=chid (X1.out.next ka)
  replace X2:=chid (X2.out.next ka)
  have Xa:=chid Ya
  clear ka Ya
  have c0:=X0.out.cell 0 _ rfl
  have c1:=X0.out.cell 1 _ rfl
  have c2:=X0.out.cell 2 _ rfl
  have c3:=X0.out.cell 3 _ rfl
  have lc:=X0.out.lt
  have z0:=Xa.out.cell 0 _ rfl
  have z1:=Xa.out.cell 1 _ rfl
  have zl:=Xa.out.lt
  have q0:=X2.out.cell 0 _ rfl
  have q1:=X2.out.cell 1 _ rfl
  have q2:=X2.out.free 0 (by simp)
  have q3:=X2.out.free 1 (by simp)
  have ql:=X2.out.lt
  by_cases hz:r.2=0
  case neg=>
   have d0:(r.2 != 0)=true:=by simpa using hz
   have hQr:Hid (Q=r):=by
    show _=_
    rw[HT.out]
    have e:ofOneR (uF 11) r=noR r.2:=if_neg hz
    exact e.trans (Prod.ext (HNm.out hz).symm rfl)
   clear HT hb hm hg HC
   go_wp2_with fail
   refine bodyPost_ret (v:=reV r) (by simp[results,Tryz.results35,go_sem, *]) rfl ?_
   exact⟨by rw[hQr.out],(HB1.out.setCell (p:=⟨w.heap.size+1+1,0,none⟩) (by simp;omega) _).setCell (p:=⟨w.heap.size+1+1,1,none⟩) (by simp;omega) _⟩
  obtain⟨r1,r2⟩:=r
  obtain rfl:r2=0:=hz
  change _=some (Value.int .i64 0) at z0
  change _=some (Value.int .i64 r1) at z1
  have hQr:Hid (Q=okR (uF 11 r1)):=by show _=_;rw[HT.out];rfl
  have HU:=chid (fun W:World=>runary_c 11 (by decide) (by decide) ⟨11,n,m,[x]⟩ (.slice (some ⟨b,off,none⟩) 1 cap) rfl HFt.out r1 hg (fun h=>absurd h (by decide)) (fun h=>absurd h (by decide)) ⟨_,_,_,rfl⟩ W (uF 11 r1) rfl)
  clear HT hb hm hg HC HNm
  go_wp2_with fail
  refine Calls.mono (HU.out _) ?_
  rintro e w2 ⟨rfl,b2⟩
  have HB2:=chid (cbelow_on HB1.out b2 HB1.out.size)
  replace X2:=chid (X2.out.next b2)
  clear b2 c0 c1 c2 c3 lc z0 z1 zl q0 q1 q2 q3 ql
  have q0:=X2.out.cell 0 _ rfl
  have q1:=X2.out.cell 1 _ rfl
  have q2:=X2.out.free 0 (by simp)
  have q3:=X2.out.free 1 (by simp)
  have ql:=X2.out.lt
  go_wp2_with fail
  refine bodyPost_ret (v:=reV (okR (uF 11 r1))) (by simp[results,Tryz.results35,go_sem, *]) rfl ?_
  exact⟨by rw[hQr.out],(HB2.out.setCell (p:=⟨w.heap.size+1+1,0,none⟩) (by simp;omega) _).setCell (p:=⟨w.heap.size+1+1,1,none⟩) (by simp;omega) _⟩
 ·obtain⟨w0,hw0⟩:∃ w0,Hid (w0=((w.alloc (.cells (coL ⟨12,n,m,[x]⟩ (.slice (some ⟨b,off,none⟩) 1 cap)).toArray 30)).alloc (.cells #[.int .i64 E.rep,.slice a1 E.wins.length c1,.slice a2 E.crons.length c2] 40)).alloc (.cells #[.int .i64 0,.int .i64 0] 72)):=⟨_,chid rfl⟩
  replace X0:Hid (Box w0 (w.heap.size) (coL ⟨12,n,m,[x]⟩ (.slice (some ⟨b,off,none⟩) 1 cap))):=by rw[hw0.out];exact X0
  replace X1:Hid (Box w0 (w.heap.size+1) ([.int .i64 E.rep,.slice a1 E.wins.length c1,.slice a2 E.crons.length c2])):=by rw[hw0.out];exact X1
  replace X2:Hid (Box w0 (w.heap.size+1+1) ([.int .i64 0,.int .i64 0])):=by rw[hw0.out];exact X2
  replace HB0:Hid (Below w.heap.size w w0):=by rw[hw0.out];exact HB0
  go_enter Tryz.func35,Tryz.ntmps35
  go_wp2_with fail
  rw[<-hw0.out]
  clear hw0
  have c3:=X0.out.cell 3 _ rfl
  have e0:=X1.out.cell 0 _ rfl
  have e1:=X1.out.cell 1 _ rfl
  have e2:=X1.out.cell 2 _ rfl
  obtain⟨p0,p1,p2,p3⟩:=HF0.out.keep (w':=w0) (fun q=>HB0.out.cell (p:=⟨b,q,none⟩) HBl.out)
  simp only[Nat.zero_mul,Nat.add_zero] at p0 p1 p2 p3
  change _=some (Value.int .i64 x.op) at p0
  change _=some (Value.int .i64 x.n) at p1
  change _=some (Value.int .i64 x.m) at p2
  change _=some (Value.slice ad0 x.parts.length cap0) at p3
  have lc:=X0.out.lt
  have le:=X1.out.lt
  have lb:=Nat.lt_of_lt_of_le HBl.out HB0.out.size
  obtain⟨G,hG⟩:∃ G:Nat->World->Prop,Hid (G=fun dd w'=>Box w' dd [.int .i64 r.2,.int .i64 r.1]/\Below w0.heap.size w0 w'):=⟨_,chid rfl⟩
  have nlb:b≠w0.heap.size:=Nat.ne_of_lt lb
  have nlb':w0.heap.size≠b:=Nat.ne_of_gt lb
  have nlc:w.heap.size≠w0.heap.size:=Nat.ne_of_lt lc
  have nlc':w0.heap.size≠w.heap.size:=Nat.ne_of_gt lc
  have nle:w.heap.size+1≠w0.heap.size:=Nat.ne_of_lt le
  have nle':w0.heap.size≠w.heap.size+1:=Nat.ne_of_gt le
  apply via1 G
  case hreg=>
   go_region_held3 (fun w'=>w'.cell? ⟨w.heap.size,3,none⟩=some (.slice (some ⟨b,off,none⟩) 1 cap)/\w'.cell? ⟨w.heap.size+1,0,none⟩=some (.int .i64 E.rep)/\w'.cell? ⟨w.heap.size+1,1,none⟩=some (.slice a1 E.wins.length c1)/\w'.cell? ⟨w.heap.size+1,2,none⟩=some (.slice a2 E.crons.length c2)/\w'.cell? ⟨b,off,none⟩=some (.int .i64 x.op)/\w'.cell? ⟨b,off+1,none⟩=some (.int .i64 x.n)/\w'.cell? ⟨b,off+2,none⟩=some (.int .i64 x.m)/\w'.cell? ⟨b,off+3,none⟩=some (.slice ad0 x.parts.length cap0)) (simp[go_sem, *]) (first|(go_at_call 35;refine Calls.mono (HC.out _ (by exact cdrewN HB0.out _)) ?_;rintro e u1 ⟨rfl,b⟩;have Hu1:Hid (Below w0.heap.size w0 u1):=⟨b.os,b.tape,b.output,b.size,b.block⟩;have g0:=fun p v hp hv=>(Hu1.out.cell (p:=p) hp).trans (hv:w0.cell? p=some v);replace c3:=g0 _ _ lc c3;replace e0:=g0 _ _ le e0;replace e1:=g0 _ _ le e1;replace e2:=g0 _ _ le e2;replace p0:=g0 _ _ lb p0;replace p1:=g0 _ _ lb p1;replace p2:=g0 _ _ lb p2;replace p3:=g0 _ _ lb p3;replace lb:=Nat.lt_of_lt_of_le lb Hu1.out.size;replace lc:=Nat.lt_of_lt_of_le lc Hu1.out.size;replace le:=Nat.lt_of_lt_of_le le Hu1.out.size;clear g0;clear b)|(go_at_call 35;refine Calls.mono (HC.out _ (by exact cbelow_on HB0.out ((cdrewN (Below.refl w0.heap.size w0) _).alloc (Nat.le_refl _) _) HB0.out.size)) ?_;rintro e u2 ⟨rfl,b⟩;have Hu2:Hid (Below w0.heap.size w0 u2):=chid (cbelow_on ((cdrewN (Below.refl w0.heap.size w0) _).alloc (Nat.le_refl _) _) b ((cdrewN (Below.refl w0.heap.size w0) _).alloc (Nat.le_refl _) _).size);have Zz:Box u2 w0.heap.size [.int .i64 0,.int .i64 0]:=Box.next (Box.new (w0.drewN _) [.int .i64 0,.int .i64 0] 72) b;have z0:=Zz.cell 0 _ rfl;have z1:=Zz.cell 1 _ rfl;have z2:=Zz.free 0 (by simp);have z3:=Zz.free 1 (by simp);have zl:=Zz.lt;have HZ:=chid Zz;clear Zz;have g0:=fun p v hp hv=>(Hu2.out.cell (p:=p) hp).trans (hv:w0.cell? p=some v);replace c3:=g0 _ _ lc c3;replace e0:=g0 _ _ le e0;replace e1:=g0 _ _ le e1;replace e2:=g0 _ _ le e2;replace p0:=g0 _ _ lb p0;replace p1:=g0 _ _ lb p1;replace p2:=g0 _ _ lb p2;replace p3:=g0 _ _ lb p3;replace lb:=Nat.lt_of_lt_of_le lb Hu2.out.size;replace lc:=Nat.lt_of_lt_of_le lc Hu2.out.size;replace le:=Nat.lt_of_lt_of_le le Hu2.out.size;clear g0;clear b))
   ·first|(obtain⟨dd,hdd⟩:∃ dd,dd=u1.heap.size:=⟨_,rfl⟩;rw[<-hdd];refine⟨dd,rfl,?_⟩;rw[hG.out,hdd];exact⟨Box.new u1 [.int .i64 r.2,.int .i64 r.1] 72,Hu1.out.alloc Hu1.out.size _⟩)|(obtain⟨dd,hdd⟩:∃ dd,dd=w0.heap.size:=⟨_,rfl⟩;rw[<-hdd];refine⟨dd,rfl,?_⟩;rw[hG.out,hdd];exact⟨(HZ.out.set 0 (by simp) (.int .i64 r.2)).set 1 (by simp) (.int .i64 r.1),(Hu2.out.setCell (p:=⟨_,0,none⟩) (Nat.le_refl _) _).setCell (p:=⟨_,1,none⟩) (Nat.le_refl _) _⟩)
   ·first|(obtain⟨dd,hdd⟩:∃ dd,dd=u1.heap.size:=⟨_,rfl⟩;rw[<-hdd];refine⟨dd,rfl,?_⟩;rw[hG.out,hdd];exact⟨Box.new u1 [.int .i64 r.2,.int .i64 r.1] 72,Hu1.out.alloc Hu1.out.size _⟩)|(obtain⟨dd,hdd⟩:∃ dd,dd=w0.heap.size:=⟨_,rfl⟩;rw[<-hdd];refine⟨dd,rfl,?_⟩;rw[hG.out,hdd];exact⟨(HZ.out.set 0 (by simp) (.int .i64 r.2)).set 1 (by simp) (.int .i64 r.1),(Hu2.out.setCell (p:=⟨_,0,none⟩) (Nat.le_refl _) _).setCell (p:=⟨_,1,none⟩) (Nat.le_refl _) _⟩)
  case hrest=>
  intro aD wa hGd
  rw[hG.out] at hGd
  obtain⟨Ya,ka⟩:=hGd
  clear c3 e0 e1 e2 p0 p1 p2 p3 lb lc le nlb nlb' nlc nlc' nle nle'
  clear hG G
  have HB1:=chid (cbelow_on HB0.out ka HB0.out.size)
  replace X0:=chid (X0.out.next ka)
  replace X1:=chid (X1.out.next ka)
  replace X2:=chid (X2.out.next ka)
  have Xa:=chid Ya
  clear ka Ya
  have c0:=X0.out.cell 0 _ rfl
  have c1:=X0.out.cell 1 _ rfl
  have c2:=X0.out.cell 2 _ rfl
  have c3:=X0.out.cell 3 _ rfl
  have lc:=X0.out.lt
  have z0:=Xa.out.cell 0 _ rfl
  have z1:=Xa.out.cell 1 _ rfl
  have zl:=Xa.out.lt
  have q0:=X2.out.cell 0 _ rfl
  have q1:=X2.out.cell 1 _ rfl
  have q2:=X2.out.free 0 (by simp)
  have q3:=X2.out.free 1 (by simp)
  have ql:=X2.out.lt
  by_cases hz:r.2=0
  case neg=>
   have d0:(r.2 != 0)=true:=by simpa using hz
   have hQr:Hid (Q=r):=by
    show _=_
    rw[HT.out]
    have e:ofOneR (uF 12) r=noR r.2:=if_neg hz
    exact e.trans (Prod.ext (HNm.out hz).symm rfl)
   clear HT hb hm hg HC
   go_wp2_with fail
   refine bodyPost_ret (v:=reV r) (by simp[results,Tryz.results35,go_sem, *]) rfl ?_
   exact⟨by rw[hQr.out],(HB1.out.setCell (p:=⟨w.heap.size+1+1,0,none⟩) (by simp;omega) _).setCell (p:=⟨w.heap.size+1+1,1,none⟩) (by simp;omega) _⟩
  obtain⟨r1,r2⟩:=r
  obtain rfl:r2=0:=hz
  change _=some (Value.int .i64 0) at z0
  change _=some (Value.int .i64 r1) at z1
  have hQr:Hid (Q=okR (uF 12 r1)):=by show _=_;rw[HT.out];rfl
  have HU:=chid (fun W:World=>runary_c 12 (by decide) (by decide) ⟨12,n,m,[x]⟩ (.slice (some ⟨b,off,none⟩) 1 cap) rfl HFt.out r1 hg (fun h=>absurd h (by decide)) (fun h=>absurd h (by decide)) ⟨_,_,_,rfl⟩ W (uF 12 r1) rfl)
  clear HT hb hm hg HC HNm
  go_wp2_with fail
  refine Calls.mono (HU.out _) ?_
  rintro e w2 ⟨rfl,b2⟩
  have HB2:=chid (cbelow_on HB1.out b2 HB1.out.size)
  replace X2:=chid (X2.out.next b2)
  clear b2 c0 c1 c2 c3 lc z0 z1 zl q0 q1 q2 q3 ql
  have q0:=X2.out.cell 0 _ rfl
  have q1:=X2.out.cell 1 _ rfl
  have q2:=X2.out.free 0 (by simp)
  have q3:=X2.out.free 1 (by simp)
  have ql:=X2.out.lt
  go_wp2_with fail
  refine bodyPost_ret (v:=reV (okR (uF 12 r1))) (by simp[results,Tryz.results35,go_sem, *]) rfl ?_
  exact⟨by rw[hQr.out],(HB2.out.setCell (p:=⟨w.heap.size+1+1,0,none⟩) (by simp;omega) _).setCell (p:=⟨w.heap.size+1+1,1,none⟩) (by simp;omega) _⟩
 ·obtain⟨w0,hw0⟩:∃ w0,Hid (w0=((w.alloc (.cells (coL ⟨13,n,m,[x]⟩ (.slice (some ⟨b,off,none⟩) 1 cap)).toArray 30)).alloc (.cells #[.int .i64 E.rep,.slice a1 E.wins.length c1,.slice a2 E.crons.length c2] 40)).alloc (.cells #[.int .i64 0,.int .i64 0] 72)):=⟨_,chid rfl⟩
  replace X0:Hid (Box w0 (w.heap.size) (coL ⟨13,n,m,[x]⟩ (.slice (some ⟨b,off,none⟩) 1 cap))):=by rw[hw0.out];exact X0
  replace X1:Hid (Box w0 (w.heap.size+1) ([.int .i64 E.rep,.slice a1 E.wins.length c1,.slice a2 E.crons.length c2])):=by rw[hw0.out];exact X1
  replace X2:Hid (Box w0 (w.heap.size+1+1) ([.int .i64 0,.int .i64 0])):=by rw[hw0.out];exact X2
  replace HB0:Hid (Below w.heap.size w w0):=by rw[hw0.out];exact HB0
  go_enter Tryz.func35,Tryz.ntmps35
  go_wp2_with fail
  rw[<-hw0.out]
  clear hw0
  have c3:=X0.out.cell 3 _ rfl
  have e0:=X1.out.cell 0 _ rfl
  have e1:=X1.out.cell 1 _ rfl
  have e2:=X1.out.cell 2 _ rfl
  obtain⟨p0,p1,p2,p3⟩:=HF0.out.keep (w':=w0) (fun q=>HB0.out.cell (p:=⟨b,q,none⟩) HBl.out)
  simp only[Nat.zero_mul,Nat.add_zero] at p0 p1 p2 p3
  change _=some (Value.int .i64 x.op) at p0
  change _=some (Value.int .i64 x.n) at p1
  change _=some (Value.int .i64 x.m) at p2
  change _=some (Value.slice ad0 x.parts.length cap0) at p3
  have lc:=X0.out.lt
  have le:=X1.out.lt
  have lb:=Nat.lt_of_lt_of_le HBl.out HB0.out.size
  obtain⟨G,hG⟩:∃ G:Nat->World->Prop,Hid (G=fun dd w'=>Box w' dd [.int .i64 r.2,.int .i64 r.1]/\Below w0.heap.size w0 w'):=⟨_,chid rfl⟩
  have nlb:b≠w0.heap.size:=Nat.ne_of_lt lb
  have nlb':w0.heap.size≠b:=Nat.ne_of_gt lb
  have nlc:w.heap.size≠w0.heap.size:=Nat.ne_of_lt lc
  have nlc':w0.heap.size≠w.heap.size:=Nat.ne_of_gt lc
  have nle:w.heap.size+1≠w0.heap.size:=Nat.ne_of_lt le
  have nle':w0.heap.size≠w.heap.size+1:=Nat.ne_of_gt le
  apply via1 G
  case hreg=>
   go_region_held3 (fun w'=>w'.cell? ⟨w.heap.size,3,none⟩=some (.slice (some ⟨b,off,none⟩) 1 cap)/\w'.cell? ⟨w.heap.size+1,0,none⟩=some (.int .i64 E.rep)/\w'.cell? ⟨w.heap.size+1,1,none⟩=some (.slice a1 E.wins.length c1)/\w'.cell? ⟨w.heap.size+1,2,none⟩=some (.slice a2 E.crons.length c2)/\w'.cell? ⟨b,off,none⟩=some (.int .i64 x.op)/\w'.cell? ⟨b,off+1,none⟩=some (.int .i64 x.n)/\w'.cell? ⟨b,off+2,none⟩=some (.int .i64 x.m)/\w'.cell? ⟨b,off+3,none⟩=some (.slice ad0 x.parts.length cap0)) (simp[go_sem, *]) (first|(go_at_call 35;refine Calls.mono (HC.out _ (by exact cdrewN HB0.out _)) ?_;rintro e u1 ⟨rfl,b⟩;have Hu1:Hid (Below w0.heap.size w0 u1):=⟨b.os,b.tape,b.output,b.size,b.block⟩;have g0:=fun p v hp hv=>(Hu1.out.cell (p:=p) hp).trans (hv:w0.cell? p=some v);replace c3:=g0 _ _ lc c3;replace e0:=g0 _ _ le e0;replace e1:=g0 _ _ le e1;replace e2:=g0 _ _ le e2;replace p0:=g0 _ _ lb p0;replace p1:=g0 _ _ lb p1;replace p2:=g0 _ _ lb p2;replace p3:=g0 _ _ lb p3;replace lb:=Nat.lt_of_lt_of_le lb Hu1.out.size;replace lc:=Nat.lt_of_lt_of_le lc Hu1.out.size;replace le:=Nat.lt_of_lt_of_le le Hu1.out.size;clear g0;clear b)|(go_at_call 35;refine Calls.mono (HC.out _ (by exact cbelow_on HB0.out ((cdrewN (Below.refl w0.heap.size w0) _).alloc (Nat.le_refl _) _) HB0.out.size)) ?_;rintro e u2 ⟨rfl,b⟩;have Hu2:Hid (Below w0.heap.size w0 u2):=chid (cbelow_on ((cdrewN (Below.refl w0.heap.size w0) _).alloc (Nat.le_refl _) _) b ((cdrewN (Below.refl w0.heap.size w0) _).alloc (Nat.le_refl _) _).size);have Zz:Box u2 w0.heap.size [.int .i64 0,.int .i64 0]:=Box.next (Box.new (w0.drewN _) [.int .i64 0,.int .i64 0] 72) b;have z0:=Zz.cell 0 _ rfl;have z1:=Zz.cell 1 _ rfl;have z2:=Zz.free 0 (by simp);have z3:=Zz.free 1 (by simp);have zl:=Zz.lt;have HZ:=chid Zz;clear Zz;have g0:=fun p v hp hv=>(Hu2.out.cell (p:=p) hp).trans (hv:w0.cell? p=some v);replace c3:=g0 _ _ lc c3;replace e0:=g0 _ _ le e0;replace e1:=g0 _ _ le e1;replace e2:=g0 _ _ le e2;replace p0:=g0 _ _ lb p0;replace p1:=g0 _ _ lb p1;replace p2:=g0 _ _ lb p2;replace p3:=g0 _ _ lb p3;replace lb:=Nat.lt_of_lt_of_le lb Hu2.out.size;replace lc:=Nat.lt_of_lt_of_le lc Hu2.out.size;replace le:=Nat.lt_of_lt_of_le le Hu2.out.size;clear g0;clear b))
   ·first|(obtain⟨dd,hdd⟩:∃ dd,dd=u1.heap.size:=⟨_,rfl⟩;rw[<-hdd];refine⟨dd,rfl,?_⟩;rw[hG.out,hdd];exact⟨Box.new u1 [.int .i64 r.2,.int .i64 r.1] 72,Hu1.out.alloc Hu1.out.size _⟩)|(obtain⟨dd,hdd⟩:∃ dd,dd=w0.heap.size:=⟨_,rfl⟩;rw[<-hdd];refine⟨dd,rfl,?_⟩;rw[hG.out,hdd];exact⟨(HZ.out.set 0 (by simp) (.int .i64 r.2)).set 1 (by simp) (.int .i64 r.1),(Hu2.out.setCell (p:=⟨_,0,none⟩) (Nat.le_refl _) _).setCell (p:=⟨_,1,none⟩) (Nat.le_refl _) _⟩)
   ·first|(obtain⟨dd,hdd⟩:∃ dd,dd=u1.heap.size:=⟨_,rfl⟩;rw[<-hdd];refine⟨dd,rfl,?_⟩;rw[hG.out,hdd];exact⟨Box.new u1 [.int .i64 r.2,.int .i64 r.1] 72,Hu1.out.alloc Hu1.out.size _⟩)|(obtain⟨dd,hdd⟩:∃ dd,dd=w0.heap.size:=⟨_,rfl⟩;rw[<-hdd];refine⟨dd,rfl,?_⟩;rw[hG.out,hdd];exact⟨(HZ.out.set 0 (by simp) (.int .i64 r.2)).set 1 (by simp) (.int .i64 r.1),(Hu2.out.setCell (p:=⟨_,0,none⟩) (Nat.le_refl _) _).setCell (p:=⟨_,1,none⟩) (Nat.le_refl _) _⟩)
  case hrest=>
  intro aD wa hGd
  rw[hG.out] at hGd
  obtain⟨Ya,ka⟩:=hGd
  clear c3 e0 e1 e2 p0 p1 p2 p3 lb lc le nlb nlb' nlc nlc' nle nle'
  clear hG G
  have HB1:=chid (cbelow_on HB0.out ka HB0.out.size)
  replace X0:=chid (X0.out.next ka)
  replace X1:=chid (X1.out.next ka)
  replace X2:=chid (X2.out.next ka)
  have Xa:=chid Ya
  clear ka Ya
  have c0:=X0.out.cell 0 _ rfl
  have c1:=X0.out.cell 1 _ rfl
  have c2:=X0.out.cell 2 _ rfl
  have c3:=X0.out.cell 3 _ rfl
  have lc:=X0.out.lt
  have z0:=Xa.out.cell 0 _ rfl
  have z1:=Xa.out.cell 1 _ rfl
  have zl:=Xa.out.lt
  have q0:=X2.out.cell 0 _ rfl
  have q1:=X2.out.cell 1 _ rfl
  have q2:=X2.out.free 0 (by simp)
  have q3:=X2.out.free 1 (by simp)
  have ql:=X2.out.lt
  by_cases hz:r.2=0
  case neg=>
   have d0:(r.2 != 0)=true:=by simpa using hz
   have hQr:Hid (Q=r):=by
    show _=_
    rw[HT.out]
    have e:ofOneR (fun a=>held (a*n/m)) r=noR r.2:=if_neg hz
    exact e.trans (Prod.ext (HNm.out hz).symm rfl)
   clear HT hb hm hg HC
   go_wp2_with fail
   refine bodyPost_ret (v:=reV r) (by simp[results,Tryz.results35,go_sem, *]) rfl ?_
   exact⟨by rw[hQr.out],(HB1.out.setCell (p:=⟨w.heap.size+1+1,0,none⟩) (by simp;omega) _).setCell (p:=⟨w.heap.size+1+1,1,none⟩) (by simp;omega) _⟩
  obtain⟨r1,r2⟩:=r
  obtain rfl:r2=0:=hz
  change _=some (Value.int .i64 0) at z0
  change _=some (Value.int .i64 r1) at z1
  have hQr:Hid (Q=okR (held (r1*n/m))):=by show _=_;rw[HT.out];rfl
  have HU:=chid (fun W:World=>runary_c 13 (by decide) (by decide) ⟨13,n,m,[x]⟩ (.slice (some ⟨b,off,none⟩) 1 cap) rfl HFt.out r1 hg (fun h=>absurd h (by decide)) (fun _=>hm trivial) ⟨_,_,_,rfl⟩ W (held (r1*n/m)) rfl)
  clear HT hb hm hg HC HNm
  go_wp2_with fail
  refine Calls.mono (HU.out _) ?_
  rintro e w2 ⟨rfl,b2⟩
  have HB2:=chid (cbelow_on HB1.out b2 HB1.out.size)
  replace X2:=chid (X2.out.next b2)
  clear b2 c0 c1 c2 c3 lc z0 z1 zl q0 q1 q2 q3 ql
  have q0:=X2.out.cell 0 _ rfl
  have q1:=X2.out.cell 1 _ rfl
  have q2:=X2.out.free 0 (by simp)
  have q3:=X2.out.free 1 (by simp)
  have ql:=X2.out.lt
  go_wp2_with fail
  refine bodyPost_ret (v:=reV (okR (held (r1*n/m)))) (by simp[results,Tryz.results35,go_sem, *]) rfl ?_
  exact⟨by rw[hQr.out],(HB2.out.setCell (p:=⟨w.heap.size+1+1,0,none⟩) (by simp;omega) _).setCell (p:=⟨w.heap.size+1+1,1,none⟩) (by simp;omega) _⟩
end Go.Proofs.YtepncopdjodfgaaGreatDoor
