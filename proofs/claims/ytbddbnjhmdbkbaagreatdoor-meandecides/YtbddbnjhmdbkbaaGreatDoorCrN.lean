import Derived.Test.YtbddbnjhmdbkbaaGreatDoorMrM
namespace Go.Proofs.YtbddbnjhmdbkbaaGreatDoor
open Go.RowKit
def opR (k:Nat)(a b:Int):Rs:=if k=17 then b3e a b else okR (bF k a b)
theorem b7M (F:Int->Int->Rs)(a b:Int):a0E F (a,0) (b,0)=F a b:=rfl
def OpK (k:Nat)(c:Int):Prop:=(k=14/\c=14)\/(k=15/\c=15)\/(k=16/\c=16)\/(k=17/\c=17)\/(k=18/\c=18)\/(k=19/\c=19)\/(k=20/\c=20)\/(k=21/\c=21)\/(k=22/\c=22)\/(k=23/\c=23)\/(k=24/\c=24)
set_option maxHeartbeats 40000000 in
set_option maxRecDepth 20000 in
theorem a1p (k:Nat)(c:Int)(hk:OpK k c)(E:a0u)(n m:Int)(x y:Co)(ih0:REv E x)(ih1:REv E y)(hg0:C64 (a0d E x).1)(hg1:C64 (a0d E y).1):REv E ⟨c,n,m,[x,y]⟩:=by
 intro v v1 v2 w hs he
 have HE:=a0a he
 have HNm0:=a0a (a1A E x)
 obtain⟨r0,hr0⟩:∃ r,Hid (r=a0d E x):=⟨_,a0a rfl⟩
 have HNm1:=a0a (a1A E y)
 obtain⟨r1,hr1⟩:∃ r,Hid (r=a0d E y):=⟨_,a0a rfl⟩
 obtain⟨b,off,cap,rfl,-,-,hbl,hx⟩:=hs.parts.open (by show 0<2;decide)
 obtain⟨u0,f0,s0⟩:∃ u,a4h w b (off+0*4) x u/\a0p w x u:=hx 0 (by show 0<2;decide)
 obtain⟨u1,f1,s1⟩:∃ u,a4h w b (off+1*4) y u/\a0p w y u:=hx 1 (by show 1<2;decide)
 obtain⟨a1,c1,a2,c2,rfl,rfl⟩:=he.shape
 have HC0:Hid (∀ W,Below w.heap.size w W->Calls Tryz.prog 64 #[coV x u0,a7c E (.slice a1 E.wins.length c1) (.slice a2 E.crons.length c2)] W fun e w'=>e=.returned (reV r0)/\Below W.heap.size W w'):=a0a (fun W hW=>by rw[hr0.out];exact ih0 u0 _ _ W (s0.next hW) (HE.out.next hW))
 rw[<-hr0.out] at hg0 HNm0
 obtain⟨ad0,cap0,rfl,-,-⟩:=s0.parts.shape
 have HF0:=a0a f0
 have HC1:Hid (∀ W,Below w.heap.size w W->Calls Tryz.prog 64 #[coV y u1,a7c E (.slice a1 E.wins.length c1) (.slice a2 E.crons.length c2)] W fun e w'=>e=.returned (reV r1)/\Below W.heap.size W w'):=a0a (fun W hW=>by rw[hr1.out];exact ih1 u1 _ _ W (s1.next hW) (HE.out.next hW))
 rw[<-hr1.out] at hg1 HNm1
 obtain⟨ad1,cap1,rfl,-,-⟩:=s1.parts.shape
 have HF1:=a0a f1
 have HBl:=a0a hbl
 obtain⟨Q,hQ⟩:∃ Q,Hid (Q=a0d E ⟨c,n,m,[x,y]⟩):=⟨_,a0a rfl⟩
 rw[<-hQ.out]
 have HT:Hid (Q=a0E (opR k) r0 r1):=by show _=_;rw[hQ.out,hr0.out,hr1.out,a0f];rcases hk with ⟨rfl,rfl⟩ | ⟨rfl,rfl⟩ | ⟨rfl,rfl⟩ | ⟨rfl,rfl⟩ | ⟨rfl,rfl⟩ | ⟨rfl,rfl⟩ | ⟨rfl,rfl⟩ | ⟨rfl,rfl⟩ | ⟨rfl,rfl⟩ | ⟨rfl,rfl⟩ | ⟨rfl,rfl⟩<;>rfl
 have HU:Hid (∀ (Q:Rs) (ra rb:Int),C64 ra->C64 rb->Q=opR k ra rb->∀ W:World,Calls Tryz.prog 115 #[.int .i64 c,.int .i64 ra,.int .i64 rb] W fun e w'=>e=.returned (reV Q)/\Below W.heap.size W w'):=a0a (fun Q ra rb g0 g1 hq W=>by have hc:(k:Int)=c:=by {rcases hk with ⟨rfl,rfl⟩ | ⟨rfl,rfl⟩ | ⟨rfl,rfl⟩ | ⟨rfl,rfl⟩ | ⟨rfl,rfl⟩ | ⟨rfl,rfl⟩ | ⟨rfl,rfl⟩ | ⟨rfl,rfl⟩ | ⟨rfl,rfl⟩ | ⟨rfl,rfl⟩ | ⟨rfl,rfl⟩<;>rfl};rw[<-hc];exact b4h k (by rcases hk with ⟨rfl,rfl⟩ | ⟨rfl,rfl⟩ | ⟨rfl,rfl⟩ | ⟨rfl,rfl⟩ | ⟨rfl,rfl⟩ | ⟨rfl,rfl⟩ | ⟨rfl,rfl⟩ | ⟨rfl,rfl⟩ | ⟨rfl,rfl⟩ | ⟨rfl,rfl⟩ | ⟨rfl,rfl⟩<;>decide) (by rcases hk with ⟨rfl,rfl⟩ | ⟨rfl,rfl⟩ | ⟨rfl,rfl⟩ | ⟨rfl,rfl⟩ | ⟨rfl,rfl⟩ | ⟨rfl,rfl⟩ | ⟨rfl,rfl⟩ | ⟨rfl,rfl⟩ | ⟨rfl,rfl⟩ | ⟨rfl,rfl⟩ | ⟨rfl,rfl⟩<;>decide) ra rb g0 g1 W Q hq)
 obtain⟨Y0,Y1,Y2,B0⟩:=a0r w 30 40 84 (coL ⟨c,n,m,[x,y]⟩ (.slice (some ⟨b,off,none⟩) 2 cap)) [.int .i64 E.rep,.slice a1 E.wins.length c1,.slice a2 E.crons.length c2] [.int .i64 0,.int .i64 0]
 obtain⟨w0,hw0⟩:∃ w0,Hid (w0=((w.alloc (.cells (coL ⟨c,n,m,[x,y]⟩ (.slice (some ⟨b,off,none⟩) 2 cap)).toArray 30)).alloc (.cells #[.int .i64 E.rep,.slice a1 E.wins.length c1,.slice a2 E.crons.length c2] 40)).alloc (.cells #[.int .i64 0,.int .i64 0] 84)):=⟨_,a0a rfl⟩
 have X0:Hid (Box w0 w.heap.size (coL ⟨c,n,m,[x,y]⟩ (.slice (some ⟨b,off,none⟩) 2 cap))):=by rw[hw0.out];exact a0a Y0
 have X1:Hid (Box w0 (w.heap.size+1) [.int .i64 E.rep,.slice a1 E.wins.length c1,.slice a2 E.crons.length c2]):=by rw[hw0.out];exact a0a Y1
 have X2:Hid (Box w0 (w.heap.size+1+1) [.int .i64 0,.int .i64 0]):=by rw[hw0.out];exact a0a Y2
 have HB0:Hid (Below w.heap.size w w0):=by rw[hw0.out];exact a0a B0
 clear Y0 Y1 Y2 B0
 clear hs he ih0 ih1 hx f0 f1 s0 s1 hr0 hr1 hQ hbl
 rcases hk with ⟨rfl,rfl⟩ | ⟨rfl,rfl⟩ | ⟨rfl,rfl⟩ | ⟨rfl,rfl⟩ | ⟨rfl,rfl⟩ | ⟨rfl,rfl⟩ | ⟨rfl,rfl⟩ | ⟨rfl,rfl⟩ | ⟨rfl,rfl⟩ | ⟨rfl,rfl⟩ | ⟨rfl,rfl⟩
 all_goals as_aux_lemma=>
  go_enter Tryz.func64,Tryz.ntmps64
  go_wp2_with fail
  rw[<-hw0.out]
  clear hw0
  have c3:=X0.out.cell 3 _ rfl
  obtain⟨e0,e1,e2⟩:=Box.c3 X1.out
  obtain⟨p0,p1,p2,p3⟩:=HF0.out.keep (w':=w0) (fun q=>HB0.out.cell (p:=⟨b,q,none⟩) HBl.out)
  change World.cell? _ ⟨b,off,none⟩=some (Value.int .i64 x.op) at p0
  change World.cell? _ ⟨b,off+1,none⟩=some (Value.int .i64 x.n) at p1
  change World.cell? _ ⟨b,off+2,none⟩=some (Value.int .i64 x.m) at p2
  change World.cell? _ ⟨b,off+3,none⟩=some (Value.slice ad0 x.parts.length cap0) at p3
  have lc:=X0.out.lt
  have le:=X1.out.lt
  have lb:=ZA HBl.out HB0.out.size
  obtain⟨G,hG⟩:∃ G:Nat->World->Prop,Hid (G=fun dd w'=>Box w' dd [.int .i64 r0.2,.int .i64 r0.1]/\Below w0.heap.size w0 w'):=⟨_,a0a rfl⟩
  have nlb:b≠w0.heap.size:=Nat.ne_of_lt lb
  have nlb':w0.heap.size≠b:=Nat.ne_of_gt lb
  have nlc:w.heap.size≠w0.heap.size:=Nat.ne_of_lt lc
  have nlc':w0.heap.size≠w.heap.size:=Nat.ne_of_gt lc
  have nle:w.heap.size+1≠w0.heap.size:=Nat.ne_of_lt le
  have nle':w0.heap.size≠w.heap.size+1:=Nat.ne_of_gt le
  apply b6w G
  case hreg=>
   go_region_held3 (fun w'=>w'.cell? ⟨w.heap.size,3,none⟩=some (.slice (some ⟨b,off,none⟩) 2 cap)/\w'.cell? ⟨w.heap.size+1,0,none⟩=some (.int .i64 E.rep)/\w'.cell? ⟨w.heap.size+1,1,none⟩=some (.slice a1 E.wins.length c1)/\w'.cell? ⟨w.heap.size+1,2,none⟩=some (.slice a2 E.crons.length c2)/\w'.cell? ⟨b,off,none⟩=some (.int .i64 x.op)/\w'.cell? ⟨b,off+1,none⟩=some (.int .i64 x.n)/\w'.cell? ⟨b,off+2,none⟩=some (.int .i64 x.m)/\w'.cell? ⟨b,off+3,none⟩=some (.slice ad0 x.parts.length cap0)) (simp[go_sem, *]) (first|(go_at_call 64;refine ZE (HC0.out _ (by exact a0e HB0.out _)) ?_;rintro e u1 ⟨rfl,b⟩;have Hu1:Hid (Below w0.heap.size w0 u1):=⟨b.os,b.tape,b.output,b.size,b.block⟩;have g0:=fun p v hp hv=>(Hu1.out.cell (p:=p) hp).trans (hv:w0.cell? p=some v);replace c3:=g0 _ _ lc c3;replace e0:=g0 _ _ le e0;replace e1:=g0 _ _ le e1;replace e2:=g0 _ _ le e2;replace p0:=g0 _ _ lb p0;replace p1:=g0 _ _ lb p1;replace p2:=g0 _ _ lb p2;replace p3:=g0 _ _ lb p3;replace lb:=ZA lb Hu1.out.size;replace lc:=ZA lc Hu1.out.size;replace le:=ZA le Hu1.out.size;clear g0;clear b)|(go_at_call 64;refine ZE (HC0.out _ (by exact a0b HB0.out ((a0e (ZD w0.heap.size w0) _).alloc (ZB _) _) HB0.out.size)) ?_;rintro e u2 ⟨rfl,b⟩;have Hu2:Hid (Below w0.heap.size w0 u2):=a0a (a0b ((a0e (ZD w0.heap.size w0) _).alloc (ZB _) _) b ((a0e (ZD w0.heap.size w0) _).alloc (ZB _) _).size);have Zz:Box u2 w0.heap.size [.int .i64 0,.int .i64 0]:=Box.next (Box.new (w0.drewN _) [.int .i64 0,.int .i64 0] 84) b;have z0:=Zz.cell 0 _ rfl;have z1:=Zz.cell 1 _ rfl;have z2:=Zz.free 0 (by simp);have z3:=Zz.free 1 (by simp);have zl:=Zz.lt;have HZ:=a0a Zz;clear Zz;have g0:=fun p v hp hv=>(Hu2.out.cell (p:=p) hp).trans (hv:w0.cell? p=some v);replace c3:=g0 _ _ lc c3;replace e0:=g0 _ _ le e0;replace e1:=g0 _ _ le e1;replace e2:=g0 _ _ le e2;replace p0:=g0 _ _ lb p0;replace p1:=g0 _ _ lb p1;replace p2:=g0 _ _ lb p2;replace p3:=g0 _ _ lb p3;replace lb:=ZA lb Hu2.out.size;replace lc:=ZA lc Hu2.out.size;replace le:=ZA le Hu2.out.size;clear g0;clear b))
   ·first|(obtain⟨dd,hdd⟩:∃ dd,dd=u1.heap.size:=⟨_,rfl⟩;rw[<-hdd];refine⟨dd,rfl,?_⟩;rw[hG.out,hdd];exact⟨Box.new u1 [.int .i64 r0.2,.int .i64 r0.1] 84,Hu1.out.alloc Hu1.out.size _⟩)|(obtain⟨dd,hdd⟩:∃ dd,dd=w0.heap.size:=⟨_,rfl⟩;rw[<-hdd];refine⟨dd,rfl,?_⟩;rw[hG.out,hdd];exact⟨(HZ.out.set 0 (by simp) (.int .i64 r0.2)).set 1 (by simp) (.int .i64 r0.1),(Hu2.out.setCell (p:=⟨_,0,none⟩) (ZB _) _).setCell (p:=⟨_,1,none⟩) (ZB _) _⟩)
   ·first|(obtain⟨dd,hdd⟩:∃ dd,dd=u1.heap.size:=⟨_,rfl⟩;rw[<-hdd];refine⟨dd,rfl,?_⟩;rw[hG.out,hdd];exact⟨Box.new u1 [.int .i64 r0.2,.int .i64 r0.1] 84,Hu1.out.alloc Hu1.out.size _⟩)|(obtain⟨dd,hdd⟩:∃ dd,dd=w0.heap.size:=⟨_,rfl⟩;rw[<-hdd];refine⟨dd,rfl,?_⟩;rw[hG.out,hdd];exact⟨(HZ.out.set 0 (by simp) (.int .i64 r0.2)).set 1 (by simp) (.int .i64 r0.1),(Hu2.out.setCell (p:=⟨_,0,none⟩) (ZB _) _).setCell (p:=⟨_,1,none⟩) (ZB _) _⟩)
  case hrest=>
  intro aD wa hGd
  rw[hG.out] at hGd
  obtain⟨Ya,ka⟩:=hGd
  clear c3 e0 e1 e2 p0 p1 p2 p3 lb lc le nlb nlb' nlc nlc' nle nle'
  clear hG G
  have HB1:=kb HB0 ka
  replace X0:=kn X0 ka
  replace X1:=kn X1 ka
  replace X2:=kn X2 ka
  have Xa:=a0a Ya
  clear ka Ya
  obtain⟨c0,c1,c2,c3⟩:=Box.c4 X0.out
  have lc:=X0.out.lt
  obtain⟨z0,z1⟩:=Box.c2 Xa.out
  have zl:=Xa.out.lt
  obtain⟨q0,q1⟩:=Box.c2 X2.out
  have q2:=X2.out.free 0 (by simp)
  have q3:=X2.out.free 1 (by simp)
  have ql:=X2.out.lt
  by_cases hz:r0.2=0
  case neg=>
   have d0:(r0.2 != 0)=true:=by simpa using hz
   have hQr:Hid (Q=r0):=by show _=_;rw[HT.out];exact(if_neg hz).trans (Prod.ext (HNm0.out hz).symm rfl)
   clear HT hg0 hg1 HC0 HC1 HU
   go_wp2_with fail
   refine bodyPost_ret (v:=reV (r0)) (by simp[results,Tryz.results64,go_sem, *]) rfl ?_
   exact⟨by rw[hQr.out],(HB1.out.setCell (p:=⟨w.heap.size+1+1,0,none⟩) (by simp;omega) _).setCell (p:=⟨w.heap.size+1+1,1,none⟩) (by simp;omega) _⟩
  obtain⟨ra,rz⟩:=r0
  obtain rfl:rz=0:=hz
  change _=some (Value.int .i64 0) at z0
  change _=some (Value.int .i64 ra) at z1
  replace Xa:Hid (Box wa aD [.int .i64 0,.int .i64 ra]):=Xa
  clear HC0 HNm0
  go_wp2_with fail
  clear c0 c1 c2 c3 lc z0 z1 zl q0 q1 q2 q3 ql
  have c3:=X0.out.cell 3 _ rfl
  obtain⟨e0,e1,e2⟩:=Box.c3 X1.out
  obtain⟨p0,p1,p2,p3⟩:=HF1.out.keep (w':=wa) (fun q=>HB1.out.cell (p:=⟨b,q,none⟩) HBl.out)
  change World.cell? _ ⟨b,off+4,none⟩=some (Value.int .i64 y.op) at p0
  change World.cell? _ ⟨b,off+5,none⟩=some (Value.int .i64 y.n) at p1
  change World.cell? _ ⟨b,off+6,none⟩=some (Value.int .i64 y.m) at p2
  change World.cell? _ ⟨b,off+7,none⟩=some (Value.slice ad1 y.parts.length cap1) at p3
  have lc:=X0.out.lt
  have le:=X1.out.lt
  have lb:=ZA HBl.out HB1.out.size
  obtain⟨G,hG⟩:∃ G:Nat->World->Prop,Hid (G=fun dd w'=>Box w' dd [.int .i64 r1.2,.int .i64 r1.1]/\Below wa.heap.size wa w'):=⟨_,a0a rfl⟩
  have nlb:b≠wa.heap.size:=Nat.ne_of_lt lb
  have nlb':wa.heap.size≠b:=Nat.ne_of_gt lb
  have nlc:w.heap.size≠wa.heap.size:=Nat.ne_of_lt lc
  have nlc':wa.heap.size≠w.heap.size:=Nat.ne_of_gt lc
  have nle:w.heap.size+1≠wa.heap.size:=Nat.ne_of_lt le
  have nle':wa.heap.size≠w.heap.size+1:=Nat.ne_of_gt le
  apply b6w G
  case hreg=>
   go_region_held3 (fun w'=>w'.cell? ⟨w.heap.size,3,none⟩=some (.slice (some ⟨b,off,none⟩) 2 cap)/\w'.cell? ⟨w.heap.size+1,0,none⟩=some (.int .i64 E.rep)/\w'.cell? ⟨w.heap.size+1,1,none⟩=some (.slice a1 E.wins.length c1)/\w'.cell? ⟨w.heap.size+1,2,none⟩=some (.slice a2 E.crons.length c2)/\w'.cell? ⟨b,off+4,none⟩=some (.int .i64 y.op)/\w'.cell? ⟨b,off+5,none⟩=some (.int .i64 y.n)/\w'.cell? ⟨b,off+6,none⟩=some (.int .i64 y.m)/\w'.cell? ⟨b,off+7,none⟩=some (.slice ad1 y.parts.length cap1)) (simp[go_sem, *]) (first|(go_at_call 64;refine ZE (HC1.out _ (by exact a0e HB1.out _)) ?_;rintro e u1 ⟨rfl,b⟩;have Hu1:Hid (Below wa.heap.size wa u1):=⟨b.os,b.tape,b.output,b.size,b.block⟩;have g0:=fun p v hp hv=>(Hu1.out.cell (p:=p) hp).trans (hv:wa.cell? p=some v);replace c3:=g0 _ _ lc c3;replace e0:=g0 _ _ le e0;replace e1:=g0 _ _ le e1;replace e2:=g0 _ _ le e2;replace p0:=g0 _ _ lb p0;replace p1:=g0 _ _ lb p1;replace p2:=g0 _ _ lb p2;replace p3:=g0 _ _ lb p3;replace lb:=ZA lb Hu1.out.size;replace lc:=ZA lc Hu1.out.size;replace le:=ZA le Hu1.out.size;clear g0;clear b)|(go_at_call 64;refine ZE (HC1.out _ (by exact a0b HB1.out ((a0e (ZD wa.heap.size wa) _).alloc (ZB _) _) HB1.out.size)) ?_;rintro e u2 ⟨rfl,b⟩;have Hu2:Hid (Below wa.heap.size wa u2):=a0a (a0b ((a0e (ZD wa.heap.size wa) _).alloc (ZB _) _) b ((a0e (ZD wa.heap.size wa) _).alloc (ZB _) _).size);have Zz:Box u2 wa.heap.size [.int .i64 0,.int .i64 0]:=Box.next (Box.new (wa.drewN _) [.int .i64 0,.int .i64 0] 84) b;have z0:=Zz.cell 0 _ rfl;have z1:=Zz.cell 1 _ rfl;have z2:=Zz.free 0 (by simp);have z3:=Zz.free 1 (by simp);have zl:=Zz.lt;have HZ:=a0a Zz;clear Zz;have g0:=fun p v hp hv=>(Hu2.out.cell (p:=p) hp).trans (hv:wa.cell? p=some v);replace c3:=g0 _ _ lc c3;replace e0:=g0 _ _ le e0;replace e1:=g0 _ _ le e1;replace e2:=g0 _ _ le e2;replace p0:=g0 _ _ lb p0;replace p1:=g0 _ _ lb p1;replace p2:=g0 _ _ lb p2;replace p3:=g0 _ _ lb p3;replace lb:=ZA lb Hu2.out.size;replace lc:=ZA lc Hu2.out.size;replace le:=ZA le Hu2.out.size;clear g0;clear b))
   ·first|(obtain⟨dd,hdd⟩:∃ dd,dd=u1.heap.size:=⟨_,rfl⟩;rw[<-hdd];refine⟨dd,rfl,?_⟩;rw[hG.out,hdd];exact⟨Box.new u1 [.int .i64 r1.2,.int .i64 r1.1] 84,Hu1.out.alloc Hu1.out.size _⟩)|(obtain⟨dd,hdd⟩:∃ dd,dd=wa.heap.size:=⟨_,rfl⟩;rw[<-hdd];refine⟨dd,rfl,?_⟩;rw[hG.out,hdd];exact⟨(HZ.out.set 0 (by simp) (.int .i64 r1.2)).set 1 (by simp) (.int .i64 r1.1),(Hu2.out.setCell (p:=⟨_,0,none⟩) (ZB _) _).setCell (p:=⟨_,1,none⟩) (ZB _) _⟩)
   ·first|(obtain⟨dd,hdd⟩:∃ dd,dd=u1.heap.size:=⟨_,rfl⟩;rw[<-hdd];refine⟨dd,rfl,?_⟩;rw[hG.out,hdd];exact⟨Box.new u1 [.int .i64 r1.2,.int .i64 r1.1] 84,Hu1.out.alloc Hu1.out.size _⟩)|(obtain⟨dd,hdd⟩:∃ dd,dd=wa.heap.size:=⟨_,rfl⟩;rw[<-hdd];refine⟨dd,rfl,?_⟩;rw[hG.out,hdd];exact⟨(HZ.out.set 0 (by simp) (.int .i64 r1.2)).set 1 (by simp) (.int .i64 r1.1),(Hu2.out.setCell (p:=⟨_,0,none⟩) (ZB _) _).setCell (p:=⟨_,1,none⟩) (ZB _) _⟩)
  case hrest=>
  intro bD wb hGd
  rw[hG.out] at hGd
  obtain⟨Yb,ka⟩:=hGd
  clear c3 e0 e1 e2 p0 p1 p2 p3 lb lc le nlb nlb' nlc nlc' nle nle'
  clear hG G
  have HB2:=kb HB1 ka
  replace X0:=kn X0 ka
  replace X1:=kn X1 ka
  replace X2:=kn X2 ka
  replace Xa:=kn Xa ka
  have Xb:=a0a Yb
  clear ka Yb
  obtain⟨c0,c1,c2,c3⟩:=Box.c4 X0.out
  have lc:=X0.out.lt
  obtain⟨z0,z1⟩:=Box.c2 Xa.out
  have zl:=Xa.out.lt
  obtain⟨t0,t1⟩:=Box.c2 Xb.out
  have tl:=Xb.out.lt
  obtain⟨q0,q1⟩:=Box.c2 X2.out
  have q2:=X2.out.free 0 (by simp)
  have q3:=X2.out.free 1 (by simp)
  have ql:=X2.out.lt
  by_cases hz:r1.2=0
  case neg=>
   have d0:(r1.2 != 0)=true:=by simpa using hz
   have hQr:Hid (Q=r1):=by show _=_;rw[HT.out];exact(if_pos rfl).trans ((if_neg hz).trans (Prod.ext (HNm1.out hz).symm rfl))
   clear HT hg0 hg1 HC1 HU
   go_wp2_with fail
   refine bodyPost_ret (v:=reV (r1)) (by simp[results,Tryz.results64,go_sem, *]) rfl ?_
   exact⟨by rw[hQr.out],(HB2.out.setCell (p:=⟨w.heap.size+1+1,0,none⟩) (by simp;omega) _).setCell (p:=⟨w.heap.size+1+1,1,none⟩) (by simp;omega) _⟩
  obtain⟨rb,rz⟩:=r1
  obtain rfl:rz=0:=hz
  change _=some (Value.int .i64 0) at t0
  change _=some (Value.int .i64 rb) at t1
  have HV:=a0a (HU.out Q ra rb hg0 hg1 (HT.out.trans (b7M _ _ _)))
  clear HT hg0 hg1 HC1 HNm1 HU
  go_wp2_with fail
  refine ZE (HV.out _) ?_
  rintro e w2 ⟨rfl,b2⟩
  have HB3:=kb HB2 b2
  replace X2:=kn X2 b2
  clear b2 c0 c1 c2 c3 lc z0 z1 zl t0 t1 tl q0 q1 q2 q3 ql
  obtain⟨q0,q1⟩:=Box.c2 X2.out
  have q2:=X2.out.free 0 (by simp)
  have q3:=X2.out.free 1 (by simp)
  have ql:=X2.out.lt
  go_wp2_with fail
  refine bodyPost_ret (v:=reV Q) (by simp[results,Tryz.results64,go_sem, *]) rfl ?_
  exact⟨rfl,(HB3.out.setCell (p:=⟨w.heap.size+1+1,0,none⟩) (by simp;omega) _).setCell (p:=⟨w.heap.size+1+1,1,none⟩) (by simp;omega) _⟩
end Go.Proofs.YtbddbnjhmdbkbaaGreatDoor
