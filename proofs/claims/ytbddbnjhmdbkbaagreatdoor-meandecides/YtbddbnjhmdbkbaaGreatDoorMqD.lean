import Derived.Test.YtbddbnjhmdbkbaaGreatDoorMgP
import Derived.Test.YtbddbnjhmdbkbaaGreatDoorMgU
import Derived.Test.YtbddbnjhmdbkbaaGreatDoorMhO
namespace Go.Proofs.YtbddbnjhmdbkbaaGreatDoor
open Go.RowKit
def c1Z (E:a0u)(t:Co):Prop:=∀ (v v1 v2:Value) (w:World),a0p w t v->a3j w E v1 v2->Calls Tryz.prog 65 #[coV t v,a7c E v1 v2] w fun e w'=>e=.returned (a2O (a0d E t))/\Below w.heap.size w w'
set_option maxHeartbeats 4000000 in
set_option maxRecDepth 20000 in
theorem b8S (E:a0u)(n m:Int)(ps:List Co):c1Z E ⟨29,n,m,ps⟩:=by
 intro v v1 v2 w hs he
 obtain⟨ad,cap,rfl,-,-⟩:=hs.parts.shape
 obtain⟨e1,d1,e2,d2,rfl,rfl⟩:=he.shape
 have hR:Hid (a2O (a0d E ⟨29,n,m,ps⟩)=.agg #[.bool true,.int .i64 4,.int .i64 0]):=a0a (by rw[a0f];rfl)
 have HA:Hid (∀ o o' o'',Below w.heap.size w (((w.alloc o).alloc o').alloc o'')):=fun o o' o''=>(((ZD _ _).alloc (ZB _) _).alloc (by simp) _).alloc (by simp;omega) _
 clear hs he
 go_enter Tryz.func65,Tryz.ntmps65
 go_wp2_with fail
 refine bodyPost_ret (v:=.agg #[.bool true,.int .i64 4,.int .i64 0]) (by simp[results,Tryz.results65,go_sem, *]) rfl ?_
 exact⟨by rw[hR.out],HA.out _ _ _⟩
set_option maxHeartbeats 4000000 in
set_option maxRecDepth 20000 in
theorem c3q (E:a0u)(n m:Int)(x:Co)(ih:REv E x)(hg:C64 (a0d E x).1):c1Z E ⟨30,n,m,[x]⟩:=by
 intro v v1 v2 w hs he
 have HE:=a0a he
 have HS:=a0a hs
 obtain⟨r,hr⟩:∃ r,Hid (r=a0d E x):=⟨_,a0a rfl⟩
 obtain⟨Q,hQ⟩:∃ Q,Hid (Q=a0d E ⟨30,n,m,[x]⟩):=⟨_,a0a rfl⟩
 rw[<-hQ.out]
 have HT:Hid (Q=a0t a0M r):=a0a (by rw[hQ.out,hr.out,a0f];rfl)
 obtain⟨b,off,cap,rfl,-,-,hbl,hx⟩:=hs.parts.open (by show 0<1;decide)
 obtain⟨u0,f0,s0⟩:∃ u,a4h w b (off+0*4) x u/\a0p w x u:=hx 0 (by show 0<1;decide)
 obtain⟨a1,c1,a2,c2,rfl,rfl⟩:=he.shape
 have HC:Hid (∀ W,Below w.heap.size w W->Calls Tryz.prog 64 #[coV x u0,a7c E (.slice a1 E.wins.length c1) (.slice a2 E.crons.length c2)] W fun e w'=>e=.returned (reV r)/\Below W.heap.size W w'):=a0a (fun W hW=>by rw[hr.out];exact ih u0 _ _ W (s0.next hW) (HE.out.next hW))
 rw[<-hr.out] at hg
 obtain⟨ad0,cap0,rfl,-,-⟩:=s0.parts.shape
 obtain⟨Y0,Y1,Y2,B0⟩:=a0r w 30 40 48 (coL ⟨30,n,m,[x]⟩ (.slice (some ⟨b,off,none⟩) 1 cap)) [.int .i64 E.rep,.slice a1 E.wins.length c1,.slice a2 E.crons.length c2] [.bool false,.int .i64 0,.int .i64 0]
 have X0:=a0a Y0
 have X1:=a0a Y1
 have X2:=a0a Y2
 have HB0:=a0a B0
 have HF0:=a0a f0
 have HBl:=a0a hbl
 clear hs he ih hx Y0 Y1 Y2 B0 f0 s0 hr hQ hbl
 obtain⟨w0,hw0⟩:∃ w0,Hid (w0=((w.alloc (.cells (coL ⟨30,n,m,[x]⟩ (.slice (some ⟨b,off,none⟩) 1 cap)).toArray 30)).alloc (.cells #[.int .i64 E.rep,.slice a1 E.wins.length c1,.slice a2 E.crons.length c2] 40)).alloc (.cells #[.bool false,.int .i64 0,.int .i64 0] 48)):=⟨_,a0a rfl⟩
 replace X0:Hid (Box w0 (w.heap.size) (coL ⟨30,n,m,[x]⟩ (.slice (some ⟨b,off,none⟩) 1 cap))):=by rw[hw0.out];exact X0
 replace X1:Hid (Box w0 (w.heap.size+1) ([.int .i64 E.rep,.slice a1 E.wins.length c1,.slice a2 E.crons.length c2])):=by rw[hw0.out];exact X1
 replace X2:Hid (Box w0 (w.heap.size+1+1) ([.bool false,.int .i64 0,.int .i64 0])):=by rw[hw0.out];exact X2
 replace HB0:Hid (Below w.heap.size w w0):=by rw[hw0.out];exact HB0
 go_enter Tryz.func65,Tryz.ntmps65
 go_wp2_with fail
 rw[<-hw0.out]
 clear hw0
 have c3:=X0.out.cell 3 _ rfl
 obtain⟨e0,e1,e2⟩:=Box.c3 X1.out
 obtain⟨p0,p1,p2,p3⟩:=HF0.out.keep (w':=w0) (fun q=>HB0.out.cell (p:=⟨b,q,none⟩) HBl.out)
 simp only[Nat.zero_mul,Nat.add_zero] at p0 p1 p2 p3
 change _=some (Value.int .i64 x.op) at p0
 change _=some (Value.int .i64 x.n) at p1
 change _=some (Value.int .i64 x.m) at p2
 change _=some (Value.slice ad0 x.parts.length cap0) at p3
 have lc:=X0.out.lt
 have le:=X1.out.lt
 have lb:=ZA HBl.out HB0.out.size
 obtain⟨G,hG⟩:∃ G:Nat->World->Prop,Hid (G=fun dd w'=>Box w' dd [.int .i64 r.2,.int .i64 r.1]/\Below w0.heap.size w0 w'):=⟨_,a0a rfl⟩
 have nlb:b≠w0.heap.size:=Nat.ne_of_lt lb
 have nlb':w0.heap.size≠b:=Nat.ne_of_gt lb
 have nlc:w.heap.size≠w0.heap.size:=Nat.ne_of_lt lc
 have nlc':w0.heap.size≠w.heap.size:=Nat.ne_of_gt lc
 have nle:w.heap.size+1≠w0.heap.size:=Nat.ne_of_lt le
 have nle':w0.heap.size≠w.heap.size+1:=Nat.ne_of_gt le
 apply b6w G
 case hreg=>
  go_region_held3 (fun w'=>w'.cell? ⟨w.heap.size,3,none⟩=some (.slice (some ⟨b,off,none⟩) 1 cap)/\w'.cell? ⟨w.heap.size+1,0,none⟩=some (.int .i64 E.rep)/\w'.cell? ⟨w.heap.size+1,1,none⟩=some (.slice a1 E.wins.length c1)/\w'.cell? ⟨w.heap.size+1,2,none⟩=some (.slice a2 E.crons.length c2)/\w'.cell? ⟨b,off,none⟩=some (.int .i64 x.op)/\w'.cell? ⟨b,off+1,none⟩=some (.int .i64 x.n)/\w'.cell? ⟨b,off+2,none⟩=some (.int .i64 x.m)/\w'.cell? ⟨b,off+3,none⟩=some (.slice ad0 x.parts.length cap0)) (simp[go_sem, *]) (first|(go_at_call 64;refine ZE (HC.out _ (by exact a0e HB0.out _)) ?_;rintro e u1 ⟨rfl,b⟩;have Hu1:Hid (Below w0.heap.size w0 u1):=⟨b.os,b.tape,b.output,b.size,b.block⟩;have g0:=fun p v hp hv=>(Hu1.out.cell (p:=p) hp).trans (hv:w0.cell? p=some v);replace c3:=g0 _ _ lc c3;replace e0:=g0 _ _ le e0;replace e1:=g0 _ _ le e1;replace e2:=g0 _ _ le e2;replace p0:=g0 _ _ lb p0;replace p1:=g0 _ _ lb p1;replace p2:=g0 _ _ lb p2;replace p3:=g0 _ _ lb p3;replace lb:=ZA lb Hu1.out.size;replace lc:=ZA lc Hu1.out.size;replace le:=ZA le Hu1.out.size;clear g0;clear b)|(go_at_call 64;refine ZE (HC.out _ (by exact a0b HB0.out ((a0e (ZD w0.heap.size w0) _).alloc (ZB _) _) HB0.out.size)) ?_;rintro e u2 ⟨rfl,b⟩;have Hu2:Hid (Below w0.heap.size w0 u2):=a0a (a0b ((a0e (ZD w0.heap.size w0) _).alloc (ZB _) _) b ((a0e (ZD w0.heap.size w0) _).alloc (ZB _) _).size);have Zz:Box u2 w0.heap.size [.int .i64 0,.int .i64 0]:=Box.next (Box.new (w0.drewN _) [.int .i64 0,.int .i64 0] 84) b;have z0:=Zz.cell 0 _ rfl;have z1:=Zz.cell 1 _ rfl;have z2:=Zz.free 0 (by simp);have z3:=Zz.free 1 (by simp);have zl:=Zz.lt;have HZ:=a0a Zz;clear Zz;have g0:=fun p v hp hv=>(Hu2.out.cell (p:=p) hp).trans (hv:w0.cell? p=some v);replace c3:=g0 _ _ lc c3;replace e0:=g0 _ _ le e0;replace e1:=g0 _ _ le e1;replace e2:=g0 _ _ le e2;replace p0:=g0 _ _ lb p0;replace p1:=g0 _ _ lb p1;replace p2:=g0 _ _ lb p2;replace p3:=g0 _ _ lb p3;replace lb:=ZA lb Hu2.out.size;replace lc:=ZA lc Hu2.out.size;replace le:=ZA le Hu2.out.size;clear g0;clear b))
  ·first|(obtain⟨dd,hdd⟩:∃ dd,dd=u1.heap.size:=⟨_,rfl⟩;rw[<-hdd];refine⟨dd,rfl,?_⟩;rw[hG.out,hdd];exact⟨Box.new u1 [.int .i64 r.2,.int .i64 r.1] 84,Hu1.out.alloc Hu1.out.size _⟩)|(obtain⟨dd,hdd⟩:∃ dd,dd=w0.heap.size:=⟨_,rfl⟩;rw[<-hdd];refine⟨dd,rfl,?_⟩;rw[hG.out,hdd];exact⟨(HZ.out.set 0 (by simp) (.int .i64 r.2)).set 1 (by simp) (.int .i64 r.1),(Hu2.out.setCell (p:=⟨_,0,none⟩) (ZB _) _).setCell (p:=⟨_,1,none⟩) (ZB _) _⟩)
  ·first|(obtain⟨dd,hdd⟩:∃ dd,dd=u1.heap.size:=⟨_,rfl⟩;rw[<-hdd];refine⟨dd,rfl,?_⟩;rw[hG.out,hdd];exact⟨Box.new u1 [.int .i64 r.2,.int .i64 r.1] 84,Hu1.out.alloc Hu1.out.size _⟩)|(obtain⟨dd,hdd⟩:∃ dd,dd=w0.heap.size:=⟨_,rfl⟩;rw[<-hdd];refine⟨dd,rfl,?_⟩;rw[hG.out,hdd];exact⟨(HZ.out.set 0 (by simp) (.int .i64 r.2)).set 1 (by simp) (.int .i64 r.1),(Hu2.out.setCell (p:=⟨_,0,none⟩) (ZB _) _).setCell (p:=⟨_,1,none⟩) (ZB _) _⟩)
 case hrest=>
 intro aD wa hGd
 rw[hG.out] at hGd
 obtain⟨Ya,ka⟩:=hGd
 clear c3 e0 e1 e2 p0 p1 p2 p3 lb lc le nlb nlb' nlc nlc' nle nle'
 clear hG G
 have HB1:=kb HB0 ka
 replace X0:=kn X0 ka
 replace X1:=kn X1 ka
 replace X2:=kn X2 ka
 have Xa:=a0a Ya
 clear ka Ya
 have c0:=X0.out.cell 0 _ rfl
 have c3:=X0.out.cell 3 _ rfl
 have lc:=X0.out.lt
 obtain⟨e0,e1,e2⟩:=Box.c3 X1.out
 have le:=X1.out.lt
 obtain⟨z0,z1⟩:=Box.c2 Xa.out
 have zl:=Xa.out.lt
 obtain⟨q0,q1,q2⟩:=Box.c3 X2.out
 have j0:=X2.out.free 0 (by simp)
 have j1:=X2.out.free 1 (by simp)
 have j2:=X2.out.free 2 (by simp)
 have ql:=X2.out.lt
 by_cases hz:r.2=0
 case neg=>
  have d0:(r.2 != 0)=true:=by simpa using hz
  have hQr:Hid (a2O Q=.agg #[.bool true,.int .i64 r.2,.int .i64 0]):=by
   show _=_
   rw[HT.out]
   first | rw[a0t,if_neg hz] | rw[if_neg hz]
   exact a4q 0 hz
  clear HC HT
  go_wp2_with fail
  refine bodyPost_ret (v:=.agg #[.bool true,.int .i64 r.2,.int .i64 0]) (by simp[results,Tryz.results65,go_sem, *]) rfl ?_
  exact⟨by rw[hQr.out],((HB1.out.setCell (p:=⟨w.heap.size+1+1,0,none⟩) (by simp;omega) _).setCell (p:=⟨w.heap.size+1+1,1,none⟩) (by simp;omega) _).setCell (p:=⟨w.heap.size+1+1,2,none⟩) (by simp;omega) _⟩
 obtain⟨r1,r2⟩:=r
 obtain rfl:r2=0:=hz
 change _=some (Value.int .i64 0) at z0
 change _=some (Value.int .i64 r1) at z1
 have hQr:Hid (a2O Q=.agg #[.bool false,.int .i64 0,.int .i64 (a0M r1)]):=by
  show _=_
  rw[HT.out]
  exact b0g _
 have HU:=a0a (fun W:World=>a6N r1 hg.1 (a5x hg) W)
 change Hid (∀ W:World,Calls Tryz.prog 116 #[.int .i64 r1] W fun e w'=>e=.returned (.int .i64 (a0M r1))/\Below W.heap.size W w') at HU
 clear HT hg HC
 generalize a0M r1=cf at *
 go_wp2_with fail
 refine ZE (HU.out _) ?_
 rintro e w2 ⟨rfl,b2⟩
 have HB2:=kb HB1 b2
 replace X2:=kn X2 b2
 replace q0:=X2.out.cell 0 _ rfl
 replace q1:=X2.out.cell 1 _ rfl
 replace q2:=X2.out.cell 2 _ rfl
 replace j0:=X2.out.free 0 (by simp)
 replace j1:=X2.out.free 1 (by simp)
 replace j2:=X2.out.free 2 (by simp)
 replace ql:=X2.out.lt
 clear b2 c0 c3 lc e0 e1 e2 le z0 z1 zl
 go_wp2_with fail
 refine bodyPost_ret (v:=.agg #[.bool false,.int .i64 0,.int .i64 cf]) (by simp[results,Tryz.results65,go_sem, *]) rfl ?_
 exact⟨by rw[hQr.out],((HB2.out.setCell (p:=⟨w.heap.size+1+1,0,none⟩) (by simp;omega) _).setCell (p:=⟨w.heap.size+1+1,1,none⟩) (by simp;omega) _).setCell (p:=⟨w.heap.size+1+1,2,none⟩) (by simp;omega) _⟩
set_option maxHeartbeats 4000000 in
set_option maxRecDepth 20000 in
theorem c3r (E:a0u)(hE:a6z E)(n m:Int)(x:Co)(ih:REv E x)(hg:C64 (a0d E x).1):c1Z E ⟨31,n,m,[x]⟩:=by
 intro v v1 v2 w hs he
 have HE:=a0a he
 have HS:=a0a hs
 obtain⟨r,hr⟩:∃ r,Hid (r=a0d E x):=⟨_,a0a rfl⟩
 obtain⟨Q,hQ⟩:∃ Q,Hid (Q=a0d E ⟨31,n,m,[x]⟩):=⟨_,a0a rfl⟩
 rw[<-hQ.out]
 have HT:Hid (Q=a0t (fun a=>held (E.rep+a0M a)) r):=a0a (by rw[hQ.out,hr.out,a0f];rfl)
 obtain⟨b,off,cap,rfl,-,-,hbl,hx⟩:=hs.parts.open (by show 0<1;decide)
 obtain⟨u0,f0,s0⟩:∃ u,a4h w b (off+0*4) x u/\a0p w x u:=hx 0 (by show 0<1;decide)
 obtain⟨a1,c1,a2,c2,rfl,rfl⟩:=he.shape
 have HC:Hid (∀ W,Below w.heap.size w W->Calls Tryz.prog 64 #[coV x u0,a7c E (.slice a1 E.wins.length c1) (.slice a2 E.crons.length c2)] W fun e w'=>e=.returned (reV r)/\Below W.heap.size W w'):=a0a (fun W hW=>by rw[hr.out];exact ih u0 _ _ W (s0.next hW) (HE.out.next hW))
 rw[<-hr.out] at hg
 obtain⟨ad0,cap0,rfl,-,-⟩:=s0.parts.shape
 obtain⟨Y0,Y1,Y2,B0⟩:=a0r w 30 40 48 (coL ⟨31,n,m,[x]⟩ (.slice (some ⟨b,off,none⟩) 1 cap)) [.int .i64 E.rep,.slice a1 E.wins.length c1,.slice a2 E.crons.length c2] [.bool false,.int .i64 0,.int .i64 0]
 have X0:=a0a Y0
 have X1:=a0a Y1
 have X2:=a0a Y2
 have HB0:=a0a B0
 have HF0:=a0a f0
 have HBl:=a0a hbl
 clear hs he ih hx Y0 Y1 Y2 B0 f0 s0 hr hQ hbl
 obtain⟨w0,hw0⟩:∃ w0,Hid (w0=((w.alloc (.cells (coL ⟨31,n,m,[x]⟩ (.slice (some ⟨b,off,none⟩) 1 cap)).toArray 30)).alloc (.cells #[.int .i64 E.rep,.slice a1 E.wins.length c1,.slice a2 E.crons.length c2] 40)).alloc (.cells #[.bool false,.int .i64 0,.int .i64 0] 48)):=⟨_,a0a rfl⟩
 replace X0:Hid (Box w0 (w.heap.size) (coL ⟨31,n,m,[x]⟩ (.slice (some ⟨b,off,none⟩) 1 cap))):=by rw[hw0.out];exact X0
 replace X1:Hid (Box w0 (w.heap.size+1) ([.int .i64 E.rep,.slice a1 E.wins.length c1,.slice a2 E.crons.length c2])):=by rw[hw0.out];exact X1
 replace X2:Hid (Box w0 (w.heap.size+1+1) ([.bool false,.int .i64 0,.int .i64 0])):=by rw[hw0.out];exact X2
 replace HB0:Hid (Below w.heap.size w w0):=by rw[hw0.out];exact HB0
 go_enter Tryz.func65,Tryz.ntmps65
 go_wp2_with fail
 rw[<-hw0.out]
 clear hw0
 have c3:=X0.out.cell 3 _ rfl
 obtain⟨e0,e1,e2⟩:=Box.c3 X1.out
 obtain⟨p0,p1,p2,p3⟩:=HF0.out.keep (w':=w0) (fun q=>HB0.out.cell (p:=⟨b,q,none⟩) HBl.out)
 simp only[Nat.zero_mul,Nat.add_zero] at p0 p1 p2 p3
 change _=some (Value.int .i64 x.op) at p0
 change _=some (Value.int .i64 x.n) at p1
 change _=some (Value.int .i64 x.m) at p2
 change _=some (Value.slice ad0 x.parts.length cap0) at p3
 have lc:=X0.out.lt
 have le:=X1.out.lt
 have lb:=ZA HBl.out HB0.out.size
 obtain⟨G,hG⟩:∃ G:Nat->World->Prop,Hid (G=fun dd w'=>Box w' dd [.int .i64 r.2,.int .i64 r.1]/\Below w0.heap.size w0 w'):=⟨_,a0a rfl⟩
 have nlb:b≠w0.heap.size:=Nat.ne_of_lt lb
 have nlb':w0.heap.size≠b:=Nat.ne_of_gt lb
 have nlc:w.heap.size≠w0.heap.size:=Nat.ne_of_lt lc
 have nlc':w0.heap.size≠w.heap.size:=Nat.ne_of_gt lc
 have nle:w.heap.size+1≠w0.heap.size:=Nat.ne_of_lt le
 have nle':w0.heap.size≠w.heap.size+1:=Nat.ne_of_gt le
 apply b6w G
 case hreg=>
  go_region_held3 (fun w'=>w'.cell? ⟨w.heap.size,3,none⟩=some (.slice (some ⟨b,off,none⟩) 1 cap)/\w'.cell? ⟨w.heap.size+1,0,none⟩=some (.int .i64 E.rep)/\w'.cell? ⟨w.heap.size+1,1,none⟩=some (.slice a1 E.wins.length c1)/\w'.cell? ⟨w.heap.size+1,2,none⟩=some (.slice a2 E.crons.length c2)/\w'.cell? ⟨b,off,none⟩=some (.int .i64 x.op)/\w'.cell? ⟨b,off+1,none⟩=some (.int .i64 x.n)/\w'.cell? ⟨b,off+2,none⟩=some (.int .i64 x.m)/\w'.cell? ⟨b,off+3,none⟩=some (.slice ad0 x.parts.length cap0)) (simp[go_sem, *]) (first|(go_at_call 64;refine ZE (HC.out _ (by exact a0e HB0.out _)) ?_;rintro e u1 ⟨rfl,b⟩;have Hu1:Hid (Below w0.heap.size w0 u1):=⟨b.os,b.tape,b.output,b.size,b.block⟩;have g0:=fun p v hp hv=>(Hu1.out.cell (p:=p) hp).trans (hv:w0.cell? p=some v);replace c3:=g0 _ _ lc c3;replace e0:=g0 _ _ le e0;replace e1:=g0 _ _ le e1;replace e2:=g0 _ _ le e2;replace p0:=g0 _ _ lb p0;replace p1:=g0 _ _ lb p1;replace p2:=g0 _ _ lb p2;replace p3:=g0 _ _ lb p3;replace lb:=ZA lb Hu1.out.size;replace lc:=ZA lc Hu1.out.size;replace le:=ZA le Hu1.out.size;clear g0;clear b)|(go_at_call 64;refine ZE (HC.out _ (by exact a0b HB0.out ((a0e (ZD w0.heap.size w0) _).alloc (ZB _) _) HB0.out.size)) ?_;rintro e u2 ⟨rfl,b⟩;have Hu2:Hid (Below w0.heap.size w0 u2):=a0a (a0b ((a0e (ZD w0.heap.size w0) _).alloc (ZB _) _) b ((a0e (ZD w0.heap.size w0) _).alloc (ZB _) _).size);have Zz:Box u2 w0.heap.size [.int .i64 0,.int .i64 0]:=Box.next (Box.new (w0.drewN _) [.int .i64 0,.int .i64 0] 84) b;have z0:=Zz.cell 0 _ rfl;have z1:=Zz.cell 1 _ rfl;have z2:=Zz.free 0 (by simp);have z3:=Zz.free 1 (by simp);have zl:=Zz.lt;have HZ:=a0a Zz;clear Zz;have g0:=fun p v hp hv=>(Hu2.out.cell (p:=p) hp).trans (hv:w0.cell? p=some v);replace c3:=g0 _ _ lc c3;replace e0:=g0 _ _ le e0;replace e1:=g0 _ _ le e1;replace e2:=g0 _ _ le e2;replace p0:=g0 _ _ lb p0;replace p1:=g0 _ _ lb p1;replace p2:=g0 _ _ lb p2;replace p3:=g0 _ _ lb p3;replace lb:=ZA lb Hu2.out.size;replace lc:=ZA lc Hu2.out.size;replace le:=ZA le Hu2.out.size;clear g0;clear b))
  ·first|(obtain⟨dd,hdd⟩:∃ dd,dd=u1.heap.size:=⟨_,rfl⟩;rw[<-hdd];refine⟨dd,rfl,?_⟩;rw[hG.out,hdd];exact⟨Box.new u1 [.int .i64 r.2,.int .i64 r.1] 84,Hu1.out.alloc Hu1.out.size _⟩)|(obtain⟨dd,hdd⟩:∃ dd,dd=w0.heap.size:=⟨_,rfl⟩;rw[<-hdd];refine⟨dd,rfl,?_⟩;rw[hG.out,hdd];exact⟨(HZ.out.set 0 (by simp) (.int .i64 r.2)).set 1 (by simp) (.int .i64 r.1),(Hu2.out.setCell (p:=⟨_,0,none⟩) (ZB _) _).setCell (p:=⟨_,1,none⟩) (ZB _) _⟩)
  ·first|(obtain⟨dd,hdd⟩:∃ dd,dd=u1.heap.size:=⟨_,rfl⟩;rw[<-hdd];refine⟨dd,rfl,?_⟩;rw[hG.out,hdd];exact⟨Box.new u1 [.int .i64 r.2,.int .i64 r.1] 84,Hu1.out.alloc Hu1.out.size _⟩)|(obtain⟨dd,hdd⟩:∃ dd,dd=w0.heap.size:=⟨_,rfl⟩;rw[<-hdd];refine⟨dd,rfl,?_⟩;rw[hG.out,hdd];exact⟨(HZ.out.set 0 (by simp) (.int .i64 r.2)).set 1 (by simp) (.int .i64 r.1),(Hu2.out.setCell (p:=⟨_,0,none⟩) (ZB _) _).setCell (p:=⟨_,1,none⟩) (ZB _) _⟩)
 case hrest=>
 intro aD wa hGd
 rw[hG.out] at hGd
 obtain⟨Ya,ka⟩:=hGd
 clear c3 e0 e1 e2 p0 p1 p2 p3 lb lc le nlb nlb' nlc nlc' nle nle'
 clear hG G
 have HB1:=kb HB0 ka
 replace X0:=kn X0 ka
 replace X1:=kn X1 ka
 replace X2:=kn X2 ka
 have Xa:=a0a Ya
 clear ka Ya
 have c0:=X0.out.cell 0 _ rfl
 have c3:=X0.out.cell 3 _ rfl
 have lc:=X0.out.lt
 obtain⟨e0,e1,e2⟩:=Box.c3 X1.out
 have le:=X1.out.lt
 obtain⟨z0,z1⟩:=Box.c2 Xa.out
 have zl:=Xa.out.lt
 obtain⟨q0,q1,q2⟩:=Box.c3 X2.out
 have j0:=X2.out.free 0 (by simp)
 have j1:=X2.out.free 1 (by simp)
 have j2:=X2.out.free 2 (by simp)
 have ql:=X2.out.lt
 by_cases hz:r.2=0
 case neg=>
  have d0:(r.2 != 0)=true:=by simpa using hz
  have hQr:Hid (a2O Q=.agg #[.bool true,.int .i64 r.2,.int .i64 0]):=by
   show _=_
   rw[HT.out]
   first | rw[a0t,if_neg hz] | rw[if_neg hz]
   exact a4q 0 hz
  clear HC HT
  go_wp2_with fail
  refine bodyPost_ret (v:=.agg #[.bool true,.int .i64 r.2,.int .i64 0]) (by simp[results,Tryz.results65,go_sem, *]) rfl ?_
  exact⟨by rw[hQr.out],((HB1.out.setCell (p:=⟨w.heap.size+1+1,0,none⟩) (by simp;omega) _).setCell (p:=⟨w.heap.size+1+1,1,none⟩) (by simp;omega) _).setCell (p:=⟨w.heap.size+1+1,2,none⟩) (by simp;omega) _⟩
 obtain⟨r1,r2⟩:=r
 obtain rfl:r2=0:=hz
 change _=some (Value.int .i64 0) at z0
 change _=some (Value.int .i64 r1) at z1
 have hQr:Hid (a2O Q=.agg #[.bool false,.int .i64 0,.int .i64 (held (E.rep+a0M r1))]):=by
  show _=_
  rw[HT.out]
  exact b0g _
 have HU:=a0a (fun W:World=>a6N r1 hg.1 (a5x hg) W)
 change Hid (∀ W:World,Calls Tryz.prog 116 #[.int .i64 r1] W fun e w'=>e=.returned (.int .i64 (a0M r1))/\Below W.heap.size W w') at HU
 have HV:=a0a (fun W:World=>b1i E.rep (a0M r1) hE.rep.1 (a5x hE.rep) (a4F r1).1 (a5x (a4F r1)) W)
 change Hid (∀ W:World,Calls Tryz.prog 117 #[.int .i64 E.rep,.int .i64 (a0M r1)] W fun e w'=>e=.returned (.int .i64 (held (E.rep+a0M r1)))/\Below W.heap.size W w') at HV
 clear HT hg HC
 generalize held (E.rep+a0M r1)=hf at *
 generalize a0M r1=cf at *
 have hne:aD≠w.heap.size+1+1:=fun h=>by
  rw[h,q0] at z0
  cases z0
 have hne':=hne.symm
 go_wp2_with fail
 go_region_held3 (fun w'=>w'.cell? ⟨w.heap.size+1,0,none⟩=some (.int .i64 E.rep)/\w'.cell? ⟨aD,1,none⟩=some (.int .i64 r1)) (simp[go_sem, *]) (first|(go_at_call 117;refine ZE (HV.out _) ?_;rintro e w3 ⟨rfl,bb⟩;have BW:Below w2.heap.size w2 w3:=⟨bb.os,bb.tape,bb.output,bb.size,bb.block⟩;replace e0:=a0c BW e0;replace z1:=a0c BW z1;replace X2:=kn X2 BW;replace q0:=X2.out.cell 0 _ rfl;replace j0:=X2.out.free 0 (by simp);replace q1:=X2.out.cell 1 _ rfl;replace j1:=X2.out.free 1 (by simp);replace q2:=X2.out.cell 2 _ rfl;replace j2:=X2.out.free 2 (by simp);replace ql:=X2.out.lt;have HB3:=kb HB2 BW;clear bb BW)|(go_at_call 116;refine ZE (HU.out _) ?_;rintro e w2 ⟨rfl,bb⟩;have BW:Below wa.heap.size wa w2:=⟨bb.os,bb.tape,bb.output,bb.size,bb.block⟩;replace e0:=a0c BW e0;replace z1:=a0c BW z1;replace X2:=kn X2 BW;replace q0:=X2.out.cell 0 _ rfl;replace j0:=X2.out.free 0 (by simp);replace q1:=X2.out.cell 1 _ rfl;replace j1:=X2.out.free 1 (by simp);replace q2:=X2.out.cell 2 _ rfl;replace j2:=X2.out.free 2 (by simp);replace ql:=X2.out.lt;have HB2:=kb HB1 BW;clear bb BW))
 clear e0 z1 c0 c3 lc e1 e2 le z0 zl
 go_wp2_with fail
 refine bodyPost_ret (v:=.agg #[.bool false,.int .i64 0,.int .i64 hf]) (by simp[results,Tryz.results65,go_sem, *]) rfl ?_
 exact⟨by rw[hQr.out],((HB3.out.setCell (p:=⟨w.heap.size+1+1,0,none⟩) (by simp;omega) _).setCell (p:=⟨w.heap.size+1+1,1,none⟩) (by simp;omega) _).setCell (p:=⟨w.heap.size+1+1,2,none⟩) (by simp;omega) _⟩
set_option maxHeartbeats 8000000 in
set_option maxRecDepth 20000 in
theorem b3q (E:a0u)(n m:Int)(ps:List Co)(hl2:2<=ps.length)(hle2:ps.length%2=0)(h0:0<ps.length)(ih0:REv E ps[0])(hg0:C64 (a0d E ps[0]).1)(hAc:∀ j (h:j<ps.length),(j%2=0/\2<=j)\/j+1=ps.length->c1Z E ps[j]):c1Z E ⟨32,n,m,ps⟩:=by
 obtain⟨x,hx0⟩:∃ x,Hid (x=ps[0]):=⟨_,a0a rfl⟩
 have ih:REv E x:=by rw[hx0.out];exact ih0
 have hg:C64 (a0d E x).1:=by rw[hx0.out];exact hg0
 intro v v1 v2 w hs he
 have HE:=a0a he
 have HS:=a0a hs
 obtain⟨r,hr⟩:∃ r,Hid (r=a0d E x):=⟨_,a0a rfl⟩
 obtain⟨Q,hQ⟩:∃ Q,Hid (Q=a0d E ⟨32,n,m,ps⟩):=⟨_,a0a rfl⟩
 rw[<-hQ.out]
 have HT:Hid (Q=if r.2=0 then (ps.map (a0d E)).getD (a4T ps r.1 ps.length ps.length 1) (0,0) else noR r.2):=a0a (by rw[hQ.out,hr.out,a0f,hx0.out];show b9v ps (ps.map (a0d E))=_;unfold b9v;rw[show (ps.map (a0d E)).getD 0 (0,0)=a0d E (ps[0]'h0) by simp[List.getD,h0]])
 obtain⟨b,off,cap,rfl,hle,hcm,hbl,hx⟩:=hs.parts.open (by show 0<ps.length;omega)
 obtain⟨u0,f0,s0⟩:∃ u,a4h w b (off+0*4) x u/\a0p w x u:=by rw[hx0.out];exact hx 0 (by show 0<ps.length;omega)
 have HXp:=a0a hx
 obtain⟨L,hL⟩:∃ L,Hid (L=ps.length):=⟨_,a0a rfl⟩
 have hL2:2<=L:=by rw[hL.out];exact hl2
 have hL0:(0:Int)<(L:Int):=by omega
 have hLa:0<L:=by omega
 have hLb:¬ L=0:=by omega
 have hLd:¬(L:Int)<=0:=by omega
 have hLe:Hid (L%2=0):=a0a (by rw[hL.out];exact hle2)
 have hLc:L<=9223372036854775807:=by rw[hL.out];exact ZC hle hcm
 dsimp only
 rw[<-hL.out]
 obtain⟨a1,c1,a2,c2,rfl,rfl⟩:=he.shape
 have HC:Hid (∀ W,Below w.heap.size w W->Calls Tryz.prog 64 #[coV x u0,a7c E (.slice a1 E.wins.length c1) (.slice a2 E.crons.length c2)] W fun e w'=>e=.returned (reV r)/\Below W.heap.size W w'):=a0a (fun W hW=>by rw[hr.out];exact ih u0 _ _ W (s0.next hW) (HE.out.next hW))
 rw[<-hr.out] at hg
 obtain⟨ad0,cap0,rfl,-,-⟩:=s0.parts.shape
 obtain⟨Y0,Y1,Y2,B0⟩:=a0r w 30 40 48 (coL ⟨32,n,m,ps⟩ (.slice (some ⟨b,off,none⟩) L cap)) [.int .i64 E.rep,.slice a1 E.wins.length c1,.slice a2 E.crons.length c2] [.bool false,.int .i64 0,.int .i64 0]
 have X0:=a0a Y0
 have X1:=a0a Y1
 have X2:=a0a Y2
 have HB0:=a0a B0
 have HF0:=a0a f0
 have HBl:=a0a hbl
 clear hs he ih Y0 Y1 Y2 B0 f0 s0 hr hQ hbl hx
 obtain⟨w0,hw0⟩:∃ w0,Hid (w0=((w.alloc (.cells (coL ⟨32,n,m,ps⟩ (.slice (some ⟨b,off,none⟩) L cap)).toArray 30)).alloc (.cells #[.int .i64 E.rep,.slice a1 E.wins.length c1,.slice a2 E.crons.length c2] 40)).alloc (.cells #[.bool false,.int .i64 0,.int .i64 0] 48)):=⟨_,a0a rfl⟩
 replace X0:Hid (Box w0 (w.heap.size) (coL ⟨32,n,m,ps⟩ (.slice (some ⟨b,off,none⟩) L cap))):=by rw[hw0.out];exact X0
 replace X1:Hid (Box w0 (w.heap.size+1) ([.int .i64 E.rep,.slice a1 E.wins.length c1,.slice a2 E.crons.length c2])):=by rw[hw0.out];exact X1
 replace X2:Hid (Box w0 (w.heap.size+1+1) ([.bool false,.int .i64 0,.int .i64 0])):=by rw[hw0.out];exact X2
 replace HB0:Hid (Below w.heap.size w w0):=by rw[hw0.out];exact HB0
 go_enter Tryz.func65,Tryz.ntmps65
 go_wp2_with fail
 rw[<-hw0.out]
 clear hw0
 have c3:=X0.out.cell 3 _ rfl
 obtain⟨e0,e1,e2⟩:=Box.c3 X1.out
 obtain⟨p0,p1,p2,p3⟩:=HF0.out.keep (w':=w0) (fun q=>HB0.out.cell (p:=⟨b,q,none⟩) HBl.out)
 simp only[Nat.zero_mul,Nat.add_zero] at p0 p1 p2 p3
 change _=some (Value.int .i64 x.op) at p0
 change _=some (Value.int .i64 x.n) at p1
 change _=some (Value.int .i64 x.m) at p2
 change _=some (Value.slice ad0 x.parts.length cap0) at p3
 have lc:=X0.out.lt
 have le:=X1.out.lt
 have lb:=ZA HBl.out HB0.out.size
 obtain⟨G,hG⟩:∃ G:Nat->World->Prop,Hid (G=fun dd w'=>Box w' dd [.int .i64 r.2,.int .i64 r.1]/\Below w0.heap.size w0 w'):=⟨_,a0a rfl⟩
 have nlb:b≠w0.heap.size:=Nat.ne_of_lt lb
 have nlb':w0.heap.size≠b:=Nat.ne_of_gt lb
 have nlc:w.heap.size≠w0.heap.size:=Nat.ne_of_lt lc
 have nlc':w0.heap.size≠w.heap.size:=Nat.ne_of_gt lc
 have nle:w.heap.size+1≠w0.heap.size:=Nat.ne_of_lt le
 have nle':w0.heap.size≠w.heap.size+1:=Nat.ne_of_gt le
 apply b6w G
 case hreg=>
  go_region_held3 (fun w'=>w'.cell? ⟨w.heap.size,3,none⟩=some (.slice (some ⟨b,off,none⟩) L cap)/\w'.cell? ⟨w.heap.size+1,0,none⟩=some (.int .i64 E.rep)/\w'.cell? ⟨w.heap.size+1,1,none⟩=some (.slice a1 E.wins.length c1)/\w'.cell? ⟨w.heap.size+1,2,none⟩=some (.slice a2 E.crons.length c2)/\w'.cell? ⟨b,off,none⟩=some (.int .i64 x.op)/\w'.cell? ⟨b,off+1,none⟩=some (.int .i64 x.n)/\w'.cell? ⟨b,off+2,none⟩=some (.int .i64 x.m)/\w'.cell? ⟨b,off+3,none⟩=some (.slice ad0 x.parts.length cap0)) (simp[go_sem, *]) (first|(go_at_call 64;refine ZE (HC.out _ (by exact a0e HB0.out _)) ?_;rintro e u1 ⟨rfl,b⟩;have Hu1:Hid (Below w0.heap.size w0 u1):=⟨b.os,b.tape,b.output,b.size,b.block⟩;have g0:=fun p v hp hv=>(Hu1.out.cell (p:=p) hp).trans (hv:w0.cell? p=some v);replace c3:=g0 _ _ lc c3;replace e0:=g0 _ _ le e0;replace e1:=g0 _ _ le e1;replace e2:=g0 _ _ le e2;replace p0:=g0 _ _ lb p0;replace p1:=g0 _ _ lb p1;replace p2:=g0 _ _ lb p2;replace p3:=g0 _ _ lb p3;replace lb:=ZA lb Hu1.out.size;replace lc:=ZA lc Hu1.out.size;replace le:=ZA le Hu1.out.size;clear g0;clear b)|(go_at_call 64;refine ZE (HC.out _ (by exact a0b HB0.out ((a0e (ZD w0.heap.size w0) _).alloc (ZB _) _) HB0.out.size)) ?_;rintro e u2 ⟨rfl,b⟩;have Hu2:Hid (Below w0.heap.size w0 u2):=a0a (a0b ((a0e (ZD w0.heap.size w0) _).alloc (ZB _) _) b ((a0e (ZD w0.heap.size w0) _).alloc (ZB _) _).size);have Zz:Box u2 w0.heap.size [.int .i64 0,.int .i64 0]:=Box.next (Box.new (w0.drewN _) [.int .i64 0,.int .i64 0] 84) b;have z0:=Zz.cell 0 _ rfl;have z1:=Zz.cell 1 _ rfl;have z2:=Zz.free 0 (by simp);have z3:=Zz.free 1 (by simp);have zl:=Zz.lt;have HZ:=a0a Zz;clear Zz;have g0:=fun p v hp hv=>(Hu2.out.cell (p:=p) hp).trans (hv:w0.cell? p=some v);replace c3:=g0 _ _ lc c3;replace e0:=g0 _ _ le e0;replace e1:=g0 _ _ le e1;replace e2:=g0 _ _ le e2;replace p0:=g0 _ _ lb p0;replace p1:=g0 _ _ lb p1;replace p2:=g0 _ _ lb p2;replace p3:=g0 _ _ lb p3;replace lb:=ZA lb Hu2.out.size;replace lc:=ZA lc Hu2.out.size;replace le:=ZA le Hu2.out.size;clear g0;clear b))
  ·first|(obtain⟨dd,hdd⟩:∃ dd,dd=u1.heap.size:=⟨_,rfl⟩;rw[<-hdd];refine⟨dd,rfl,?_⟩;rw[hG.out,hdd];exact⟨Box.new u1 [.int .i64 r.2,.int .i64 r.1] 84,Hu1.out.alloc Hu1.out.size _⟩)|(obtain⟨dd,hdd⟩:∃ dd,dd=w0.heap.size:=⟨_,rfl⟩;rw[<-hdd];refine⟨dd,rfl,?_⟩;rw[hG.out,hdd];exact⟨(HZ.out.set 0 (by simp) (.int .i64 r.2)).set 1 (by simp) (.int .i64 r.1),(Hu2.out.setCell (p:=⟨_,0,none⟩) (ZB _) _).setCell (p:=⟨_,1,none⟩) (ZB _) _⟩)
  ·first|(obtain⟨dd,hdd⟩:∃ dd,dd=u1.heap.size:=⟨_,rfl⟩;rw[<-hdd];refine⟨dd,rfl,?_⟩;rw[hG.out,hdd];exact⟨Box.new u1 [.int .i64 r.2,.int .i64 r.1] 84,Hu1.out.alloc Hu1.out.size _⟩)|(obtain⟨dd,hdd⟩:∃ dd,dd=w0.heap.size:=⟨_,rfl⟩;rw[<-hdd];refine⟨dd,rfl,?_⟩;rw[hG.out,hdd];exact⟨(HZ.out.set 0 (by simp) (.int .i64 r.2)).set 1 (by simp) (.int .i64 r.1),(Hu2.out.setCell (p:=⟨_,0,none⟩) (ZB _) _).setCell (p:=⟨_,1,none⟩) (ZB _) _⟩)
 case hrest=>
 intro aD wa hGd
 rw[hG.out] at hGd
 obtain⟨Ya,ka⟩:=hGd
 clear c3 e0 e1 e2 p0 p1 p2 p3 lb lc le nlb nlb' nlc nlc' nle nle'
 clear hG G
 have HB1:=kb HB0 ka
 replace X0:=kn X0 ka
 replace X1:=kn X1 ka
 replace X2:=kn X2 ka
 have Xa:=a0a Ya
 clear ka Ya
 have c0:=X0.out.cell 0 _ rfl
 have c3:=X0.out.cell 3 _ rfl
 have lc:=X0.out.lt
 obtain⟨e0,e1,e2⟩:=Box.c3 X1.out
 have le:=X1.out.lt
 obtain⟨z0,z1⟩:=Box.c2 Xa.out
 have zl:=Xa.out.lt
 obtain⟨q0,q1,q2⟩:=Box.c3 X2.out
 have j0:=X2.out.free 0 (by simp)
 have j1:=X2.out.free 1 (by simp)
 have j2:=X2.out.free 2 (by simp)
 have ql:=X2.out.lt
 by_cases hz:r.2=0
 case neg=>
  have d0:(r.2 != 0)=true:=by simpa using hz
  have hQr:Hid (a2O Q=.agg #[.bool true,.int .i64 r.2,.int .i64 0]):=by
   show _=_
   rw[HT.out]
   first | rw[a0t,if_neg hz] | rw[if_neg hz]
   exact a4q 0 hz
  clear HC HT
  go_wp2_with fail
  refine bodyPost_ret (v:=.agg #[.bool true,.int .i64 r.2,.int .i64 0]) (by simp[results,Tryz.results65,go_sem, *]) rfl ?_
  exact⟨by rw[hQr.out],((HB1.out.setCell (p:=⟨w.heap.size+1+1,0,none⟩) (by simp;omega) _).setCell (p:=⟨w.heap.size+1+1,1,none⟩) (by simp;omega) _).setCell (p:=⟨w.heap.size+1+1,2,none⟩) (by simp;omega) _⟩
 obtain⟨r1,r2⟩:=r
 obtain rfl:r2=0:=hz
 change _=some (Value.int .i64 0) at z0
 change _=some (Value.int .i64 r1) at z1
 have hQ2:Hid (Q=(ps.map (a0d E)).getD (a4T ps r1 L L 1) (0,0)):=a0a (by rw[HT.out,hL.out];rfl)
 clear HT hg HC
 obtain⟨M,rfl⟩:∃ M,L=M+1:=⟨L-1,by omega⟩
 have hLp:Hid (ps.length=M+1):=a0a hL.out.symm
 have hlb:b<wa.heap.size:=ZA HBl.out HB1.out.size
 go_wp2_with fail
 clear c0 c3 lc e0 e1 e2 le z0 z1 zl q0 q1 q2 j0 j1 j2 ql
 go_loopw [7] (fun x wr=>∃ (i f:Nat),x=.int .i64 (i:Nat)/\i<=M/\Hid (i%2=1)/\Hid (M+1<=i+2*f)/\Hid (a4T ps r1 (M+1) f i=a4T ps r1 (M+1) (M+1) 1)/\Hid (Below wa.heap.size wa wr)) (fun x _=>match x with | .int _ p=>((M:Int)-p).toNat | _=>0)
 case atStart=>exact⟨1,M+1,rfl,by omega,a0a rfl,a0a (by omega),a0a rfl,ZD _ _⟩
 case round=>
 obtain⟨i,f,rfl,hj,HO,HF,HJ,HBr⟩:=hrel
 have HB1r:=a0a (a0b HB1.out HBr.out HB1.out.size)
 replace X0:=a0a (X0.out.next HBr.out)
 replace X1:=a0a (X1.out.next HBr.out)
 replace X2:=a0a (X2.out.next HBr.out)
 replace Xa:=a0a (Xa.out.next HBr.out)
 by_cases hlt:i<M
 case pos=>
  have hlt':(i:Int)<(M:Int):=by omega
  have hi1:i<ps.length:=by rw[hLp.out];omega
  have hi2:i+1<ps.length:=by rw[hLp.out];omega
  obtain⟨u5,h5,hu5⟩:=HXp.out i hi1
  have t1:=a0c HB1r.out h5.c1
  have z1:=Xa.out.cell 1 _ rfl
  have c3:=X0.out.cell 3 _ rfl
  have gp:ps.getD i co0=ps[i]:=by simp[List.getD,hi1]
  have hil:(i:Int)<(M:Int)+1:=by omega
  obtain⟨fw,hf1,hf2⟩:=a7g wr
  have HF1:=a0a hf1
  have HF2:=a0a hf2
  have t1':=fun n=>a0c (hf1 n) t1
  have z1':=fun n=>a0c (hf1 n) z1
  have c3':=fun n=>a0c (hf1 n) c3
  clear hf1 hf2 t1 z1 c3
  by_cases hv:r1<ps[i].n
  ·have hJ2:a4T ps r1 (M+1) f i=i+1:=b1r (by omega) (by rw[gp];exact hv) (by have:=HF.out;omega)
   obtain⟨u,h6,hu⟩:=HXp.out (i+1) hi2
   have hQr:Hid (a2O Q=a2O (a0d E ps[i+1])):=a0a (by rw[hQ2.out,<-HJ.out,hJ2];simp[List.getD,hi2])
   have HCa:=a0a (fun W (hW:Below w.heap.size w W)=>hAc (i+1) hi2 (.inl (by have:=HO.out;omega)) u (.slice a1 E.wins.length c1) (.slice a2 E.crons.length c2) W (hu.next hW) (HE.out.next hW))
   obtain⟨au,cu,rfl,-,-⟩:=hu.parts.shape
   have H6:=a0a h6
   have hil2:(i:Int)+1<(M:Int)+1:=by omega
   have hil3:(0:Int)<=(i:Int)+1:=by omega
   have hw1:IntKind.i64.wrap ((i:Int)+1)=(i:Int)+1:=by rw[IntKind.wrap_i64];omega
   have hw2:((i:Int)+1).toNat=i+1:=by omega
   obtain⟨ra,rb,rc,hra⟩:∃ ra rb rc,Hid (a2O (a0d E ps[i+1])=.agg #[.bool ra,.int .i64 rb,.int .i64 rc]):=by unfold a2O;split;exact⟨_,_,_,a0a rfl⟩;exact⟨_,_,_,a0a rfl⟩
   rw[hra.out] at HCa
   clear hQ2 HJ hJ2 gp h5 hu5 h6 hu
   generalize a0d E ps[i+1]=r6 at *
   generalize ps[i+1]=x6 at *
   generalize ps[i].n=n7 at *
   obtain⟨xk,xn,xm,xps⟩:=x6
   dsimp only at *
   generalize xps.length=XL at *
   go_wp2_with fail
   refine a0j fw (by kernel_rfl) (by kernel_rfl) (HF2.out _ (ZD _ _).drew) ?_
   repeat (go_big_quiet_step (fail))
   refine wpQuiet_nil ?_
   intro w6 hw6
   obtain⟨n6,rfl⟩:=hw6
   have HBr6:=a0a (a0b HBr.out (HF1.out n6) HBr.out.size)
   have HB1q:=a0a (a0b HB1r.out (HF1.out n6) HB1r.out.size)
   replace X0:=a0a (X0.out.next (HF1.out n6))
   replace X1:=a0a (X1.out.next (HF1.out n6))
   replace X2:=a0a (X2.out.next (HF1.out n6))
   clear t1' z1' c3'
   generalize fw n6=w6 at *
   have y0:=a0c HB1q.out H6.out.c0
   have y1:=a0c HB1q.out H6.out.c1
   have y2:=a0c HB1q.out H6.out.c2
   have y3:=a0c HB1q.out H6.out.c3
   have lby:b<w6.heap.size:=ZA HBl.out HB1q.out.size
   have c3:=X0.out.cell 3 _ rfl
   have lc:=X0.out.lt
   obtain⟨e0,e1,e2⟩:=Box.c3 X1.out
   have le:=X1.out.lt
   obtain⟨q0,q1,q2⟩:=Box.c3 X2.out
   have j0:=X2.out.free 0 (by simp)
   have j1:=X2.out.free 1 (by simp)
   have j2:=X2.out.free 2 (by simp)
   have ql:=X2.out.lt
   go_wp2_with fail
   go_region_held3 (fun w'=>w'.cell? ⟨w.heap.size,3,none⟩=some (.slice (some ⟨b,off,none⟩) (M+1) cap)/\w'.cell? ⟨w.heap.size+1,0,none⟩=some (.int .i64 E.rep)/\w'.cell? ⟨w.heap.size+1,1,none⟩=some (.slice a1 E.wins.length c1)/\w'.cell? ⟨w.heap.size+1,2,none⟩=some (.slice a2 E.crons.length c2)/\w'.cell? ⟨b,off+(i+1)*4,none⟩=some (.int .i64 xk)/\w'.cell? ⟨b,off+(i+1)*4+1,none⟩=some (.int .i64 xn)/\w'.cell? ⟨b,off+(i+1)*4+2,none⟩=some (.int .i64 xm)/\w'.cell? ⟨b,off+(i+1)*4+3,none⟩=some (.slice au XL cu)) (simp[go_sem, *]) (first|(go_at_call 65;refine ZE (HCa.out _ (by exact HB1q.out.drew)) ?_;rintro e w2 ⟨rfl,bb⟩;have BW:Below w6.heap.size w6 w2:=⟨bb.os,bb.tape,bb.output,bb.size,bb.block⟩;replace c3:=a0c BW c3;replace e0:=a0c BW e0;replace e1:=a0c BW e1;replace e2:=a0c BW e2;replace y0:=a0c BW y0;replace y1:=a0c BW y1;replace y2:=a0c BW y2;replace y3:=a0c BW y3;replace X2:=kn X2 BW;replace q0:=X2.out.cell 0 _ rfl;replace j0:=X2.out.free 0 (by simp);replace q1:=X2.out.cell 1 _ rfl;replace j1:=X2.out.free 1 (by simp);replace q2:=X2.out.cell 2 _ rfl;replace j2:=X2.out.free 2 (by simp);replace ql:=X2.out.lt;have HB2:=kb HB1q BW;clear bb BW))
   clear c3 lc e0 e1 e2 le y0 y1 y2 y3
   go_wp2_with fail
   refine bodyPost_ret (v:=.agg #[.bool ra,.int .i64 rb,.int .i64 rc]) (by simp[results,Tryz.results65,go_sem, *]) rfl ?_
   exact⟨by rw[hQr.out,hra.out],((HB2.out.setCell (p:=⟨w.heap.size+1+1,0,none⟩) (by simp;omega) _).setCell (p:=⟨w.heap.size+1+1,1,none⟩) (by simp;omega) _).setCell (p:=⟨w.heap.size+1+1,2,none⟩) (by simp;omega) _⟩
  ·obtain⟨f',rfl⟩:∃ f',f=f'+1:=⟨f-1,by have:=HF.out;omega⟩
   have hJ2:Hid (a4T ps r1 (M+1) f' (i+2)=a4T ps r1 (M+1) (M+1) 1):=by
    show _=_
    rw[<-HJ.out,b4V (by omega) (by rw[gp];exact hv)]
   clear hQ2 HJ gp h5 hu5
   generalize ps[i].n=n7 at *
   go_wp2_with fail
   refine a0j fw (by kernel_rfl) (by kernel_rfl) (HF2.out _ (ZD _ _).drew) ?_
   repeat (go_big_quiet_step (fail))
   refine wpQuiet_nil ?_
   intro w6 hw6
   obtain⟨n6,rfl⟩:=hw6
   have HBr6:=a0a (a0b HBr.out (HF1.out n6) HBr.out.size)
   have HB1q:=a0a (a0b HB1r.out (HF1.out n6) HB1r.out.size)
   replace X0:=a0a (X0.out.next (HF1.out n6))
   replace X1:=a0a (X1.out.next (HF1.out n6))
   replace X2:=a0a (X2.out.next (HF1.out n6))
   clear t1' z1' c3'
   generalize fw n6=w6 at *
   go_wp2_with fail
   go_roundw
   case rel=>exact⟨i+2,f',by go_num,by have:=HO.out;have:=hLe.out;omega,a0a (by have:=HO.out;omega),a0a (by have:=HF.out;omega),hJ2.out,HBr6.out⟩
   case measure=>simp;omega
 have hlt':¬(i:Int)<(M:Int):=by omega
 obtain rfl:i=M:=by omega
 have hiM:i<ps.length:=by rw[hLp.out];omega
 have hJ2:a4T ps r1 (i+1) f i=i:=b1s (by omega) (by have:=HF.out;omega)
 obtain⟨u,h6,hu⟩:=HXp.out i hiM
 have hQr:Hid (a2O Q=a2O (a0d E ps[i])):=a0a (by rw[hQ2.out,<-HJ.out,hJ2];simp[List.getD,hiM])
 have HCa:=a0a (fun W (hW:Below w.heap.size w W)=>hAc i hiM (.inr hLp.out.symm) u (.slice a1 E.wins.length c1) (.slice a2 E.crons.length c2) W (hu.next hW) (HE.out.next hW))
 obtain⟨au,cu,rfl,-,-⟩:=hu.parts.shape
 have H6:=a0a h6
 obtain⟨ra,rb,rc,hra⟩:∃ ra rb rc,Hid (a2O (a0d E ps[i])=.agg #[.bool ra,.int .i64 rb,.int .i64 rc]):=by unfold a2O;split;exact⟨_,_,_,a0a rfl⟩;exact⟨_,_,_,a0a rfl⟩
 rw[hra.out] at HCa
 clear hQ2 HJ hJ2 h6 hu
 generalize a0d E ps[i]=r6 at *
 generalize ps[i]=x6 at *
 obtain⟨xk,xn,xm,xps⟩:=x6
 dsimp only at *
 generalize xps.length=XL at *
 have hil:(i:Int)<(i:Int)+1:=by omega
 have hii:(i:Int)+1-1=(i:Int):=by omega
 have hi64:(i:Int)<=9223372036854775807:=by omega
 have hw1:IntKind.i64.wrap ((i:Int)+1-1)=(i:Int):=by rw[IntKind.wrap_i64];omega
 have hw3:IntKind.i64.wrap (i:Int)=(i:Int):=by rw[IntKind.wrap_i64];omega
 have y0:=a0c HB1r.out H6.out.c0
 have y1:=a0c HB1r.out H6.out.c1
 have y2:=a0c HB1r.out H6.out.c2
 have y3:=a0c HB1r.out H6.out.c3
 have lby:b<wr.heap.size:=ZA HBl.out HB1r.out.size
 have c3:=X0.out.cell 3 _ rfl
 have lc:=X0.out.lt
 obtain⟨e0,e1,e2⟩:=Box.c3 X1.out
 have le:=X1.out.lt
 obtain⟨q0,q1,q2⟩:=Box.c3 X2.out
 have j0:=X2.out.free 0 (by simp)
 have j1:=X2.out.free 1 (by simp)
 have j2:=X2.out.free 2 (by simp)
 have ql:=X2.out.lt
 go_wp2_with fail
 go_region_held3 (fun w'=>w'.cell? ⟨w.heap.size,3,none⟩=some (.slice (some ⟨b,off,none⟩) (i+1) cap)/\w'.cell? ⟨w.heap.size+1,0,none⟩=some (.int .i64 E.rep)/\w'.cell? ⟨w.heap.size+1,1,none⟩=some (.slice a1 E.wins.length c1)/\w'.cell? ⟨w.heap.size+1,2,none⟩=some (.slice a2 E.crons.length c2)/\w'.cell? ⟨b,off+i*4,none⟩=some (.int .i64 xk)/\w'.cell? ⟨b,off+i*4+1,none⟩=some (.int .i64 xn)/\w'.cell? ⟨b,off+i*4+2,none⟩=some (.int .i64 xm)/\w'.cell? ⟨b,off+i*4+3,none⟩=some (.slice au XL cu)) (simp[go_sem, *]) (first|(go_at_call 65;refine ZE (HCa.out _ (by exact HB1r.out.drew)) ?_;rintro e w2 ⟨rfl,bb⟩;have BW:Below wr.heap.size wr w2:=⟨bb.os,bb.tape,bb.output,bb.size,bb.block⟩;replace c3:=a0c BW c3;replace e0:=a0c BW e0;replace e1:=a0c BW e1;replace e2:=a0c BW e2;replace y0:=a0c BW y0;replace y1:=a0c BW y1;replace y2:=a0c BW y2;replace y3:=a0c BW y3;replace X2:=kn X2 BW;replace q0:=X2.out.cell 0 _ rfl;replace j0:=X2.out.free 0 (by simp);replace q1:=X2.out.cell 1 _ rfl;replace j1:=X2.out.free 1 (by simp);replace q2:=X2.out.cell 2 _ rfl;replace j2:=X2.out.free 2 (by simp);replace ql:=X2.out.lt;have HB2:=kb HB1r BW;clear bb BW))
 clear c3 lc e0 e1 e2 le y0 y1 y2 y3
 go_wp2_with fail
 refine bodyPost_ret (v:=.agg #[.bool ra,.int .i64 rb,.int .i64 rc]) (by simp[results,Tryz.results65,go_sem, *]) rfl ?_
 exact⟨by rw[hQr.out,hra.out],((HB2.out.setCell (p:=⟨w.heap.size+1+1,0,none⟩) (by simp;omega) _).setCell (p:=⟨w.heap.size+1+1,1,none⟩) (by simp;omega) _).setCell (p:=⟨w.heap.size+1+1,2,none⟩) (by simp;omega) _⟩
theorem b1j (E:a0u)(hE:a6z E)(t:Co):b9a t->srt E t=3->c1Z E t:=by
 induction t using Co.ind with
 | h t ih=>
   intro hl h3
   have hz:srt E t≠0:=by omega
   obtain⟨k,hop,h1,h2,hb,hp,hs⟩:=a4z hz
   have hG:∀ x,x∈t.parts->b6C E x:=fun x hx=>a8c E hE x (hl.parts hx) (hp x hx)
   have hV:∀ x,x∈t.parts->srt E x=1->REv E x:=fun x hx h=>a9d E hE x (hl.parts hx) (.inl h)
   have hI:∀ x,x∈t.parts->srt E x=3->c1Z E x:=fun x hx h=>ih x hx (hl.parts hx) h
   have hzs:a1u a0J k t (t.parts.map (srt E))≠0:=by rw[<-hs];exact hz
   rw[hs] at h3
   clear ih hz hs hl
   obtain⟨op,n,m,ps⟩:=t
   dsimp only at hop hp hG hI hV hzs h3
   subst hop
   cases hm:mkT.getD k none with
   | some x=>
     obtain⟨r,ts⟩:=x
     obtain⟨e1,e2⟩:=a0v hm hzs
     rw[e2] at h3
     have key:∀ j:Fin 33,1<=j.val->∀ r ts,mkT.getD j.val none=some (r,ts)->r=3->j.val=29/\ts=[]\/j.val=30/\ts=[1]\/j.val=31/\ts=[1]:=by
      intro j
      obtain⟨j,hj⟩:=j
      dsimp only
      intro hj1
      rcases(show j=1\/j=2\/j=3\/j=4\/j=5\/j=6\/j=7\/j=8\/j=9\/j=10\/j=11\/j=12\/j=13\/j=14\/j=15\/j=16\/j=17\/j=18\/j=19\/j=20\/j=21\/j=22\/j=23\/j=24\/j=25\/j=26\/j=27\/j=28\/j=29\/j=30\/j=31\/j=32 by omega) with rfl | rfl | rfl | rfl | rfl | rfl | rfl | rfl | rfl | rfl | rfl | rfl | rfl | rfl | rfl | rfl | rfl | rfl | rfl | rfl | rfl | rfl | rfl | rfl | rfl | rfl | rfl | rfl | rfl | rfl | rfl | rfl<;>(intro r ts h hr;first|(cases h;done)|(cases h;first|(exact absurd hr (by decide)) | exact .inl ⟨rfl,rfl⟩ | exact .inr (.inl ⟨rfl,rfl⟩) | exact .inr (.inr ⟨rfl,rfl⟩)))
     rcases key ⟨k,by omega⟩ h1 r ts hm h3 with ⟨hk,rfl⟩ | ⟨hk,rfl⟩ | ⟨hk,rfl⟩<;>dsimp only at hk<;>subst hk
     ·exact b8S E n m ps
     ·obtain⟨x,rfl,hx1⟩:=a5w e1
      exact c3q E n m x (hV x (by simp) hx1) (hG x (by simp)).1
     ·obtain⟨x,rfl,hx1⟩:=a5w e1
      exact c3r E hE n m x (hV x (by simp) hx1) (hG x (by simp)).1
   | none=>
     rcases a7P ⟨k,by omega⟩ h1 hm with e | e | e | e | e<;>dsimp only at e<;>subst e
     ·exfalso
      have hh:(if ps.map (srt E)=[] then m else 0)=3:=h3
      simp[a0o] at hb
      split at hh<;>omega
     ·exfalso
      have hh:a0N 1 (ps.map (srt E))=3:=h3
      obtain⟨-,g2,-,g4⟩:=a1Q (k:=1) (by rw[hh];decide)
      rw[g4] at hh
      exact g2 hh
     ·exfalso
      have hh:a0N 2 (ps.map (srt E))=3:=h3
      obtain⟨-,g2,-,g4⟩:=a1Q (k:=2) (by rw[hh];decide)
      rw[g4] at hh
      exact g2 hh
     ·exfalso
      have hh:a1t (ps.map (srt E))=3:=h3
      unfold a1t at hh
      split at hh
      ·obtain⟨-,g2,-,g4⟩:=a1Q (by rw[hh];decide)
       rw[g4] at hh
       exact g2 hh
      ·exact absurd hh (by decide)
     ·have hh:a0J ⟨32,n,m,ps⟩ (ps.map (srt E))≠0:=hzs
      have hl:a9Q ⟨32,n,m,ps⟩ (ps.map (srt E)):=(a5z _ _).1 (by
       unfold a0J at hh
       split at hh
       ·assumption
       ·exact absurd rfl hh)
      obtain⟨l1,l2,l3,l4,l5⟩:=hl
      rw[List.length_map] at l1 l2 l4 l5
      have hat:∀ j (h:j<ps.length),(ps.map (srt E)).getD j 0=srt E ps[j]:=fun j h=>by simp[List.getD,h]
      have h0:0<ps.length:=by omega
      rw[hat 0 h0] at l3
      rw[hat (ps.length-1) (by omega)] at l4
      refine b3q E n m ps l1 l2 h0 (hV _ (List.getElem_mem h0) l3) (hG _ (List.getElem_mem h0)).1 (fun j h hj=>hI _ (List.getElem_mem h) ?_)
      rcases hj with ⟨hj1,hj2⟩ | hj
      ·have:=l5 (j-1) (by omega) (by omega)
       unfold a9s at this
       have e5:(ps.map (srt E)).getD (j-1+1) 0=srt E ps[j]:=by rw[show j-1+1=j by omega];exact hat j h
       rw[<-e5]
       first | exact this.2.1 | exact this.2.2 | exact this.1 | exact this.2.2.1 | exact this.2.2.2
      ·have e6:j=ps.length-1:=by omega
       subst e6
       exact l4
set_option maxHeartbeats 8000000 in
set_option maxRecDepth 20000 in
theorem b4o (E:a0u)(p:PlP)(v:PlV)(v1 v2:Value)(w:World)(hok:a6z E)(hp:c3v E p)(hs:a4g w p v)(he:a3j w E v1 v2):Calls Tryz.prog 33 #[plV p v,a7c E v1 v2] w fun e w'=>e=.returned (a2O (gsR E p.gs p.fin))/\Below w.heap.size w w':=by
 have HG:=a0a hs.gs
 have HE:=a0a he
 have HP:=a0a hp
 have HOk:=a0a hok
 have HFi:=a0a (fun W (hW:Below w.heap.size w W)=>b1j E hok p.fin ⟨w,_,hs.fi⟩ hp.fin v.fi v1 v2 W (hs.fi.next hW) (he.next hW))
 obtain⟨a1,c1,a2,c2,a3,c3,a4,c4,a5,c5,rfl,g1,g2,g3,g4⟩:=hs.shapes
 dsimp only at HG HFi
 obtain⟨e1,d1,e2,d2,rfl,rfl⟩:=he.shape
 obtain⟨Y0,Y1,Y2,B0⟩:=a0r w 32 40 48 (plL p ⟨.slice a1 p.mets.length c1,.slice a2 p.wins.length c2,.slice a3 p.crons.length c3,.slice a4 p.gs.length c4,.slice a5 p.fin.parts.length c5⟩) [.int .i64 E.rep,.slice e1 E.wins.length d1,.slice e2 E.crons.length d2] [.bool false,.int .i64 0,.int .i64 0]
 have HY0:=a0a Y0
 have HY1:=a0a Y1
 have HY2:=a0a Y2
 have HB0:=a0a B0
 obtain⟨R,hR⟩:∃ R,Hid (R=gsR E p.gs p.fin):=⟨_,rfl⟩
 rw[<-hR.out]
 obtain⟨N,hN⟩:∃ N,Hid (N=p.gs.length):=⟨_,rfl⟩
 rw[<-hN.out] at HY0 HY1 HY2 HB0 g4 ⊢
 clear hok hp hs he Y0 Y1 Y2 B0 g1 g2 g3
 obtain⟨w0,hw0⟩:∃ w0,Hid (w0=((w.alloc (.cells (plL p ⟨.slice a1 p.mets.length c1,.slice a2 p.wins.length c2,.slice a3 p.crons.length c3,.slice a4 N c4,.slice a5 p.fin.parts.length c5⟩).toArray 32)).alloc (.cells #[.int .i64 E.rep,.slice e1 E.wins.length d1,.slice e2 E.crons.length d2] 40)).alloc (.cells #[.bool false,.int .i64 0,.int .i64 0] 48)):=⟨_,a0a rfl⟩
 replace HY0:Hid (Box w0 w.heap.size (plL p ⟨.slice a1 p.mets.length c1,.slice a2 p.wins.length c2,.slice a3 p.crons.length c3,.slice a4 N c4,.slice a5 p.fin.parts.length c5⟩)):=by rw[hw0.out];exact HY0
 replace HY1:Hid (Box w0 (w.heap.size+1) [.int .i64 E.rep,.slice e1 E.wins.length d1,.slice e2 E.crons.length d2]):=by rw[hw0.out];exact HY1
 replace HY2:Hid (Box w0 (w.heap.size+1+1) [.bool false,.int .i64 0,.int .i64 0]):=by rw[hw0.out];exact HY2
 replace HB0:Hid (Below w.heap.size w w0):=by rw[hw0.out];exact HB0
 go_enter Tryz.func33,Tryz.ntmps33
 go_wp2_with fail
 rw[<-hw0.out]
 clear hw0
 go_loopw [5] (fun i wr=>∃ k:Nat,i=.int .i64 (k:Nat)/\k<=N/\Hid (gsR E (p.gs.drop k) p.fin=R)/\Hid (Below w0.heap.size w0 wr)) (fun i _=>match i with | .int _ p=>((N:Int)-p).toNat | _=>0)
 case atStart=>exact⟨0,rfl,by omega,a0a (by rw[hR.out];rfl),ZD _ _⟩
 case round=>
  obtain⟨k,rfl,hk,HK,HB⟩:=hrel
  have BW:=a0a (a0b HB0.out HB.out HB0.out.size)
  replace HY0:=a0a (HY0.out.next HB.out)
  replace HY1:=a0a (HY1.out.next HB.out)
  replace HY2:=a0a (HY2.out.next HB.out)
  have x9:=HY0.out.cell 9 _ rfl
  have xl:=HY0.out.lt
  by_cases hlt:k<N
  case pos=>
   have hlt':(k:Int)<(N:Int):=by omega
   have hl1:k<p.gs.length:=by rw[<-hN.out];exact hlt
   obtain⟨bg,off,cap',hv,-,-,hbl,hx⟩:=HG.out.open (by omega)
   simp only[Value.slice.injEq] at hv
   obtain⟨rfl,-,rfl⟩:=hv
   obtain⟨u1,u2,f1,f2,s1,s2⟩:=hx k hl1
   have hgm:=List.getElem_mem hl1
   have HC1:=a0a (fun W (hW:Below w.heap.size w W)=>a9d E HOk.out _ ⟨w,_,s1⟩ (.inr (HP.out.gs _ hgm).1) u1 (.slice e1 E.wins.length d1) (.slice e2 E.crons.length d2) W (s1.next hW) (HE.out.next hW))
   have HCa:=a0a (fun W (hW:Below w.heap.size w W)=>b1j E HOk.out _ ⟨w,_,s2⟩ (HP.out.gs _ hgm).2 u2 (.slice e1 E.wins.length d1) (.slice e2 E.crons.length d2) W (s2.next hW) (HE.out.next hW))
   have HF2:=a0a f2
   have hK2:=b5j E (f:=p.fin) hl1
   rw[HK.out] at hK2
   have HK2:=a0a hK2
   have y0:=a0c BW.out f1.c0
   have y1:=a0c BW.out f1.c1
   have y2:=a0c BW.out f1.c2
   have y3:=a0c BW.out f1.c3
   have lb:bg<wr.heap.size:=ZA hbl BW.out.size
   obtain⟨au,cu,rfl,-,-⟩:=s1.parts.shape
   obtain⟨av,cv,rfl,-,-⟩:=s2.parts.shape
   clear hx f1 f2 s1 s2 hK2 HK hgm
   generalize p.gs[k]=x at *
   clear hl1
   obtain⟨⟨k1,n1,m1,ps1⟩,⟨k2,n2,m2,ps2⟩⟩:=x
   dsimp only at *
   generalize ps1.length=L1 at *
   generalize ps2.length=L2 at *
   generalize a0d E ⟨k1,n1,m1,ps1⟩=r at *
   generalize a0d E ⟨k2,n2,m2,ps2⟩=r6 at *
   obtain⟨t0,t1,t2⟩:=Box.c3 HY1.out
   have le:=HY1.out.lt
   obtain⟨G,hG⟩:∃ G:Nat->World->Prop,Hid (G=fun dd w'=>Box w' dd [.int .i64 r.2,.int .i64 r.1]/\Below wr.heap.size wr w'):=⟨_,a0a rfl⟩
   have nlb:bg≠wr.heap.size:=Nat.ne_of_lt lb
   have nlb':wr.heap.size≠bg:=Nat.ne_of_gt lb
   have nlc:w.heap.size≠wr.heap.size:=Nat.ne_of_lt xl
   have nlc':wr.heap.size≠w.heap.size:=Nat.ne_of_gt xl
   have nle:w.heap.size+1≠wr.heap.size:=Nat.ne_of_lt le
   have nle':wr.heap.size≠w.heap.size+1:=Nat.ne_of_gt le
   go_wp2_with fail
   apply b6w G
   case hreg=>
    go_region_held3 (fun w'=>w'.cell? ⟨w.heap.size,9,none⟩=some (.slice (some ⟨bg,off,none⟩) N c4)/\w'.cell? ⟨w.heap.size+1,0,none⟩=some (.int .i64 E.rep)/\w'.cell? ⟨w.heap.size+1,1,none⟩=some (.slice e1 E.wins.length d1)/\w'.cell? ⟨w.heap.size+1,2,none⟩=some (.slice e2 E.crons.length d2)/\w'.cell? ⟨bg,off+k*8,none⟩=some (.int .i64 k1)/\w'.cell? ⟨bg,off+k*8+1,none⟩=some (.int .i64 n1)/\w'.cell? ⟨bg,off+k*8+2,none⟩=some (.int .i64 m1)/\w'.cell? ⟨bg,off+k*8+3,none⟩=some (.slice au L1 cu)) (simp[go_sem, *]) (first|(go_at_call 64;refine ZE (HC1.out _ (by exact a0e BW.out _)) ?_;rintro e u1 ⟨rfl,b⟩;have Hu1:Hid (Below wr.heap.size wr u1):=⟨b.os,b.tape,b.output,b.size,b.block⟩;have g0:=fun p v hp hv=>(Hu1.out.cell (p:=p) hp).trans (hv:wr.cell? p=some v);replace x9:=g0 _ _ xl x9;replace t0:=g0 _ _ le t0;replace t1:=g0 _ _ le t1;replace t2:=g0 _ _ le t2;replace y0:=g0 _ _ lb y0;replace y1:=g0 _ _ lb y1;replace y2:=g0 _ _ lb y2;replace y3:=g0 _ _ lb y3;replace lb:=ZA lb Hu1.out.size;replace xl:=ZA xl Hu1.out.size;replace le:=ZA le Hu1.out.size;clear g0;clear b)|(go_at_call 64;refine ZE (HC1.out _ (by exact a0b BW.out ((a0e (ZD wr.heap.size wr) _).alloc (ZB _) _) BW.out.size)) ?_;rintro e u2 ⟨rfl,b⟩;have Hu2:Hid (Below wr.heap.size wr u2):=a0a (a0b ((a0e (ZD wr.heap.size wr) _).alloc (ZB _) _) b ((a0e (ZD wr.heap.size wr) _).alloc (ZB _) _).size);have Zz:Box u2 wr.heap.size [.int .i64 0,.int .i64 0]:=Box.next (Box.new (wr.drewN _) [.int .i64 0,.int .i64 0] 84) b;have z0:=Zz.cell 0 _ rfl;have z1:=Zz.cell 1 _ rfl;have z2:=Zz.free 0 (by simp);have z3:=Zz.free 1 (by simp);have zl:=Zz.lt;have HZ:=a0a Zz;clear Zz;have g0:=fun p v hp hv=>(Hu2.out.cell (p:=p) hp).trans (hv:wr.cell? p=some v);replace x9:=g0 _ _ xl x9;replace t0:=g0 _ _ le t0;replace t1:=g0 _ _ le t1;replace t2:=g0 _ _ le t2;replace y0:=g0 _ _ lb y0;replace y1:=g0 _ _ lb y1;replace y2:=g0 _ _ lb y2;replace y3:=g0 _ _ lb y3;replace lb:=ZA lb Hu2.out.size;replace xl:=ZA xl Hu2.out.size;replace le:=ZA le Hu2.out.size;clear g0;clear b))
    ·first|(obtain⟨dd,hdd⟩:∃ dd,dd=u1.heap.size:=⟨_,rfl⟩;rw[<-hdd];refine⟨dd,rfl,?_⟩;rw[hG.out,hdd];exact⟨Box.new u1 [.int .i64 r.2,.int .i64 r.1] 84,Hu1.out.alloc Hu1.out.size _⟩)|(obtain⟨dd,hdd⟩:∃ dd,dd=wr.heap.size:=⟨_,rfl⟩;rw[<-hdd];refine⟨dd,rfl,?_⟩;rw[hG.out,hdd];exact⟨(HZ.out.set 0 (by simp) (.int .i64 r.2)).set 1 (by simp) (.int .i64 r.1),(Hu2.out.setCell (p:=⟨_,0,none⟩) (ZB _) _).setCell (p:=⟨_,1,none⟩) (ZB _) _⟩)
    ·first|(obtain⟨dd,hdd⟩:∃ dd,dd=u1.heap.size:=⟨_,rfl⟩;rw[<-hdd];refine⟨dd,rfl,?_⟩;rw[hG.out,hdd];exact⟨Box.new u1 [.int .i64 r.2,.int .i64 r.1] 84,Hu1.out.alloc Hu1.out.size _⟩)|(obtain⟨dd,hdd⟩:∃ dd,dd=wr.heap.size:=⟨_,rfl⟩;rw[<-hdd];refine⟨dd,rfl,?_⟩;rw[hG.out,hdd];exact⟨(HZ.out.set 0 (by simp) (.int .i64 r.2)).set 1 (by simp) (.int .i64 r.1),(Hu2.out.setCell (p:=⟨_,0,none⟩) (ZB _) _).setCell (p:=⟨_,1,none⟩) (ZB _) _⟩)
   case hrest=>
   intro aD wa hGd
   rw[hG.out] at hGd
   obtain⟨Ya,ka⟩:=hGd
   clear x9 xl t0 t1 t2 le y0 y1 y2 y3 lb nlb nlb' nlc nlc' nle nle' hG G HC1
   have HB1:=kb BW ka
   have HBr:=kb HB ka
   replace HY0:=kn HY0 ka
   replace HY1:=kn HY1 ka
   replace HY2:=kn HY2 ka
   have Xa:=a0a Ya
   clear ka Ya
   obtain⟨z0,z1⟩:=Box.c2 Xa.out
   have zl:=Xa.out.lt
   have q0:=HY2.out.cell 0 _ rfl
   have j0:=HY2.out.free 0 (by simp)
   have q1:=HY2.out.cell 1 _ rfl
   have j1:=HY2.out.free 1 (by simp)
   have q2:=HY2.out.cell 2 _ rfl
   have j2:=HY2.out.free 2 (by simp)
   have ql:=HY2.out.lt
   by_cases hz:r.2=0
   case neg=>
    have d0:(r.2 != 0)=true:=by simpa using hz
    have hQr:Hid (a2O R=.agg #[.bool true,.int .i64 r.2,.int .i64 0]):=by
     show _=_
     rw[HK2.out,if_neg hz]
     exact a4q 0 hz
    clear HCa HK2
    go_wp2_with fail
    refine bodyPost_ret (v:=.agg #[.bool true,.int .i64 r.2,.int .i64 0]) (by simp[results,Tryz.results33,go_sem, *]) rfl ?_
    exact⟨by rw[hQr.out],((HB1.out.setCell (p:=⟨w.heap.size+1+1,0,none⟩) (by simp;omega) _).setCell (p:=⟨w.heap.size+1+1,1,none⟩) (by simp;omega) _).setCell (p:=⟨w.heap.size+1+1,2,none⟩) (by simp;omega) _⟩
   obtain⟨r1,r2⟩:=r
   obtain rfl:r2=0:=hz
   change _=some (Value.int .i64 0) at z0
   change _=some (Value.int .i64 r1) at z1
   by_cases hr1:r1=1
   case neg=>
    have hr1':(r1==1)=false:=by simpa using hr1
    have H3:Hid (gsR E (p.gs.drop (k+1)) p.fin=R):=a0a (by rw[HK2.out];simp[hr1])
    clear HK2 HCa q0 q1 q2 j0 j1 j2 ql
    go_wp2_with fail
    go_roundw
    case rel=>exact⟨k+1,by go_num,by omega,H3.out,HBr.out⟩
    case measure=>simp;omega
   subst hr1
   have hQr:Hid (a2O R=a2O r6):=a0a (by rw[HK2.out];rfl)
   obtain⟨ra,rb,rc,hra⟩:∃ ra rb rc,Hid (a2O r6=.agg #[.bool ra,.int .i64 rb,.int .i64 rc]):=by unfold a2O;split;exact⟨_,_,_,a0a rfl⟩;exact⟨_,_,_,a0a rfl⟩
   rw[hra.out] at HCa
   have y0:=a0c HB1.out HF2.out.c0
   have y1:wa.cell? ⟨bg,off+k*8+5,none⟩=_:=a0c HB1.out HF2.out.c1
   have y2:wa.cell? ⟨bg,off+k*8+6,none⟩=_:=a0c HB1.out HF2.out.c2
   have y3:wa.cell? ⟨bg,off+k*8+7,none⟩=_:=a0c HB1.out HF2.out.c3
   have lb:bg<wa.heap.size:=ZA hbl HB1.out.size
   have x9:=HY0.out.cell 9 _ rfl
   have xl:=HY0.out.lt
   obtain⟨t0,t1,t2⟩:=Box.c3 HY1.out
   have le:=HY1.out.lt
   clear HK2
   go_wp2_with fail
   go_region_held3 (fun w'=>w'.cell? ⟨w.heap.size,9,none⟩=some (.slice (some ⟨bg,off,none⟩) N c4)/\w'.cell? ⟨bg,off+k*8+4,none⟩=some (.int .i64 k2)/\w'.cell? ⟨bg,off+k*8+5,none⟩=some (.int .i64 n2)/\w'.cell? ⟨bg,off+k*8+6,none⟩=some (.int .i64 m2)/\w'.cell? ⟨bg,off+k*8+7,none⟩=some (.slice av L2 cv)/\w'.cell? ⟨w.heap.size+1,0,none⟩=some (.int .i64 E.rep)/\w'.cell? ⟨w.heap.size+1,1,none⟩=some (.slice e1 E.wins.length d1)/\w'.cell? ⟨w.heap.size+1,2,none⟩=some (.slice e2 E.crons.length d2)) (simp[go_sem, *]) (first|(go_at_call 65;refine ZE (HCa.out _ (by exact HB1.out.drew)) ?_;rintro e w2 ⟨rfl,bb⟩;have BB:Below wa.heap.size wa w2:=⟨bb.os,bb.tape,bb.output,bb.size,bb.block⟩;replace x9:=a0c BB x9;replace y0:=a0c BB y0;replace y1:=a0c BB y1;replace y2:=a0c BB y2;replace y3:=a0c BB y3;replace t0:=a0c BB t0;replace t1:=a0c BB t1;replace t2:=a0c BB t2;replace HY2:=kn HY2 BB;replace q0:=HY2.out.cell 0 _ rfl;replace j0:=HY2.out.free 0 (by simp);replace q1:=HY2.out.cell 1 _ rfl;replace j1:=HY2.out.free 1 (by simp);replace q2:=HY2.out.cell 2 _ rfl;replace j2:=HY2.out.free 2 (by simp);replace ql:=HY2.out.lt;have HB2:=kb HB1 BB;clear bb BB))
   clear t0 t1 t2 x9 y0 y1 y2 y3
   go_wp2_with fail
   refine bodyPost_ret (v:=.agg #[.bool ra,.int .i64 rb,.int .i64 rc]) (by simp[results,Tryz.results33,go_sem, *]) rfl ?_
   exact⟨by rw[hQr.out,hra.out],((HB2.out.setCell (p:=⟨w.heap.size+1+1,0,none⟩) (by simp;omega) _).setCell (p:=⟨w.heap.size+1+1,1,none⟩) (by simp;omega) _).setCell (p:=⟨w.heap.size+1+1,2,none⟩) (by simp;omega) _⟩
  have hlt':¬(k:Int)<(N:Int):=by omega
  have hkN:k=N:=by omega
  have e0:p.gs.drop k=[]:=List.drop_eq_nil_of_le (by rw[hkN,hN.out];exact ZB _)
  rw[e0] at HK
  have hQr:Hid (a2O R=a2O (a0d E p.fin)):=a0a (by rw[<-HK.out];rfl)
  obtain⟨ra,rb,rc,hra⟩:∃ ra rb rc,Hid (a2O (a0d E p.fin)=.agg #[.bool ra,.int .i64 rb,.int .i64 rc]):=by unfold a2O;split;exact⟨_,_,_,a0a rfl⟩;exact⟨_,_,_,a0a rfl⟩
  rw[hra.out] at HFi
  have HCa:=HFi
  have y0:=HY0.out.cell 10 _ rfl
  have y1:=HY0.out.cell 11 _ rfl
  have y2:=HY0.out.cell 12 _ rfl
  have y3:=HY0.out.cell 13 _ rfl
  obtain⟨t0,t1,t2⟩:=Box.c3 HY1.out
  have le:=HY1.out.lt
  have q0:=HY2.out.cell 0 _ rfl
  have j0:=HY2.out.free 0 (by simp)
  have q1:=HY2.out.cell 1 _ rfl
  have j1:=HY2.out.free 1 (by simp)
  have q2:=HY2.out.cell 2 _ rfl
  have j2:=HY2.out.free 2 (by simp)
  have ql:=HY2.out.lt
  clear HK e0 HFi
  go_wp2_with fail
  refine ZE (HCa.out _ BW.out) ?_
  rintro e w2 ⟨rfl,bb⟩
  replace HY2:=kn HY2 bb
  have HB2:=kb BW bb
  clear bb y0 y1 y2 y3 t0 t1 t2 le q0 q1 q2 j0 j1 j2 ql
  have q0:=HY2.out.cell 0 _ rfl
  have j0:=HY2.out.free 0 (by simp)
  have q1:=HY2.out.cell 1 _ rfl
  have j1:=HY2.out.free 1 (by simp)
  have q2:=HY2.out.cell 2 _ rfl
  have j2:=HY2.out.free 2 (by simp)
  have ql:=HY2.out.lt
  go_wp2_with fail
  refine bodyPost_ret (v:=.agg #[.bool ra,.int .i64 rb,.int .i64 rc]) (by simp[results,Tryz.results33,go_sem, *]) rfl ?_
  exact⟨by rw[hQr.out,hra.out],((HB2.out.setCell (p:=⟨w.heap.size+1+1,0,none⟩) (by simp;omega) _).setCell (p:=⟨w.heap.size+1+1,1,none⟩) (by simp;omega) _).setCell (p:=⟨w.heap.size+1+1,2,none⟩) (by simp;omega) _⟩
end Go.Proofs.YtbddbnjhmdbkbaaGreatDoor
