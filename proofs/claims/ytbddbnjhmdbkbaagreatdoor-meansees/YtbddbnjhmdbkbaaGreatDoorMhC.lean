import Derived.Test.YtbddbnjhmdbkbaaGreatDoorMhY
namespace Go.Proofs.YtbddbnjhmdbkbaaGreatDoor
open Go.RowKit
theorem a7D {x:Int}(h:x≠0)(p:Rs)(hp:p=noR x):a1Z p=.tuple #[.int .i64 0,.iface 238 (.agg #[.int .i64 x])]:=by
 subst hp
 show Value.tuple #[.int .i64 0,b4o x]=_
 rw[a3B h]
theorem a0u {n:Int}(p:Rs)(hp:p=okR n):a1Z p=.tuple #[.int .i64 n,.nilIface]:=by
 subst hp
 show Value.tuple #[.int .i64 n,b4o 0]=_
 rw[a6w]
theorem b7M (E:a0z)(t:Co)(k:Nat)(hk:k=1\/k=2)(hop:t.op=(k:Int)):WkC E k t:=by
 intro v tb b w f q hs ht hw
 have hf:f=132/\q=#[]:=by
  rcases hk with rfl | rfl<;>(cases hw;exact⟨rfl,rfl⟩)
 obtain⟨rfl,rfl⟩:=hf
 have hT:a0e E t=okR t.n:=by rw[a0g,hop];rcases hk with rfl | rfl<;>rfl
 rw[a0u _ hT]
 obtain⟨ad,cap,rfl,-,-⟩:=hs.parts.shape
 clear hs ht hw hT
 go_enter Tryz.func132,Tryz.ntmps132
 go_wp2_with fail
 go_ret2
 exact⟨rfl,(ZD _ _).alloc (ZB _) _⟩
theorem c0S (E:a0z)(t:Co)(hop:t.op=3):WkC E 3 t:=by
 intro v tb b w f q hs ht hw
 cases hw
 have hT:a0e E t=okR (held (E.rep*1000000)):=by rw[a0g,hop];rfl
 rw[a0u _ hT]
 obtain⟨ad,cap,rfl,-,-⟩:=hs.parts.shape
 obtain⟨-,s1,sl⟩:=ht.cell0
 have HW:=a0a (fun W=>a3g E.rep ht.ok.rep.1 (by have:=ht.ok.rep.2;omega) W)
 have A:∀ o,Below w.heap.size w (w.alloc o):=fun o=>(ZD _ _).alloc (ZB _) _
 have HA:=a0a A
 clear hs ht hT A
 go_enter Tryz.func135,Tryz.ntmps135
 go_wp2_with fail
 refine ZE (HW.out _) ?_
 rintro e w1 ⟨rfl,b1⟩
 have HB:=a0a (a0b (HA.out _) b1 (by simp))
 clear b1
 go_wp2_with fail
 go_ret2
 exact⟨rfl,HB.out⟩
theorem b8z (E:a0z)(t:Co)(hop:t.op=6)(hn:t.n≠0):WkC E 6 t:=by
 intro v tb b w f q hs ht hw
 cases hw
 have hT:a0e E t=noR t.n:=by rw[a0g,hop];rfl
 rw[a7D hn _ hT]
 have hf:=hs.fit.n
 obtain⟨ad,cap,rfl,-,-⟩:=hs.parts.shape
 have A:∀ o,Below w.heap.size w (w.alloc o):=fun o=>(ZD _ _).alloc (ZB _) _
 have HA:=a0a A
 have f1:=hf.1
 have f2:t.n<9223372036854775808:=by have:=hf.2;omega
 clear hs ht hT A hf
 go_enter Tryz.func142,Tryz.ntmps142
 go_wp2_with fail
 go_quiet (fail)
 go_wp2_with fail
 go_ret2
 exact⟨rfl,a0j (HA.out _) _⟩
theorem b8y (E:a0z)(t:Co)(hop:t.op=29):WkC E 29 t:=by
 intro v tb b w f q hs ht hw
 cases hw
 have hT:a0e E t=noR 4:=by rw[a0g,hop];rfl
 rw[a7D (by decide) _ hT]
 obtain⟨ad,cap,rfl,-,-⟩:=hs.parts.shape
 have A:∀ o,Below w.heap.size w (w.alloc o):=fun o=>(ZD _ _).alloc (ZB _) _
 have HA:=a0a A
 clear hs ht hT A
 go_enter Tryz.func172,Tryz.ntmps172
 go_wp2_with fail
 go_ret2
 exact⟨rfl,HA.out _⟩
set_option maxHeartbeats 1000000 in
theorem a2z (h:Bool)(w:World):Calls Tryz.prog 217 #[.bool h] w fun e w'=>e=.returned (.int .i64 (b2i h))/\w'=w:=by
 cases h
 ·go_enter Tryz.func217,Tryz.ntmps217
  go_wp2_with fail
  go_ret
  exact⟨rfl,rfl⟩
 ·go_enter Tryz.func217,Tryz.ntmps217
  go_wp2_with fail
  go_ret
  exact⟨rfl,rfl⟩
set_option maxHeartbeats 1000000 in
theorem b8A (E:a0z)(t:Co)(hop:t.op=5)(h0:0<=t.n)(h1:t.n<E.crons.length):WkC E 5 t:=by
 intro v tb b w f q hs ht hw
 cases hw
 have hT:a0e E t=okR (b2i (E.crons.getD t.n.toNat false)):=by rw[a0g,hop];rfl
 rw[a0u _ hT]
 obtain⟨ad,cap,rfl,-,-⟩:=hs.parts.shape
 obtain⟨v1,v2,hb,-,hc⟩:=ht.bx
 obtain⟨ad2,cap2,rfl,e | ⟨g,off,rfl,hg,hcs⟩⟩:=hc
 ·rw[e] at h1;simp at h1;omega
 obtain⟨n,hn⟩:∃ n:Nat,t.n=(n:Int):=⟨t.n.toNat,by omega⟩
 have hnl:n<E.crons.length:=by omega
 have hc1:=hcs n hnl
 rw[hn,Int.toNat_natCast] at hT ⊢
 rw[hn] at h1
 have s3:=hb.cell 3 _ rfl
 have sl:=hb.lt
 generalize E.crons.getD n false=x at *
 have HC:=a0a (fun W=>a2z x W)
 have A:∀ o,Below w.heap.size w (w.alloc o):=fun o=>(ZD _ _).alloc (ZB _) _
 have HA:=a0a A
 have hn':(coV t (.slice ad t.parts.length cap))=.agg #[.int .i64 t.op,.int .i64 (n:Int),.int .i64 t.m,.slice ad t.parts.length cap]:=by simp only[coV,hn]
 rw[hn']
 clear hs ht hT A hb hcs h0 hn'
 generalize E.crons.length=L at *
 go_enter Tryz.func139,Tryz.ntmps139
 go_wp2_with fail
 go_quiet (first|(go_at_call 217;refine Calls.quiet_of_same (HC.out _)))
 go_wp2_with fail
 go_ret2
 exact⟨rfl,a0j (HA.out _) _⟩
set_option maxHeartbeats 1000000 in
theorem c0R (E:a0z)(t:Co)(hop:t.op=4)(h0:0<=t.n)(h1:t.n<E.wins.length):WkC E 4 t:=by
 intro v tb b w f q hs ht hw
 cases hw
 obtain⟨op,tn,tm,ps⟩:=t
 obtain rfl:op=4:=hop
 dsimp only at h0 h1
 obtain⟨n,rfl⟩:∃ n:Nat,tn=(n:Int):=⟨tn.toNat,by omega⟩
 generalize ht':(⟨4,n,tm,ps⟩:Co)=t at *
 obtain⟨x,hx⟩:∃ x,Hid (x=E.wins.getD n (0,0)):=⟨_,rfl⟩
 have hT:a0e E t=if x.1=0 then okR x.2 else noR x.1:=by rw[hx.out,<-ht',a0g];rfl
 obtain⟨ad,cap,rfl,-,-⟩:=hs.parts.shape
 generalize t.parts.length=N at *
 obtain⟨v1,v2,hb,hc,-⟩:=ht.bx
 obtain⟨ad2,cap2,rfl,e | ⟨g,off,rfl,hg,hcs⟩⟩:=hc
 ·rw[e] at h1;simp at h1;omega
 have hnl:n<E.wins.length:=by omega
 obtain⟨g0,g1⟩:=hcs n hnl
 rw[<-hx.out] at g0 g1
 have hx1:=(ht.ok.wins n).1
 rw[<-hx.out] at hx1
 have s2:=hb.cell 2 _ rfl
 have sl:=hb.lt
 have A:∀ o,Below w.heap.size w (w.alloc o):=fun o=>(ZD _ _).alloc (ZB _) _
 have HA:=a0a A
 have hn':(coV t (.slice ad N cap))=.agg #[.int .i64 4,.int .i64 (n:Int),.int .i64 tm,.slice ad N cap]:=by rw[<-ht']
 rw[hn']
 generalize E.wins.length=L at *
 have X0:=Box.new w [.int .i64 4,.int .i64 (n:Int),.int .i64 tm,.slice ad N cap] 30
 have ka:=HA.out (.cells [.int .i64 4,.int .i64 (n:Int),.int .i64 tm,.slice ad N cap].toArray 30)
 have d2:=(ka.cell (p:=⟨tb,2,none⟩) sl).trans s2
 have d0:=(ka.cell (p:=⟨g,_,none⟩) hg).trans g0
 have d1:=(ka.cell (p:=⟨g,_,none⟩) hg).trans g1
 have c1:=X0.cell 1 _ rfl
 have x0:=X0.lt
 have k0:g<(w.alloc (.cells [.int .i64 4,.int .i64 (n:Int),.int .i64 tm,.slice ad N cap].toArray 30)).heap.size:=ZA hg ka.size
 have k1:tb<(w.alloc (.cells [.int .i64 4,.int .i64 (n:Int),.int .i64 tm,.slice ad N cap].toArray 30)).heap.size:=ZA sl ka.size
 have HKa:=a0a ka
 have HT:=a0a hT
 clear hs ht hT A hb hcs h0 hn' HA X0 ka s2 g0 g1 ht'
 obtain⟨x1,x2⟩:=x
 dsimp only at d0 d1 hx1
 go_enter Tryz.func137,Tryz.ntmps137
 go_wp2_with fail
 generalize hW0:w.alloc _=w0 at *
 clear hW0
 go_region_held3 (fun w'=>w'.cell? ⟨tb,2,none⟩=some (.slice (some ⟨g,off,none⟩) L cap2)/\w'.cell? ⟨w.heap.size,1,none⟩=some (.int .i64 (n:Int))/\(w'.cell? ⟨g,off+n*2,none⟩=some (.int .i64 x1)/\w'.cell? ⟨g,off+n*2+1,none⟩=some (.int .i64 x2))) (simp[go_sem, *]) (fail)
 have b1:=a0j ((ZD w0.heap.size w0).alloc (ZB _) (.cells [.int .i64 x1,.int .i64 x2].toArray 84)) 1
 have Z0:=(Box.new w0 [.int .i64 x1,.int .i64 x2] 84).next (a0j (ZD _ _) 1)
 change Box (w0.alloc (.cells #[.int .i64 x1,.int .i64 x2] 84)).drew w0.heap.size _ at Z0
 change Below w0.heap.size w0 (w0.alloc (.cells #[.int .i64 x1,.int .i64 x2] 84)).drew at b1
 generalize (w0.alloc (.cells #[.int .i64 x1,.int .i64 x2] 84)).drew=w1 at *
 have HB1:=kb HKa b1
 obtain⟨z0,z1⟩:=Box.c2 Z0
 have z2:=Z0.lt
 clear d0 d1 d2 c1 x0 k0 k1 HKa b1 Z0
 by_cases hz:x1=0
 ·have hT:a0e E t=okR x2:=by rw[HT.out];exact if_pos hz
  have HT2:=a0a hT
  clear hT HT
  subst hz
  go_wp2_with fail
  go_ret2
  exact⟨by rw[a0u _ HT2.out];rfl,HB1.out⟩
 ·have hT:a0e E t=noR x1:=by rw[HT.out];exact if_neg hz
  have HT2:=a0a hT
  have HZ:=a0a hz
  clear hT HT
  have k:(x1 != 0)=true:=by simpa using hz
  go_wp2_with fail
  go_quiet (fail)
  go_wp2_with fail
  go_ret2
  exact⟨by rw[a7D HZ.out _ HT2.out];rfl,a0j HB1.out _⟩
theorem a6k {w:World}{v:Value}{x0:Co}(h:CAt w v [x0]):∃ pb off cap u0,v=.slice (some ⟨pb,off,none⟩) 1 cap/\1<=cap/\cap<=9223372036854775807/\pb<w.heap.size/\a9d w pb off x0 u0/\a0p w x0 u0:=by
 obtain⟨pb,off,cap,e,h1,h2,h3,hx⟩:=h.open (by simp)
 obtain⟨u0,f0,s0⟩:=hx 0 (by simp)
 exact⟨pb,off,cap,u0,e,h1,h2,h3,by simpa using f0,s0⟩
theorem a6j {w:World}{v:Value}{x0 x1:Co}(h:CAt w v [x0,x1]):∃ pb off cap u0 u1,v=.slice (some ⟨pb,off,none⟩) 2 cap/\2<=cap/\cap<=9223372036854775807/\pb<w.heap.size/\a9d w pb off x0 u0/\a0p w x0 u0/\a9d w pb (off+4) x1 u1/\a0p w x1 u1:=by
 obtain⟨pb,off,cap,e,h1,h2,h3,hx⟩:=h.open (by simp)
 obtain⟨u0,f0,s0⟩:=hx 0 (by simp)
 obtain⟨u1,f1,s1⟩:=hx 1 (by simp)
 exact⟨pb,off,cap,u0,u1,e,h1,h2,h3,by simpa using f0,s0,by simpa using f1,s1⟩
theorem c1n {w:World}{v:Value}{x0 x1 x2:Co}(h:CAt w v [x0,x1,x2]):∃ pb off cap u0 u1 u2,v=.slice (some ⟨pb,off,none⟩) 3 cap/\3<=cap/\cap<=9223372036854775807/\pb<w.heap.size/\a9d w pb off x0 u0/\a0p w x0 u0/\a9d w pb (off+4) x1 u1/\a0p w x1 u1/\a9d w pb (off+8) x2 u2/\a0p w x2 u2:=by
 obtain⟨pb,off,cap,e,h1,h2,h3,hx⟩:=h.open (by simp)
 obtain⟨u0,f0,s0⟩:=hx 0 (by simp)
 obtain⟨u1,f1,s1⟩:=hx 1 (by simp)
 obtain⟨u2,f2,s2⟩:=hx 2 (by simp)
 exact⟨pb,off,cap,u0,u1,u2,e,h1,h2,h3,by simpa using f0,s0,by simpa using f1,s1,by simpa using f2,s2⟩
set_option maxHeartbeats 1000000 in
theorem b8x (E:a0z)(tn tm:Int)(x0:Co)(H0:TeC E x0):WkC E 7 ⟨7,tn,tm,[x0]⟩:=by
 intro v tb b w f q hs ht hw
 cases hw
 obtain⟨Rv,hRv⟩:∃ Rv,Hid (Rv=a1Z (a0e E ⟨7,tn,tm,[x0]⟩)):=⟨_,rfl⟩
 rw[<-hRv.out]
 have hT:Hid (Rv=a1Z (a0e E x0)):=by rw[a0g] at hRv;exact hRv
 obtain⟨pb,off,cap,u0,rfl,k1,k2,lp,f0,s0⟩:=a6k hs.parts
 obtain⟨a0,n0,rfl,-,-⟩:=s0.parts.shape
 have A:∀ o,Below w.heap.size w (w.alloc o):=fun o=>(ZD _ _).alloc (ZB _) _
 have HC0:=a0a (fun W (hW:Below w.heap.size w W)=>H0 _ tb b W (s0.next hW) (ht.next hW))
 obtain⟨p0,p1,p2,p3⟩:=f0
 have HA:=a0a A
 clear hs ht A s0 hRv
 generalize a0e E x0=r0 at *
 go_enter Tryz.func145,Tryz.ntmps145
 go_wp2_with fail
 refine ZE (HC0.out _ (HA.out _)) ?_
 rintro e w1 ⟨rfl,b1⟩
 have HB:=a0a (a0b (HA.out _) b1 (by simp))
 clear b1 HC0 HA p0 p1 p2 p3
 go_wp2_with fail
 go_ret2
 exact⟨by rw[hT.out];rfl,HB.out⟩
theorem a0o (n:Int){e:Int}(h:e≠0):a1Z (n,e)=.tuple #[.int .i64 n,.iface 238 (.agg #[.int .i64 e])]:=by
 show Value.tuple #[.int .i64 n,b4o e]=_
 rw[a3B h]
set_option maxHeartbeats 1000000 in
theorem c0T (E:a0z)(tn tm:Int)(x0 x1:Co)(H0:TeC E x0)(H1:TeC E x1):WkC E 25 ⟨25,tn,tm,[x0,x1]⟩:=by
 intro v tb b w f q hs ht hw
 cases hw
 obtain⟨Rv,hRv⟩:∃ Rv,Hid (Rv=a1Z (a0e E ⟨25,tn,tm,[x0,x1]⟩)):=⟨_,rfl⟩
 rw[<-hRv.out]
 rw[a0g] at hRv
 obtain⟨pb,off,cap,u0,u1,rfl,k1,k2,lp,f0,s0,f1,s1⟩:=a6j hs.parts
 obtain⟨a0,n0,rfl,-,-⟩:=s0.parts.shape
 have HC0:=a0a (fun W (hW:Below w.heap.size w W)=>H0 _ tb b W (s0.next hW) (ht.next hW))
 obtain⟨a1,n1,rfl,-,-⟩:=s1.parts.shape
 have HC1:=a0a (fun W (hW:Below w.heap.size w W)=>H1 _ tb b W (s1.next hW) (ht.next hW))
 have HA:Hid (∀ o,Below w.heap.size w (w.alloc o)):=fun o=>(ZD _ _).alloc (ZB _) _
 have HF0:=a0a f0
 have HF1:=a0a f1
 obtain⟨p0,p1,p2,p3⟩:=f0
 have HX:=a0a (Box.new w (coL ⟨25,tn,tm,[x0,x1]⟩ (.slice (some ⟨pb,off,none⟩) 2 cap)) 30)
 clear hs ht s0 s1
 have hT:Hid (Rv=a1Z (if (a0e E x0).2=0/\(a0e E x0).1≠0 then (a0e E x1) else noR (a0e E x0).2)):=hRv
 clear hRv
 generalize a0e E x0=r0 at *
 generalize a0e E x1=r1 at *
 obtain⟨n0',e0⟩:=r0
 dsimp only at hT
 by_cases he:e0=0
 case neg=>
  have hR:Hid (Rv=Value.tuple #[.int .i64 0,.iface 238 (.agg #[.int .i64 e0])]):=by show _=_;rw[hT.out,if_neg (fun h=>he h.1)];exact a0o _ he
  go_enter Tryz.func166,Tryz.ntmps166
  go_wp2_with fail
  refine ZE (HC0.out _ (HA.out _)) ?_
  rintro e w1 ⟨he1,b1⟩
  rw[a0o n0' he] at he1
  subst he1
  have HB:=a0a (a0b (HA.out _) b1 (by simp))
  have X1:=HX.out.next b1
  obtain⟨c0,c1,c2,c3⟩:=Box.c4 X1
  have x1l:=X1.lt
  clear b1 HC0 HX X1 p0 p1 p2 p3
  clear hT
  go_wp2_with fail
  go_ret2
  exact⟨by rw[hR.out];rfl,HB.out⟩
 subst he
 by_cases hz:n0'=0
 ·subst hz
  have hR:Hid (Rv=Value.tuple #[.int .i64 0,.nilIface]):=by show _=_;rw[hT.out,if_neg (by simp)];exact a0u _ rfl
  go_enter Tryz.func166,Tryz.ntmps166
  go_wp2_with fail
  refine ZE (HC0.out _ (HA.out _)) ?_
  rintro e w1 ⟨he1,b1⟩
  rw[a0u (0,0) rfl] at he1
  subst he1
  have HB:=a0a (a0b (HA.out _) b1 (by simp))
  have X1:=HX.out.next b1
  obtain⟨c0,c1,c2,c3⟩:=Box.c4 X1
  have x1l:=X1.lt
  clear b1 HC0 HX X1 p0 p1 p2 p3
  clear hT
  go_wp2_with fail
  go_ret2
  exact⟨by rw[hR.out];rfl,HB.out⟩
 ·have hR:Hid (Rv=a1Z r1):=by show _=_;rw[hT.out,if_pos ⟨rfl,hz⟩]
  have kz:(n0'==0)=false:=by simpa using hz
  go_enter Tryz.func166,Tryz.ntmps166
  go_wp2_with fail
  refine ZE (HC0.out _ (HA.out _)) ?_
  rintro e w1 ⟨he1,b1⟩
  rw[a0u (n0',0) rfl] at he1
  subst he1
  have HB:=a0a (a0b (HA.out _) b1 (by simp))
  have X1:=HX.out.next b1
  obtain⟨c0,c1,c2,c3⟩:=Box.c4 X1
  have x1l:=X1.lt
  clear b1 HC0 HX X1 p0 p1 p2 p3
  clear hT
  obtain⟨p0,p1,p2,p3⟩:=HF1.out.keep (w':=w1) (fun j=>HB.out.cell (p:=⟨pb,j,none⟩) lp)
  have lp1:=ZA lp HB.out.size
  go_wp2_with fail
  refine ZE (HC1.out _ HB.out) ?_
  rintro e w2 ⟨rfl,b2⟩
  have HB2:=kb HB b2
  clear b2 p0 p1 p2 p3
  go_wp2_with fail
  go_ret2
  exact⟨by rw[hR.out];rfl,HB2.out⟩
set_option maxHeartbeats 1000000 in
theorem c2r (E:a0z)(tn tm:Int)(x0 x1:Co)(H0:TeC E x0)(H1:TeC E x1):WkC E 26 ⟨26,tn,tm,[x0,x1]⟩:=by
 intro v tb b w f q hs ht hw
 cases hw
 obtain⟨Rv,hRv⟩:∃ Rv,Hid (Rv=a1Z (a0e E ⟨26,tn,tm,[x0,x1]⟩)):=⟨_,rfl⟩
 rw[<-hRv.out]
 rw[a0g] at hRv
 obtain⟨pb,off,cap,u0,u1,rfl,k1,k2,lp,f0,s0,f1,s1⟩:=a6j hs.parts
 obtain⟨a0,n0,rfl,-,-⟩:=s0.parts.shape
 have HC0:=a0a (fun W (hW:Below w.heap.size w W)=>H0 _ tb b W (s0.next hW) (ht.next hW))
 obtain⟨a1,n1,rfl,-,-⟩:=s1.parts.shape
 have HC1:=a0a (fun W (hW:Below w.heap.size w W)=>H1 _ tb b W (s1.next hW) (ht.next hW))
 have HA:Hid (∀ o,Below w.heap.size w (w.alloc o)):=fun o=>(ZD _ _).alloc (ZB _) _
 have HF0:=a0a f0
 have HF1:=a0a f1
 obtain⟨p0,p1,p2,p3⟩:=f0
 have HX:=a0a (Box.new w (coL ⟨26,tn,tm,[x0,x1]⟩ (.slice (some ⟨pb,off,none⟩) 2 cap)) 30)
 clear hs ht s0 s1
 have hT:Hid (Rv=a1Z (if (a0e E x0).2=0/\(a0e E x0).1≠1 then (a0e E x1) else (a0e E x0))):=hRv
 clear hRv
 generalize a0e E x0=r0 at *
 generalize a0e E x1=r1 at *
 obtain⟨n0',e0⟩:=r0
 dsimp only at hT
 by_cases he:e0=0
 case neg=>
  have hR:Hid (Rv=Value.tuple #[.int .i64 n0',.iface 238 (.agg #[.int .i64 e0])]):=by show _=_;rw[hT.out,if_neg (fun h=>he h.1)];exact a0o _ he
  go_enter Tryz.func167,Tryz.ntmps167
  go_wp2_with fail
  refine ZE (HC0.out _ (HA.out _)) ?_
  rintro e w1 ⟨he1,b1⟩
  rw[a0o n0' he] at he1
  subst he1
  have HB:=a0a (a0b (HA.out _) b1 (by simp))
  have X1:=HX.out.next b1
  obtain⟨c0,c1,c2,c3⟩:=Box.c4 X1
  have x1l:=X1.lt
  clear b1 HC0 HX X1 p0 p1 p2 p3
  clear hT
  go_wp2_with fail
  go_ret2
  exact⟨by rw[hR.out];rfl,HB.out⟩
 subst he
 by_cases hz:n0'=1
 ·subst hz
  have hR:Hid (Rv=Value.tuple #[.int .i64 1,.nilIface]):=by show _=_;rw[hT.out,if_neg (by simp)];exact a0u _ rfl
  go_enter Tryz.func167,Tryz.ntmps167
  go_wp2_with fail
  refine ZE (HC0.out _ (HA.out _)) ?_
  rintro e w1 ⟨he1,b1⟩
  rw[a0u (1,0) rfl] at he1
  subst he1
  have HB:=a0a (a0b (HA.out _) b1 (by simp))
  have X1:=HX.out.next b1
  obtain⟨c0,c1,c2,c3⟩:=Box.c4 X1
  have x1l:=X1.lt
  clear b1 HC0 HX X1 p0 p1 p2 p3
  clear hT
  go_wp2_with fail
  go_ret2
  exact⟨by rw[hR.out];rfl,HB.out⟩
 ·have hR:Hid (Rv=a1Z r1):=by show _=_;rw[hT.out,if_pos ⟨rfl,hz⟩]
  have kz:(n0'==1)=false:=by simpa using hz
  go_enter Tryz.func167,Tryz.ntmps167
  go_wp2_with fail
  refine ZE (HC0.out _ (HA.out _)) ?_
  rintro e w1 ⟨he1,b1⟩
  rw[a0u (n0',0) rfl] at he1
  subst he1
  have HB:=a0a (a0b (HA.out _) b1 (by simp))
  have X1:=HX.out.next b1
  obtain⟨c0,c1,c2,c3⟩:=Box.c4 X1
  have x1l:=X1.lt
  clear b1 HC0 HX X1 p0 p1 p2 p3
  clear hT
  obtain⟨p0,p1,p2,p3⟩:=HF1.out.keep (w':=w1) (fun j=>HB.out.cell (p:=⟨pb,j,none⟩) lp)
  have lp1:=ZA lp HB.out.size
  go_wp2_with fail
  refine ZE (HC1.out _ HB.out) ?_
  rintro e w2 ⟨rfl,b2⟩
  have HB2:=kb HB b2
  clear b2 p0 p1 p2 p3
  go_wp2_with fail
  go_ret2
  exact⟨by rw[hR.out];rfl,HB2.out⟩
set_option maxHeartbeats 1000000 in
theorem b2I (E:a0z)(tn tm:Int)(x0 x1 x2:Co)(H0:TeC E x0)(H1:TeC E x1)(H2:TeC E x2):WkC E 28 ⟨28,tn,tm,[x0,x1,x2]⟩:=by
 intro v tb b w f q hs ht hw
 cases hw
 obtain⟨Rv,hRv⟩:∃ Rv,Hid (Rv=a1Z (a0e E ⟨28,tn,tm,[x0,x1,x2]⟩)):=⟨_,rfl⟩
 rw[<-hRv.out]
 rw[a0g] at hRv
 obtain⟨pb,off,cap,u0,u1,u2,rfl,k1,k2,lp,f0,s0,f1,s1,f2,s2⟩:=c1n hs.parts
 obtain⟨a0,n0,rfl,-,-⟩:=s0.parts.shape
 have HC0:=a0a (fun W (hW:Below w.heap.size w W)=>H0 _ tb b W (s0.next hW) (ht.next hW))
 obtain⟨a1,n1,rfl,-,-⟩:=s1.parts.shape
 have HC1:=a0a (fun W (hW:Below w.heap.size w W)=>H1 _ tb b W (s1.next hW) (ht.next hW))
 obtain⟨a2,n2,rfl,-,-⟩:=s2.parts.shape
 have HC2:=a0a (fun W (hW:Below w.heap.size w W)=>H2 _ tb b W (s2.next hW) (ht.next hW))
 have HA:Hid (∀ o,Below w.heap.size w (w.alloc o)):=fun o=>(ZD _ _).alloc (ZB _) _
 have HF0:=a0a f0
 have HF1:=a0a f1
 have HF2:=a0a f2
 obtain⟨p0,p1,p2,p3⟩:=f0
 have HX:=a0a (Box.new w (coL ⟨28,tn,tm,[x0,x1,x2]⟩ (.slice (some ⟨pb,off,none⟩) 3 cap)) 30)
 clear hs ht s0 s1 s2
 have hT:Hid (Rv=a1Z (if (a0e E x0).2=0 then (if (a0e E x0).1=1 then (a0e E x1) else (a0e E x2)) else noR (a0e E x0).2)):=hRv
 clear hRv
 generalize a0e E x0=r0 at *
 generalize a0e E x1=r1 at *
 generalize a0e E x2=r2 at *
 obtain⟨n0',e0⟩:=r0
 dsimp only at hT
 by_cases he:e0=0
 case neg=>
  have hR:Hid (Rv=Value.tuple #[.int .i64 0,.iface 238 (.agg #[.int .i64 e0])]):=by show _=_;rw[hT.out,if_neg he];exact a0o _ he
  go_enter Tryz.func171,Tryz.ntmps171
  go_wp2_with fail
  refine ZE (HC0.out _ (HA.out _)) ?_
  rintro e w1 ⟨he1,b1⟩
  rw[a0o n0' he] at he1
  subst he1
  have HB:=a0a (a0b (HA.out _) b1 (by simp))
  have X1:=HX.out.next b1
  obtain⟨c0,c1,c2,c3⟩:=Box.c4 X1
  have x1l:=X1.lt
  clear b1 HC0 HX X1 p0 p1 p2 p3
  clear hT
  go_wp2_with fail
  go_ret2
  exact⟨by rw[hR.out];rfl,HB.out⟩
 subst he
 by_cases hz:n0'=1
 ·have hR:Hid (Rv=a1Z r1):=by show _=_;rw[hT.out,if_pos rfl,if_pos hz]
  subst hz
  go_enter Tryz.func171,Tryz.ntmps171
  go_wp2_with fail
  refine ZE (HC0.out _ (HA.out _)) ?_
  rintro e w1 ⟨he1,b1⟩
  rw[a0u (1,0) rfl] at he1
  subst he1
  have HB:=a0a (a0b (HA.out _) b1 (by simp))
  have X1:=HX.out.next b1
  obtain⟨c0,c1,c2,c3⟩:=Box.c4 X1
  have x1l:=X1.lt
  clear b1 HC0 HX X1 p0 p1 p2 p3
  clear hT
  obtain⟨p0,p1,p2,p3⟩:=HF1.out.keep (w':=w1) (fun j=>HB.out.cell (p:=⟨pb,j,none⟩) lp)
  have lp1:=ZA lp HB.out.size
  go_wp2_with fail
  refine ZE (HC1.out _ HB.out) ?_
  rintro e w2 ⟨rfl,b2⟩
  have HB2:=kb HB b2
  clear b2 p0 p1 p2 p3
  go_wp2_with fail
  go_ret2
  exact⟨by rw[hR.out];rfl,HB2.out⟩
 ·have hR:Hid (Rv=a1Z r2):=by show _=_;rw[hT.out,if_pos rfl,if_neg hz]
  have kz:(n0'==1)=false:=by simpa using hz
  go_enter Tryz.func171,Tryz.ntmps171
  go_wp2_with fail
  refine ZE (HC0.out _ (HA.out _)) ?_
  rintro e w1 ⟨he1,b1⟩
  rw[a0u (n0',0) rfl] at he1
  subst he1
  have HB:=a0a (a0b (HA.out _) b1 (by simp))
  have X1:=HX.out.next b1
  obtain⟨c0,c1,c2,c3⟩:=Box.c4 X1
  have x1l:=X1.lt
  clear b1 HC0 HX X1 p0 p1 p2 p3
  clear hT
  obtain⟨p0,p1,p2,p3⟩:=HF2.out.keep (w':=w1) (fun j=>HB.out.cell (p:=⟨pb,j,none⟩) lp)
  have lp1:=ZA lp HB.out.size
  go_wp2_with fail
  refine ZE (HC2.out _ HB.out) ?_
  rintro e w2 ⟨rfl,b2⟩
  have HB2:=kb HB b2
  clear b2 p0 p1 p2 p3
  go_wp2_with fail
  go_ret2
  exact⟨by rw[hR.out];rfl,HB2.out⟩
set_option maxHeartbeats 1000000 in
theorem c2f (gb:Nat)(w:World):Calls Tryz.prog 200 #[.nilIface,.iface 240 (.pointer (some ⟨gb,0,none⟩))] w fun e w'=>e=.returned (.bool false)/\w'=w:=by
 go_enter Tryz.func200,Tryz.ntmps200
 go_wp2_with fail
 go_ret
 exact⟨rfl,rfl⟩
set_option maxHeartbeats 1000000 in
theorem a6h (r:Int)(w:World)(hg:GlE w):Calls Tryz.prog 110 #[b4o r] w fun e w'=>e=.returned (.int .i64 r)/\Below w.heap.size w w':=by
 have A:∀ o,Below w.heap.size w (w.alloc o):=fun o=>(ZD _ _).alloc (ZB _) _
 by_cases h:r=0
 ·subst h
  rw[a6w]
  have HC:=a0a (fun gb W=>c2f gb W)
  have HA:=a0a A
  clear A hg
  go_enter Tryz.func110,Tryz.ntmps110
  go_wp2_with fail
  refine ZE (HC.out _ _) ?_
  rintro e w1 ⟨rfl,rfl⟩
  go_wp2_with fail
  go_ret
  exact⟨rfl,HA.out _⟩
 ·rw[a3B h]
  have HC:=a0a (fun W (hW:Below w.heap.size w W) (hb:Box W w.heap.size [.int .i64 0])=>c4S w.heap.size r _ W (GlE.next hg hW) hb)
  have HA:=a0a A
  clear A hg
  go_enter Tryz.func110,Tryz.ntmps110
  go_wp2_with fail
  refine ZE (HC.out _ (HA.out _) (Box.new w _ _)) ?_
  rintro e w1 ⟨rfl,W,b1,rfl⟩
  have X:=((Box.new w [.int .i64 0] 238).next b1).set 0 (by simp) (.int .i64 r)
  have c0:=X.cell 0 _ rfl
  have x0:=X.lt
  have HB:=a0a ((a0b (HA.out (.cells #[.int .i64 0] 238)) b1 (by simp)).setCell (p:=⟨w.heap.size,0,none⟩) (ZB _) (.int .i64 r))
  clear X b1
  generalize W.setCell _ _=w1 at *
  go_wp2_with fail
  go_ret
  exact⟨rfl,HB.out⟩
set_option maxHeartbeats 1000000 in
theorem b2H (E:a0z)(tn tm:Int)(x0 x1:Co)(H0:TeC E x0)(H1:TeC E x1):WkC E 27 ⟨27,tn,tm,[x0,x1]⟩:=by
 intro v tb b w f q hs ht hw
 cases hw
 obtain⟨Rv,hRv⟩:∃ Rv,Hid (Rv=a1Z (a0e E ⟨27,tn,tm,[x0,x1]⟩)):=⟨_,rfl⟩
 rw[<-hRv.out]
 rw[a0g] at hRv
 obtain⟨pb,off,cap,u0,u1,rfl,k1,k2,lp,f0,s0,f1,s1⟩:=a6j hs.parts
 obtain⟨a0,n0,rfl,-,-⟩:=s0.parts.shape
 have HC0:=a0a (fun W (hW:Below w.heap.size w W)=>H0 _ tb b W (s0.next hW) (ht.next hW))
 obtain⟨a1,n1,rfl,-,-⟩:=s1.parts.shape
 have HC1:=a0a (fun W (hW:Below w.heap.size w W)=>H1 _ tb b W (s1.next hW) (ht.next hW))
 have HA:Hid (∀ o,Below w.heap.size w (w.alloc o)):=fun o=>(ZD _ _).alloc (ZB _) _
 have HF0:=a0a f0
 have HF1:=a0a f1
 obtain⟨p0,p1,p2,p3⟩:=f0
 have HX:=a0a (Box.new w (coL ⟨27,tn,tm,[x0,x1]⟩ (.slice (some ⟨pb,off,none⟩) 2 cap)) 30)
 have HG:=a0a ht.gl
 clear hs ht s0 s1
 have hT:Hid (Rv=a1Z (if (a0e E x0).2=0 then (a0e E x0) else (a0e E x1))):=hRv
 clear hRv
 generalize a0e E x0=r0 at *
 generalize a0e E x1=r1 at *
 obtain⟨n0',e0⟩:=r0
 dsimp only at hT
 have HR:Hid (∀ W,Below w.heap.size w W->Calls Tryz.prog 110 #[b4o e0] W fun e w'=>e=.returned (.int .i64 e0)/\Below W.heap.size W w'):=fun W hW=>a6h e0 W (GlE.next HG.out hW)
 by_cases he:e0=0
 case neg=>
  have hR:Hid (Rv=a1Z r1):=by show _=_;rw[hT.out,if_neg he]
  rw[a3B he] at HR
  have kz:(e0 != 0)=true:=by simpa using he
  go_enter Tryz.func169,Tryz.ntmps169
  go_wp2_with fail
  refine ZE (HC0.out _ (HA.out _)) ?_
  rintro e w1 ⟨he1,b1⟩
  rw[a0o n0' he] at he1
  subst he1
  have HB:=a0a (a0b (HA.out _) b1 (by simp))
  have X1:=HX.out.next b1
  obtain⟨c0,c1,c2,c3⟩:=Box.c4 X1
  have x1l:=X1.lt
  clear b1 HC0 HX X1 p0 p1 p2 p3
  clear hT
  go_wp2_with fail
  refine ZE (HR.out _ HB.out) ?_
  rintro e w3 ⟨rfl,b3⟩
  have HB3:=kb HB b3
  replace c3:=(b3.cell (p:=⟨w.heap.size,3,none⟩) x1l).trans c3
  have x3l:=ZA x1l b3.size
  clear b3 c0 c1 c2 HR
  obtain⟨p0,p1,p2,p3⟩:=HF1.out.keep (w':=w3) (fun j=>HB3.out.cell (p:=⟨pb,j,none⟩) lp)
  have lp1:=ZA lp HB3.out.size
  go_wp2_with fail
  refine ZE (HC1.out _ HB3.out) ?_
  rintro e w2 ⟨rfl,b2⟩
  have HB2:=kb HB3 b2
  clear b2 p0 p1 p2 p3
  go_wp2_with fail
  go_ret2
  exact⟨by rw[hR.out];rfl,HB2.out⟩
 subst he
 have hR:Hid (Rv=Value.tuple #[.int .i64 n0',.nilIface]):=by show _=_;rw[hT.out,if_pos rfl];exact a0u _ rfl
 rw[a6w] at HR
 go_enter Tryz.func169,Tryz.ntmps169
 go_wp2_with fail
 refine ZE (HC0.out _ (HA.out _)) ?_
 rintro e w1 ⟨he1,b1⟩
 rw[a0u (n0',0) rfl] at he1
 subst he1
 have HB:=a0a (a0b (HA.out _) b1 (by simp))
 have X1:=HX.out.next b1
 obtain⟨c0,c1,c2,c3⟩:=Box.c4 X1
 have x1l:=X1.lt
 clear b1 HC0 HX X1 p0 p1 p2 p3
 clear hT
 go_wp2_with fail
 refine ZE (HR.out _ HB.out) ?_
 rintro e w3 ⟨rfl,b3⟩
 have HB3:=kb HB b3
 clear b3 c0 c1 c2 c3 HR
 go_wp2_with fail
 go_ret2
 exact⟨by rw[hR.out];rfl,HB3.out⟩
set_option maxHeartbeats 1000000 in
theorem b5v (E:a0z)(tn tm:Int)(x0:Co)(H0:TeC E x0)(HS:∀ W:World,Calls Tryz.prog 221 #[.int .i64 (a0e E x0).1,.int .i64 tn,.int .i64 tm] W fun e w'=>e=.returned (.int .i64 (held ((a0e E x0).1*tn/tm)))/\Below W.heap.size W w'):WkC E 13 ⟨13,tn,tm,[x0]⟩:=by
 intro v tb b w f q hs ht hw
 cases hw
 obtain⟨Rv,hRv⟩:∃ Rv,Hid (Rv=a1Z (a0e E ⟨13,tn,tm,[x0]⟩)):=⟨_,rfl⟩
 rw[<-hRv.out]
 rw[a0g] at hRv
 obtain⟨pb,off,cap,u0,rfl,k1,k2,lp,f0,s0⟩:=a6k hs.parts
 obtain⟨a0,n0,rfl,-,-⟩:=s0.parts.shape
 have HC0:=a0a (fun W (hW:Below w.heap.size w W)=>H0 _ tb b W (s0.next hW) (ht.next hW))
 have HA:Hid (∀ o,Below w.heap.size w (w.alloc o)):=fun o=>(ZD _ _).alloc (ZB _) _
 have HF0:=a0a f0
 obtain⟨p0,p1,p2,p3⟩:=f0
 have HX:=a0a (Box.new w (coL ⟨13,tn,tm,[x0]⟩ (.slice (some ⟨pb,off,none⟩) 1 cap)) 30)
 clear hs ht s0
 have hT:Hid (Rv=a1Z (a0B (fun a=>held (a*tn/tm)) (a0e E x0))):=hRv
 clear hRv
 generalize a0e E x0=r0 at *
 obtain⟨n0',e0⟩:=r0
 dsimp only at hT HS
 have HSs:=a0a HS
 clear HS
 by_cases he:e0=0
 case neg=>
  have hR:Hid (Rv=Value.tuple #[.int .i64 0,.iface 238 (.agg #[.int .i64 e0])]):=by show _=_;rw[hT.out];unfold a0B;rw[if_neg he];exact a0o _ he
  go_enter Tryz.func153,Tryz.ntmps153
  go_wp2_with fail
  refine ZE (HC0.out _ (HA.out _)) ?_
  rintro e w1 ⟨he1,b1⟩
  rw[a0o n0' he] at he1
  subst he1
  have HB:=a0a (a0b (HA.out _) b1 (by simp))
  have X1:=HX.out.next b1
  obtain⟨c0,c1,c2,c3⟩:=Box.c4 X1
  have x1l:=X1.lt
  clear b1 HC0 HX X1 p0 p1 p2 p3
  clear hT
  go_wp2_with fail
  go_ret2
  exact⟨by rw[hR.out];rfl,HB.out⟩
 subst he
 have hR:Hid (Rv=Value.tuple #[.int .i64 (held (n0'*tn/tm)),.nilIface]):=by show _=_;rw[hT.out];unfold a0B;rw[if_pos rfl];exact a0u _ rfl
 go_enter Tryz.func153,Tryz.ntmps153
 go_wp2_with fail
 refine ZE (HC0.out _ (HA.out _)) ?_
 rintro e w1 ⟨he1,b1⟩
 rw[a0u (n0',0) rfl] at he1
 subst he1
 have HB:=a0a (a0b (HA.out _) b1 (by simp))
 have X1:=HX.out.next b1
 obtain⟨c0,c1,c2,c3⟩:=Box.c4 X1
 have x1l:=X1.lt
 clear b1 HC0 HX X1 p0 p1 p2 p3
 clear hT
 go_wp2_with fail
 refine ZE (HSs.out _) ?_
 rintro e w3 ⟨rfl,b3⟩
 have HB3:=kb HB b3
 clear b3 c0 c1 c2 c3 HSs
 go_wp2_with fail
 go_ret2
 exact⟨by rw[hR.out];rfl,HB3.out⟩
set_option maxHeartbeats 1000000 in
theorem c2q (E:a0z)(tn tm:Int)(x0:Co)(H0:TeC E x0)(HS:∀ W:World,Calls Tryz.prog 231 #[.int .i64 (a0e E x0).1] W fun e w'=>e=.returned (.int .i64 (a1k (a0e E x0).1))/\Below W.heap.size W w'):WkC E 30 ⟨30,tn,tm,[x0]⟩:=by
 intro v tb b w f q hs ht hw
 cases hw
 obtain⟨Rv,hRv⟩:∃ Rv,Hid (Rv=a1Z (a0e E ⟨30,tn,tm,[x0]⟩)):=⟨_,rfl⟩
 rw[<-hRv.out]
 rw[a0g] at hRv
 obtain⟨pb,off,cap,u0,rfl,k1,k2,lp,f0,s0⟩:=a6k hs.parts
 obtain⟨a0,n0,rfl,-,-⟩:=s0.parts.shape
 have HC0:=a0a (fun W (hW:Below w.heap.size w W)=>H0 _ tb b W (s0.next hW) (ht.next hW))
 have HA:Hid (∀ o,Below w.heap.size w (w.alloc o)):=fun o=>(ZD _ _).alloc (ZB _) _
 have HF0:=a0a f0
 obtain⟨p0,p1,p2,p3⟩:=f0
 have HX:=a0a (Box.new w (coL ⟨30,tn,tm,[x0]⟩ (.slice (some ⟨pb,off,none⟩) 1 cap)) 30)
 clear hs ht s0
 have hT:Hid (Rv=a1Z (a0B a1k (a0e E x0))):=hRv
 clear hRv
 generalize a0e E x0=r0 at *
 obtain⟨n0',e0⟩:=r0
 dsimp only at hT HS
 have HSs:=a0a HS
 clear HS
 by_cases he:e0=0
 case neg=>
  have hR:Hid (Rv=Value.tuple #[.int .i64 0,.iface 238 (.agg #[.int .i64 e0])]):=by show _=_;rw[hT.out];unfold a0B;rw[if_neg he];exact a0o _ he
  go_enter Tryz.func173,Tryz.ntmps173
  go_wp2_with fail
  refine ZE (HC0.out _ (HA.out _)) ?_
  rintro e w1 ⟨he1,b1⟩
  rw[a0o n0' he] at he1
  subst he1
  have HB:=a0a (a0b (HA.out _) b1 (by simp))
  have X1:=HX.out.next b1
  obtain⟨c0,c1,c2,c3⟩:=Box.c4 X1
  have x1l:=X1.lt
  clear b1 HC0 HX X1 p0 p1 p2 p3
  clear hT
  go_wp2_with fail
  go_ret2
  exact⟨by rw[hR.out];rfl,HB.out⟩
 subst he
 have hR:Hid (Rv=Value.tuple #[.int .i64 (a1k n0'),.nilIface]):=by show _=_;rw[hT.out];unfold a0B;rw[if_pos rfl];exact a0u _ rfl
 go_enter Tryz.func173,Tryz.ntmps173
 go_wp2_with fail
 refine ZE (HC0.out _ (HA.out _)) ?_
 rintro e w1 ⟨he1,b1⟩
 rw[a0u (n0',0) rfl] at he1
 subst he1
 have HB:=a0a (a0b (HA.out _) b1 (by simp))
 have X1:=HX.out.next b1
 obtain⟨c0,c1,c2,c3⟩:=Box.c4 X1
 have x1l:=X1.lt
 clear b1 HC0 HX X1 p0 p1 p2 p3
 clear hT
 go_wp2_with fail
 refine ZE (HSs.out _) ?_
 rintro e w3 ⟨rfl,b3⟩
 have HB3:=kb HB b3
 clear b3 c0 c1 c2 c3 HSs
 go_wp2_with fail
 go_ret2
 exact⟨by rw[hR.out];rfl,HB3.out⟩
set_option maxHeartbeats 1000000 in
theorem c4i (E:a0z)(k tn tm:Int)(x0:Co)(H0:TeC E x0)(HS:∀ W:World,Calls Tryz.prog 231 #[.int .i64 (a0e E x0).1] W fun e w'=>e=.returned (.int .i64 (a1k (a0e E x0).1))/\Below W.heap.size W w')(v:Value)(tb b:Nat)(w:World)(hs:a0p w ⟨k,tn,tm,[x0]⟩ v)(ht:a7U w tb b E):
 Calls Tryz.prog 173 #[.pointer (some ⟨tb,0,none⟩),coV ⟨k,tn,tm,[x0]⟩ v] w fun e w'=>e=.returned (a1Z (a0B a1k (a0e E x0)))/\Below w.heap.size w w':=by
 obtain⟨Rv,hRv⟩:∃ Rv,Hid (Rv=a1Z (a0B a1k (a0e E x0))):=⟨_,rfl⟩
 rw[<-hRv.out]
 obtain⟨pb,off,cap,u0,rfl,k1,k2,lp,f0,s0⟩:=a6k hs.parts
 obtain⟨a0,n0,rfl,-,-⟩:=s0.parts.shape
 have HC0:=a0a (fun W (hW:Below w.heap.size w W)=>H0 _ tb b W (s0.next hW) (ht.next hW))
 have HA:Hid (∀ o,Below w.heap.size w (w.alloc o)):=fun o=>(ZD _ _).alloc (ZB _) _
 have HF0:=a0a f0
 obtain⟨p0,p1,p2,p3⟩:=f0
 have HX:=a0a (Box.new w (coL ⟨k,tn,tm,[x0]⟩ (.slice (some ⟨pb,off,none⟩) 1 cap)) 30)
 clear hs ht s0
 have hT:=hRv
 clear hRv
 generalize a0e E x0=r0 at *
 obtain⟨n0',e0⟩:=r0
 dsimp only at hT HS
 have HSs:=a0a HS
 clear HS
 by_cases he:e0=0
 case neg=>
  have hR:Hid (Rv=Value.tuple #[.int .i64 0,.iface 238 (.agg #[.int .i64 e0])]):=by show _=_;rw[hT.out];unfold a0B;rw[if_neg he];exact a0o _ he
  go_enter Tryz.func173,Tryz.ntmps173
  go_wp2_with fail
  refine ZE (HC0.out _ (HA.out _)) ?_
  rintro e w1 ⟨he1,b1⟩
  rw[a0o n0' he] at he1
  subst he1
  have HB:=a0a (a0b (HA.out _) b1 (by simp))
  have X1:=HX.out.next b1
  obtain⟨c0,c1,c2,c3⟩:=Box.c4 X1
  have x1l:=X1.lt
  clear b1 HC0 HX X1 p0 p1 p2 p3
  clear hT
  go_wp2_with fail
  go_ret2
  exact⟨by rw[hR.out];rfl,HB.out⟩
 subst he
 have hR:Hid (Rv=Value.tuple #[.int .i64 (a1k n0'),.nilIface]):=by show _=_;rw[hT.out];unfold a0B;rw[if_pos rfl];exact a0u _ rfl
 go_enter Tryz.func173,Tryz.ntmps173
 go_wp2_with fail
 refine ZE (HC0.out _ (HA.out _)) ?_
 rintro e w1 ⟨he1,b1⟩
 rw[a0u (n0',0) rfl] at he1
 subst he1
 have HB:=a0a (a0b (HA.out _) b1 (by simp))
 have X1:=HX.out.next b1
 obtain⟨c0,c1,c2,c3⟩:=Box.c4 X1
 have x1l:=X1.lt
 clear b1 HC0 HX X1 p0 p1 p2 p3
 clear hT
 go_wp2_with fail
 refine ZE (HSs.out _) ?_
 rintro e w3 ⟨rfl,b3⟩
 have HB3:=kb HB b3
 clear b3 c0 c1 c2 c3 HSs
 go_wp2_with fail
 go_ret2
 exact⟨by rw[hR.out];rfl,HB3.out⟩
set_option maxHeartbeats 1000000 in
theorem c2s (E:a0z)(tn tm:Int)(x0:Co)(H0:TeC E x0)(HS:∀ W:World,Calls Tryz.prog 231 #[.int .i64 (a0e E x0).1] W fun e w'=>e=.returned (.int .i64 (a1k (a0e E x0).1))/\Below W.heap.size W w')(HD:∀ W:World,Calls Tryz.prog 155 #[.int .i64 E.rep,.int .i64 (a1k (a0e E x0).1)] W fun e w'=>e=.returned (.int .i64 (held (E.rep+a1k (a0e E x0).1)))/\Below W.heap.size W w'):WkC E 31 ⟨31,tn,tm,[x0]⟩:=by
 intro v tb b w f q hs ht hw
 cases hw
 have hT:Hid (a0e E ⟨31,tn,tm,[x0]⟩=a0B (fun a=>held (E.rep+a1k a)) (a0e E x0)):=by show _=_;rw[a0g];rfl
 obtain⟨Rv,hRv⟩:∃ Rv,Hid (Rv=a1Z (a0e E ⟨31,tn,tm,[x0]⟩)):=⟨_,rfl⟩
 rw[<-hRv.out]
 have HC:=a0a (fun W (hW:Below w.heap.size w W)=>c4i E 31 tn tm x0 H0 HS v tb b W (hs.next hW) (ht.next hW))
 obtain⟨pb,off,cap,u0,rfl,-,-,-,-,-⟩:=a6k hs.parts
 obtain⟨-,s1,sl⟩:=ht.cell0
 have HA:Hid (∀ o,Below w.heap.size w (w.alloc o)):=fun o=>(ZD _ _).alloc (ZB _) _
 have HDd:=a0a HD
 clear hs ht HS H0 HD
 generalize a0e E x0=r0 at *
 generalize a0e E _=RR at *
 obtain⟨n0',e0⟩:=r0
 dsimp only at HDd
 by_cases he:e0=0
 case neg=>
  have hR:Hid (Rv=Value.tuple #[.int .i64 0,.iface 238 (.agg #[.int .i64 e0])]):=by show _=_;rw[hRv.out,hT.out];unfold a0B;rw[if_neg he];exact a0o _ he
  have e1:a1Z (a0B a1k (n0',e0))=Value.tuple #[.int .i64 0,.iface 238 (.agg #[.int .i64 e0])]:=by unfold a0B;rw[if_neg he];exact a0o _ he
  simp only[e1] at HC
  clear hRv hT e1
  go_enter Tryz.func174,Tryz.ntmps174
  go_wp2_with fail
  refine ZE (HC.out _ (HA.out _)) ?_
  rintro e w1 ⟨rfl,b1⟩
  have HB:=a0a (a0b (HA.out _) b1 (by simp))
  clear b1 HC
  go_wp2_with fail
  go_ret2
  exact⟨by rw[hR.out];rfl,HB.out⟩
 subst he
 have hR:Hid (Rv=Value.tuple #[.int .i64 (held (E.rep+a1k n0')),.nilIface]):=by show _=_;rw[hRv.out,hT.out];unfold a0B;rw[if_pos rfl];exact a0u _ rfl
 have e1:a1Z (a0B a1k (n0',0))=Value.tuple #[.int .i64 (a1k n0'),.nilIface]:=by unfold a0B;rw[if_pos rfl];exact a0u _ rfl
 simp only[e1] at HC
 clear hRv hT e1
 go_enter Tryz.func174,Tryz.ntmps174
 go_wp2_with fail
 refine ZE (HC.out _ (HA.out _)) ?_
 rintro e w1 ⟨rfl,b1⟩
 have HB:=a0a (a0b (HA.out _) b1 (by simp))
 have s2:=(HB.out.cell (p:=⟨tb,1,none⟩) sl).trans s1
 have sl2:=ZA sl HB.out.size
 clear b1 HC s1
 go_wp2_with fail
 refine ZE (HDd.out _) ?_
 rintro e w3 ⟨rfl,b3⟩
 have HB3:=kb HB b3
 clear b3 HDd
 go_wp2_with fail
 go_ret2
 exact⟨by rw[hR.out];rfl,HB3.out⟩
set_option maxHeartbeats 1000000 in
theorem b3x (E:a0z)(k tn tm:Int)(x0:Co)(g p:Nat)(F:Int->Int)(hE:Ent g)(H0:TeC E x0)(HS:∀ W:World,Calls Tryz.prog g #[.int .i64 (a0e E x0).1] W fun e w'=>e=.returned (.int .i64 (F (a0e E x0).1))/\Below W.heap.size W w')(v:Value)(tb b:Nat)(w:World)(hs:a0p w ⟨k,tn,tm,[x0]⟩ v)(ht:a7U w tb b E)(hp:FnF w p (.func (.func g) #[] #[])):
 Calls Tryz.prog 219 #[.pointer (some ⟨tb,0,none⟩),coV ⟨k,tn,tm,[x0]⟩ v,.pointer (some ⟨p,0,none⟩)] w fun e w'=>e=.returned (a1Z (a0B F (a0e E x0)))/\Below w.heap.size w w':=by
 obtain⟨Rv,hRv⟩:∃ Rv,Hid (Rv=a1Z (a0B F (a0e E x0))):=⟨_,rfl⟩
 rw[<-hRv.out]
 obtain⟨pb,off,cap,u0,rfl,k1,k2,lp,f0,s0⟩:=a6k hs.parts
 obtain⟨a0,n0,rfl,-,-⟩:=s0.parts.shape
 have HC0:=a0a (fun W (hW:Below w.heap.size w W)=>H0 _ tb b W (s0.next hW) (ht.next hW))
 have HA:Hid (∀ o,Below w.heap.size w (w.alloc o)):=fun o=>(ZD _ _).alloc (ZB _) _
 have HF0:=a0a f0
 obtain⟨p0,p1,p2,p3⟩:=f0
 have HX:=a0a (Box.new w (coL ⟨k,tn,tm,[x0]⟩ (.slice (some ⟨pb,off,none⟩) 1 cap)) 30)
 clear hs ht s0
 have hT:=hRv
 clear hRv
 generalize a0e E x0=r0 at *
 obtain⟨n0',e0⟩:=r0
 dsimp only at hT HS
 have HSs:=a0a HS
 have HP:=a0a hp
 unfold Ent at hE
 clear HS hp
 by_cases he:e0=0
 case neg=>
  have hR:Hid (Rv=Value.tuple #[.int .i64 0,.iface 238 (.agg #[.int .i64 e0])]):=by show _=_;rw[hT.out];unfold a0B;rw[if_neg he];exact a0o _ he
  go_enter Tryz.func219,Tryz.ntmps219
  go_wp2_with fail
  refine ZE (HC0.out _ (HA.out _)) ?_
  rintro e w1 ⟨he1,b1⟩
  rw[a0o n0' he] at he1
  subst he1
  have HB:=a0a (a0b (HA.out _) b1 (by simp))
  have X1:=HX.out.next b1
  obtain⟨c0,c1,c2,c3⟩:=Box.c4 X1
  have x1l:=X1.lt
  clear b1 HC0 HX X1 p0 p1 p2 p3
  clear hT
  go_wp2_with fail
  go_ret2
  exact⟨by rw[hR.out];rfl,HB.out⟩
 subst he
 have hR:Hid (Rv=Value.tuple #[.int .i64 (F n0'),.nilIface]):=by show _=_;rw[hT.out];unfold a0B;rw[if_pos rfl];exact a0u _ rfl
 go_enter Tryz.func219,Tryz.ntmps219
 go_wp2_with fail
 refine ZE (HC0.out _ (HA.out _)) ?_
 rintro e w1 ⟨he1,b1⟩
 rw[a0u (n0',0) rfl] at he1
 subst he1
 have HB:=a0a (a0b (HA.out _) b1 (by simp))
 have X1:=HX.out.next b1
 obtain⟨c0,c1,c2,c3⟩:=Box.c4 X1
 have x1l:=X1.lt
 clear b1 HC0 HX X1 p0 p1 p2 p3
 clear hT
 obtain⟨lp2,fp2⟩:=HP.out.next HB.out
 go_wp2_with fail
 refine ZE (HSs.out _) ?_
 rintro e w3 ⟨rfl,b3⟩
 have HB3:=kb HB b3
 clear b3 c0 c1 c2 c3 HSs
 go_wp2_with fail
 go_ret2
 exact⟨by rw[hR.out];rfl,HB3.out⟩
def a3t (a b:Rs):Value:=if a.2=0 then .tuple #[.int .i64 a.1,.int .i64 b.1,b4o b.2] else .tuple #[.int .i64 0,.int .i64 0,b4o a.2]
set_option maxHeartbeats 1000000 in
theorem b7V (E:a0z)(k tn tm:Int)(x0 x1:Co)(H0:TeC E x0)(H1:TeC E x1)(v:Value)(tb b:Nat)(w:World)(hs:a0p w ⟨k,tn,tm,[x0,x1]⟩ v)(ht:a7U w tb b E):
 Calls Tryz.prog 223 #[.pointer (some ⟨tb,0,none⟩),coV ⟨k,tn,tm,[x0,x1]⟩ v] w fun e w'=>e=.returned (a3t (a0e E x0) (a0e E x1))/\Below w.heap.size w w':=by
 obtain⟨Rv,hRv⟩:∃ Rv,Hid (Rv=a3t (a0e E x0) (a0e E x1)):=⟨_,rfl⟩
 rw[<-hRv.out]
 obtain⟨pb,off,cap,u0,u1,rfl,k1,k2,lp,f0,s0,f1,s1⟩:=a6j hs.parts
 obtain⟨a0,n0,rfl,-,-⟩:=s0.parts.shape
 have HC0:=a0a (fun W (hW:Below w.heap.size w W)=>H0 _ tb b W (s0.next hW) (ht.next hW))
 obtain⟨a1,n1,rfl,-,-⟩:=s1.parts.shape
 have HC1:=a0a (fun W (hW:Below w.heap.size w W)=>H1 _ tb b W (s1.next hW) (ht.next hW))
 have HA:Hid (∀ o,Below w.heap.size w (w.alloc o)):=fun o=>(ZD _ _).alloc (ZB _) _
 have HF0:=a0a f0
 have HF1:=a0a f1
 obtain⟨p0,p1,p2,p3⟩:=f0
 have HX:=a0a (Box.new w (coL ⟨k,tn,tm,[x0,x1]⟩ (.slice (some ⟨pb,off,none⟩) 2 cap)) 30)
 clear hs ht s0 s1
 have hT:=hRv
 clear hRv
 generalize a0e E x0=r0 at *
 generalize a0e E x1=r1 at *
 obtain⟨n0',e0⟩:=r0
 by_cases he:e0=0
 case neg=>
  have hR:Hid (Rv=Value.tuple #[.int .i64 0,.int .i64 0,.iface 238 (.agg #[.int .i64 e0])]):=by show _=_;rw[hT.out];unfold a3t;rw[if_neg he,a3B he]
  go_enter Tryz.func223,Tryz.ntmps223
  go_wp2_with fail
  refine ZE (HC0.out _ (HA.out _)) ?_
  rintro e w1 ⟨he1,b1⟩
  rw[a0o n0' he] at he1
  subst he1
  have HB:=a0a (a0b (HA.out _) b1 (by simp))
  have X1:=HX.out.next b1
  obtain⟨c0,c1,c2,c3⟩:=Box.c4 X1
  have x1l:=X1.lt
  clear b1 HC0 HX X1 p0 p1 p2 p3
  clear hT
  go_wp2_with fail
  go_ret3
  exact⟨by rw[hR.out];rfl,HB.out⟩
 subst he
 have hR:Hid (Rv=Value.tuple #[.int .i64 n0',.int .i64 r1.1,b4o r1.2]):=by show _=_;rw[hT.out];unfold a3t;exact if_pos rfl
 go_enter Tryz.func223,Tryz.ntmps223
 go_wp2_with fail
 refine ZE (HC0.out _ (HA.out _)) ?_
 rintro e w1 ⟨he1,b1⟩
 rw[a0u (n0',0) rfl] at he1
 subst he1
 have HB:=a0a (a0b (HA.out _) b1 (by simp))
 have X1:=HX.out.next b1
 obtain⟨c0,c1,c2,c3⟩:=Box.c4 X1
 have x1l:=X1.lt
 clear b1 HC0 HX X1 p0 p1 p2 p3
 clear hT
 obtain⟨p0,p1,p2,p3⟩:=HF1.out.keep (w':=w1) (fun j=>HB.out.cell (p:=⟨pb,j,none⟩) lp)
 have lp1:=ZA lp HB.out.size
 go_wp2_with fail
 refine ZE (HC1.out _ HB.out) ?_
 rintro e w2 ⟨rfl,b2⟩
 have HB2:=kb HB b2
 clear b2 p0 p1 p2 p3
 go_wp2_with fail
 go_ret3
 exact⟨by rw[hR.out];rfl,HB2.out⟩
end Go.Proofs.YtbddbnjhmdbkbaaGreatDoor
