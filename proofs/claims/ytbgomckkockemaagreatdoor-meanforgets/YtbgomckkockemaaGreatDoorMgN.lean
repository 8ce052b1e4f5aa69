import Derived.Test.YtbgomckkockemaaGreatDoorMhY
namespace Go.Proofs.YtbgomckkockemaaGreatDoor
open Go.RowKit
theorem errV_pos {x:Int}(h:x≠0)(p:Rs)(hp:p=noR x):resV p=.tuple #[.int .i64 0,.iface 252 (.agg #[.int .i64 x])]:=by
 subst hp
 show Value.tuple #[.int .i64 0,errV x]=_
 rw[errV_n h]
theorem resV_ok {n:Int}(p:Rs)(hp:p=okR n):resV p=.tuple #[.int .i64 n,.nilIface]:=by
 subst hp
 show Value.tuple #[.int .i64 n,errV 0]=_
 rw[errV_0]
theorem wk_own (E:EnvP)(t:Co)(k:Nat)(hk:k=1\/k=2)(hop:t.op=(k:Int)):WkC E k t:=by
 intro v tb b w f q hs ht hw
 have hf:f=182/\q=#[]:=by
  rcases hk with rfl | rfl<;>(cases hw;exact⟨rfl,rfl⟩)
 obtain⟨rfl,rfl⟩:=hf
 have hT:telV E t=okR t.n:=by rw[telV_eq,hop];rcases hk with rfl | rfl<;>rfl
 rw[resV_ok _ hT]
 obtain⟨ad,cap,rfl,-,-⟩:=hs.parts.shape
 clear hs ht hw hT
 go_enter Tryz.func182,Tryz.ntmps182
 go_wp2_with fail
 go_ret2
 exact⟨rfl,(Below.refl _ _).alloc (Nat.le_refl _) _⟩
theorem wk_rep (E:EnvP)(t:Co)(hop:t.op=3):WkC E 3 t:=by
 intro v tb b w f q hs ht hw
 cases hw
 have hT:telV E t=okR (held (E.rep*1000000)):=by rw[telV_eq,hop];rfl
 rw[resV_ok _ hT]
 obtain⟨ad,cap,rfl,-,-⟩:=hs.parts.shape
 obtain⟨-,s1,sl⟩:=ht.cell0
 have HW:=chid (fun W=>Whole_any E.rep ht.ok.rep.1 (by have:=ht.ok.rep.2;omega) W)
 have A:∀ o,Below w.heap.size w (w.alloc o):=fun o=>(Below.refl _ _).alloc (Nat.le_refl _) _
 have HA:=chid A
 clear hs ht hT A
 go_enter Tryz.func185,Tryz.ntmps185
 go_wp2_with fail
 refine Calls.mono (HW.out _) ?_
 rintro e w1 ⟨rfl,b1⟩
 have HB:=chid (cbelow_on (HA.out _) b1 (by simp))
 clear b1
 go_wp2_with fail
 go_ret2
 exact⟨rfl,HB.out⟩
theorem wk_fail (E:EnvP)(t:Co)(hop:t.op=6)(hn:t.n≠0):WkC E 6 t:=by
 intro v tb b w f q hs ht hw
 cases hw
 have hT:telV E t=noR t.n:=by rw[telV_eq,hop];rfl
 rw[errV_pos hn _ hT]
 have hf:=hs.fit.n
 obtain⟨ad,cap,rfl,-,-⟩:=hs.parts.shape
 have A:∀ o,Below w.heap.size w (w.alloc o):=fun o=>(Below.refl _ _).alloc (Nat.le_refl _) _
 have HA:=chid A
 have f1:=hf.1
 have f2:t.n<9223372036854775808:=by have:=hf.2;omega
 clear hs ht hT A hf
 go_enter Tryz.func192,Tryz.ntmps192
 go_wp2_with fail
 go_quiet (fail)
 go_wp2_with fail
 go_ret2
 exact⟨rfl,cdrewN (HA.out _) _⟩
theorem wk_hold (E:EnvP)(t:Co)(hop:t.op=29):WkC E 29 t:=by
 intro v tb b w f q hs ht hw
 cases hw
 have hT:telV E t=noR 4:=by rw[telV_eq,hop];rfl
 rw[errV_pos (by decide) _ hT]
 obtain⟨ad,cap,rfl,-,-⟩:=hs.parts.shape
 have A:∀ o,Below w.heap.size w (w.alloc o):=fun o=>(Below.refl _ _).alloc (Nat.le_refl _) _
 have HA:=chid A
 clear hs ht hT A
 go_enter Tryz.func222,Tryz.ntmps222
 go_wp2_with fail
 go_ret2
 exact⟨rfl,HA.out _⟩
set_option maxHeartbeats 1000000 in
theorem truthOf_c (h:Bool)(w:World):Calls Tryz.prog 260 #[.bool h] w fun e w'=>e=.returned (.int .i64 (b2i h))/\w'=w:=by
 cases h
 ·go_enter Tryz.func260,Tryz.ntmps260
  go_wp2_with fail
  go_ret
  exact⟨rfl,rfl⟩
 ·go_enter Tryz.func260,Tryz.ntmps260
  go_wp2_with fail
  go_ret
  exact⟨rfl,rfl⟩
set_option maxHeartbeats 1000000 in
theorem wk_cron (E:EnvP)(t:Co)(hop:t.op=5)(h0:0<=t.n)(h1:t.n<E.crons.length):WkC E 5 t:=by
 intro v tb b w f q hs ht hw
 cases hw
 have hT:telV E t=okR (b2i (E.crons.getD t.n.toNat false)):=by rw[telV_eq,hop];rfl
 rw[resV_ok _ hT]
 obtain⟨ad,cap,rfl,-,-⟩:=hs.parts.shape
 obtain⟨v1,v2,hb,-,hc⟩:=ht.bx
 obtain⟨ad2,cap2,rfl,e | ⟨g,off,rfl,hg,hcs⟩⟩:=hc
 ·rw[e] at h1;simp at h1;omega
 obtain⟨n,hn⟩:∃ n:Nat,t.n=(n:Int):=⟨t.n.toNat,by omega⟩
 have hnl:n<E.crons.length:=by omega
 have hc1:=hcs n hnl
 rw[hn,Int.toNat_natCast] at hT ⊢
 rw[hn] at h1
 have s3:=hb.cell 3 _ rfl
 have sl:=hb.lt
 generalize E.crons.getD n false=x at *
 have HC:=chid (fun W=>truthOf_c x W)
 have A:∀ o,Below w.heap.size w (w.alloc o):=fun o=>(Below.refl _ _).alloc (Nat.le_refl _) _
 have HA:=chid A
 have hn':(coV t (.slice ad t.parts.length cap))=.agg #[.int .i64 t.op,.int .i64 (n:Int),.int .i64 t.m,.slice ad t.parts.length cap]:=by simp only[coV,hn]
 rw[hn']
 clear hs ht hT A hb hcs h0 hn'
 generalize E.crons.length=L at *
 go_enter Tryz.func189,Tryz.ntmps189
 go_wp2_with fail
 go_quiet (first|(go_at_call 260;refine Calls.quiet_of_same (HC.out _)))
 go_wp2_with fail
 go_ret2
 exact⟨rfl,cdrewN (HA.out _) _⟩
set_option maxHeartbeats 1000000 in
theorem wk_win (E:EnvP)(t:Co)(hop:t.op=4)(h0:0<=t.n)(h1:t.n<E.wins.length):WkC E 4 t:=by
 intro v tb b w f q hs ht hw
 cases hw
 obtain⟨op,tn,tm,ps⟩:=t
 obtain rfl:op=4:=hop
 dsimp only at h0 h1
 obtain⟨n,rfl⟩:∃ n:Nat,tn=(n:Int):=⟨tn.toNat,by omega⟩
 generalize ht':(⟨4,n,tm,ps⟩:Co)=t at *
 obtain⟨x,hx⟩:∃ x,Hid (x=E.wins.getD n (0,0)):=⟨_,rfl⟩
 have hT:telV E t=if x.1=0 then okR x.2 else noR x.1:=by rw[hx.out,<-ht',telV_eq];rfl
 obtain⟨ad,cap,rfl,-,-⟩:=hs.parts.shape
 generalize t.parts.length=N at *
 obtain⟨v1,v2,hb,hc,-⟩:=ht.bx
 obtain⟨ad2,cap2,rfl,e | ⟨g,off,rfl,hg,hcs⟩⟩:=hc
 ·rw[e] at h1;simp at h1;omega
 have hnl:n<E.wins.length:=by omega
 obtain⟨g0,g1⟩:=hcs n hnl
 rw[<-hx.out] at g0 g1
 have hx1:=(ht.ok.wins n).1
 rw[<-hx.out] at hx1
 have s2:=hb.cell 2 _ rfl
 have sl:=hb.lt
 have A:∀ o,Below w.heap.size w (w.alloc o):=fun o=>(Below.refl _ _).alloc (Nat.le_refl _) _
 have HA:=chid A
 have hn':(coV t (.slice ad N cap))=.agg #[.int .i64 4,.int .i64 (n:Int),.int .i64 tm,.slice ad N cap]:=by rw[<-ht']
 rw[hn']
 generalize E.wins.length=L at *
 have X0:=Box.new w [.int .i64 4,.int .i64 (n:Int),.int .i64 tm,.slice ad N cap] 30
 have ka:=HA.out (.cells [.int .i64 4,.int .i64 (n:Int),.int .i64 tm,.slice ad N cap].toArray 30)
 have d2:=(ka.cell (p:=⟨tb,2,none⟩) sl).trans s2
 have d0:=(ka.cell (p:=⟨g,_,none⟩) hg).trans g0
 have d1:=(ka.cell (p:=⟨g,_,none⟩) hg).trans g1
 have c1:=X0.cell 1 _ rfl
 have x0:=X0.lt
 have k0:g<(w.alloc (.cells [.int .i64 4,.int .i64 (n:Int),.int .i64 tm,.slice ad N cap].toArray 30)).heap.size:=Nat.lt_of_lt_of_le hg ka.size
 have k1:tb<(w.alloc (.cells [.int .i64 4,.int .i64 (n:Int),.int .i64 tm,.slice ad N cap].toArray 30)).heap.size:=Nat.lt_of_lt_of_le sl ka.size
 have HKa:=chid ka
 have HT:=chid hT
 clear hs ht hT A hb hcs h0 hn' HA X0 ka s2 g0 g1 ht'
 obtain⟨x1,x2⟩:=x
 dsimp only at d0 d1 hx1
 go_enter Tryz.func187,Tryz.ntmps187
 go_wp2_with fail
 generalize hW0:w.alloc _=w0 at *
 clear hW0
 go_region_held3 (fun w'=>w'.cell? ⟨tb,2,none⟩=some (.slice (some ⟨g,off,none⟩) L cap2)/\w'.cell? ⟨w.heap.size,1,none⟩=some (.int .i64 (n:Int))/\(w'.cell? ⟨g,off+n*2,none⟩=some (.int .i64 x1)/\w'.cell? ⟨g,off+n*2+1,none⟩=some (.int .i64 x2))) (simp[go_sem, *]) (fail)
 have b1:=cdrewN ((Below.refl w0.heap.size w0).alloc (Nat.le_refl _) (.cells [.int .i64 x1,.int .i64 x2].toArray 89)) 1
 have Z0:=(Box.new w0 [.int .i64 x1,.int .i64 x2] 89).next (cdrewN (Below.refl _ _) 1)
 change Box (w0.alloc (.cells #[.int .i64 x1,.int .i64 x2] 89)).drew w0.heap.size _ at Z0
 change Below w0.heap.size w0 (w0.alloc (.cells #[.int .i64 x1,.int .i64 x2] 89)).drew at b1
 generalize (w0.alloc (.cells #[.int .i64 x1,.int .i64 x2] 89)).drew=w1 at *
 have HB1:=chid (cbelow_on HKa.out b1 HKa.out.size)
 have z0:=Z0.cell 0 _ rfl
 have z1:=Z0.cell 1 _ rfl
 have z2:=Z0.lt
 clear d0 d1 d2 c1 x0 k0 k1 HKa b1 Z0
 by_cases hz:x1=0
 ·have hT:telV E t=okR x2:=by rw[HT.out];exact if_pos hz
  have HT2:=chid hT
  clear hT HT
  subst hz
  go_wp2_with fail
  go_ret2
  exact⟨by rw[resV_ok _ HT2.out];rfl,HB1.out⟩
 ·have hT:telV E t=noR x1:=by rw[HT.out];exact if_neg hz
  have HT2:=chid hT
  have HZ:=chid hz
  clear hT HT
  have k:(x1 != 0)=true:=by simpa using hz
  go_wp2_with fail
  go_quiet (fail)
  go_wp2_with fail
  go_ret2
  exact⟨by rw[errV_pos HZ.out _ HT2.out];rfl,cdrewN HB1.out _⟩
theorem parts1 {w:World}{v:Value}{x0:Co}(h:CAt w v [x0]):∃ pb off cap u0,v=.slice (some ⟨pb,off,none⟩) 1 cap/\1<=cap/\cap<=9223372036854775807/\pb<w.heap.size/\Four w pb off x0 u0/\CSits w x0 u0:=by
 obtain⟨pb,off,cap,e,h1,h2,h3,hx⟩:=h.open (by simp)
 obtain⟨u0,f0,s0⟩:=hx 0 (by simp)
 exact⟨pb,off,cap,u0,e,h1,h2,h3,by simpa using f0,s0⟩
theorem parts2 {w:World}{v:Value}{x0 x1:Co}(h:CAt w v [x0,x1]):∃ pb off cap u0 u1,v=.slice (some ⟨pb,off,none⟩) 2 cap/\2<=cap/\cap<=9223372036854775807/\pb<w.heap.size/\Four w pb off x0 u0/\CSits w x0 u0/\Four w pb (off+4) x1 u1/\CSits w x1 u1:=by
 obtain⟨pb,off,cap,e,h1,h2,h3,hx⟩:=h.open (by simp)
 obtain⟨u0,f0,s0⟩:=hx 0 (by simp)
 obtain⟨u1,f1,s1⟩:=hx 1 (by simp)
 exact⟨pb,off,cap,u0,u1,e,h1,h2,h3,by simpa using f0,s0,by simpa using f1,s1⟩
theorem parts3 {w:World}{v:Value}{x0 x1 x2:Co}(h:CAt w v [x0,x1,x2]):∃ pb off cap u0 u1 u2,v=.slice (some ⟨pb,off,none⟩) 3 cap/\3<=cap/\cap<=9223372036854775807/\pb<w.heap.size/\Four w pb off x0 u0/\CSits w x0 u0/\Four w pb (off+4) x1 u1/\CSits w x1 u1/\Four w pb (off+8) x2 u2/\CSits w x2 u2:=by
 obtain⟨pb,off,cap,e,h1,h2,h3,hx⟩:=h.open (by simp)
 obtain⟨u0,f0,s0⟩:=hx 0 (by simp)
 obtain⟨u1,f1,s1⟩:=hx 1 (by simp)
 obtain⟨u2,f2,s2⟩:=hx 2 (by simp)
 exact⟨pb,off,cap,u0,u1,u2,e,h1,h2,h3,by simpa using f0,s0,by simpa using f1,s1,by simpa using f2,s2⟩
set_option maxHeartbeats 1000000 in
theorem wk_memo (E:EnvP)(tn tm:Int)(x0:Co)(H0:TeC E x0):WkC E 7 ⟨7,tn,tm,[x0]⟩:=by
 intro v tb b w f q hs ht hw
 cases hw
 obtain⟨Rv,hRv⟩:∃ Rv,Hid (Rv=resV (telV E ⟨7,tn,tm,[x0]⟩)):=⟨_,rfl⟩
 rw[<-hRv.out]
 have hT:Hid (Rv=resV (telV E x0)):=by rw[telV_eq] at hRv;exact hRv
 obtain⟨pb,off,cap,u0,rfl,k1,k2,lp,f0,s0⟩:=parts1 hs.parts
 obtain⟨a0,n0,rfl,-,-⟩:=s0.parts.shape
 have A:∀ o,Below w.heap.size w (w.alloc o):=fun o=>(Below.refl _ _).alloc (Nat.le_refl _) _
 have HC0:=chid (fun W (hW:Below w.heap.size w W)=>H0 _ tb b W (s0.next hW) (ht.next hW))
 obtain⟨p0,p1,p2,p3⟩:=f0
 have HA:=chid A
 clear hs ht A s0 hRv
 generalize telV E x0=r0 at *
 go_enter Tryz.func195,Tryz.ntmps195
 go_wp2_with fail
 refine Calls.mono (HC0.out _ (HA.out _)) ?_
 rintro e w1 ⟨rfl,b1⟩
 have HB:=chid (cbelow_on (HA.out _) b1 (by simp))
 clear b1 HC0 HA p0 p1 p2 p3
 go_wp2_with fail
 go_ret2
 exact⟨by rw[hT.out];rfl,HB.out⟩
end Go.Proofs.YtbgomckkockemaaGreatDoor
