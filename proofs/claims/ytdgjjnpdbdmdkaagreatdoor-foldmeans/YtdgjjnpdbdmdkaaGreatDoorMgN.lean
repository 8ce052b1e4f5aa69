import Derived.Test.YtdgjjnpdbdmdkaaGreatDoorMhY
namespace Go.Proofs.YtdgjjnpdbdmdkaaGreatDoor
open Go.RowKit
theorem a6D {x:Int}(h:x≠0)(p:Rs)(hp:p=noR x):a2t p=.tuple #[.int .i64 0,.iface 155 (.agg #[.int .i64 x])]:=by
 subst hp
 show Value.tuple #[.int .i64 0,b1g x]=_
 rw[a3s h]
theorem a0K {n:Int}(p:Rs)(hp:p=okR n):a2t p=.tuple #[.int .i64 n,.nilIface]:=by
 subst hp
 show Value.tuple #[.int .i64 n,b1g 0]=_
 rw[a5P]
theorem b4E (E:a0y)(t:Co)(k:Nat)(hk:k=1\/k=2)(hop:t.op=(k:Int)):WkC E k t:=by
 intro v tb b w f q hs ht hw
 have hf:f=104/\q=#[]:=by
  rcases hk with rfl | rfl<;>(cases hw;exact⟨rfl,rfl⟩)
 obtain⟨rfl,rfl⟩:=hf
 have hT:a0e E t=okR t.n:=by rw[a0g,hop];rcases hk with rfl | rfl<;>rfl
 rw[a0K _ hT]
 obtain⟨ad,cap,rfl,-,-⟩:=hs.parts.shape
 clear hs ht hw hT
 go_enter Tryz.func104,Tryz.ntmps104
 go_wp2_with fail
 go_ret2
 exact⟨rfl,(Below.refl _ _).alloc (Nat.le_refl _) _⟩
theorem b6U (E:a0y)(t:Co)(hop:t.op=3):WkC E 3 t:=by
 intro v tb b w f q hs ht hw
 cases hw
 have hT:a0e E t=okR (held (E.rep*1000000)):=by rw[a0g,hop];rfl
 rw[a0K _ hT]
 obtain⟨ad,cap,rfl,-,-⟩:=hs.parts.shape
 obtain⟨-,s1,sl⟩:=ht.cell0
 have HW:=a0a (fun W=>a4e E.rep ht.ok.rep.1 (by have:=ht.ok.rep.2;omega) W)
 have A:∀ o,Below w.heap.size w (w.alloc o):=fun o=>(Below.refl _ _).alloc (Nat.le_refl _) _
 have HA:=a0a A
 clear hs ht hT A
 go_enter Tryz.func107,Tryz.ntmps107
 go_wp2_with fail
 refine Calls.mono (HW.out _) ?_
 rintro e w1 ⟨rfl,b1⟩
 have HB:=a0a (a0b (HA.out _) b1 (by simp))
 clear b1
 go_wp2_with fail
 go_ret2
 exact⟨rfl,HB.out⟩
theorem b5f (E:a0y)(t:Co)(hop:t.op=6)(hn:t.n≠0):WkC E 6 t:=by
 intro v tb b w f q hs ht hw
 cases hw
 have hT:a0e E t=noR t.n:=by rw[a0g,hop];rfl
 rw[a6D hn _ hT]
 have hf:=hs.fit.n
 obtain⟨ad,cap,rfl,-,-⟩:=hs.parts.shape
 have A:∀ o,Below w.heap.size w (w.alloc o):=fun o=>(Below.refl _ _).alloc (Nat.le_refl _) _
 have HA:=a0a A
 have f1:=hf.1
 have f2:t.n<9223372036854775808:=by have:=hf.2;omega
 clear hs ht hT A hf
 go_enter Tryz.func114,Tryz.ntmps114
 go_wp2_with fail
 go_quiet (fail)
 go_wp2_with fail
 go_ret2
 exact⟨rfl,a0c (HA.out _) _⟩
theorem b5e (E:a0y)(t:Co)(hop:t.op=29):WkC E 29 t:=by
 intro v tb b w f q hs ht hw
 cases hw
 have hT:a0e E t=noR 4:=by rw[a0g,hop];rfl
 rw[a6D (by decide) _ hT]
 obtain⟨ad,cap,rfl,-,-⟩:=hs.parts.shape
 have A:∀ o,Below w.heap.size w (w.alloc o):=fun o=>(Below.refl _ _).alloc (Nat.le_refl _) _
 have HA:=a0a A
 clear hs ht hT A
 go_enter Tryz.func144,Tryz.ntmps144
 go_wp2_with fail
 go_ret2
 exact⟨rfl,HA.out _⟩
set_option maxHeartbeats 1000000 in
theorem a2x (h:Bool)(w:World):Calls Tryz.prog 167 #[.bool h] w fun e w'=>e=.returned (.int .i64 (b2i h))/\w'=w:=by
 cases h
 ·go_enter Tryz.func167,Tryz.ntmps167
  go_wp2_with fail
  go_ret
  exact⟨rfl,rfl⟩
 ·go_enter Tryz.func167,Tryz.ntmps167
  go_wp2_with fail
  go_ret
  exact⟨rfl,rfl⟩
set_option maxHeartbeats 1000000 in
theorem b5g (E:a0y)(t:Co)(hop:t.op=5)(h0:0<=t.n)(h1:t.n<E.crons.length):WkC E 5 t:=by
 intro v tb b w f q hs ht hw
 cases hw
 have hT:a0e E t=okR (b2i (E.crons.getD t.n.toNat false)):=by rw[a0g,hop];rfl
 rw[a0K _ hT]
 obtain⟨ad,cap,rfl,-,-⟩:=hs.parts.shape
 obtain⟨v1,v2,hb,-,hc⟩:=ht.bx
 obtain⟨ad2,cap2,rfl,e | ⟨g,off,rfl,hg,hcs⟩⟩:=hc
 ·rw[e] at h1;simp at h1;omega
 obtain⟨n,hn⟩:∃ n:Nat,t.n=(n:Int):=⟨t.n.toNat,by omega⟩
 have hnl:n<E.crons.length:=by omega
 have hc1:=hcs n hnl
 rw[hn,Int.toNat_natCast] at hT ⊢
 rw[hn] at h1
 have s3:=hb.cell 3 _ rfl
 have sl:=hb.lt
 generalize E.crons.getD n false=x at *
 have HC:=a0a (fun W=>a2x x W)
 have A:∀ o,Below w.heap.size w (w.alloc o):=fun o=>(Below.refl _ _).alloc (Nat.le_refl _) _
 have HA:=a0a A
 have hn':(coV t (.slice ad t.parts.length cap))=.agg #[.int .i64 t.op,.int .i64 (n:Int),.int .i64 t.m,.slice ad t.parts.length cap]:=by simp only[coV,hn]
 rw[hn']
 clear hs ht hT A hb hcs h0 hn'
 generalize E.crons.length=L at *
 go_enter Tryz.func111,Tryz.ntmps111
 go_wp2_with fail
 go_quiet (first|(go_at_call 167;refine Calls.quiet_of_same (HC.out _)))
 go_wp2_with fail
 go_ret2
 exact⟨rfl,a0c (HA.out _) _⟩
set_option maxHeartbeats 1000000 in
theorem b6T (E:a0y)(t:Co)(hop:t.op=4)(h0:0<=t.n)(h1:t.n<E.wins.length):WkC E 4 t:=by
 intro v tb b w f q hs ht hw
 cases hw
 obtain⟨op,tn,tm,ps⟩:=t
 obtain rfl:op=4:=hop
 dsimp only at h0 h1
 obtain⟨n,rfl⟩:∃ n:Nat,tn=(n:Int):=⟨tn.toNat,by omega⟩
 generalize ht':(⟨4,n,tm,ps⟩:Co)=t at *
 obtain⟨x,hx⟩:∃ x,Hid (x=E.wins.getD n (0,0)):=⟨_,rfl⟩
 have hT:a0e E t=if x.1=0 then okR x.2 else noR x.1:=by rw[hx.out,<-ht',a0g];rfl
 obtain⟨ad,cap,rfl,-,-⟩:=hs.parts.shape
 generalize t.parts.length=N at *
 obtain⟨v1,v2,hb,hc,-⟩:=ht.bx
 obtain⟨ad2,cap2,rfl,e | ⟨g,off,rfl,hg,hcs⟩⟩:=hc
 ·rw[e] at h1;simp at h1;omega
 have hnl:n<E.wins.length:=by omega
 obtain⟨g0,g1⟩:=hcs n hnl
 rw[<-hx.out] at g0 g1
 have hx1:=(ht.ok.wins n).1
 rw[<-hx.out] at hx1
 have s2:=hb.cell 2 _ rfl
 have sl:=hb.lt
 have A:∀ o,Below w.heap.size w (w.alloc o):=fun o=>(Below.refl _ _).alloc (Nat.le_refl _) _
 have HA:=a0a A
 have hn':(coV t (.slice ad N cap))=.agg #[.int .i64 4,.int .i64 (n:Int),.int .i64 tm,.slice ad N cap]:=by rw[<-ht']
 rw[hn']
 generalize E.wins.length=L at *
 have X0:=Box.new w [.int .i64 4,.int .i64 (n:Int),.int .i64 tm,.slice ad N cap] 30
 have ka:=HA.out (.cells [.int .i64 4,.int .i64 (n:Int),.int .i64 tm,.slice ad N cap].toArray 30)
 have d2:=(ka.cell (p:=⟨tb,2,none⟩) sl).trans s2
 have d0:=(ka.cell (p:=⟨g,_,none⟩) hg).trans g0
 have d1:=(ka.cell (p:=⟨g,_,none⟩) hg).trans g1
 have c1:=X0.cell 1 _ rfl
 have x0:=X0.lt
 have k0:g<(w.alloc (.cells [.int .i64 4,.int .i64 (n:Int),.int .i64 tm,.slice ad N cap].toArray 30)).heap.size:=Nat.lt_of_lt_of_le hg ka.size
 have k1:tb<(w.alloc (.cells [.int .i64 4,.int .i64 (n:Int),.int .i64 tm,.slice ad N cap].toArray 30)).heap.size:=Nat.lt_of_lt_of_le sl ka.size
 have HKa:=a0a ka
 have HT:=a0a hT
 clear hs ht hT A hb hcs h0 hn' HA X0 ka s2 g0 g1 ht'
 obtain⟨x1,x2⟩:=x
 dsimp only at d0 d1 hx1
 go_enter Tryz.func109,Tryz.ntmps109
 go_wp2_with fail
 generalize hW0:w.alloc _=w0 at *
 clear hW0
 go_region_held3 (fun w'=>w'.cell? ⟨tb,2,none⟩=some (.slice (some ⟨g,off,none⟩) L cap2)/\w'.cell? ⟨w.heap.size,1,none⟩=some (.int .i64 (n:Int))/\(w'.cell? ⟨g,off+n*2,none⟩=some (.int .i64 x1)/\w'.cell? ⟨g,off+n*2+1,none⟩=some (.int .i64 x2))) (simp[go_sem, *]) (fail)
 have b1:=a0c ((Below.refl w0.heap.size w0).alloc (Nat.le_refl _) (.cells [.int .i64 x1,.int .i64 x2].toArray 71)) 1
 have Z0:=(Box.new w0 [.int .i64 x1,.int .i64 x2] 71).next (a0c (Below.refl _ _) 1)
 change Box (w0.alloc (.cells #[.int .i64 x1,.int .i64 x2] 71)).drew w0.heap.size _ at Z0
 change Below w0.heap.size w0 (w0.alloc (.cells #[.int .i64 x1,.int .i64 x2] 71)).drew at b1
 generalize (w0.alloc (.cells #[.int .i64 x1,.int .i64 x2] 71)).drew=w1 at *
 have HB1:=kb HKa b1
 obtain⟨z0,z1⟩:=Box.c2 Z0
 have z2:=Z0.lt
 clear d0 d1 d2 c1 x0 k0 k1 HKa b1 Z0
 by_cases hz:x1=0
 ·have hT:a0e E t=okR x2:=by rw[HT.out];exact if_pos hz
  have HT2:=a0a hT
  clear hT HT
  subst hz
  go_wp2_with fail
  go_ret2
  exact⟨by rw[a0K _ HT2.out];rfl,HB1.out⟩
 ·have hT:a0e E t=noR x1:=by rw[HT.out];exact if_neg hz
  have HT2:=a0a hT
  have HZ:=a0a hz
  clear hT HT
  have k:(x1 != 0)=true:=by simpa using hz
  go_wp2_with fail
  go_quiet (fail)
  go_wp2_with fail
  go_ret2
  exact⟨by rw[a6D HZ.out _ HT2.out];rfl,a0c HB1.out _⟩
theorem a5I {w:World}{v:Value}{x0:Co}(h:CAt w v [x0]):∃ pb off cap u0,v=.slice (some ⟨pb,off,none⟩) 1 cap/\1<=cap/\cap<=9223372036854775807/\pb<w.heap.size/\a1D w pb off x0 u0/\a0l w x0 u0:=by
 obtain⟨pb,off,cap,e,h1,h2,h3,hx⟩:=h.open (by simp)
 obtain⟨u0,f0,s0⟩:=hx 0 (by simp)
 exact⟨pb,off,cap,u0,e,h1,h2,h3,by simpa using f0,s0⟩
theorem a5H {w:World}{v:Value}{x0 x1:Co}(h:CAt w v [x0,x1]):∃ pb off cap u0 u1,v=.slice (some ⟨pb,off,none⟩) 2 cap/\2<=cap/\cap<=9223372036854775807/\pb<w.heap.size/\a1D w pb off x0 u0/\a0l w x0 u0/\a1D w pb (off+4) x1 u1/\a0l w x1 u1:=by
 obtain⟨pb,off,cap,e,h1,h2,h3,hx⟩:=h.open (by simp)
 obtain⟨u0,f0,s0⟩:=hx 0 (by simp)
 obtain⟨u1,f1,s1⟩:=hx 1 (by simp)
 exact⟨pb,off,cap,u0,u1,e,h1,h2,h3,by simpa using f0,s0,by simpa using f1,s1⟩
theorem b7e {w:World}{v:Value}{x0 x1 x2:Co}(h:CAt w v [x0,x1,x2]):∃ pb off cap u0 u1 u2,v=.slice (some ⟨pb,off,none⟩) 3 cap/\3<=cap/\cap<=9223372036854775807/\pb<w.heap.size/\a1D w pb off x0 u0/\a0l w x0 u0/\a1D w pb (off+4) x1 u1/\a0l w x1 u1/\a1D w pb (off+8) x2 u2/\a0l w x2 u2:=by
 obtain⟨pb,off,cap,e,h1,h2,h3,hx⟩:=h.open (by simp)
 obtain⟨u0,f0,s0⟩:=hx 0 (by simp)
 obtain⟨u1,f1,s1⟩:=hx 1 (by simp)
 obtain⟨u2,f2,s2⟩:=hx 2 (by simp)
 exact⟨pb,off,cap,u0,u1,u2,e,h1,h2,h3,by simpa using f0,s0,by simpa using f1,s1,by simpa using f2,s2⟩
set_option maxHeartbeats 1000000 in
theorem b5d (E:a0y)(tn tm:Int)(x0:Co)(H0:TeC E x0):WkC E 7 ⟨7,tn,tm,[x0]⟩:=by
 intro v tb b w f q hs ht hw
 cases hw
 obtain⟨Rv,hRv⟩:∃ Rv,Hid (Rv=a2t (a0e E ⟨7,tn,tm,[x0]⟩)):=⟨_,rfl⟩
 rw[<-hRv.out]
 have hT:Hid (Rv=a2t (a0e E x0)):=by rw[a0g] at hRv;exact hRv
 obtain⟨pb,off,cap,u0,rfl,k1,k2,lp,f0,s0⟩:=a5I hs.parts
 obtain⟨a0,n0,rfl,-,-⟩:=s0.parts.shape
 have A:∀ o,Below w.heap.size w (w.alloc o):=fun o=>(Below.refl _ _).alloc (Nat.le_refl _) _
 have HC0:=a0a (fun W (hW:Below w.heap.size w W)=>H0 _ tb b W (s0.next hW) (ht.next hW))
 obtain⟨p0,p1,p2,p3⟩:=f0
 have HA:=a0a A
 clear hs ht A s0 hRv
 generalize a0e E x0=r0 at *
 go_enter Tryz.func117,Tryz.ntmps117
 go_wp2_with fail
 refine Calls.mono (HC0.out _ (HA.out _)) ?_
 rintro e w1 ⟨rfl,b1⟩
 have HB:=a0a (a0b (HA.out _) b1 (by simp))
 clear b1 HC0 HA p0 p1 p2 p3
 go_wp2_with fail
 go_ret2
 exact⟨by rw[hT.out];rfl,HB.out⟩
end Go.Proofs.YtdgjjnpdbdmdkaaGreatDoor
