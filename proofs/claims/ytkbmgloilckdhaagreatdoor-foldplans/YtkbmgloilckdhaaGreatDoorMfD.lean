import Derived.Test.YtkbmgloilckdhaaGreatDoorMfC
namespace Go.Proofs.YtkbmgloilckdhaaGreatDoor
open Go.RowKit
theorem a5I {c:Co}(hn:a0q c<=8192):c.parts.length<=8192:=by have:=a1w c.parts;rw[a1a] at hn;omega
set_option maxHeartbeats 4000000 in
set_option maxRecDepth 20000 in
theorem b3d (ok:Nat->Prop)(c:Co)(v:Value)(w:World)(a:Co)(r:List Co)(hp:c.parts=a::r)(ha:a.op=6)(hz:sM c≠0)(hn:a0q c<=8192)(hs:CSP ok w c v):
 Calls Tryz.prog 58 #[coV c v] w (a0H ok w (a1n c a)):=by
 have hb:a1U c=a1n c a:=(a0x hp).trans ((if_neg (by rw[a2K];omega)).trans (if_pos ha))
 have HFit:=a0a (hb ▸ a8l ⟨w,v,hs.sits⟩ hz)
 have HFa:=a0a (fun W r (hW:Below w.heap.size w W)=>a8x c v r W (hs.sits.next hW) hn)
 have HCs:=a0a hs
 have hln:=a5I hn
 obtain⟨k,hop,h1,h2,-,-,hsh⟩:=a4J hz
 have h27:k=27->∃ y,r=[y]:=fun e=>by
  subst e
  rcases hsh with ⟨h,-⟩ | ⟨h,-⟩ | ⟨h,-⟩ | ⟨h,-⟩ | ⟨h,-⟩ | ⟨-,-,x,y,e,-⟩ | ⟨h,-⟩ | ⟨h,-⟩ | ⟨h,-⟩
  ·omega
  ·omega
  ·omega
  ·omega
  ·omega
  ·rw[hp] at e
   simp only[List.cons.injEq] at e
   exact⟨y,e.2⟩
  ·omega
  ·omega
  ·omega
 obtain⟨pb,off,cap,rfl,k1,k2,lp,hx⟩:=hs.at (by rw[hp];simp)
 obtain⟨op,n,m,ps⟩:=c
 dsimp only at hop hp hx k1 hln HCs HFa ⊢
 subst hp
 clear hb hsh hs hn hz
 by_cases e27:k=27
 ·obtain⟨y,rfl⟩:=h27 e27
  clear h27
  obtain rfl:op=27:=by omega
  clear hop h1 h2 e27 k
  show Calls _ _ #[coV ⟨27,n,m,[a,y]⟩ (.slice (some ⟨pb,off,none⟩) 2 cap)] _ (a0H ok w y)
  obtain⟨Y0,Y1,Y2⟩:=a0e w 30 30 (coL ⟨27,n,m,[a,y]⟩ (.slice (some ⟨pb,off,none⟩) 2 cap)) [.int .i64 0,.int .i64 0,.int .i64 0,.slice none 0 0]
  obtain⟨x0,x1,x2,x3⟩:=Box.c4 Y0
  have xl:=Y0.lt
  obtain⟨y0,y1,y2,y3⟩:=Box.c4 Y1
  have g0:=Y1.free 0 (by simp)
  have g1:=Y1.free 1 (by simp)
  have g2:=Y1.free 2 (by simp)
  have g3:=Y1.free 3 (by simp)
  have yl:=Y1.lt
  have HY0:=a0a Y0
  have HY1:=a0a Y1
  have B0:=a0a Y2
  have HA2:Hid (∀ o o',Below w.heap.size w ((w.alloc o).alloc o')):=fun o o'=>((Below.refl _ _).alloc (Nat.le_refl _) _).alloc (by simp) _
  obtain⟨pa,pn,pf,pc⟩:=hx 1 (by simp)
  obtain⟨p0,p1,p2,p3⟩:=pf.keep (w':=(w.alloc (.cells (coL ⟨27,n,m,[a,y]⟩ (.slice (some ⟨pb,off,none⟩) 2 cap)).toArray 30)).alloc (.cells [.int .i64 0,.int .i64 0,.int .i64 0,.slice none 0 0].toArray 30)) (fun j=>Y2.cell (p:=⟨pb,j,none⟩) lp)
  have Hp:=a0a pc
  clear pf pc
  have lpw:=Nat.lt_of_lt_of_le lp Y2.size
  simp only[List.getElem_cons_succ,List.getElem_cons_zero] at p0 p1 p2 p3 Hp
  rw[Nat.one_mul] at p0 p1 p2 p3
  clear Y0 Y1 Y2 hx HFa HFit HCs
  go_enter Tryz.func58,Tryz.ntmps58
  go_wp2_with fail
  refine bodyPost_ret (v:=coV y (.slice pa y.parts.length pn)) (by simp[results,Tryz.results58,go_sem, *]) rfl ?_
  exact⟨_,rfl,Hp.out,HA2.out _ _⟩
 have n27:(op==27)=false:=by simp;omega
 by_cases e3:k=30\/k=31\/k=32
 ·have hF:a1n ⟨op,n,m,a::r⟩ a=⟨op,n,m,a::r⟩:=by unfold a1n;rw[if_neg (by show ¬ op=27;omega),if_pos (by show op=30\/op=31\/op=32;omega)]
  rw[hF]
  clear hx HFa HFit hF h27 e27
  generalize hL:(a::r).length=L at *
  obtain⟨Y0,Y1,Y2⟩:=a0e w 30 30 (coL ⟨op,n,m,a::r⟩ (.slice (some ⟨pb,off,none⟩) L cap)) [.int .i64 0,.int .i64 0,.int .i64 0,.slice none 0 0]
  obtain⟨x0,x1,x2,x3⟩:=Box.c4 Y0
  have xl:=Y0.lt
  obtain⟨y0,y1,y2,y3⟩:=Box.c4 Y1
  have g0:=Y1.free 0 (by simp)
  have g1:=Y1.free 1 (by simp)
  have g2:=Y1.free 2 (by simp)
  have g3:=Y1.free 3 (by simp)
  have yl:=Y1.lt
  have HY0:=a0a Y0
  have HY1:=a0a Y1
  have B0:=a0a Y2
  have HA2:Hid (∀ o o',Below w.heap.size w ((w.alloc o).alloc o')):=fun o o'=>((Below.refl _ _).alloc (Nat.le_refl _) _).alloc (by simp) _
  clear Y0 Y1 Y2
  have e3x:op=30\/op=31\/op=32:=by omega
  clear hop h1 h2 e3 k
  rcases e3x with rfl | rfl | rfl
  ·go_enter Tryz.func58,Tryz.ntmps58
   go_wp2_with fail
   refine bodyPost_ret (v:=coV ⟨30,n,m,a::r⟩ (.slice (some ⟨pb,off,none⟩) L cap)) (by simp[results,Tryz.results58,go_sem, *]) rfl ?_
   exact⟨_,rfl,HCs.out,HA2.out _ _⟩
  ·go_enter Tryz.func58,Tryz.ntmps58
   go_wp2_with fail
   refine bodyPost_ret (v:=coV ⟨31,n,m,a::r⟩ (.slice (some ⟨pb,off,none⟩) L cap)) (by simp[results,Tryz.results58,go_sem, *]) rfl ?_
   exact⟨_,rfl,HCs.out,HA2.out _ _⟩
  ·go_enter Tryz.func58,Tryz.ntmps58
   go_wp2_with fail
   refine bodyPost_ret (v:=coV ⟨32,n,m,a::r⟩ (.slice (some ⟨pb,off,none⟩) L cap)) (by simp[results,Tryz.results58,go_sem, *]) rfl ?_
   exact⟨_,rfl,HCs.out,HA2.out _ _⟩
 have n30:(op==30)=false:=by simp;omega
 have n31:(op==31)=false:=by simp;omega
 have n32:(op==32)=false:=by simp;omega
 have hF:a1n ⟨op,n,m,a::r⟩ a=a1G ⟨op,n,m,a::r⟩ a.n:=by unfold a1n;rw[if_neg (by show ¬ op=27;omega),if_neg (by show ¬(op=30\/op=31\/op=32);omega)]
 rw[hF] at HFit ⊢
 clear hop h1 h2 e27 e3 h27 k
 obtain⟨Y0,Y1,Y2⟩:=a0e w 30 30 (coL ⟨op,n,m,a::r⟩ (.slice (some ⟨pb,off,none⟩) (a::r).length cap)) [.int .i64 0,.int .i64 0,.int .i64 0,.slice none 0 0]
 obtain⟨x0,x1,x2,x3⟩:=Box.c4 Y0
 have xl:=Y0.lt
 obtain⟨y0,y1,y2,y3⟩:=Box.c4 Y1
 have g0:=Y1.free 0 (by simp)
 have g1:=Y1.free 1 (by simp)
 have g2:=Y1.free 2 (by simp)
 have g3:=Y1.free 3 (by simp)
 have yl:=Y1.lt
 have HY0:=a0a Y0
 have HY1:=a0a Y1
 have B0:=a0a Y2
 have HA2:Hid (∀ o o',Below w.heap.size w ((w.alloc o).alloc o')):=fun o o'=>((Below.refl _ _).alloc (Nat.le_refl _) _).alloc (by simp) _
 obtain⟨pa,pn,pf,pc⟩:=hx 0 (by simp)
 obtain⟨p0,p1,p2,p3⟩:=pf.keep (w':=(w.alloc (.cells (coL ⟨op,n,m,a::r⟩ (.slice (some ⟨pb,off,none⟩) (a::r).length cap)).toArray 30)).alloc (.cells [.int .i64 0,.int .i64 0,.int .i64 0,.slice none 0 0].toArray 30)) (fun j=>Y2.cell (p:=⟨pb,j,none⟩) lp)
 have Hp:=a0a pc
 clear pf pc
 have lpw:=Nat.lt_of_lt_of_le lp Y2.size
 simp only[List.getElem_cons_zero,Nat.zero_mul,Nat.add_zero] at p0 p1 p2 p3
 clear Y0 Y1 Y2 hx hF Hp
 have hL0:0<(a::r).length:=by simp
 generalize (a::r).length=L at *
 have HLa:=a0a lpw
 go_enter Tryz.func58,Tryz.ntmps58
 go_wp2_with fail
 generalize hW0:(w.alloc _).alloc _=w0 at *
 clear hW0
 go_region_held3 (fun w'=>(w'.cell? ⟨w.heap.size,0,none⟩=some (.int .i64 op)/\w'.cell? ⟨w.heap.size,1,none⟩=some (.int .i64 n)/\w'.cell? ⟨w.heap.size,2,none⟩=some (.int .i64 m)/\w'.cell? ⟨w.heap.size,3,none⟩=some (.slice (some ⟨pb,off,none⟩) L cap))/\w'.cell? ⟨pb,off+1,none⟩=some (.int .i64 a.n)) (simp[go_sem, *]) (first|(go_at_call 129;refine Calls.mono (HFa.out _ a.n (by exact a0j B0.out _)) ?_;rintro e w2 ⟨rfl,b2⟩;have gg:=fun p v hp hv=>(b2.cell (p:=p) hp).trans (hv:w0.cell? p=some v);replace x0:=gg _ _ xl x0;replace x1:=gg _ _ xl x1;replace x2:=gg _ _ xl x2;replace x3:=gg _ _ xl x3;replace p1:=gg _ _ lpw p1;have B2:=a0a (a0b B0.out (b:=w2) ⟨b2.os,b2.tape,b2.output,b2.size,b2.block⟩ B0.out.size);have Z3:=HY1.out.next (w':=w2) ⟨b2.os,b2.tape,b2.output,b2.size,b2.block⟩;replace y0:=Z3.cell 0 _ rfl;replace y1:=Z3.cell 1 _ rfl;replace y2:=Z3.cell 2 _ rfl;replace y3:=Z3.cell 3 _ rfl;replace g0:=Z3.free 0 (by simp);replace g1:=Z3.free 1 (by simp);replace g2:=Z3.free 2 (by simp);replace g3:=Z3.free 3 (by simp);replace yl:=Z3.lt;replace xl:w.heap.size<w2.heap.size:=Nat.lt_of_lt_of_le xl b2.size;replace lpw:pb<w2.heap.size:=Nat.lt_of_lt_of_le lpw b2.size;clear gg b2 Z3))
 clear p0 p1 p2 p3 HFa x0 x1 x2 x3 xl
 go_wp2_with fail
 refine bodyPost_ret (v:=coV (a1G ⟨op,n,m,a::r⟩ a.n) (.slice none 0 0)) (by simp[results,Tryz.results58,go_sem,a1G, *]) rfl ?_
 exact⟨_,rfl,CSP.leaf w HFit.out,((((B2.out.setCell (p:=⟨w.heap.size+1,0,none⟩) (by simp) _).setCell (p:=⟨w.heap.size+1,1,none⟩) (by simp) _).setCell (p:=⟨w.heap.size+1,2,none⟩) (by simp) _).setCell (p:=⟨w.heap.size+1,3,none⟩) (by simp) _)⟩
theorem CSP.low {ok:Nat->Prop}{w W:World}{t:Co}{v:Value}(h:CSP ok w t v)(hb:Below w.heap.size w W):CSP (fun b=>ok b/\b<w.heap.size) W t v:=
 CSP.keep hb.size (fun b hb1 ho=>⟨⟨ho,hb1⟩,fun j=>hb.cell (p:=⟨b,j,none⟩) hb1⟩) t v h
theorem CSP.back {ok:Nat->Prop}{w W:World}(hb:Below w.heap.size w W)(t:Co):∀ v,CSP (fun b=>ok b/\b<w.heap.size) W t v->CSP ok w t v:=by
 induction t using Co.ind with
 | h t ih=>
   intro v h
   obtain⟨hf,ad,cap,hv,hl,hc,hp⟩:=a2w.1 h
   refine a2w.2 ⟨hf,ad,cap,hv,hl,hc,?_⟩
   rcases hp with hp | ⟨b,off,ha,hbl,ho,hp⟩
   ·exact .inl hp
   ·refine .inr ⟨b,off,ha,ho.2,ho.1,fun i hi=>?_⟩
    obtain⟨u,h6,hu⟩:=hp i hi
    exact⟨u,h6.keep (fun j=>(hb.cell (p:=⟨b,j,none⟩) ho.2).symm),ih _ (List.getElem_mem hi) u hu⟩
set_option maxHeartbeats 8000000 in
set_option maxRecDepth 20000 in
theorem a7j (ok:Nat->Prop)(c:Co)(v:Value)(w:World)(a:Co)(r:List Co)(hp:c.parts=a::r)(ha:cst a=true)(hz:sM c≠0)(hn:a0q c<=8192)(hs:CSP ok w c v)(hg:GlE w):
 Calls Tryz.prog 57 #[coV c v] w (a0H ok w (a1E c a)):=by
 have HCs:=a0a hs
 have hln:=a5I hn
 obtain⟨k,hop,h1,h2,-,hpz,hsh⟩:=a4J hz
 have h01:sM a=2->a.n=0\/a.n=1:=fun e=>by
  obtain⟨-,-,q⟩:=a4t ha (hpz a (by rw[hp];simp))
  rcases q with ⟨-,q⟩ | ⟨-,q,-⟩
  ·have e':a0k a0t 256 256 256 a=2:=e
   rw[e'] at q;cases q
  ·exact q
 have HWk:Hid (8<=k/\k<=24->∀ W,Below w.heap.size w W->Calls Tryz.prog 128 #[coV c v] W (fun e w'=>∃ u,e=.returned (coV (a0R c) u)/\CSP ok w (a0R c) u/\Below W.heap.size W w')):=fun hk W hW=>(b2n _ c v W k hop hk a r hp ha hz hn (hs.low hW) (GlE.next hg hW)).mono (fun e w' h=>by
  obtain⟨u,h1,h2,h3⟩:=h
  exact⟨u,h1,CSP.back hW _ _ h2,h3⟩)
 have HAf:Hid (k=32->∀ W,Below w.heap.size w W->Calls Tryz.prog 127 #[.int .i64 a.n,coV c v] W (fun e w'=>∃ u,e=.returned (coV (c.parts.getD (a2g c.parts a.n c.parts.length c.parts.length 1) co0) u)/\CSP ok w (c.parts.getD (a2g c.parts a.n c.parts.length c.parts.length 1) co0) u/\Below W.heap.size W w')):=fun hk W hW=>by
  subst hk
  have hl:a4w c (c.parts.map (a0k a0t 256 256 256)):=by
   rcases hsh with ⟨h,-⟩ | ⟨h,-⟩ | ⟨h,-⟩ | ⟨h,-⟩ | ⟨h,-⟩ | ⟨h,-⟩ | ⟨h,-⟩ | ⟨h,-⟩ | ⟨-,-,h⟩
   all_goals first | exact h | omega
  refine(a8m _ c a.n v W (by have:=hl.1;rw[List.length_map] at this;exact this) (by have:=hl.2.1;rw[List.length_map] at this;exact this) hln (hs.low hW)).mono (fun e w' h=>?_)
  obtain⟨u,h1,h2,h3⟩:=h
  exact⟨u,h1,CSP.back hW _ _ h2,h3⟩
 obtain⟨pb,off,cap,rfl,k1,k2,lp,hx⟩:=hs.at (by rw[hp];simp)
 obtain⟨op,n,m,ps⟩:=c
 dsimp only at hop hp hx k1 hln HCs HWk HAf hsh hpz ⊢
 subst hp
 clear hs hn hz hg
 rcases hsh with ⟨hk,e⟩ | ⟨hk,-,x,e,-⟩ | ⟨hk,-,x,e,-⟩ | ⟨hk,-,x,y,e,-⟩ | ⟨hk,-,x,y,e,ex,-⟩ | ⟨hk,-,x,y,e,-⟩ | ⟨hk,-,x,y,z,e,ex,-⟩ | ⟨hk,-,x,e,-⟩ | ⟨hk,-,-⟩
 ·cases e
 ·obtain⟨rfl,rfl⟩:a=x/\r=[]:=by simpa using e
  obtain rfl:op=7:=by omega
  clear e hop h1 h2 hk HWk HAf k
  show Calls _ _ #[coV ⟨7,n,m,[a]⟩ (.slice (some ⟨pb,off,none⟩) 1 cap)] _ (a0H ok w a)
  obtain⟨Y0,Y1,Y2⟩:=a0e w 30 30 (coL ⟨7,n,m,[a]⟩ (.slice (some ⟨pb,off,none⟩) 1 cap)) [.int .i64 0,.int .i64 0,.int .i64 0,.slice none 0 0]
  obtain⟨x0,x1,x2,x3⟩:=Box.c4 Y0
  have xl:=Y0.lt
  obtain⟨y0,y1,y2,y3⟩:=Box.c4 Y1
  have g0:=Y1.free 0 (by simp)
  have g1:=Y1.free 1 (by simp)
  have g2:=Y1.free 2 (by simp)
  have g3:=Y1.free 3 (by simp)
  have yl:=Y1.lt
  have HY0:=a0a Y0
  have HY1:=a0a Y1
  have B0:=a0a Y2
  have HA2:Hid (∀ o o',Below w.heap.size w ((w.alloc o).alloc o')):=fun o o'=>((Below.refl _ _).alloc (Nat.le_refl _) _).alloc (by simp) _
  obtain⟨pa,pn,pf,pc⟩:=hx 0 (by simp)
  obtain⟨p0,p1,p2,p3⟩:=pf.keep (w':=(w.alloc (.cells (coL ⟨7,n,m,[a]⟩ (.slice (some ⟨pb,off,none⟩) 1 cap)).toArray 30)).alloc (.cells [.int .i64 0,.int .i64 0,.int .i64 0,.slice none 0 0].toArray 30)) (fun j=>Y2.cell (p:=⟨pb,j,none⟩) lp)
  have Hp:=a0a pc
  clear pf pc
  have lpw:=Nat.lt_of_lt_of_le lp Y2.size
  simp only[List.getElem_cons_zero,Nat.zero_mul,Nat.add_zero] at p0 p1 p2 p3 Hp
  clear Y0 Y1 Y2 hx HCs  h01 hpz hln k1
  go_enter Tryz.func57,Tryz.ntmps57
  go_wp2_with fail
  refine bodyPost_ret (v:=coV a (.slice pa a.parts.length pn)) (by simp[results,Tryz.results57,go_sem, *]) rfl ?_
  exact⟨_,rfl,Hp.out,HA2.out _ _⟩
 ·have hw:=HWk.out (by omega)
  have hK:a1E ⟨op,n,m,a::r⟩ a=a0R ⟨op,n,m,a::r⟩:=a1A hop (by omega)
  rw[hK]
  have n28:(op==28)=false:=by simp;omega
  have n25:(op==25)=false:=by simp;omega
  have n26:(op==26)=false:=by simp;omega
  have n27:(op==27)=false:=by simp;omega
  have n7:(op==7)=false:=by simp;omega
  have n32:(op==32)=false:=by simp;omega
  have n30:(op==30)=false:=by simp;omega
  have n31:(op==31)=false:=by simp;omega
  have HW:=a0a hw
  obtain⟨Y0,Y1,Y2⟩:=a0e w 30 30 (coL ⟨op,n,m,a::r⟩ (.slice (some ⟨pb,off,none⟩) (a::r).length cap)) [.int .i64 0,.int .i64 0,.int .i64 0,.slice none 0 0]
  obtain⟨x0,x1,x2,x3⟩:=Box.c4 Y0
  have xl:=Y0.lt
  obtain⟨y0,y1,y2,y3⟩:=Box.c4 Y1
  have g0:=Y1.free 0 (by simp)
  have g1:=Y1.free 1 (by simp)
  have g2:=Y1.free 2 (by simp)
  have g3:=Y1.free 3 (by simp)
  have yl:=Y1.lt
  have HY0:=a0a Y0
  have HY1:=a0a Y1
  have B0:=a0a Y2
  have HA2:Hid (∀ o o',Below w.heap.size w ((w.alloc o).alloc o')):=fun o o'=>((Below.refl _ _).alloc (Nat.le_refl _) _).alloc (by simp) _
  obtain⟨qa,qn,qf,qc⟩:=hx 0 (by simp)
  obtain⟨q0,q1,q2,q3⟩:=qf.keep (w':=(w.alloc (.cells (coL ⟨op,n,m,a::r⟩ (.slice (some ⟨pb,off,none⟩) (a::r).length cap)).toArray 30)).alloc (.cells [.int .i64 0,.int .i64 0,.int .i64 0,.slice none 0 0].toArray 30)) (fun j=>Y2.cell (p:=⟨pb,j,none⟩) lp)
  have Hq:=a0a qc
  clear qf qc
  have lpw:=Nat.lt_of_lt_of_le lp Y2.size
  simp only[List.getElem_cons_zero,Nat.zero_mul,Nat.add_zero] at q0 q1 q2 q3
  clear Y0 Y1 Y2 hx Hq HWk HAf h01 hpz hK hw hop h1 h2 hk e k
  generalize a0R ⟨op,n,m,a::r⟩=D at *
  have hL0:0<(a::r).length:=by simp
  generalize (a::r).length=L at *
  go_enter Tryz.func57,Tryz.ntmps57
  go_wp2_with fail
  refine Calls.mono (HW.out _ B0.out) ?_
  rintro e w2 ⟨u,rfl,hu,b2⟩
  have B2:=kb B0 b2
  have Y1:=HY1.out.next b2
  have HU:=a0a hu
  obtain⟨ua,uc,rfl,-,-⟩:=hu.parts.shape
  clear x0 x1 x2 x3 xl
  clear y0 y1 y2 y3 g0 g1 g2 g3 yl
  clear q0 q1 q2 q3 b2 hu
  obtain⟨y0,y1,y2,y3⟩:=Box.c4 Y1
  have g0:=Y1.free 0 (by simp)
  have g1:=Y1.free 1 (by simp)
  have g2:=Y1.free 2 (by simp)
  have g3:=Y1.free 3 (by simp)
  have yl:=Y1.lt
  clear Y1
  go_wp2_with fail
  refine bodyPost_ret (v:=coV D (.slice ua D.parts.length uc)) (by simp[results,Tryz.results57,go_sem, *]) rfl ?_
  exact⟨_,rfl,HU.out,((((B2.out.setCell (p:=⟨w.heap.size+1,0,none⟩) (by simp) _).setCell (p:=⟨w.heap.size+1,1,none⟩) (by simp) _).setCell (p:=⟨w.heap.size+1,2,none⟩) (by simp) _).setCell (p:=⟨w.heap.size+1,3,none⟩) (by simp) _)⟩
 ·have hw:=HWk.out (by omega)
  have hK:a1E ⟨op,n,m,a::r⟩ a=a0R ⟨op,n,m,a::r⟩:=a1A hop (by omega)
  rw[hK]
  have n28:(op==28)=false:=by simp;omega
  have n25:(op==25)=false:=by simp;omega
  have n26:(op==26)=false:=by simp;omega
  have n27:(op==27)=false:=by simp;omega
  have n7:(op==7)=false:=by simp;omega
  have n32:(op==32)=false:=by simp;omega
  have n30:(op==30)=false:=by simp;omega
  have n31:(op==31)=false:=by simp;omega
  have HW:=a0a hw
  obtain⟨Y0,Y1,Y2⟩:=a0e w 30 30 (coL ⟨op,n,m,a::r⟩ (.slice (some ⟨pb,off,none⟩) (a::r).length cap)) [.int .i64 0,.int .i64 0,.int .i64 0,.slice none 0 0]
  obtain⟨x0,x1,x2,x3⟩:=Box.c4 Y0
  have xl:=Y0.lt
  obtain⟨y0,y1,y2,y3⟩:=Box.c4 Y1
  have g0:=Y1.free 0 (by simp)
  have g1:=Y1.free 1 (by simp)
  have g2:=Y1.free 2 (by simp)
  have g3:=Y1.free 3 (by simp)
  have yl:=Y1.lt
  have HY0:=a0a Y0
  have HY1:=a0a Y1
  have B0:=a0a Y2
  have HA2:Hid (∀ o o',Below w.heap.size w ((w.alloc o).alloc o')):=fun o o'=>((Below.refl _ _).alloc (Nat.le_refl _) _).alloc (by simp) _
  obtain⟨qa,qn,qf,qc⟩:=hx 0 (by simp)
  obtain⟨q0,q1,q2,q3⟩:=qf.keep (w':=(w.alloc (.cells (coL ⟨op,n,m,a::r⟩ (.slice (some ⟨pb,off,none⟩) (a::r).length cap)).toArray 30)).alloc (.cells [.int .i64 0,.int .i64 0,.int .i64 0,.slice none 0 0].toArray 30)) (fun j=>Y2.cell (p:=⟨pb,j,none⟩) lp)
  have Hq:=a0a qc
  clear qf qc
  have lpw:=Nat.lt_of_lt_of_le lp Y2.size
  simp only[List.getElem_cons_zero,Nat.zero_mul,Nat.add_zero] at q0 q1 q2 q3
  clear Y0 Y1 Y2 hx Hq HWk HAf h01 hpz hK hw hop h1 h2 hk e k
  generalize a0R ⟨op,n,m,a::r⟩=D at *
  have hL0:0<(a::r).length:=by simp
  generalize (a::r).length=L at *
  go_enter Tryz.func57,Tryz.ntmps57
  go_wp2_with fail
  refine Calls.mono (HW.out _ B0.out) ?_
  rintro e w2 ⟨u,rfl,hu,b2⟩
  have B2:=kb B0 b2
  have Y1:=HY1.out.next b2
  have HU:=a0a hu
  obtain⟨ua,uc,rfl,-,-⟩:=hu.parts.shape
  clear x0 x1 x2 x3 xl
  clear y0 y1 y2 y3 g0 g1 g2 g3 yl
  clear q0 q1 q2 q3 b2 hu
  obtain⟨y0,y1,y2,y3⟩:=Box.c4 Y1
  have g0:=Y1.free 0 (by simp)
  have g1:=Y1.free 1 (by simp)
  have g2:=Y1.free 2 (by simp)
  have g3:=Y1.free 3 (by simp)
  have yl:=Y1.lt
  clear Y1
  go_wp2_with fail
  refine bodyPost_ret (v:=coV D (.slice ua D.parts.length uc)) (by simp[results,Tryz.results57,go_sem, *]) rfl ?_
  exact⟨_,rfl,HU.out,((((B2.out.setCell (p:=⟨w.heap.size+1,0,none⟩) (by simp) _).setCell (p:=⟨w.heap.size+1,1,none⟩) (by simp) _).setCell (p:=⟨w.heap.size+1,2,none⟩) (by simp) _).setCell (p:=⟨w.heap.size+1,3,none⟩) (by simp) _)⟩
 ·obtain⟨rfl,rfl⟩:a=x/\r=[y]:=by simpa using e
  have q01:=h01 ex
  clear e ex
  rcases hk with hk | hk
  ·obtain rfl:op=25:=by omega
   clear hop h1 h2 hk HWk HAf k
   rcases q01 with hv | hv
   ·have hK:a1E ⟨25,n,m,[a,y]⟩ a=a:=by show (if a.n=0 then _ else _)=_;rw[hv];rfl
    rw[hK]
    show Calls _ _ #[coV ⟨25,n,m,[a,y]⟩ (.slice (some ⟨pb,off,none⟩) 2 cap)] _ _
    obtain⟨Y0,Y1,Y2⟩:=a0e w 30 30 (coL ⟨25,n,m,[a,y]⟩ (.slice (some ⟨pb,off,none⟩) 2 cap)) [.int .i64 0,.int .i64 0,.int .i64 0,.slice none 0 0]
    obtain⟨x0,x1,x2,x3⟩:=Box.c4 Y0
    have xl:=Y0.lt
    obtain⟨y0,y1,y2,y3⟩:=Box.c4 Y1
    have g0:=Y1.free 0 (by simp)
    have g1:=Y1.free 1 (by simp)
    have g2:=Y1.free 2 (by simp)
    have g3:=Y1.free 3 (by simp)
    have yl:=Y1.lt
    have HY0:=a0a Y0
    have HY1:=a0a Y1
    have B0:=a0a Y2
    have HA2:Hid (∀ o o',Below w.heap.size w ((w.alloc o).alloc o')):=fun o o'=>((Below.refl _ _).alloc (Nat.le_refl _) _).alloc (by simp) _
    obtain⟨pa,pn,pf,pc⟩:=hx 0 (by simp)
    obtain⟨p0,p1,p2,p3⟩:=pf.keep (w':=(w.alloc (.cells (coL ⟨25,n,m,[a,y]⟩ (.slice (some ⟨pb,off,none⟩) 2 cap)).toArray 30)).alloc (.cells [.int .i64 0,.int .i64 0,.int .i64 0,.slice none 0 0].toArray 30)) (fun j=>Y2.cell (p:=⟨pb,j,none⟩) lp)
    have Hp:=a0a pc
    clear pf pc
    have lpw:=Nat.lt_of_lt_of_le lp Y2.size
    simp only[List.getElem_cons_zero,Nat.zero_mul,Nat.add_zero] at p0 p1 p2 p3 Hp
    rw[hv] at p1
    clear Y0 Y1 Y2 hx HCs  h01 hpz hln k1
    clear hK
    go_enter Tryz.func57,Tryz.ntmps57
    go_wp2_with fail
    refine bodyPost_ret (v:=coV a (.slice pa a.parts.length pn)) (by simp[results,Tryz.results57,go_sem, *]) rfl ?_
    exact⟨_,rfl,Hp.out,HA2.out _ _⟩
   ·have hK:a1E ⟨25,n,m,[a,y]⟩ a=y:=by show (if a.n=0 then _ else _)=_;rw[hv];rfl
    rw[hK]
    show Calls _ _ #[coV ⟨25,n,m,[a,y]⟩ (.slice (some ⟨pb,off,none⟩) 2 cap)] _ _
    obtain⟨Y0,Y1,Y2⟩:=a0e w 30 30 (coL ⟨25,n,m,[a,y]⟩ (.slice (some ⟨pb,off,none⟩) 2 cap)) [.int .i64 0,.int .i64 0,.int .i64 0,.slice none 0 0]
    obtain⟨x0,x1,x2,x3⟩:=Box.c4 Y0
    have xl:=Y0.lt
    obtain⟨y0,y1,y2,y3⟩:=Box.c4 Y1
    have g0:=Y1.free 0 (by simp)
    have g1:=Y1.free 1 (by simp)
    have g2:=Y1.free 2 (by simp)
    have g3:=Y1.free 3 (by simp)
    have yl:=Y1.lt
    have HY0:=a0a Y0
    have HY1:=a0a Y1
    have B0:=a0a Y2
    have HA2:Hid (∀ o o',Below w.heap.size w ((w.alloc o).alloc o')):=fun o o'=>((Below.refl _ _).alloc (Nat.le_refl _) _).alloc (by simp) _
    obtain⟨qa,qn,qf,qc⟩:=hx 0 (by simp)
    obtain⟨q0,q1,q2,q3⟩:=qf.keep (w':=(w.alloc (.cells (coL ⟨25,n,m,[a,y]⟩ (.slice (some ⟨pb,off,none⟩) 2 cap)).toArray 30)).alloc (.cells [.int .i64 0,.int .i64 0,.int .i64 0,.slice none 0 0].toArray 30)) (fun j=>Y2.cell (p:=⟨pb,j,none⟩) lp)
    have Hq:=a0a qc
    clear qf qc
    obtain⟨pa,pn,pf,pc⟩:=hx 1 (by simp)
    obtain⟨p0,p1,p2,p3⟩:=pf.keep (w':=(w.alloc (.cells (coL ⟨25,n,m,[a,y]⟩ (.slice (some ⟨pb,off,none⟩) 2 cap)).toArray 30)).alloc (.cells [.int .i64 0,.int .i64 0,.int .i64 0,.slice none 0 0].toArray 30)) (fun j=>Y2.cell (p:=⟨pb,j,none⟩) lp)
    have Hp:=a0a pc
    clear pf pc
    have lpw:=Nat.lt_of_lt_of_le lp Y2.size
    simp only[List.getElem_cons_succ,List.getElem_cons_zero,Nat.zero_mul,Nat.add_zero,Nat.one_mul] at q0 q1 q2 q3 p0 p1 p2 p3 Hp
    rw[hv] at q1
    clear Y0 Y1 Y2 hx HCs Hq h01 hpz hln k1
    clear hK
    go_enter Tryz.func57,Tryz.ntmps57
    go_wp2_with fail
    refine bodyPost_ret (v:=coV y (.slice pa y.parts.length pn)) (by simp[results,Tryz.results57,go_sem, *]) rfl ?_
    exact⟨_,rfl,Hp.out,HA2.out _ _⟩
  ·obtain rfl:op=26:=by omega
   clear hop h1 h2 hk HWk HAf k
   rcases q01 with hv | hv
   ·have hK:a1E ⟨26,n,m,[a,y]⟩ a=y:=by show (if a.n=1 then _ else _)=_;rw[hv];rfl
    rw[hK]
    show Calls _ _ #[coV ⟨26,n,m,[a,y]⟩ (.slice (some ⟨pb,off,none⟩) 2 cap)] _ _
    obtain⟨Y0,Y1,Y2⟩:=a0e w 30 30 (coL ⟨26,n,m,[a,y]⟩ (.slice (some ⟨pb,off,none⟩) 2 cap)) [.int .i64 0,.int .i64 0,.int .i64 0,.slice none 0 0]
    obtain⟨x0,x1,x2,x3⟩:=Box.c4 Y0
    have xl:=Y0.lt
    obtain⟨y0,y1,y2,y3⟩:=Box.c4 Y1
    have g0:=Y1.free 0 (by simp)
    have g1:=Y1.free 1 (by simp)
    have g2:=Y1.free 2 (by simp)
    have g3:=Y1.free 3 (by simp)
    have yl:=Y1.lt
    have HY0:=a0a Y0
    have HY1:=a0a Y1
    have B0:=a0a Y2
    have HA2:Hid (∀ o o',Below w.heap.size w ((w.alloc o).alloc o')):=fun o o'=>((Below.refl _ _).alloc (Nat.le_refl _) _).alloc (by simp) _
    obtain⟨qa,qn,qf,qc⟩:=hx 0 (by simp)
    obtain⟨q0,q1,q2,q3⟩:=qf.keep (w':=(w.alloc (.cells (coL ⟨26,n,m,[a,y]⟩ (.slice (some ⟨pb,off,none⟩) 2 cap)).toArray 30)).alloc (.cells [.int .i64 0,.int .i64 0,.int .i64 0,.slice none 0 0].toArray 30)) (fun j=>Y2.cell (p:=⟨pb,j,none⟩) lp)
    have Hq:=a0a qc
    clear qf qc
    obtain⟨pa,pn,pf,pc⟩:=hx 1 (by simp)
    obtain⟨p0,p1,p2,p3⟩:=pf.keep (w':=(w.alloc (.cells (coL ⟨26,n,m,[a,y]⟩ (.slice (some ⟨pb,off,none⟩) 2 cap)).toArray 30)).alloc (.cells [.int .i64 0,.int .i64 0,.int .i64 0,.slice none 0 0].toArray 30)) (fun j=>Y2.cell (p:=⟨pb,j,none⟩) lp)
    have Hp:=a0a pc
    clear pf pc
    have lpw:=Nat.lt_of_lt_of_le lp Y2.size
    simp only[List.getElem_cons_succ,List.getElem_cons_zero,Nat.zero_mul,Nat.add_zero,Nat.one_mul] at q0 q1 q2 q3 p0 p1 p2 p3 Hp
    rw[hv] at q1
    clear Y0 Y1 Y2 hx HCs Hq h01 hpz hln k1
    clear hK
    go_enter Tryz.func57,Tryz.ntmps57
    go_wp2_with fail
    refine bodyPost_ret (v:=coV y (.slice pa y.parts.length pn)) (by simp[results,Tryz.results57,go_sem, *]) rfl ?_
    exact⟨_,rfl,Hp.out,HA2.out _ _⟩
   ·have hK:a1E ⟨26,n,m,[a,y]⟩ a=a:=by show (if a.n=1 then _ else _)=_;rw[hv];rfl
    rw[hK]
    show Calls _ _ #[coV ⟨26,n,m,[a,y]⟩ (.slice (some ⟨pb,off,none⟩) 2 cap)] _ _
    obtain⟨Y0,Y1,Y2⟩:=a0e w 30 30 (coL ⟨26,n,m,[a,y]⟩ (.slice (some ⟨pb,off,none⟩) 2 cap)) [.int .i64 0,.int .i64 0,.int .i64 0,.slice none 0 0]
    obtain⟨x0,x1,x2,x3⟩:=Box.c4 Y0
    have xl:=Y0.lt
    obtain⟨y0,y1,y2,y3⟩:=Box.c4 Y1
    have g0:=Y1.free 0 (by simp)
    have g1:=Y1.free 1 (by simp)
    have g2:=Y1.free 2 (by simp)
    have g3:=Y1.free 3 (by simp)
    have yl:=Y1.lt
    have HY0:=a0a Y0
    have HY1:=a0a Y1
    have B0:=a0a Y2
    have HA2:Hid (∀ o o',Below w.heap.size w ((w.alloc o).alloc o')):=fun o o'=>((Below.refl _ _).alloc (Nat.le_refl _) _).alloc (by simp) _
    obtain⟨pa,pn,pf,pc⟩:=hx 0 (by simp)
    obtain⟨p0,p1,p2,p3⟩:=pf.keep (w':=(w.alloc (.cells (coL ⟨26,n,m,[a,y]⟩ (.slice (some ⟨pb,off,none⟩) 2 cap)).toArray 30)).alloc (.cells [.int .i64 0,.int .i64 0,.int .i64 0,.slice none 0 0].toArray 30)) (fun j=>Y2.cell (p:=⟨pb,j,none⟩) lp)
    have Hp:=a0a pc
    clear pf pc
    have lpw:=Nat.lt_of_lt_of_le lp Y2.size
    simp only[List.getElem_cons_zero,Nat.zero_mul,Nat.add_zero] at p0 p1 p2 p3 Hp
    rw[hv] at p1
    clear Y0 Y1 Y2 hx HCs  h01 hpz hln k1
    clear hK
    go_enter Tryz.func57,Tryz.ntmps57
    go_wp2_with fail
    refine bodyPost_ret (v:=coV a (.slice pa a.parts.length pn)) (by simp[results,Tryz.results57,go_sem, *]) rfl ?_
    exact⟨_,rfl,Hp.out,HA2.out _ _⟩
 ·obtain⟨rfl,rfl⟩:a=x/\r=[y]:=by simpa using e
  obtain rfl:op=27:=by omega
  clear e hop h1 h2 hk HWk HAf k
  show Calls _ _ #[coV ⟨27,n,m,[a,y]⟩ (.slice (some ⟨pb,off,none⟩) 2 cap)] _ (a0H ok w a)
  obtain⟨Y0,Y1,Y2⟩:=a0e w 30 30 (coL ⟨27,n,m,[a,y]⟩ (.slice (some ⟨pb,off,none⟩) 2 cap)) [.int .i64 0,.int .i64 0,.int .i64 0,.slice none 0 0]
  obtain⟨x0,x1,x2,x3⟩:=Box.c4 Y0
  have xl:=Y0.lt
  obtain⟨y0,y1,y2,y3⟩:=Box.c4 Y1
  have g0:=Y1.free 0 (by simp)
  have g1:=Y1.free 1 (by simp)
  have g2:=Y1.free 2 (by simp)
  have g3:=Y1.free 3 (by simp)
  have yl:=Y1.lt
  have HY0:=a0a Y0
  have HY1:=a0a Y1
  have B0:=a0a Y2
  have HA2:Hid (∀ o o',Below w.heap.size w ((w.alloc o).alloc o')):=fun o o'=>((Below.refl _ _).alloc (Nat.le_refl _) _).alloc (by simp) _
  obtain⟨pa,pn,pf,pc⟩:=hx 0 (by simp)
  obtain⟨p0,p1,p2,p3⟩:=pf.keep (w':=(w.alloc (.cells (coL ⟨27,n,m,[a,y]⟩ (.slice (some ⟨pb,off,none⟩) 2 cap)).toArray 30)).alloc (.cells [.int .i64 0,.int .i64 0,.int .i64 0,.slice none 0 0].toArray 30)) (fun j=>Y2.cell (p:=⟨pb,j,none⟩) lp)
  have Hp:=a0a pc
  clear pf pc
  have lpw:=Nat.lt_of_lt_of_le lp Y2.size
  simp only[List.getElem_cons_zero,Nat.zero_mul,Nat.add_zero] at p0 p1 p2 p3 Hp
  clear Y0 Y1 Y2 hx HCs  h01 hpz hln k1
  go_enter Tryz.func57,Tryz.ntmps57
  go_wp2_with fail
  refine bodyPost_ret (v:=coV a (.slice pa a.parts.length pn)) (by simp[results,Tryz.results57,go_sem, *]) rfl ?_
  exact⟨_,rfl,Hp.out,HA2.out _ _⟩
 ·obtain⟨rfl,rfl⟩:a=x/\r=[y,z]:=by simpa using e
  have q01:=h01 ex
  obtain rfl:op=28:=by omega
  clear e hop h1 h2 hk HWk HAf k ex
  rcases q01 with hv | hv
  ·have hK:a1E ⟨28,n,m,[a,y,z]⟩ a=z:=by show (if a.n=1 then _ else _)=_;rw[hv];rfl
   rw[hK]
   show Calls _ _ #[coV ⟨28,n,m,[a,y,z]⟩ (.slice (some ⟨pb,off,none⟩) 3 cap)] _ _
   obtain⟨Y0,Y1,Y2⟩:=a0e w 30 30 (coL ⟨28,n,m,[a,y,z]⟩ (.slice (some ⟨pb,off,none⟩) 3 cap)) [.int .i64 0,.int .i64 0,.int .i64 0,.slice none 0 0]
   obtain⟨x0,x1,x2,x3⟩:=Box.c4 Y0
   have xl:=Y0.lt
   obtain⟨y0,y1,y2,y3⟩:=Box.c4 Y1
   have g0:=Y1.free 0 (by simp)
   have g1:=Y1.free 1 (by simp)
   have g2:=Y1.free 2 (by simp)
   have g3:=Y1.free 3 (by simp)
   have yl:=Y1.lt
   have HY0:=a0a Y0
   have HY1:=a0a Y1
   have B0:=a0a Y2
   have HA2:Hid (∀ o o',Below w.heap.size w ((w.alloc o).alloc o')):=fun o o'=>((Below.refl _ _).alloc (Nat.le_refl _) _).alloc (by simp) _
   obtain⟨qa,qn,qf,qc⟩:=hx 0 (by simp)
   obtain⟨q0,q1,q2,q3⟩:=qf.keep (w':=(w.alloc (.cells (coL ⟨28,n,m,[a,y,z]⟩ (.slice (some ⟨pb,off,none⟩) 3 cap)).toArray 30)).alloc (.cells [.int .i64 0,.int .i64 0,.int .i64 0,.slice none 0 0].toArray 30)) (fun j=>Y2.cell (p:=⟨pb,j,none⟩) lp)
   have Hq:=a0a qc
   clear qf qc
   obtain⟨pa,pn,pf,pc⟩:=hx 2 (by simp)
   obtain⟨p0,p1,p2,p3⟩:=pf.keep (w':=(w.alloc (.cells (coL ⟨28,n,m,[a,y,z]⟩ (.slice (some ⟨pb,off,none⟩) 3 cap)).toArray 30)).alloc (.cells [.int .i64 0,.int .i64 0,.int .i64 0,.slice none 0 0].toArray 30)) (fun j=>Y2.cell (p:=⟨pb,j,none⟩) lp)
   have Hp:=a0a pc
   clear pf pc
   have lpw:=Nat.lt_of_lt_of_le lp Y2.size
   simp only[List.getElem_cons_succ,List.getElem_cons_zero,Nat.zero_mul,Nat.add_zero,Nat.reduceMul] at q0 q1 q2 q3 p0 p1 p2 p3 Hp
   rw[hv] at q1
   clear Y0 Y1 Y2 hx HCs Hq h01 hpz hln k1
   clear hK
   go_enter Tryz.func57,Tryz.ntmps57
   go_wp2_with fail
   refine bodyPost_ret (v:=coV z (.slice pa z.parts.length pn)) (by simp[results,Tryz.results57,go_sem, *]) rfl ?_
   exact⟨_,rfl,Hp.out,HA2.out _ _⟩
  ·have hK:a1E ⟨28,n,m,[a,y,z]⟩ a=y:=by show (if a.n=1 then _ else _)=_;rw[hv];rfl
   rw[hK]
   show Calls _ _ #[coV ⟨28,n,m,[a,y,z]⟩ (.slice (some ⟨pb,off,none⟩) 3 cap)] _ _
   obtain⟨Y0,Y1,Y2⟩:=a0e w 30 30 (coL ⟨28,n,m,[a,y,z]⟩ (.slice (some ⟨pb,off,none⟩) 3 cap)) [.int .i64 0,.int .i64 0,.int .i64 0,.slice none 0 0]
   obtain⟨x0,x1,x2,x3⟩:=Box.c4 Y0
   have xl:=Y0.lt
   obtain⟨y0,y1,y2,y3⟩:=Box.c4 Y1
   have g0:=Y1.free 0 (by simp)
   have g1:=Y1.free 1 (by simp)
   have g2:=Y1.free 2 (by simp)
   have g3:=Y1.free 3 (by simp)
   have yl:=Y1.lt
   have HY0:=a0a Y0
   have HY1:=a0a Y1
   have B0:=a0a Y2
   have HA2:Hid (∀ o o',Below w.heap.size w ((w.alloc o).alloc o')):=fun o o'=>((Below.refl _ _).alloc (Nat.le_refl _) _).alloc (by simp) _
   obtain⟨qa,qn,qf,qc⟩:=hx 0 (by simp)
   obtain⟨q0,q1,q2,q3⟩:=qf.keep (w':=(w.alloc (.cells (coL ⟨28,n,m,[a,y,z]⟩ (.slice (some ⟨pb,off,none⟩) 3 cap)).toArray 30)).alloc (.cells [.int .i64 0,.int .i64 0,.int .i64 0,.slice none 0 0].toArray 30)) (fun j=>Y2.cell (p:=⟨pb,j,none⟩) lp)
   have Hq:=a0a qc
   clear qf qc
   obtain⟨pa,pn,pf,pc⟩:=hx 1 (by simp)
   obtain⟨p0,p1,p2,p3⟩:=pf.keep (w':=(w.alloc (.cells (coL ⟨28,n,m,[a,y,z]⟩ (.slice (some ⟨pb,off,none⟩) 3 cap)).toArray 30)).alloc (.cells [.int .i64 0,.int .i64 0,.int .i64 0,.slice none 0 0].toArray 30)) (fun j=>Y2.cell (p:=⟨pb,j,none⟩) lp)
   have Hp:=a0a pc
   clear pf pc
   have lpw:=Nat.lt_of_lt_of_le lp Y2.size
   simp only[List.getElem_cons_succ,List.getElem_cons_zero,Nat.zero_mul,Nat.add_zero,Nat.one_mul] at q0 q1 q2 q3 p0 p1 p2 p3 Hp
   rw[hv] at q1
   clear Y0 Y1 Y2 hx HCs Hq h01 hpz hln k1
   clear hK
   go_enter Tryz.func57,Tryz.ntmps57
   go_wp2_with fail
   refine bodyPost_ret (v:=coV y (.slice pa y.parts.length pn)) (by simp[results,Tryz.results57,go_sem, *]) rfl ?_
   exact⟨_,rfl,Hp.out,HA2.out _ _⟩
 ·obtain⟨rfl,rfl⟩:a=x/\r=[]:=by simpa using e
  have e3:op=30\/op=31:=by omega
  clear e hop h1 h2 hk HWk HAf k
  rcases e3 with rfl | rfl
  ·show Calls _ _ #[coV ⟨30,n,m,[a]⟩ (.slice (some ⟨pb,off,none⟩) 1 cap)] _ (a0H ok w ⟨30,n,m,[a]⟩)
   obtain⟨Y0,Y1,Y2⟩:=a0e w 30 30 (coL ⟨30,n,m,[a]⟩ (.slice (some ⟨pb,off,none⟩) 1 cap)) [.int .i64 0,.int .i64 0,.int .i64 0,.slice none 0 0]
   obtain⟨x0,x1,x2,x3⟩:=Box.c4 Y0
   have xl:=Y0.lt
   obtain⟨y0,y1,y2,y3⟩:=Box.c4 Y1
   have g0:=Y1.free 0 (by simp)
   have g1:=Y1.free 1 (by simp)
   have g2:=Y1.free 2 (by simp)
   have g3:=Y1.free 3 (by simp)
   have yl:=Y1.lt
   have HY0:=a0a Y0
   have HY1:=a0a Y1
   have B0:=a0a Y2
   have HA2:Hid (∀ o o',Below w.heap.size w ((w.alloc o).alloc o')):=fun o o'=>((Below.refl _ _).alloc (Nat.le_refl _) _).alloc (by simp) _
   obtain⟨qa,qn,qf,qc⟩:=hx 0 (by simp)
   obtain⟨q0,q1,q2,q3⟩:=qf.keep (w':=(w.alloc (.cells (coL ⟨30,n,m,[a]⟩ (.slice (some ⟨pb,off,none⟩) 1 cap)).toArray 30)).alloc (.cells [.int .i64 0,.int .i64 0,.int .i64 0,.slice none 0 0].toArray 30)) (fun j=>Y2.cell (p:=⟨pb,j,none⟩) lp)
   have Hq:=a0a qc
   clear qf qc
   have lpw:=Nat.lt_of_lt_of_le lp Y2.size
   simp only[List.getElem_cons_zero,Nat.zero_mul,Nat.add_zero] at q0 q1 q2 q3
   clear Y0 Y1 Y2 hx Hq h01 hpz hln k1
   go_enter Tryz.func57,Tryz.ntmps57
   go_wp2_with fail
   refine bodyPost_ret (v:=coV ⟨30,n,m,[a]⟩ (.slice (some ⟨pb,off,none⟩) 1 cap)) (by simp[results,Tryz.results57,go_sem, *]) rfl ?_
   exact⟨_,rfl,HCs.out,HA2.out _ _⟩
  ·show Calls _ _ #[coV ⟨31,n,m,[a]⟩ (.slice (some ⟨pb,off,none⟩) 1 cap)] _ (a0H ok w ⟨31,n,m,[a]⟩)
   obtain⟨Y0,Y1,Y2⟩:=a0e w 30 30 (coL ⟨31,n,m,[a]⟩ (.slice (some ⟨pb,off,none⟩) 1 cap)) [.int .i64 0,.int .i64 0,.int .i64 0,.slice none 0 0]
   obtain⟨x0,x1,x2,x3⟩:=Box.c4 Y0
   have xl:=Y0.lt
   obtain⟨y0,y1,y2,y3⟩:=Box.c4 Y1
   have g0:=Y1.free 0 (by simp)
   have g1:=Y1.free 1 (by simp)
   have g2:=Y1.free 2 (by simp)
   have g3:=Y1.free 3 (by simp)
   have yl:=Y1.lt
   have HY0:=a0a Y0
   have HY1:=a0a Y1
   have B0:=a0a Y2
   have HA2:Hid (∀ o o',Below w.heap.size w ((w.alloc o).alloc o')):=fun o o'=>((Below.refl _ _).alloc (Nat.le_refl _) _).alloc (by simp) _
   obtain⟨qa,qn,qf,qc⟩:=hx 0 (by simp)
   obtain⟨q0,q1,q2,q3⟩:=qf.keep (w':=(w.alloc (.cells (coL ⟨31,n,m,[a]⟩ (.slice (some ⟨pb,off,none⟩) 1 cap)).toArray 30)).alloc (.cells [.int .i64 0,.int .i64 0,.int .i64 0,.slice none 0 0].toArray 30)) (fun j=>Y2.cell (p:=⟨pb,j,none⟩) lp)
   have Hq:=a0a qc
   clear qf qc
   have lpw:=Nat.lt_of_lt_of_le lp Y2.size
   simp only[List.getElem_cons_zero,Nat.zero_mul,Nat.add_zero] at q0 q1 q2 q3
   clear Y0 Y1 Y2 hx Hq h01 hpz hln k1
   go_enter Tryz.func57,Tryz.ntmps57
   go_wp2_with fail
   refine bodyPost_ret (v:=coV ⟨31,n,m,[a]⟩ (.slice (some ⟨pb,off,none⟩) 1 cap)) (by simp[results,Tryz.results57,go_sem, *]) rfl ?_
   exact⟨_,rfl,HCs.out,HA2.out _ _⟩
 ·obtain rfl:op=32:=by omega
  have HW:=a0a (HAf.out hk)
  have hK:a1E ⟨32,n,m,a::r⟩ a=(a::r).getD (a2g (a::r) a.n (a::r).length (a::r).length 1) co0:=rfl
  rw[hK]
  obtain⟨Y0,Y1,Y2⟩:=a0e w 30 30 (coL ⟨32,n,m,a::r⟩ (.slice (some ⟨pb,off,none⟩) (a::r).length cap)) [.int .i64 0,.int .i64 0,.int .i64 0,.slice none 0 0]
  obtain⟨x0,x1,x2,x3⟩:=Box.c4 Y0
  have xl:=Y0.lt
  obtain⟨y0,y1,y2,y3⟩:=Box.c4 Y1
  have g0:=Y1.free 0 (by simp)
  have g1:=Y1.free 1 (by simp)
  have g2:=Y1.free 2 (by simp)
  have g3:=Y1.free 3 (by simp)
  have yl:=Y1.lt
  have HY0:=a0a Y0
  have HY1:=a0a Y1
  have B0:=a0a Y2
  have HA2:Hid (∀ o o',Below w.heap.size w ((w.alloc o).alloc o')):=fun o o'=>((Below.refl _ _).alloc (Nat.le_refl _) _).alloc (by simp) _
  obtain⟨qa,qn,qf,qc⟩:=hx 0 (by simp)
  obtain⟨q0,q1,q2,q3⟩:=qf.keep (w':=(w.alloc (.cells (coL ⟨32,n,m,a::r⟩ (.slice (some ⟨pb,off,none⟩) (a::r).length cap)).toArray 30)).alloc (.cells [.int .i64 0,.int .i64 0,.int .i64 0,.slice none 0 0].toArray 30)) (fun j=>Y2.cell (p:=⟨pb,j,none⟩) lp)
  have Hq:=a0a qc
  clear qf qc
  have lpw:=Nat.lt_of_lt_of_le lp Y2.size
  simp only[List.getElem_cons_zero,Nat.zero_mul,Nat.add_zero] at q0 q1 q2 q3
  clear Y0 Y1 Y2 hx Hq HWk HAf h01 hpz hK hop h1 h2 hk k
  generalize (a::r).getD (a2g (a::r) a.n (a::r).length (a::r).length 1) co0=D at *
  have hL0:0<(a::r).length:=by simp
  generalize (a::r).length=L at *
  go_enter Tryz.func57,Tryz.ntmps57
  go_wp2_with fail
  refine Calls.mono (HW.out _ B0.out) ?_
  rintro e w2 ⟨u,rfl,hu,b2⟩
  have B2:=kb B0 b2
  have Y1:=HY1.out.next b2
  have HU:=a0a hu
  obtain⟨ua,uc,rfl,-,-⟩:=hu.parts.shape
  clear x0 x1 x2 x3 xl
  clear y0 y1 y2 y3 g0 g1 g2 g3 yl
  clear q0 q1 q2 q3 b2 hu
  obtain⟨y0,y1,y2,y3⟩:=Box.c4 Y1
  have g0:=Y1.free 0 (by simp)
  have g1:=Y1.free 1 (by simp)
  have g2:=Y1.free 2 (by simp)
  have g3:=Y1.free 3 (by simp)
  have yl:=Y1.lt
  clear Y1
  go_wp2_with fail
  refine bodyPost_ret (v:=coV D (.slice ua D.parts.length uc)) (by simp[results,Tryz.results57,go_sem, *]) rfl ?_
  exact⟨_,rfl,HU.out,((((B2.out.setCell (p:=⟨w.heap.size+1,0,none⟩) (by simp) _).setCell (p:=⟨w.heap.size+1,1,none⟩) (by simp) _).setCell (p:=⟨w.heap.size+1,2,none⟩) (by simp) _).setCell (p:=⟨w.heap.size+1,3,none⟩) (by simp) _)⟩
end Go.Proofs.YtkbmgloilckdhaaGreatDoor
