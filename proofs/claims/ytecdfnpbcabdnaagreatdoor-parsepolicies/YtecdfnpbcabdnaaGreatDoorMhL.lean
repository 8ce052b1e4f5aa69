import Derived.Test.YtecdfnpbcabdnaaGreatDoorMhG
import Derived.Test.YtecdfnpbcabdnaaGreatDoorMgJ
import Derived.Test.YtecdfnpbcabdnaaGreatDoorMhK
import Derived.Deep.RegionWith
namespace Go.Proofs.YtecdfnpbcabdnaaGreatDoor
open Go.RowKit Go.Lib
def TaP (z:Nat)(w:World)(rb tb:Nat)(LL:List Tk)(c:Int)(t:Tk)(S':Sr)(o:Nat)(e:Ending)(w':World):Prop:=e=.returned (tkW t)/\Turn [rb] w w'/\Rr z w' rb tb LL c S' o
set_option maxHeartbeats 2000000 in
theorem qTake_c {z rb tb:Nat}{LL:List Tk}{c:Int}{S:Sr}{o:Nat}(k:Int)(hk:k≠7)(w:World)(hr:Rr z w rb tb LL c S o):
 Calls Tryz.prog 17 #[.pointer (some ⟨rb,0,none⟩),.int .i64 k] w (TaP z w rb tb LL c (takeR c k S).1 (takeR c k S).2 o):=by
 have hgood:=hr.good
 unfold takeR
 by_cases e1:erI S.er=0
 ·rw[if_pos (by rw[hgood];exact decide_eq_true e1)]
  by_cases e2:(hdT S.L).kind=k
  ·rw[if_pos e2]
   obtain⟨off,cap,i,ov,h⟩:=hr
   have HX:=hid2 h
   have hP:Hid (∀ w',Turn [rb] w w'->Box w' rb (rrL tb off LL.length cap (i+1) ov c (erI S.er) (erW S.er))->TaP z w rb tb LL c (hdT S.L) (adv S) o (.returned (tkW (hdT S.L))) w'):=fun w' ht hb=>⟨rfl,ht,off,cap,i+1,ov,HX.out.step hb ht (by rw[e2];exact hk) HX.out.op HX.out.oi HX.out.dp⟩
   show Calls Tryz.prog 17 #[.pointer (some ⟨rb,0,none⟩),.int .i64 k] w (TaP z w rb tb LL c (hdT S.L) (adv S) o)
   generalize TaP z w rb tb LL c (hdT S.L) (adv S) o=Post at *
   have HB:=hid2 h.box
   obtain⟨t0,t1,t2,t3⟩:=h.hd
   obtain⟨c0,c1,c2,c3,c4,c5,f0,f1,f2,f3,f4,f5⟩:=h.box.six
   have hl:=h.box.lt
   have htl:=h.lt
   have hil:(i:Int)<(LL.length:Int):=by have:=h.il;omega
   have hmx:=h.mx
   have hle:=h.le
   generalize hdT S.L=t at *
   generalize hn:LL.length=n at *
   generalize erI S.er=er at *
   generalize erW S.er=wh at *
   clear h hn hgood HX
   have B2:Hid (∀ (W:World) o1 o2,Below W.heap.size W ((W.alloc o1).alloc o2).drew):=fun W o1 o2=>(((Below.refl _ _).alloc (Nat.le_refl _) _).alloc (by simp) _).drew
   have T0:=hid2 (Turn.refl [rb] w)
   go_enter Tryz.func17,Tryz.ntmps17
   go_wp2_with fail
   go_region_held3 (fun w'=>w'.cell? ⟨rb,0,none⟩=some (.slice (some ⟨tb,off,none⟩) n cap)/\w'.cell? ⟨rb,1,none⟩=some (.int .i64 (i:Nat))/\w'.cell? ⟨tb,off+i*4,none⟩=some (.int .i64 t.kind)/\w'.cell? ⟨tb,off+i*4+1,none⟩=some (.string t.text)/\w'.cell? ⟨tb,off+i*4+2,none⟩=some (.int .i64 t.n)/\w'.cell? ⟨tb,off+i*4+3,none⟩=some (.int .i64 (t.at_:Nat))) (simp[go_sem, *]) (fail)
   rename_i hh
   clear hh
   go_wp2_with fail
   refine bodyPost_ret (v:=tkW t) (by simp[results,Tryz.results17,go_sem, *]) rfl (hP.out _ ?_ ?_)
   ·exact(T0.out.andSet _ _ (.inl (by simp))).andBelow (B2.out _ _ _)
   ·exact(HB.out.set 1 (by simp) _).next (B2.out _ _ _)
  ·rw[if_neg e2]
   have HW:=hid2 (fun W (k:Below w.heap.size w W)=>qWrong_c 16 ⟨by decide,by unfold In64;omega⟩ W (hr.next k))
   have hP:Hid (∀ w',Turn [rb] w w'->Rr z w' rb tb LL c (wrR c 16 S) o->TaP z w rb tb LL c tk0 (wrR c 16 S) o (.returned (tkW tk0)) w'):=fun w' ht hr'=>⟨rfl,ht,hr'⟩
   show Calls Tryz.prog 17 #[.pointer (some ⟨rb,0,none⟩),.int .i64 k] w (TaP z w rb tb LL c tk0 (wrR c 16 S) o)
   generalize TaP z w rb tb LL c tk0 (wrR c 16 S) o=Post at *
   generalize wrR c 16 S=S1 at *
   obtain⟨off,cap,i,ov,h⟩:=hr
   obtain⟨t0,t1,t2,t3⟩:=h.hd
   obtain⟨c0,c1,c2,c3,c4,c5,f0,f1,f2,f3,f4,f5⟩:=h.box.six
   have hl:=h.box.lt
   have htl:=h.lt
   have hil:(i:Int)<(LL.length:Int):=by have:=h.il;omega
   have hmx:=h.mx
   have hle:=h.le
   generalize hdT S.L=t at *
   generalize hn:LL.length=n at *
   generalize erI S.er=er at *
   generalize erW S.er=wh at *
   clear h hn hgood
   have k2:(t.kind != k)=true:=by simpa using e2
   have B2:Hid (∀ o1 o2,Below w.heap.size w ((w.alloc o1).alloc o2).drew):=fun o1 o2=>(((Below.refl _ _).alloc (Nat.le_refl _) _).alloc (by simp) _).drew
   have HZ:=hid2 (Box.new w [.int .i64 0,.string ⟨#[]⟩,.int .i64 0,.int .i64 0] 47)
   go_enter Tryz.func17,Tryz.ntmps17
   go_wp2_with fail
   go_region_held3 (fun w'=>w'.cell? ⟨rb,0,none⟩=some (.slice (some ⟨tb,off,none⟩) n cap)/\w'.cell? ⟨rb,1,none⟩=some (.int .i64 (i:Nat))/\w'.cell? ⟨tb,off+i*4,none⟩=some (.int .i64 t.kind)/\w'.cell? ⟨tb,off+i*4+1,none⟩=some (.string t.text)/\w'.cell? ⟨tb,off+i*4+2,none⟩=some (.int .i64 t.n)/\w'.cell? ⟨tb,off+i*4+3,none⟩=some (.int .i64 (t.at_:Nat))) (simp[go_sem, *]) (fail)
   rename_i hh
   clear hh
   go_wp2_with fail
   refine Calls.mono (HW.out _ (B2.out _ _)) ?_
   rintro e w1 ⟨rfl,t4,r4⟩
   have X0:=(HZ.out.next (((Below.refl _ _).alloc (Nat.le_refl _) _).drew)).turn t4 (by simp;omega)
   obtain⟨x0,x1,x2,x3,y0,y1,y2,y3⟩:=X0.four
   have xl:=X0.lt
   have T4:=hid2 ((Turn.of_below (S:=[rb]) (B2.out _ _)).trans t4 (fun _ hi=>.inl hi))
   have R4:=hid2 r4
   have hl4:=hid2 r4.lts
   clear t4 r4 X0
   go_wp2_with fail
   refine bodyPost_ret (v:=tkW tk0) (by simp[results,Tryz.results17,go_sem, *]) rfl (hP.out _ ?_ ?_)
   ·exact T4.out.trans (turn_four _ _ _ _ _ _) (fun i hi=>.inr (by simp at hi;omega))
   ·exact R4.out.turn (turn_four _ _ _ _ _ _) (by simp;omega) (by simp;omega)
 ·rw[if_neg (by rw[hgood,decide_eq_false e1];simp)]
  have hP:Hid (∀ w',Below w.heap.size w w'->TaP z w rb tb LL c tk0 S o (.returned (tkW tk0)) w'):=fun w' b=>⟨rfl,Turn.of_below b,hr.next b⟩
  show Calls Tryz.prog 17 #[.pointer (some ⟨rb,0,none⟩),.int .i64 k] w (TaP z w rb tb LL c tk0 S o)
  generalize TaP z w rb tb LL c tk0 S o=Post at *
  obtain⟨off,cap,i,ov,h⟩:=hr
  have c4:=h.box.cell 4 _ rfl
  have hl:=h.box.lt
  generalize erI S.er=er at *
  have k1:(er != 0)=true:=by simpa using e1
  clear h hgood
  go_enter Tryz.func17,Tryz.ntmps17
  go_wp2_with fail
  refine bodyPost_ret (v:=tkW tk0) (by simp[results,Tryz.results17,go_sem, *]) rfl (hP.out _ ?_)
  exact(Below.refl _ _).alloc (Nat.le_refl _) _
theorem cell_of_below {B:Nat}{w w':World}(k:Below B w w'){b:Nat}(hb:b<B)(j:Nat):w'.cell? ⟨b,j,none⟩=w.cell? ⟨b,j,none⟩:=by unfold World.cell?;rw[k.block b hb]
theorem sitr_two {Q:Nat->Prop}{z:Nat}{w:World}{t x y:Tm}{g:Nat}{u v:Value}(hf:Fit z t)(hp:t.parts=[x,y])(hg:g<w.heap.size)(hB:Q g)(h6:Six w g 0 x u)(h7:Six w g 6 y v)(hx:SitQ Q z w x u)(hy:SitQ Q z w y v):SitQ Q z w t (.slice (some ⟨g,0,none⟩) 2 2):=by
 rw[sitq_iff,hp]
 refine⟨hf,_,2,rfl,Nat.le_refl _,by decide,.inr ⟨g,0,rfl,hg,hB,fun i hi=>?_⟩⟩
 have h0:i=0\/i=1:=by simp at hi;omega
 rcases h0 with rfl | rfl
 ·exact⟨u,h6,hx⟩
 ·exact⟨v,h7,hy⟩
set_option maxHeartbeats 2000000 in
theorem qTwo_c {z:Nat}{Q:Nat->Prop}(k:Int)(a:Nat)(t s:Tm)(u v:Value)(w:World)(hQ:∀ b,w.heap.size<=b->Q b)(ht:SitQ Q z w t u)(hs:SitQ Q z w s v)(hf:Fit z (tm k a [t,s])):
 Calls Tryz.prog 40 #[.int .i64 k,.int .i64 (a:Nat),tmV t u,tmV s v] w fun e w'=>Below w.heap.size w w'/\∃ x,e=.returned (tmV (tm k a [t,s]) x)/\SitQ Q z w' (tm k a [t,s]) x:=by
 have HT:=hid2 ht
 have HS:=hid2 hs
 have H4:Hid (∀ o1 o2 o3 o4,Below w.heap.size w ((((w.alloc o1).alloc o2).alloc o3).alloc o4)):=fun o1 o2 o3 o4=>((((Below.refl _ _).alloc (Nat.le_refl _) _).alloc (by simp) _).alloc (by simp;omega) _).alloc (by simp;omega) _
 have HN:Hid (∀ (W:World) vs tt,Box (W.alloc (.cells (List.toArray vs) tt)) W.heap.size vs):=fun W vs tt=>Box.new W vs tt
 clear ht hs
 go_enter Tryz.func40,Tryz.ntmps40
 go_wp2_with fail
 refine bodyPost_ret (v:=tmV (tm k a [t,s]) (.slice (some ⟨w.heap.size+1+1+1,0,none⟩) 2 2)) (by simp[results,Tryz.results40,go_sem]) rfl ⟨H4.out _ _ _ _,_,rfl,?_⟩
 have b':=H4.out (Obj.cells #[Value.int IntKind.i64 t.kind,Value.string t.text,Value.int IntKind.i64 t.n,Value.int IntKind.i64 t.m,Value.int IntKind.i64 t.pl,u] 33) (Obj.cells #[Value.int IntKind.i64 s.kind,Value.string s.text,Value.int IntKind.i64 s.n,Value.int IntKind.i64 s.m,Value.int IntKind.i64 s.pl,v] 33) (Obj.cells #[Value.int IntKind.i64 k,Value.string ⟨#[]⟩,Value.int IntKind.i64 0,Value.int IntKind.i64 0,Value.int IntKind.i64 a,Value.slice (some ⟨w.heap.size+1+1+1,0,none⟩) 2 2] 33) (Obj.cells #[Value.int IntKind.i64 t.kind,Value.string t.text,Value.int IntKind.i64 t.n,Value.int IntKind.i64 t.m,Value.int IntKind.i64 t.pl,u,Value.int IntKind.i64 s.kind,Value.string s.text,Value.int IntKind.i64 s.n,Value.int IntKind.i64 s.m,Value.int IntKind.i64 s.pl,v] 33)
 have X:=HN.out (((w.alloc (Obj.cells #[Value.int IntKind.i64 t.kind,Value.string t.text,Value.int IntKind.i64 t.n,Value.int IntKind.i64 t.m,Value.int IntKind.i64 t.pl,u] 33)).alloc (Obj.cells #[Value.int IntKind.i64 s.kind,Value.string s.text,Value.int IntKind.i64 s.n,Value.int IntKind.i64 s.m,Value.int IntKind.i64 s.pl,v] 33)).alloc (Obj.cells #[Value.int IntKind.i64 k,Value.string ⟨#[]⟩,Value.int IntKind.i64 0,Value.int IntKind.i64 0,Value.int IntKind.i64 a,Value.slice (some ⟨w.heap.size+1+1+1,0,none⟩) 2 2] 33)) [Value.int IntKind.i64 t.kind,Value.string t.text,Value.int IntKind.i64 t.n,Value.int IntKind.i64 t.m,Value.int IntKind.i64 t.pl,u,Value.int IntKind.i64 s.kind,Value.string s.text,Value.int IntKind.i64 s.n,Value.int IntKind.i64 s.m,Value.int IntKind.i64 s.pl,v] 33
 have e3:(((w.alloc (Obj.cells #[Value.int IntKind.i64 t.kind,Value.string t.text,Value.int IntKind.i64 t.n,Value.int IntKind.i64 t.m,Value.int IntKind.i64 t.pl,u] 33)).alloc (Obj.cells #[Value.int IntKind.i64 s.kind,Value.string s.text,Value.int IntKind.i64 s.n,Value.int IntKind.i64 s.m,Value.int IntKind.i64 s.pl,v] 33)).alloc (Obj.cells #[Value.int IntKind.i64 k,Value.string ⟨#[]⟩,Value.int IntKind.i64 0,Value.int IntKind.i64 0,Value.int IntKind.i64 a,Value.slice (some ⟨w.heap.size+1+1+1,0,none⟩) 2 2] 33)).heap.size=w.heap.size+1+1+1:=by simp
 rw[e3] at X
 have hk:∀ b,b<w.heap.size->Q b->Q b/\∀ j,_=w.cell? ⟨b,j,none⟩:=fun b hb hq=>⟨hq,fun j=>cell_of_below b' hb j⟩
 exact sitr_two hf rfl X.lt (hQ _ (by omega)) ⟨X.cell 0 _ rfl,X.cell 1 _ rfl,X.cell 2 _ rfl,X.cell 3 _ rfl,X.cell 4 _ rfl,X.cell 5 _ rfl⟩ ⟨X.cell 6 _ rfl,X.cell 7 _ rfl,X.cell 8 _ rfl,X.cell 9 _ rfl,X.cell 10 _ rfl,X.cell 11 _ rfl⟩ (SitQ.keep b'.size hk _ _ HT.out) (SitQ.keep b'.size hk _ _ HS.out)
def QtP (B z:Nat)(w:World)(rb tb:Nat)(LL:List Tk)(c:Int)(o:Nat)(y:Tm×Sr)(e:Ending)(w':World):Prop:=Turn [rb] w w'/\(∃ v,e=.returned v/\VTm B z y.1 v w')/\Rr z w' rb tb LL c y.2 o
theorem take_tk {z:Nat}{c k:Int}{S:Sr}(h:TL z S.L):(takeR c k S).1.text.size<=z/\In64 (takeR c k S).1.n/\(takeR c k S).1.at_<=z:=by
 unfold takeR
 split
 ·split
  ·exact⟨h.ok.x,n64 h.ok,h.ok.a⟩
  ·exact⟨Nat.zero_le _,zero64,Nat.zero_le _⟩
 ·exact⟨Nat.zero_le _,zero64,Nat.zero_le _⟩
set_option maxHeartbeats 4000000 in
theorem qNumber_c {z rb tb:Nat}{LL:List Tk}{c:Int}{S:Sr}{o:Nat}(hz:z<=9223372036854775807)(w:World)(hr:Rr z w rb tb LL c S o):
 Calls Tryz.prog 59 #[.pointer (some ⟨rb,0,none⟩)] w (QtP w.heap.size z w rb tb LL c o (numberR c S)):=by
 have HT:=hid2 (fun W (k:Below w.heap.size w W)=>qTake_c 2 (by decide) W (hr.next k))
 have Hk:=hid2 (take_tk (c:=c) (k:=2) hr.tl)
 unfold numberR
 generalize takeR c 2 S=y at *
 obtain⟨t0,S1⟩:=y
 simp only at HT Hk
 show Calls Tryz.prog 59 #[.pointer (some ⟨rb,0,none⟩)] w (QtP w.heap.size z w rb tb LL c o ((⟨1,(unitR S1).1,t0.n,0,(t0.at_:Int),[]⟩:Tm),(unitR S1).2))
 obtain⟨HB,HBt⟩:=hr.lts
 have hz0:Hid (z<=9223372036854775807):=hz
 clear hr hz
 go_enter Tryz.func59,Tryz.ntmps59
 go_wp2_with fail
 refine Calls.mono (HT.out _ (by first | exact Below.refl _ _ | exact(Below.refl _ _).alloc (Nat.le_refl _) _)) ?_
 rintro e w1 ⟨rfl,t1,r1⟩
 have hw1:w.heap.size+1<=w1.heap.size:=by have:=t1.size;simpa using this
 have T1:=hid2 ((Turn.of_below (S:=[rb]) ((Below.refl _ _).alloc (Nat.le_refl _) _)).trans t1 (fun _ hi=>.inl hi))
 have X0:=(Box.new w zs6 33).turn t1 (by simp;omega)
 have HR:=hid2 X0
 have hgood:=r1.good
 clear t1 HT X0
 obtain⟨off,cap,i,ov,h⟩:=r1
 have HX:=hid2 h
 have B2:Hid (∀ (W:World) o1 o2,Below W.heap.size W ((W.alloc o1).alloc o2)):=fun W o1 o2=>((Below.refl _ _).alloc (Nat.le_refl _) _).alloc (by simp) _
 by_cases e1:erI S1.er=0
 ·by_cases e2:(hdT S1.L).kind=8
  ·have hu:unitR S1=((hdT S1.L).text,adv S1):=by unfold unitR;rw[if_pos ⟨by rw[hgood];exact decide_eq_true e1,e2⟩]
   have HS:Hid (∀ w',Turn [rb] w1 w'->Box w' rb (rrL tb off LL.length cap (i+1) ov c (erI S1.er) (erW S1.er))->Rr z w' rb tb LL c (adv S1) o):=fun w' ht1 hb=>⟨off,cap,i+1,ov,HX.out.step hb ht1 (by rw[e2];decide) HX.out.op HX.out.oi HX.out.dp⟩
   have hP:Hid (∀ w',Turn [rb] w w'->Rr z w' rb tb LL c (adv S1) o->QtP w.heap.size z w rb tb LL c o ((⟨1,(unitR S1).1,t0.n,0,(t0.at_:Int),[]⟩:Tm),(unitR S1).2) (.returned (tmV ⟨1,(hdT S1.L).text,t0.n,0,(t0.at_:Int),[]⟩ (.slice none 0 0))) w'):=fun w' ht hr=>by
    rw[hu]
    exact⟨ht,⟨_,rfl,_,rfl,sitb_leaf (fit_of 1 _ _ _ _ _ hz0.out (by decide) (by decide) HX.out.tl.ok.x Hk.out.2.1 zero64 Hk.out.2.2) rfl⟩,hr⟩
   generalize QtP w.heap.size z w rb tb LL c o ((⟨1,(unitR S1).1,t0.n,0,(t0.at_:Int),[]⟩:Tm),(unitR S1).2)=Post at *
   have HB1:=hid2 h.box
   obtain⟨u0,u1,u2,u3⟩:=h.hd
   obtain⟨c0,c1,c2,c3,c4,c5,f0,f1,f2,f3,f4,f5⟩:=h.box.six
   have hl:=h.box.lt
   have htl:=h.lt
   have hil:(i:Int)<(LL.length:Int):=by have:=h.il;omega
   have hmx:=h.mx
   have hle:=h.le
   generalize hdT S1.L=t at *
   generalize hn:LL.length=n at *
   generalize erI S1.er=er at *
   generalize erW S1.er=wh at *
   clear h hn hgood HX hu
   go_wp2_with fail
   go_quiet (fail)
   have k1:Below w1.heap.size w1 (((w1.alloc (Obj.cells #[Value.int IntKind.i64 t0.kind,Value.string t0.text,Value.int IntKind.i64 t0.n,Value.int IntKind.i64 t0.at_] 47)).alloc (Obj.cells #[Value.int IntKind.i64 1,Value.string ⟨#[]⟩,Value.int IntKind.i64 t0.n,Value.int IntKind.i64 0,Value.int IntKind.i64 t0.at_,Value.slice none 0 0] 33)).drewN nq):=below_drewN (B2.out _ _ _) _
   have XT:Box (((w1.alloc (Obj.cells #[Value.int IntKind.i64 t0.kind,Value.string t0.text,Value.int IntKind.i64 t0.n,Value.int IntKind.i64 t0.at_] 47)).alloc (Obj.cells #[Value.int IntKind.i64 1,Value.string ⟨#[]⟩,Value.int IntKind.i64 t0.n,Value.int IntKind.i64 0,Value.int IntKind.i64 t0.at_,Value.slice none 0 0] 33)).drewN nq) (w1.heap.size+1) [Value.int IntKind.i64 1,Value.string ⟨#[]⟩,Value.int IntKind.i64 t0.n,Value.int IntKind.i64 0,Value.int IntKind.i64 t0.at_,Value.slice none 0 0]:=by
    have hh:=(Box.new (w1.alloc (Obj.cells #[Value.int IntKind.i64 t0.kind,Value.string t0.text,Value.int IntKind.i64 t0.n,Value.int IntKind.i64 t0.at_] 47)) [Value.int IntKind.i64 1,Value.string ⟨#[]⟩,Value.int IntKind.i64 t0.n,Value.int IntKind.i64 0,Value.int IntKind.i64 t0.at_,Value.slice none 0 0] 33).next (below_drewN (Below.refl _ _) nq)
    rw[show (w1.alloc (Obj.cells #[Value.int IntKind.i64 t0.kind,Value.string t0.text,Value.int IntKind.i64 t0.n,Value.int IntKind.i64 t0.at_] 47)).heap.size=w1.heap.size+1 by simp] at hh
    exact hh
   generalize (((w1.alloc (Obj.cells #[Value.int IntKind.i64 t0.kind,Value.string t0.text,Value.int IntKind.i64 t0.n,Value.int IntKind.i64 t0.at_] 47)).alloc (Obj.cells #[Value.int IntKind.i64 1,Value.string ⟨#[]⟩,Value.int IntKind.i64 t0.n,Value.int IntKind.i64 0,Value.int IntKind.i64 t0.at_,Value.slice none 0 0] 33)).drewN nq)=W at *
   have HBW:=hid2 (HB1.out.next k1)
   have HRW:=hid2 (HR.out.next k1)
   have TW:=hid2 (Turn.of_below (S:=[rb]) k1)
   have hc:∀ j,W.cell? ⟨tb,j,none⟩=w1.cell? ⟨tb,j,none⟩:=fun j=>cell_of_below k1 htl j
   have hwW:=k1.size
   rw[<-hc] at u0 u1 u2 u3
   clear c0 c1 c2 c3 c4 c5 f0 f1 f2 f3 f4 f5 hc
   obtain⟨c0,c1,c2,c3,c4,c5,f0,f1,f2,f3,f4,f5⟩:=HBW.out.six
   obtain⟨q0,q1,q2,q3,q4,q5,g0,g1,g2,g3,g4,g5⟩:=HRW.out.six
   obtain⟨p0,p1,p2,p3,p4,p5,o0,o1,o2,o3,o4,o5⟩:=XT.six
   have hlW:=HBW.out.lt
   have qlW:=HRW.out.lt
   have plW:=XT.lt
   clear k1 XT hl
   go_wp2_with fail
   go_region_held3 (fun w'=>w'.cell? ⟨rb,0,none⟩=some (.slice (some ⟨tb,off,none⟩) n cap)/\w'.cell? ⟨rb,1,none⟩=some (.int .i64 (i:Nat))/\w'.cell? ⟨tb,off+i*4+1,none⟩=some (.string t.text)) (simp[go_sem, *]) (fail)
   rename_i hh
   clear hh
   go_wp2_with fail
   refine bodyPost_ret (v:=tmV ⟨1,t.text,t0.n,0,(t0.at_:Int),[]⟩ (.slice none 0 0)) (by simp[results,Tryz.results59,go_sem, *]) rfl (hP.out _ ?_ ?_)
   ·exact((((T1.out.trans TW.out (fun _ hi=>.inl hi)).andSet _ _ (.inr (by simp;omega))).andSet _ _ (.inl (by simp))).trans (turn_six _ _ _ _ _ _ _ _) (fun i hi=>.inr (by simp at hi;omega))).andBelow ((Below.refl _ _).drew)
   ·exact((HS.out _ ((TW.out.andSet _ _ (.inr (by simp))).andSet _ _ (.inl (by simp))) ((HBW.out.other (by omega)).set 1 (by simp) _)).turn (turn_six _ _ _ _ _ _ _ _) (by simp;omega) (by simp;omega)).next ((Below.refl _ _).drew)
  ·have hu:unitR S1=(⟨#[]⟩,S1):=by unfold unitR;rw[if_neg (fun hh=>e2 hh.2)]
   have hR:Hid (Rr z w1 rb tb LL c S1 o):=⟨off,cap,i,ov,h⟩
   have hP:Hid (∀ w',Turn [rb] w w'->Rr z w' rb tb LL c S1 o->QtP w.heap.size z w rb tb LL c o ((⟨1,(unitR S1).1,t0.n,0,(t0.at_:Int),[]⟩:Tm),(unitR S1).2) (.returned (tmV ⟨1,⟨#[]⟩,t0.n,0,(t0.at_:Int),[]⟩ (.slice none 0 0))) w'):=fun w' ht hr=>by
    rw[hu]
    exact⟨ht,⟨_,rfl,_,rfl,sitb_leaf (fit_of 1 _ _ _ _ _ hz0.out (by decide) (by decide) (Nat.zero_le _) Hk.out.2.1 zero64 Hk.out.2.2) rfl⟩,hr⟩
   generalize QtP w.heap.size z w rb tb LL c o ((⟨1,(unitR S1).1,t0.n,0,(t0.at_:Int),[]⟩:Tm),(unitR S1).2)=Post at *
   have HB1:=hid2 h.box
   obtain⟨u0,u1,u2,u3⟩:=h.hd
   obtain⟨c0,c1,c2,c3,c4,c5,f0,f1,f2,f3,f4,f5⟩:=h.box.six
   have hl:=h.box.lt
   have htl:=h.lt
   have hil:(i:Int)<(LL.length:Int):=by have:=h.il;omega
   have hmx:=h.mx
   have hle:=h.le
   generalize hdT S1.L=t at *
   generalize hn:LL.length=n at *
   generalize erI S1.er=er at *
   generalize erW S1.er=wh at *
   have k2:(t.kind==8)=false:=by simpa using e2
   clear h hn hgood HX hu
   go_wp2_with fail
   go_quiet (fail)
   have k1:Below w1.heap.size w1 (((w1.alloc (Obj.cells #[Value.int IntKind.i64 t0.kind,Value.string t0.text,Value.int IntKind.i64 t0.n,Value.int IntKind.i64 t0.at_] 47)).alloc (Obj.cells #[Value.int IntKind.i64 1,Value.string ⟨#[]⟩,Value.int IntKind.i64 t0.n,Value.int IntKind.i64 0,Value.int IntKind.i64 t0.at_,Value.slice none 0 0] 33)).drewN nq):=below_drewN (B2.out _ _ _) _
   have XT:Box (((w1.alloc (Obj.cells #[Value.int IntKind.i64 t0.kind,Value.string t0.text,Value.int IntKind.i64 t0.n,Value.int IntKind.i64 t0.at_] 47)).alloc (Obj.cells #[Value.int IntKind.i64 1,Value.string ⟨#[]⟩,Value.int IntKind.i64 t0.n,Value.int IntKind.i64 0,Value.int IntKind.i64 t0.at_,Value.slice none 0 0] 33)).drewN nq) (w1.heap.size+1) [Value.int IntKind.i64 1,Value.string ⟨#[]⟩,Value.int IntKind.i64 t0.n,Value.int IntKind.i64 0,Value.int IntKind.i64 t0.at_,Value.slice none 0 0]:=by
    have hh:=(Box.new (w1.alloc (Obj.cells #[Value.int IntKind.i64 t0.kind,Value.string t0.text,Value.int IntKind.i64 t0.n,Value.int IntKind.i64 t0.at_] 47)) [Value.int IntKind.i64 1,Value.string ⟨#[]⟩,Value.int IntKind.i64 t0.n,Value.int IntKind.i64 0,Value.int IntKind.i64 t0.at_,Value.slice none 0 0] 33).next (below_drewN (Below.refl _ _) nq)
    rw[show (w1.alloc (Obj.cells #[Value.int IntKind.i64 t0.kind,Value.string t0.text,Value.int IntKind.i64 t0.n,Value.int IntKind.i64 t0.at_] 47)).heap.size=w1.heap.size+1 by simp] at hh
    exact hh
   generalize (((w1.alloc (Obj.cells #[Value.int IntKind.i64 t0.kind,Value.string t0.text,Value.int IntKind.i64 t0.n,Value.int IntKind.i64 t0.at_] 47)).alloc (Obj.cells #[Value.int IntKind.i64 1,Value.string ⟨#[]⟩,Value.int IntKind.i64 t0.n,Value.int IntKind.i64 0,Value.int IntKind.i64 t0.at_,Value.slice none 0 0] 33)).drewN nq)=W at *
   have HBW:=hid2 (HB1.out.next k1)
   have HRW:=hid2 (HR.out.next k1)
   have TW0:=hid2 (Turn.of_below (S:=[]) k1)
   have TW:=hid2 (Turn.of_below (S:=[rb]) k1)
   have hc:∀ j,W.cell? ⟨tb,j,none⟩=w1.cell? ⟨tb,j,none⟩:=fun j=>cell_of_below k1 htl j
   have hwW:=k1.size
   rw[<-hc] at u0 u1 u2 u3
   clear c0 c1 c2 c3 c4 c5 f0 f1 f2 f3 f4 f5 hc
   obtain⟨c0,c1,c2,c3,c4,c5,f0,f1,f2,f3,f4,f5⟩:=HBW.out.six
   obtain⟨q0,q1,q2,q3,q4,q5,g0,g1,g2,g3,g4,g5⟩:=HRW.out.six
   obtain⟨p0,p1,p2,p3,p4,p5,o0,o1,o2,o3,o4,o5⟩:=XT.six
   have hlW:=HBW.out.lt
   have qlW:=HRW.out.lt
   have plW:=XT.lt
   clear k1 XT hl
   go_wp2_with fail
   refine bodyPost_ret (v:=tmV ⟨1,⟨#[]⟩,t0.n,0,(t0.at_:Int),[]⟩ (.slice none 0 0)) (by simp[results,Tryz.results59,go_sem, *]) rfl (hP.out _ ?_ ?_)
   ·exact(T1.out.trans TW.out (fun _ hi=>.inl hi)).trans (turn_six _ _ _ _ _ _ _ _) (fun i hi=>.inr (by simp at hi;omega))
   ·exact(hR.out.turn (TW0.out) (by simp) (by simp)).turn (turn_six _ _ _ _ _ _ _ _) (by simp;omega) (by simp;omega)
 ·have hu:unitR S1=(⟨#[]⟩,S1):=by unfold unitR;rw[if_neg (fun hh=>e1 (of_decide_eq_true (hgood.symm.trans hh.1)))]
  have hR:Hid (Rr z w1 rb tb LL c S1 o):=⟨off,cap,i,ov,h⟩
  have hP:Hid (∀ w',Turn [rb] w w'->Rr z w' rb tb LL c S1 o->QtP w.heap.size z w rb tb LL c o ((⟨1,(unitR S1).1,t0.n,0,(t0.at_:Int),[]⟩:Tm),(unitR S1).2) (.returned (tmV ⟨1,⟨#[]⟩,t0.n,0,(t0.at_:Int),[]⟩ (.slice none 0 0))) w'):=fun w' ht hr=>by
   rw[hu]
   exact⟨ht,⟨_,rfl,_,rfl,sitb_leaf (fit_of 1 _ _ _ _ _ hz0.out (by decide) (by decide) (Nat.zero_le _) Hk.out.2.1 zero64 Hk.out.2.2) rfl⟩,hr⟩
  generalize QtP w.heap.size z w rb tb LL c o ((⟨1,(unitR S1).1,t0.n,0,(t0.at_:Int),[]⟩:Tm),(unitR S1).2)=Post at *
  have HB1:=hid2 h.box
  obtain⟨u0,u1,u2,u3⟩:=h.hd
  obtain⟨c0,c1,c2,c3,c4,c5,f0,f1,f2,f3,f4,f5⟩:=h.box.six
  have hl:=h.box.lt
  have htl:=h.lt
  have hil:(i:Int)<(LL.length:Int):=by have:=h.il;omega
  have hmx:=h.mx
  have hle:=h.le
  generalize hdT S1.L=t at *
  generalize hn:LL.length=n at *
  generalize erI S1.er=er at *
  generalize erW S1.er=wh at *
  have k2:(er==0)=false:=by simpa using e1
  clear h hn hgood HX hu
  go_wp2_with fail
  go_quiet (fail)
  have k1:Below w1.heap.size w1 (((w1.alloc (Obj.cells #[Value.int IntKind.i64 t0.kind,Value.string t0.text,Value.int IntKind.i64 t0.n,Value.int IntKind.i64 t0.at_] 47)).alloc (Obj.cells #[Value.int IntKind.i64 1,Value.string ⟨#[]⟩,Value.int IntKind.i64 t0.n,Value.int IntKind.i64 0,Value.int IntKind.i64 t0.at_,Value.slice none 0 0] 33)).drewN nq):=below_drewN (B2.out _ _ _) _
  have XT:Box (((w1.alloc (Obj.cells #[Value.int IntKind.i64 t0.kind,Value.string t0.text,Value.int IntKind.i64 t0.n,Value.int IntKind.i64 t0.at_] 47)).alloc (Obj.cells #[Value.int IntKind.i64 1,Value.string ⟨#[]⟩,Value.int IntKind.i64 t0.n,Value.int IntKind.i64 0,Value.int IntKind.i64 t0.at_,Value.slice none 0 0] 33)).drewN nq) (w1.heap.size+1) [Value.int IntKind.i64 1,Value.string ⟨#[]⟩,Value.int IntKind.i64 t0.n,Value.int IntKind.i64 0,Value.int IntKind.i64 t0.at_,Value.slice none 0 0]:=by
   have hh:=(Box.new (w1.alloc (Obj.cells #[Value.int IntKind.i64 t0.kind,Value.string t0.text,Value.int IntKind.i64 t0.n,Value.int IntKind.i64 t0.at_] 47)) [Value.int IntKind.i64 1,Value.string ⟨#[]⟩,Value.int IntKind.i64 t0.n,Value.int IntKind.i64 0,Value.int IntKind.i64 t0.at_,Value.slice none 0 0] 33).next (below_drewN (Below.refl _ _) nq)
   rw[show (w1.alloc (Obj.cells #[Value.int IntKind.i64 t0.kind,Value.string t0.text,Value.int IntKind.i64 t0.n,Value.int IntKind.i64 t0.at_] 47)).heap.size=w1.heap.size+1 by simp] at hh
   exact hh
  generalize (((w1.alloc (Obj.cells #[Value.int IntKind.i64 t0.kind,Value.string t0.text,Value.int IntKind.i64 t0.n,Value.int IntKind.i64 t0.at_] 47)).alloc (Obj.cells #[Value.int IntKind.i64 1,Value.string ⟨#[]⟩,Value.int IntKind.i64 t0.n,Value.int IntKind.i64 0,Value.int IntKind.i64 t0.at_,Value.slice none 0 0] 33)).drewN nq)=W at *
  have HBW:=hid2 (HB1.out.next k1)
  have HRW:=hid2 (HR.out.next k1)
  have TW0:=hid2 (Turn.of_below (S:=[]) k1)
  have TW:=hid2 (Turn.of_below (S:=[rb]) k1)
  have hc:∀ j,W.cell? ⟨tb,j,none⟩=w1.cell? ⟨tb,j,none⟩:=fun j=>cell_of_below k1 htl j
  have hwW:=k1.size
  rw[<-hc] at u0 u1 u2 u3
  clear c0 c1 c2 c3 c4 c5 f0 f1 f2 f3 f4 f5 hc
  obtain⟨c0,c1,c2,c3,c4,c5,f0,f1,f2,f3,f4,f5⟩:=HBW.out.six
  obtain⟨q0,q1,q2,q3,q4,q5,g0,g1,g2,g3,g4,g5⟩:=HRW.out.six
  obtain⟨p0,p1,p2,p3,p4,p5,o0,o1,o2,o3,o4,o5⟩:=XT.six
  have hlW:=HBW.out.lt
  have qlW:=HRW.out.lt
  have plW:=XT.lt
  clear k1 XT hl
  go_wp2_with fail
  refine bodyPost_ret (v:=tmV ⟨1,⟨#[]⟩,t0.n,0,(t0.at_:Int),[]⟩ (.slice none 0 0)) (by simp[results,Tryz.results59,go_sem, *]) rfl (hP.out _ ?_ ?_)
  ·exact(T1.out.trans TW.out (fun _ hi=>.inl hi)).trans (turn_six _ _ _ _ _ _ _ _) (fun i hi=>.inr (by simp at hi;omega))
  ·exact(hR.out.turn (TW0.out) (by simp) (by simp)).turn (turn_six _ _ _ _ _ _ _ _) (by simp;omega) (by simp;omega)
def RdC (z rb tb:Nat)(LL:List Tk)(c:Int)(o fn:Nat)(P:Rdf):Prop:=∀ S w,Rr z w rb tb LL c S o->Calls Tryz.prog fn #[.pointer (some ⟨rb,0,none⟩)] w (QtP w.heap.size z w rb tb LL c o (P S))
def qI (w:World)(rb:Nat):Nat:=match w.cell? ⟨rb,1,none⟩ with
 | some (.int _ i)=>i.toNat
 | _=>0
theorem Rr.left {z:Nat}{w:World}{rb tb:Nat}{LL:List Tk}{c:Int}{S:Sr}{o:Nat}(h:Rr z w rb tb LL c S o):LL.length-qI w rb=S.L.length:=by
 obtain⟨off,cap,i,ov,h⟩:=h
 unfold qI
 rw[h.box.cell 1 _ rfl,h.dr,List.length_drop]
 rfl
abbrev tmQ (t:Tm)(u:Value):List Value:=[.int .i64 t.kind,.string t.text,.int .i64 t.n,.int .i64 t.m,.int .i64 t.pl,u]
structure LvS (z:Nat)(w W:World)(rb tb:Nat)(LL:List Tk)(c:Int)(o g:Nat)(t:Tm)(u:Value)(S:Sr):Prop where
 re:Rr z W rb tb LL c S o
 tn:Turn [rb] w W
 rs:Box W w.heap.size zs6
 lt:Box W g (tmQ t u)
 si:SitQ (fun b=>w.heap.size<b/\b≠g) z W t u
 gg:w.heap.size<g
 rl:rb<w.heap.size/\tb<w.heap.size
theorem LvS.turn {z:Nat}{w W W':World}{rb tb:Nat}{LL:List Tk}{c:Int}{o g:Nat}{t:Tm}{u:Value}{S S':Sr}(h:LvS z w W rb tb LL c o g t u S)(k:Turn [rb] W W')(r:Rr z W' rb tb LL c S' o):LvS z w W' rb tb LL c o g t u S':=by
 have hl:=h.rl
 have hg:=h.gg
 exact⟨r,turn_one h.tn k,h.rs.turn k (by simp;omega),h.lt.turn k (by simp;omega),SitQ.keep k.size (fun b hb hq=>⟨hq,fun j=>turn_cell k hb (by simp;omega)⟩) _ _ h.si,hg,hl⟩
theorem LvS.next {z:Nat}{w W W':World}{rb tb:Nat}{LL:List Tk}{c:Int}{o g:Nat}{t:Tm}{u:Value}{S:Sr}(h:LvS z w W rb tb LL c o g t u S)(k:Below W.heap.size W W'):LvS z w W' rb tb LL c o g t u S:=h.turn (Turn.of_below k) (h.re.next k)
theorem LvS.put {z:Nat}{w W:World}{rb tb:Nat}{LL:List Tk}{c:Int}{o g:Nat}{t t':Tm}{u u':Value}{S:Sr}(h:LvS z w W rb tb LL c o g t u S)(s:SitQ (fun b=>w.heap.size<b/\b≠g) z W t' u'):
 LvS z w ((((((W.setCell ⟨g,0,none⟩ (.int .i64 t'.kind)).setCell ⟨g,1,none⟩ (.string t'.text)).setCell ⟨g,2,none⟩ (.int .i64 t'.n)).setCell ⟨g,3,none⟩ (.int .i64 t'.m)).setCell ⟨g,4,none⟩ (.int .i64 t'.pl)).setCell ⟨g,5,none⟩ u') rb tb LL c o g t' u' S:=by
 have hl:=h.rl
 have hg:=h.gg
 have k:=turn_six W g (.int .i64 t'.kind) (.string t'.text) (.int .i64 t'.n) (.int .i64 t'.m) (.int .i64 t'.pl) u'
 exact⟨h.re.turn k (by simp;omega) (by simp;omega),h.tn.trans k (fun i hi=>.inr (by simp at hi;omega)),h.rs.turn k (by simp;omega),(((((h.lt.set 0 (by simp) _).set 1 (by simp) _).set 2 (by simp) _).set 3 (by simp) _).set 4 (by simp) _).set 5 (by simp) _,SitQ.keep k.size (fun b hb hq=>⟨hq,fun j=>turn_cell k hb (by simp;exact hq.2)⟩) _ _ s,hg,hl⟩
theorem Rr.adv {z:Nat}{w:World}{rb tb:Nat}{LL:List Tk}{c:Int}{S:Sr}{o:Nat}(h:Rr z w rb tb LL c S o)(hk:(hdT S.L).kind≠7):
 ∃ i:Nat,w.cell? ⟨rb,1,none⟩=some (.int .i64 (i:Nat))/\w.frozen? ⟨rb,1,none⟩=false/\rb<w.heap.size/\i<=9223372036854775806/\Rr z (w.setCell ⟨rb,1,none⟩ (.int .i64 ((i:Int)+1))) rb tb LL c (Go.Proofs.YtecdfnpbcabdnaaGreatDoor.adv S) o:=by
 obtain⟨off,cap,i,ov,h⟩:=h
 refine⟨i,h.box.cell 1 _ rfl,h.box.free 1 (by simp),h.box.lt,by have:=h.il;have:=h.le;have:=h.mx;omega,off,cap,i+1,ov,h.step (h.box.set 1 (by simp) _) (turn_set _ _ _ _) hk h.op h.oi h.dp⟩
set_option maxHeartbeats 8000000 in
theorem qProd_c {z rb tb:Nat}{LL:List Tk}{c:Int}{o:Nat}(hz:z<=9223372036854775807){P:Rdf}(HP:RdC z rb tb LL c o 130 P)(HD:LenE P):RdC z rb tb LL c o 111 (leftR sgMul P):=fun S w hr=>by
 have H1:=hid2 HP
 have hz0:=hid2 hz
 have HD0:=hid2 HD
 have hl0:=hr.lts
 obtain⟨R,hR⟩:∃ R,Hid (R=leftR sgMul P S):=⟨_,rfl⟩
 rw[<-hR.out]
 have hP:Hid (∀ w' t u,Turn [rb] w w'->Rr z w' rb tb LL c R.2 o->R.1=t->SitB w.heap.size z w' t u->QtP w.heap.size z w rb tb LL c o R (.returned (tmV t u)) w'):=fun w' t u h1 h2 h3 h4=>⟨h1,⟨_,rfl,u,by rw[h3],by rw[h3];exact h4⟩,h2⟩
 generalize QtP w.heap.size z w rb tb LL c o R=Post at *
 clear HP hz HD
 go_enter Tryz.func111,Tryz.ntmps111
 go_wp2_with fail
 refine Calls.mono (H1.out S _ (hr.next ((Below.refl _ _).alloc (Nat.le_refl _) _))) ?_
 rintro e w1 ⟨t1,⟨v,rfl,u,rfl,s1⟩,r1⟩
 simp only[tmV]
 obtain⟨ad,cp,rfl,hcp1,hcp2⟩:=s1.parts.shape
 have X0:=(Box.new w zs6 33).turn t1 (by simp;omega)
 have hw1:w.heap.size+1<=w1.heap.size:=by have:=t1.size;simpa using this
 have C0:LvS z w (w1.alloc (.cells (tmQ (P S).1 (.slice ad (P S).1.parts.length cp)).toArray 33)) rb tb LL c o w1.heap.size (P S).1 (.slice ad (P S).1.parts.length cp) (P S).2:=by
  have k:=(Below.refl w1.heap.size w1).alloc (Nat.le_refl _) (.cells (tmQ (P S).1 (.slice ad (P S).1.parts.length cp)).toArray 33)
  exact⟨r1.next k,(tnA t1).andBelow k,X0.next k,Box.new w1 _ _,SitQ.keep k.size (fun b hb hq=>⟨⟨by have:(w.alloc (.cells zs6.toArray 33)).heap.size<=b:=hq;simp at this;omega,by omega⟩,fun j=>cell_of_below k hb j⟩) _ _ s1,by omega,hl0⟩
 have HC0:=hid2 C0
 have hR0:Hid (R=loopR sgMul P (P S).2.L.length (P S).1 (P S).2):=hR.out
 clear C0 X0 s1 r1 t1 hR
 generalize (P S).1=t0 at *
 generalize (P S).2=S0 at *
 go_wp2_with fail
 obtain⟨g,hg⟩:∃ g,Hid (g=w1.heap.size):=⟨_,rfl⟩
 rw[<-hg.out] at HC0 ⊢
 go_loopw [] (fun wr=>∃ (S1:Sr) (t:Tm) (ad:Option Addr) (m cp f:Nat),S1.L.length<=f/\Hid (LvS z w wr rb tb LL c o g t (.slice ad m cp) S1)/\Hid (R=loopR sgMul P f t S1)) (fun wr=>LL.length-qI wr rb)
 ·exact⟨S0,t0,ad,_,cp,S0.L.length,Nat.le_refl _,HC0,hR0⟩
 obtain⟨S1,t,ad1,m1,cp1,f,hf,HC,HR⟩:=hrel
 clear HC0 hR0
 have hpos:=HC.out.re.tl.pos
 have hmeas:=HC.out.re.left
 obtain⟨f',rfl⟩:∃ f',f=f'+1:=⟨f-1,by omega⟩
 rw[loopR] at HR
 go_wp2_with fail
 refine Calls.mono (qIs_c k_mul _ HC.out.re) ?_
 rintro e w2 ⟨rfl,b2⟩
 have HC2:=hid2 (HC.out.next b2)
 cases h2:isR k_mul S1 with
 | true=>
   have HN:Hid (R=loopR sgMul P f' (tm 20 (hdT S1.L).at_ [t,(P (adv S1)).1]) (P (adv S1)).2):=by
    show _=_
    rw[HR.out,sgr_two,if_pos h2]
   have hY:isR k_div S1=false:=isR_ne h2 (by decide)
   have hkd:(hdT S1.L).kind≠7:=isT_kind (isR_good h2).2
   clear HR
   go_wp2_with fail
   refine Calls.mono (qAt_c _ HC2.out.re) ?_
   rintro e w3 ⟨rfl,b3⟩
   have HC3:=hid2 (HC2.out.next b3)
   clear HC2 b2 b3
   go_wp2_with fail
   refine Calls.mono (qIs_c k_div _ HC3.out.re) ?_
   rintro e w3' ⟨rfl,b3'⟩
   have HC3':=hid2 (HC3.out.next b3')
   rw[hY]
   obtain⟨i,i1,i2,i3,i4,r4⟩:=HC3'.out.re.adv hkd
   have HC4:=hid2 (HC3'.out.turn (turn_set _ _ _ _) r4)
   have hat:=HC3'.out.re.tl.ok.a
   have hlt:(adv S1).L.length<S1.L.length:=by show S1.L.tail.length<_;rw[List.length_tail];omega
   clear r4 HC3 HC3' b3'
   go_wp2_with fail
   generalize w3'.setCell ⟨rb,1,none⟩ (.int .i64 ((i:Int)+1))=W4 at *
   clear i1 i2 i3 i4
   obtain⟨l0,l1,l2,l3,l4,l5,e0,e1,e2,e3,e4,e5⟩:=HC4.out.lt.six
   have ll:=HC4.out.lt.lt
   have hgg:=HC4.out.gg
   go_region_with (first
    | (go_at_call 130;refine Calls.mono (H1.out (adv S1) _ (HC4.out.re.next ((Below.refl _ _).drew))) ?_;rintro e w5 ⟨t5,⟨v5,rfl,u5,rfl,s5⟩,r5⟩;obtain⟨ad5,cp5,rfl,h51,h52⟩:=s5.parts.shape;have sz5:=t5.size;have HC5:=hid2 ((HC4.out.next (Below.refl _ _).drew).turn t5 r5);obtain⟨m0,m1',m2,m3,m4,m5,n0,n1,n2,n3,n4,n5⟩:=HC5.out.lt.six;have ll5:=HC5.out.lt.lt;have HS5:=hid2 s5;clear t5 r5 s5;simp only[tmV])
    | (go_at_call 40;refine Calls.mono (qTwo_c (Q:=fun b=>w.heap.size<b/\b≠g) 20 (hdT S1.L).at_ t (P (adv S1)).1 (.slice ad1 m1 cp1) (.slice ad5 (P (adv S1)).1.parts.length cp5) w5 (fun b hb=>⟨by omega,by omega⟩) HC5.out.si (HS5.out.weak (fun b _ hb=>⟨by have hb':W4.drew.heap.size<=b:=hb;simp at hb';omega,by have hb':W4.drew.heap.size<=b:=hb;simp at hb';omega⟩)) (fit_of _ _ _ _ _ _ hz0.out (by decide) (by decide) (Nat.zero_le _) zero64 zero64 hat)) ?_;rintro e w6 ⟨b6,x6,rfl,s6⟩;obtain⟨ad6,cp6,rfl,h61,h62⟩:=s6.parts.shape;have HC6:=hid2 (HC5.out.next b6);obtain⟨o0,o1,o2,o3,o4,o5,p0,p1,p2,p3,p4,p5⟩:=HC6.out.lt.six;have ll6:=HC6.out.lt.lt;have HS6:=hid2 s6;clear b6 s6;simp only[tmV]))
   all_goals go_wp2_with fail
   all_goals (
    have HC7:=HC6.out.put HS6.out
    have hd:=HD0.out (adv S1)
    exact⟨⟨(P (adv S1)).2,_,_,_,_,f',by omega,HC7,HN⟩,by rw[hmeas];exact Nat.lt_of_le_of_lt (Nat.le_of_eq HC7.re.left) (by omega)⟩)
 | false=>
   go_wp2_with fail
   refine Calls.mono (qIs_c k_div _ HC2.out.re) ?_
   rintro e w2b ⟨rfl,b2b⟩
   have HC2b:=hid2 (HC2.out.next b2b)
   clear HC2
   have hX:=h2
   clear h2
   cases h2:isR k_div S1 with
   | false=>
     have HE:Hid (R=(t,S1)):=by
      show _=_
      rw[HR.out,sgr_two,if_neg (by rw[hX];simp),if_neg (by rw[h2];simp)]
     obtain⟨l0,l1,l2,l3,l4,l5,_,_,_,_,_,_⟩:=HC2b.out.lt.six
     obtain⟨q0,q1,q2,q3,q4,q5,p0,p1,p2,p3,p4,p5⟩:=HC2b.out.rs.six
     have ql:=HC2b.out.rs.lt
     have ll:=HC2b.out.lt.lt
     go_wp2_with fail
     have k:=turn_six w2b w.heap.size (.int .i64 t.kind) (.string t.text) (.int .i64 t.n) (.int .i64 t.m) (.int .i64 t.pl) (.slice ad1 m1 cp1)
     have hgg:=HC2b.out.gg
     refine bodyPost_ret (v:=tmV t (.slice ad1 m1 cp1)) (by simp[results,Tryz.results111,go_sem, *]) rfl (hP.out _ t _ ?_ ?_ (by rw[HE.out]) ?_)
     ·exact HC2b.out.tn.trans k (fun i hi=>.inr (by simp at hi;omega))
     ·rw[HE.out]
      exact HC2b.out.re.turn k (by simp;omega) (by simp;omega)
     ·exact SitQ.keep k.size (fun b hb hq=>⟨by show w.heap.size<=b;omega,fun j=>turn_cell k hb (by simp;omega)⟩) _ _ HC2b.out.si
   | true=>
     have HN:Hid (R=loopR sgMul P f' (tm 21 (hdT S1.L).at_ [t,(P (adv S1)).1]) (P (adv S1)).2):=by
      show _=_
      rw[HR.out,sgr_two,if_neg (by rw[hX];simp),if_pos h2]
     have hY:isR k_div S1=true:=h2
     have hkd:(hdT S1.L).kind≠7:=isT_kind (isR_good h2).2
     clear HR
     go_wp2_with fail
     refine Calls.mono (qAt_c _ HC2b.out.re) ?_
     rintro e w3 ⟨rfl,b3⟩
     have HC3:=hid2 (HC2b.out.next b3)
     clear HC2b b2b b3
     go_wp2_with fail
     refine Calls.mono (qIs_c k_div _ HC3.out.re) ?_
     rintro e w3' ⟨rfl,b3'⟩
     have HC3':=hid2 (HC3.out.next b3')
     rw[hY]
     obtain⟨i,i1,i2,i3,i4,r4⟩:=HC3'.out.re.adv hkd
     have HC4:=hid2 (HC3'.out.turn (turn_set _ _ _ _) r4)
     have hat:=HC3'.out.re.tl.ok.a
     have hlt:(adv S1).L.length<S1.L.length:=by show S1.L.tail.length<_;rw[List.length_tail];omega
     clear r4 HC3 HC3' b3'
     go_wp2_with fail
     generalize w3'.setCell ⟨rb,1,none⟩ (.int .i64 ((i:Int)+1))=W4 at *
     clear i1 i2 i3 i4
     obtain⟨l0,l1,l2,l3,l4,l5,e0,e1,e2,e3,e4,e5⟩:=HC4.out.lt.six
     have ll:=HC4.out.lt.lt
     have hgg:=HC4.out.gg
     go_region_with (first
      | (go_at_call 130;refine Calls.mono (H1.out (adv S1) _ (HC4.out.re.next ((Below.refl _ _).drew))) ?_;rintro e w5 ⟨t5,⟨v5,rfl,u5,rfl,s5⟩,r5⟩;obtain⟨ad5,cp5,rfl,h51,h52⟩:=s5.parts.shape;have sz5:=t5.size;have HC5:=hid2 ((HC4.out.next (Below.refl _ _).drew).turn t5 r5);obtain⟨m0,m1',m2,m3,m4,m5,n0,n1,n2,n3,n4,n5⟩:=HC5.out.lt.six;have ll5:=HC5.out.lt.lt;have HS5:=hid2 s5;clear t5 r5 s5;simp only[tmV])
      | (go_at_call 40;refine Calls.mono (qTwo_c (Q:=fun b=>w.heap.size<b/\b≠g) 21 (hdT S1.L).at_ t (P (adv S1)).1 (.slice ad1 m1 cp1) (.slice ad5 (P (adv S1)).1.parts.length cp5) w5 (fun b hb=>⟨by omega,by omega⟩) HC5.out.si (HS5.out.weak (fun b _ hb=>⟨by have hb':W4.drew.heap.size<=b:=hb;simp at hb';omega,by have hb':W4.drew.heap.size<=b:=hb;simp at hb';omega⟩)) (fit_of _ _ _ _ _ _ hz0.out (by decide) (by decide) (Nat.zero_le _) zero64 zero64 hat)) ?_;rintro e w6 ⟨b6,x6,rfl,s6⟩;obtain⟨ad6,cp6,rfl,h61,h62⟩:=s6.parts.shape;have HC6:=hid2 (HC5.out.next b6);obtain⟨o0,o1,o2,o3,o4,o5,p0,p1,p2,p3,p4,p5⟩:=HC6.out.lt.six;have ll6:=HC6.out.lt.lt;have HS6:=hid2 s6;clear b6 s6;simp only[tmV]))
     all_goals go_wp2_with fail
     all_goals (
      have HC7:=HC6.out.put HS6.out
      have hd:=HD0.out (adv S1)
      exact⟨⟨(P (adv S1)).2,_,_,_,_,f',by omega,HC7,HN⟩,by rw[hmeas];exact Nat.lt_of_le_of_lt (Nat.le_of_eq HC7.re.left) (by omega)⟩)
set_option maxHeartbeats 8000000 in
theorem qSum_c {z rb tb:Nat}{LL:List Tk}{c:Int}{o:Nat}(hz:z<=9223372036854775807){P:Rdf}(HP:RdC z rb tb LL c o 111 P)(HD:LenE P):RdC z rb tb LL c o 88 (leftR sgSum P):=fun S w hr=>by
 have H1:=hid2 HP
 have hz0:=hid2 hz
 have HD0:=hid2 HD
 have hl0:=hr.lts
 obtain⟨R,hR⟩:∃ R,Hid (R=leftR sgSum P S):=⟨_,rfl⟩
 rw[<-hR.out]
 have hP:Hid (∀ w' t u,Turn [rb] w w'->Rr z w' rb tb LL c R.2 o->R.1=t->SitB w.heap.size z w' t u->QtP w.heap.size z w rb tb LL c o R (.returned (tmV t u)) w'):=fun w' t u h1 h2 h3 h4=>⟨h1,⟨_,rfl,u,by rw[h3],by rw[h3];exact h4⟩,h2⟩
 generalize QtP w.heap.size z w rb tb LL c o R=Post at *
 clear HP hz HD
 go_enter Tryz.func88,Tryz.ntmps88
 go_wp2_with fail
 refine Calls.mono (H1.out S _ (hr.next ((Below.refl _ _).alloc (Nat.le_refl _) _))) ?_
 rintro e w1 ⟨t1,⟨v,rfl,u,rfl,s1⟩,r1⟩
 simp only[tmV]
 obtain⟨ad,cp,rfl,hcp1,hcp2⟩:=s1.parts.shape
 have X0:=(Box.new w zs6 33).turn t1 (by simp;omega)
 have hw1:w.heap.size+1<=w1.heap.size:=by have:=t1.size;simpa using this
 have C0:LvS z w (w1.alloc (.cells (tmQ (P S).1 (.slice ad (P S).1.parts.length cp)).toArray 33)) rb tb LL c o w1.heap.size (P S).1 (.slice ad (P S).1.parts.length cp) (P S).2:=by
  have k:=(Below.refl w1.heap.size w1).alloc (Nat.le_refl _) (.cells (tmQ (P S).1 (.slice ad (P S).1.parts.length cp)).toArray 33)
  exact⟨r1.next k,(tnA t1).andBelow k,X0.next k,Box.new w1 _ _,SitQ.keep k.size (fun b hb hq=>⟨⟨by have:(w.alloc (.cells zs6.toArray 33)).heap.size<=b:=hq;simp at this;omega,by omega⟩,fun j=>cell_of_below k hb j⟩) _ _ s1,by omega,hl0⟩
 have HC0:=hid2 C0
 have hR0:Hid (R=loopR sgSum P (P S).2.L.length (P S).1 (P S).2):=hR.out
 clear C0 X0 s1 r1 t1 hR
 generalize (P S).1=t0 at *
 generalize (P S).2=S0 at *
 go_wp2_with fail
 obtain⟨g,hg⟩:∃ g,Hid (g=w1.heap.size):=⟨_,rfl⟩
 rw[<-hg.out] at HC0 ⊢
 go_loopw [] (fun wr=>∃ (S1:Sr) (t:Tm) (ad:Option Addr) (m cp f:Nat),S1.L.length<=f/\Hid (LvS z w wr rb tb LL c o g t (.slice ad m cp) S1)/\Hid (R=loopR sgSum P f t S1)) (fun wr=>LL.length-qI wr rb)
 ·exact⟨S0,t0,ad,_,cp,S0.L.length,Nat.le_refl _,HC0,hR0⟩
 obtain⟨S1,t,ad1,m1,cp1,f,hf,HC,HR⟩:=hrel
 clear HC0 hR0
 have hpos:=HC.out.re.tl.pos
 have hmeas:=HC.out.re.left
 obtain⟨f',rfl⟩:∃ f',f=f'+1:=⟨f-1,by omega⟩
 rw[loopR] at HR
 go_wp2_with fail
 refine Calls.mono (qIs_c k_add _ HC.out.re) ?_
 rintro e w2 ⟨rfl,b2⟩
 have HC2:=hid2 (HC.out.next b2)
 cases h2:isR k_add S1 with
 | true=>
   have HN:Hid (R=loopR sgSum P f' (tm 18 (hdT S1.L).at_ [t,(P (adv S1)).1]) (P (adv S1)).2):=by
    show _=_
    rw[HR.out,sgr_two,if_pos h2]
   have hY:isR k_sub S1=false:=isR_ne h2 (by decide)
   have hkd:(hdT S1.L).kind≠7:=isT_kind (isR_good h2).2
   clear HR
   go_wp2_with fail
   refine Calls.mono (qAt_c _ HC2.out.re) ?_
   rintro e w3 ⟨rfl,b3⟩
   have HC3:=hid2 (HC2.out.next b3)
   clear HC2 b2 b3
   go_wp2_with fail
   refine Calls.mono (qIs_c k_sub _ HC3.out.re) ?_
   rintro e w3' ⟨rfl,b3'⟩
   have HC3':=hid2 (HC3.out.next b3')
   rw[hY]
   obtain⟨i,i1,i2,i3,i4,r4⟩:=HC3'.out.re.adv hkd
   have HC4:=hid2 (HC3'.out.turn (turn_set _ _ _ _) r4)
   have hat:=HC3'.out.re.tl.ok.a
   have hlt:(adv S1).L.length<S1.L.length:=by show S1.L.tail.length<_;rw[List.length_tail];omega
   clear r4 HC3 HC3' b3'
   go_wp2_with fail
   generalize w3'.setCell ⟨rb,1,none⟩ (.int .i64 ((i:Int)+1))=W4 at *
   clear i1 i2 i3 i4
   obtain⟨l0,l1,l2,l3,l4,l5,e0,e1,e2,e3,e4,e5⟩:=HC4.out.lt.six
   have ll:=HC4.out.lt.lt
   have hgg:=HC4.out.gg
   go_region_with (first
    | (go_at_call 111;refine Calls.mono (H1.out (adv S1) _ (HC4.out.re.next ((Below.refl _ _).drew))) ?_;rintro e w5 ⟨t5,⟨v5,rfl,u5,rfl,s5⟩,r5⟩;obtain⟨ad5,cp5,rfl,h51,h52⟩:=s5.parts.shape;have sz5:=t5.size;have HC5:=hid2 ((HC4.out.next (Below.refl _ _).drew).turn t5 r5);obtain⟨m0,m1',m2,m3,m4,m5,n0,n1,n2,n3,n4,n5⟩:=HC5.out.lt.six;have ll5:=HC5.out.lt.lt;have HS5:=hid2 s5;clear t5 r5 s5;simp only[tmV])
    | (go_at_call 40;refine Calls.mono (qTwo_c (Q:=fun b=>w.heap.size<b/\b≠g) 18 (hdT S1.L).at_ t (P (adv S1)).1 (.slice ad1 m1 cp1) (.slice ad5 (P (adv S1)).1.parts.length cp5) w5 (fun b hb=>⟨by omega,by omega⟩) HC5.out.si (HS5.out.weak (fun b _ hb=>⟨by have hb':W4.drew.heap.size<=b:=hb;simp at hb';omega,by have hb':W4.drew.heap.size<=b:=hb;simp at hb';omega⟩)) (fit_of _ _ _ _ _ _ hz0.out (by decide) (by decide) (Nat.zero_le _) zero64 zero64 hat)) ?_;rintro e w6 ⟨b6,x6,rfl,s6⟩;obtain⟨ad6,cp6,rfl,h61,h62⟩:=s6.parts.shape;have HC6:=hid2 (HC5.out.next b6);obtain⟨o0,o1,o2,o3,o4,o5,p0,p1,p2,p3,p4,p5⟩:=HC6.out.lt.six;have ll6:=HC6.out.lt.lt;have HS6:=hid2 s6;clear b6 s6;simp only[tmV]))
   all_goals go_wp2_with fail
   all_goals (
    have HC7:=HC6.out.put HS6.out
    have hd:=HD0.out (adv S1)
    exact⟨⟨(P (adv S1)).2,_,_,_,_,f',by omega,HC7,HN⟩,by rw[hmeas];exact Nat.lt_of_le_of_lt (Nat.le_of_eq HC7.re.left) (by omega)⟩)
 | false=>
   go_wp2_with fail
   refine Calls.mono (qIs_c k_sub _ HC2.out.re) ?_
   rintro e w2b ⟨rfl,b2b⟩
   have HC2b:=hid2 (HC2.out.next b2b)
   clear HC2
   have hX:=h2
   clear h2
   cases h2:isR k_sub S1 with
   | false=>
     have HE:Hid (R=(t,S1)):=by
      show _=_
      rw[HR.out,sgr_two,if_neg (by rw[hX];simp),if_neg (by rw[h2];simp)]
     obtain⟨l0,l1,l2,l3,l4,l5,_,_,_,_,_,_⟩:=HC2b.out.lt.six
     obtain⟨q0,q1,q2,q3,q4,q5,p0,p1,p2,p3,p4,p5⟩:=HC2b.out.rs.six
     have ql:=HC2b.out.rs.lt
     have ll:=HC2b.out.lt.lt
     go_wp2_with fail
     have k:=turn_six w2b w.heap.size (.int .i64 t.kind) (.string t.text) (.int .i64 t.n) (.int .i64 t.m) (.int .i64 t.pl) (.slice ad1 m1 cp1)
     have hgg:=HC2b.out.gg
     refine bodyPost_ret (v:=tmV t (.slice ad1 m1 cp1)) (by simp[results,Tryz.results88,go_sem, *]) rfl (hP.out _ t _ ?_ ?_ (by rw[HE.out]) ?_)
     ·exact HC2b.out.tn.trans k (fun i hi=>.inr (by simp at hi;omega))
     ·rw[HE.out]
      exact HC2b.out.re.turn k (by simp;omega) (by simp;omega)
     ·exact SitQ.keep k.size (fun b hb hq=>⟨by show w.heap.size<=b;omega,fun j=>turn_cell k hb (by simp;omega)⟩) _ _ HC2b.out.si
   | true=>
     have HN:Hid (R=loopR sgSum P f' (tm 19 (hdT S1.L).at_ [t,(P (adv S1)).1]) (P (adv S1)).2):=by
      show _=_
      rw[HR.out,sgr_two,if_neg (by rw[hX];simp),if_pos h2]
     have hY:isR k_sub S1=true:=h2
     have hkd:(hdT S1.L).kind≠7:=isT_kind (isR_good h2).2
     clear HR
     go_wp2_with fail
     refine Calls.mono (qAt_c _ HC2b.out.re) ?_
     rintro e w3 ⟨rfl,b3⟩
     have HC3:=hid2 (HC2b.out.next b3)
     clear HC2b b2b b3
     go_wp2_with fail
     refine Calls.mono (qIs_c k_sub _ HC3.out.re) ?_
     rintro e w3' ⟨rfl,b3'⟩
     have HC3':=hid2 (HC3.out.next b3')
     rw[hY]
     obtain⟨i,i1,i2,i3,i4,r4⟩:=HC3'.out.re.adv hkd
     have HC4:=hid2 (HC3'.out.turn (turn_set _ _ _ _) r4)
     have hat:=HC3'.out.re.tl.ok.a
     have hlt:(adv S1).L.length<S1.L.length:=by show S1.L.tail.length<_;rw[List.length_tail];omega
     clear r4 HC3 HC3' b3'
     go_wp2_with fail
     generalize w3'.setCell ⟨rb,1,none⟩ (.int .i64 ((i:Int)+1))=W4 at *
     clear i1 i2 i3 i4
     obtain⟨l0,l1,l2,l3,l4,l5,e0,e1,e2,e3,e4,e5⟩:=HC4.out.lt.six
     have ll:=HC4.out.lt.lt
     have hgg:=HC4.out.gg
     go_region_with (first
      | (go_at_call 111;refine Calls.mono (H1.out (adv S1) _ (HC4.out.re.next ((Below.refl _ _).drew))) ?_;rintro e w5 ⟨t5,⟨v5,rfl,u5,rfl,s5⟩,r5⟩;obtain⟨ad5,cp5,rfl,h51,h52⟩:=s5.parts.shape;have sz5:=t5.size;have HC5:=hid2 ((HC4.out.next (Below.refl _ _).drew).turn t5 r5);obtain⟨m0,m1',m2,m3,m4,m5,n0,n1,n2,n3,n4,n5⟩:=HC5.out.lt.six;have ll5:=HC5.out.lt.lt;have HS5:=hid2 s5;clear t5 r5 s5;simp only[tmV])
      | (go_at_call 40;refine Calls.mono (qTwo_c (Q:=fun b=>w.heap.size<b/\b≠g) 19 (hdT S1.L).at_ t (P (adv S1)).1 (.slice ad1 m1 cp1) (.slice ad5 (P (adv S1)).1.parts.length cp5) w5 (fun b hb=>⟨by omega,by omega⟩) HC5.out.si (HS5.out.weak (fun b _ hb=>⟨by have hb':W4.drew.heap.size<=b:=hb;simp at hb';omega,by have hb':W4.drew.heap.size<=b:=hb;simp at hb';omega⟩)) (fit_of _ _ _ _ _ _ hz0.out (by decide) (by decide) (Nat.zero_le _) zero64 zero64 hat)) ?_;rintro e w6 ⟨b6,x6,rfl,s6⟩;obtain⟨ad6,cp6,rfl,h61,h62⟩:=s6.parts.shape;have HC6:=hid2 (HC5.out.next b6);obtain⟨o0,o1,o2,o3,o4,o5,p0,p1,p2,p3,p4,p5⟩:=HC6.out.lt.six;have ll6:=HC6.out.lt.lt;have HS6:=hid2 s6;clear b6 s6;simp only[tmV]))
     all_goals go_wp2_with fail
     all_goals (
      have HC7:=HC6.out.put HS6.out
      have hd:=HD0.out (adv S1)
      exact⟨⟨(P (adv S1)).2,_,_,_,_,f',by omega,HC7,HN⟩,by rw[hmeas];exact Nat.lt_of_le_of_lt (Nat.le_of_eq HC7.re.left) (by omega)⟩)
set_option maxHeartbeats 8000000 in
theorem qConj_c {z rb tb:Nat}{LL:List Tk}{c:Int}{o:Nat}(hz:z<=9223372036854775807){P:Rdf}(HP:RdC z rb tb LL c o 62 P)(HD:LenE P):RdC z rb tb LL c o 38 (leftR sgAnd P):=fun S w hr=>by
 have H1:=hid2 HP
 have hz0:=hid2 hz
 have HD0:=hid2 HD
 have hl0:=hr.lts
 obtain⟨R,hR⟩:∃ R,Hid (R=leftR sgAnd P S):=⟨_,rfl⟩
 rw[<-hR.out]
 have hP:Hid (∀ w' t u,Turn [rb] w w'->Rr z w' rb tb LL c R.2 o->R.1=t->SitB w.heap.size z w' t u->QtP w.heap.size z w rb tb LL c o R (.returned (tmV t u)) w'):=fun w' t u h1 h2 h3 h4=>⟨h1,⟨_,rfl,u,by rw[h3],by rw[h3];exact h4⟩,h2⟩
 generalize QtP w.heap.size z w rb tb LL c o R=Post at *
 clear HP hz HD
 go_enter Tryz.func38,Tryz.ntmps38
 go_wp2_with fail
 refine Calls.mono (H1.out S _ (hr.next ((Below.refl _ _).alloc (Nat.le_refl _) _))) ?_
 rintro e w1 ⟨t1,⟨v,rfl,u,rfl,s1⟩,r1⟩
 simp only[tmV]
 obtain⟨ad,cp,rfl,hcp1,hcp2⟩:=s1.parts.shape
 have X0:=(Box.new w zs6 33).turn t1 (by simp;omega)
 have hw1:w.heap.size+1<=w1.heap.size:=by have:=t1.size;simpa using this
 have C0:LvS z w (w1.alloc (.cells (tmQ (P S).1 (.slice ad (P S).1.parts.length cp)).toArray 33)) rb tb LL c o w1.heap.size (P S).1 (.slice ad (P S).1.parts.length cp) (P S).2:=by
  have k:=(Below.refl w1.heap.size w1).alloc (Nat.le_refl _) (.cells (tmQ (P S).1 (.slice ad (P S).1.parts.length cp)).toArray 33)
  exact⟨r1.next k,(tnA t1).andBelow k,X0.next k,Box.new w1 _ _,SitQ.keep k.size (fun b hb hq=>⟨⟨by have:(w.alloc (.cells zs6.toArray 33)).heap.size<=b:=hq;simp at this;omega,by omega⟩,fun j=>cell_of_below k hb j⟩) _ _ s1,by omega,hl0⟩
 have HC0:=hid2 C0
 have hR0:Hid (R=loopR sgAnd P (P S).2.L.length (P S).1 (P S).2):=hR.out
 clear C0 X0 s1 r1 t1 hR
 generalize (P S).1=t0 at *
 generalize (P S).2=S0 at *
 go_wp2_with fail
 obtain⟨g,hg⟩:∃ g,Hid (g=w1.heap.size):=⟨_,rfl⟩
 rw[<-hg.out] at HC0 ⊢
 go_loopw [] (fun wr=>∃ (S1:Sr) (t:Tm) (ad:Option Addr) (m cp f:Nat),S1.L.length<=f/\Hid (LvS z w wr rb tb LL c o g t (.slice ad m cp) S1)/\Hid (R=loopR sgAnd P f t S1)) (fun wr=>LL.length-qI wr rb)
 ·exact⟨S0,t0,ad,_,cp,S0.L.length,Nat.le_refl _,HC0,hR0⟩
 obtain⟨S1,t,ad1,m1,cp1,f,hf,HC,HR⟩:=hrel
 clear HC0 hR0
 have hpos:=HC.out.re.tl.pos
 have hmeas:=HC.out.re.left
 obtain⟨f',rfl⟩:∃ f',f=f'+1:=⟨f-1,by omega⟩
 rw[loopR] at HR
 go_wp2_with fail
 refine Calls.mono (qIs_c k_and _ HC.out.re) ?_
 rintro e w2 ⟨rfl,b2⟩
 have HC2:=hid2 (HC.out.next b2)
 cases h2:isR k_and S1 with
 | false=>
   have HE:Hid (R=(t,S1)):=by
    show _=_
    rw[HR.out,sgr_one,if_neg (by rw[h2];simp)]
   obtain⟨l0,l1,l2,l3,l4,l5,_,_,_,_,_,_⟩:=HC2.out.lt.six
   obtain⟨q0,q1,q2,q3,q4,q5,p0,p1,p2,p3,p4,p5⟩:=HC2.out.rs.six
   have ql:=HC2.out.rs.lt
   have ll:=HC2.out.lt.lt
   go_wp2_with fail
   have k:=turn_six w2 w.heap.size (.int .i64 t.kind) (.string t.text) (.int .i64 t.n) (.int .i64 t.m) (.int .i64 t.pl) (.slice ad1 m1 cp1)
   have hgg:=HC2.out.gg
   refine bodyPost_ret (v:=tmV t (.slice ad1 m1 cp1)) (by simp[results,Tryz.results38,go_sem, *]) rfl (hP.out _ t _ ?_ ?_ (by rw[HE.out]) ?_)
   ·exact HC2.out.tn.trans k (fun i hi=>.inr (by simp at hi;omega))
   ·rw[HE.out]
    exact HC2.out.re.turn k (by simp;omega) (by simp;omega)
   ·exact SitQ.keep k.size (fun b hb hq=>⟨by show w.heap.size<=b;omega,fun j=>turn_cell k hb (by simp;omega)⟩) _ _ HC2.out.si
 | true=>
   have HN:Hid (R=loopR sgAnd P f' (tm 27 (hdT S1.L).at_ [t,(P (adv S1)).1]) (P (adv S1)).2):=by
    show _=_
    rw[HR.out,sgr_one,if_pos h2]
   have hkd:(hdT S1.L).kind≠7:=isT_kind (isR_good h2).2
   clear HR
   go_wp2_with fail
   refine Calls.mono (qAt_c _ HC2.out.re) ?_
   rintro e w3 ⟨rfl,b3⟩
   have HC3:=hid2 (HC2.out.next b3)
   obtain⟨i,i1,i2,i3,i4,r4⟩:=HC3.out.re.adv hkd
   have HC4:=hid2 (HC3.out.turn (turn_set _ _ _ _) r4)
   have hat:=HC3.out.re.tl.ok.a
   have hlen:=adv_len S1
   have hlt:(adv S1).L.length<S1.L.length:=by show S1.L.tail.length<_;rw[List.length_tail];omega
   clear r4 HC2 HC3 b2 b3
   go_wp2_with fail
   generalize w3.setCell ⟨rb,1,none⟩ (.int .i64 ((i:Int)+1))=W4 at *
   clear i1 i2 i3 i4
   obtain⟨l0,l1,l2,l3,l4,l5,e0,e1,e2,e3,e4,e5⟩:=HC4.out.lt.six
   have ll:=HC4.out.lt.lt
   have hgg:=HC4.out.gg
   go_region_with (first
    | (go_at_call 62;refine Calls.mono (H1.out (adv S1) _ (HC4.out.re.next ((Below.refl _ _).drew))) ?_;rintro e w5 ⟨t5,⟨v5,rfl,u5,rfl,s5⟩,r5⟩;obtain⟨ad5,cp5,rfl,h51,h52⟩:=s5.parts.shape;have sz5:=t5.size;have HC5:=hid2 ((HC4.out.next (Below.refl _ _).drew).turn t5 r5);obtain⟨m0,m1',m2,m3,m4,m5,n0,n1,n2,n3,n4,n5⟩:=HC5.out.lt.six;have ll5:=HC5.out.lt.lt;have HS5:=hid2 s5;clear t5 r5 s5;simp only[tmV])
    | (go_at_call 40;refine Calls.mono (qTwo_c (Q:=fun b=>w.heap.size<b/\b≠g) 27 (hdT S1.L).at_ t (P (adv S1)).1 (.slice ad1 m1 cp1) (.slice ad5 (P (adv S1)).1.parts.length cp5) w5 (fun b hb=>⟨by omega,by omega⟩) HC5.out.si (HS5.out.weak (fun b _ hb=>⟨by have hb':W4.drew.heap.size<=b:=hb;simp at hb';omega,by have hb':W4.drew.heap.size<=b:=hb;simp at hb';omega⟩)) (fit_of _ _ _ _ _ _ hz0.out (by decide) (by decide) (Nat.zero_le _) zero64 zero64 hat)) ?_;rintro e w6 ⟨b6,x6,rfl,s6⟩;obtain⟨ad6,cp6,rfl,h61,h62⟩:=s6.parts.shape;have HC6:=hid2 (HC5.out.next b6);obtain⟨o0,o1,o2,o3,o4,o5,p0,p1,p2,p3,p4,p5⟩:=HC6.out.lt.six;have ll6:=HC6.out.lt.lt;have HS6:=hid2 s6;clear b6 s6;simp only[tmV]))
   all_goals go_wp2_with fail
   all_goals (
    have HC7:=HC6.out.put HS6.out
    have hd:=HD0.out (adv S1)
    exact⟨⟨(P (adv S1)).2,_,_,_,_,f',by omega,HC7,HN⟩,by rw[hmeas];exact Nat.lt_of_le_of_lt (Nat.le_of_eq HC7.re.left) (by omega)⟩)
set_option maxHeartbeats 8000000 in
theorem qExpr_c {z rb tb:Nat}{LL:List Tk}{c:Int}{o:Nat}(hz:z<=9223372036854775807){P:Rdf}(HP:RdC z rb tb LL c o 38 P)(HD:LenE P):RdC z rb tb LL c o 22 (leftR sgOr P):=fun S w hr=>by
 have H1:=hid2 HP
 have hz0:=hid2 hz
 have HD0:=hid2 HD
 have hl0:=hr.lts
 obtain⟨R,hR⟩:∃ R,Hid (R=leftR sgOr P S):=⟨_,rfl⟩
 rw[<-hR.out]
 have hP:Hid (∀ w' t u,Turn [rb] w w'->Rr z w' rb tb LL c R.2 o->R.1=t->SitB w.heap.size z w' t u->QtP w.heap.size z w rb tb LL c o R (.returned (tmV t u)) w'):=fun w' t u h1 h2 h3 h4=>⟨h1,⟨_,rfl,u,by rw[h3],by rw[h3];exact h4⟩,h2⟩
 generalize QtP w.heap.size z w rb tb LL c o R=Post at *
 clear HP hz HD
 go_enter Tryz.func22,Tryz.ntmps22
 go_wp2_with fail
 refine Calls.mono (H1.out S _ (hr.next ((Below.refl _ _).alloc (Nat.le_refl _) _))) ?_
 rintro e w1 ⟨t1,⟨v,rfl,u,rfl,s1⟩,r1⟩
 simp only[tmV]
 obtain⟨ad,cp,rfl,hcp1,hcp2⟩:=s1.parts.shape
 have X0:=(Box.new w zs6 33).turn t1 (by simp;omega)
 have hw1:w.heap.size+1<=w1.heap.size:=by have:=t1.size;simpa using this
 have C0:LvS z w (w1.alloc (.cells (tmQ (P S).1 (.slice ad (P S).1.parts.length cp)).toArray 33)) rb tb LL c o w1.heap.size (P S).1 (.slice ad (P S).1.parts.length cp) (P S).2:=by
  have k:=(Below.refl w1.heap.size w1).alloc (Nat.le_refl _) (.cells (tmQ (P S).1 (.slice ad (P S).1.parts.length cp)).toArray 33)
  exact⟨r1.next k,(tnA t1).andBelow k,X0.next k,Box.new w1 _ _,SitQ.keep k.size (fun b hb hq=>⟨⟨by have:(w.alloc (.cells zs6.toArray 33)).heap.size<=b:=hq;simp at this;omega,by omega⟩,fun j=>cell_of_below k hb j⟩) _ _ s1,by omega,hl0⟩
 have HC0:=hid2 C0
 have hR0:Hid (R=loopR sgOr P (P S).2.L.length (P S).1 (P S).2):=hR.out
 clear C0 X0 s1 r1 t1 hR
 generalize (P S).1=t0 at *
 generalize (P S).2=S0 at *
 go_wp2_with fail
 obtain⟨g,hg⟩:∃ g,Hid (g=w1.heap.size):=⟨_,rfl⟩
 rw[<-hg.out] at HC0 ⊢
 go_loopw [] (fun wr=>∃ (S1:Sr) (t:Tm) (ad:Option Addr) (m cp f:Nat),S1.L.length<=f/\Hid (LvS z w wr rb tb LL c o g t (.slice ad m cp) S1)/\Hid (R=loopR sgOr P f t S1)) (fun wr=>LL.length-qI wr rb)
 ·exact⟨S0,t0,ad,_,cp,S0.L.length,Nat.le_refl _,HC0,hR0⟩
 obtain⟨S1,t,ad1,m1,cp1,f,hf,HC,HR⟩:=hrel
 clear HC0 hR0
 have hpos:=HC.out.re.tl.pos
 have hmeas:=HC.out.re.left
 obtain⟨f',rfl⟩:∃ f',f=f'+1:=⟨f-1,by omega⟩
 rw[loopR] at HR
 go_wp2_with fail
 refine Calls.mono (qIs_c k_or _ HC.out.re) ?_
 rintro e w2 ⟨rfl,b2⟩
 have HC2:=hid2 (HC.out.next b2)
 cases h2:isR k_or S1 with
 | false=>
   have HE:Hid (R=(t,S1)):=by
    show _=_
    rw[HR.out,sgr_one,if_neg (by rw[h2];simp)]
   obtain⟨l0,l1,l2,l3,l4,l5,_,_,_,_,_,_⟩:=HC2.out.lt.six
   obtain⟨q0,q1,q2,q3,q4,q5,p0,p1,p2,p3,p4,p5⟩:=HC2.out.rs.six
   have ql:=HC2.out.rs.lt
   have ll:=HC2.out.lt.lt
   go_wp2_with fail
   have k:=turn_six w2 w.heap.size (.int .i64 t.kind) (.string t.text) (.int .i64 t.n) (.int .i64 t.m) (.int .i64 t.pl) (.slice ad1 m1 cp1)
   have hgg:=HC2.out.gg
   refine bodyPost_ret (v:=tmV t (.slice ad1 m1 cp1)) (by simp[results,Tryz.results22,go_sem, *]) rfl (hP.out _ t _ ?_ ?_ (by rw[HE.out]) ?_)
   ·exact HC2.out.tn.trans k (fun i hi=>.inr (by simp at hi;omega))
   ·rw[HE.out]
    exact HC2.out.re.turn k (by simp;omega) (by simp;omega)
   ·exact SitQ.keep k.size (fun b hb hq=>⟨by show w.heap.size<=b;omega,fun j=>turn_cell k hb (by simp;omega)⟩) _ _ HC2.out.si
 | true=>
   have HN:Hid (R=loopR sgOr P f' (tm 28 (hdT S1.L).at_ [t,(P (adv S1)).1]) (P (adv S1)).2):=by
    show _=_
    rw[HR.out,sgr_one,if_pos h2]
   have hkd:(hdT S1.L).kind≠7:=isT_kind (isR_good h2).2
   clear HR
   go_wp2_with fail
   refine Calls.mono (qAt_c _ HC2.out.re) ?_
   rintro e w3 ⟨rfl,b3⟩
   have HC3:=hid2 (HC2.out.next b3)
   obtain⟨i,i1,i2,i3,i4,r4⟩:=HC3.out.re.adv hkd
   have HC4:=hid2 (HC3.out.turn (turn_set _ _ _ _) r4)
   have hat:=HC3.out.re.tl.ok.a
   have hlen:=adv_len S1
   have hlt:(adv S1).L.length<S1.L.length:=by show S1.L.tail.length<_;rw[List.length_tail];omega
   clear r4 HC2 HC3 b2 b3
   go_wp2_with fail
   generalize w3.setCell ⟨rb,1,none⟩ (.int .i64 ((i:Int)+1))=W4 at *
   clear i1 i2 i3 i4
   obtain⟨l0,l1,l2,l3,l4,l5,e0,e1,e2,e3,e4,e5⟩:=HC4.out.lt.six
   have ll:=HC4.out.lt.lt
   have hgg:=HC4.out.gg
   go_region_with (first
    | (go_at_call 38;refine Calls.mono (H1.out (adv S1) _ (HC4.out.re.next ((Below.refl _ _).drew))) ?_;rintro e w5 ⟨t5,⟨v5,rfl,u5,rfl,s5⟩,r5⟩;obtain⟨ad5,cp5,rfl,h51,h52⟩:=s5.parts.shape;have sz5:=t5.size;have HC5:=hid2 ((HC4.out.next (Below.refl _ _).drew).turn t5 r5);obtain⟨m0,m1',m2,m3,m4,m5,n0,n1,n2,n3,n4,n5⟩:=HC5.out.lt.six;have ll5:=HC5.out.lt.lt;have HS5:=hid2 s5;clear t5 r5 s5;simp only[tmV])
    | (go_at_call 40;refine Calls.mono (qTwo_c (Q:=fun b=>w.heap.size<b/\b≠g) 28 (hdT S1.L).at_ t (P (adv S1)).1 (.slice ad1 m1 cp1) (.slice ad5 (P (adv S1)).1.parts.length cp5) w5 (fun b hb=>⟨by omega,by omega⟩) HC5.out.si (HS5.out.weak (fun b _ hb=>⟨by have hb':W4.drew.heap.size<=b:=hb;simp at hb';omega,by have hb':W4.drew.heap.size<=b:=hb;simp at hb';omega⟩)) (fit_of _ _ _ _ _ _ hz0.out (by decide) (by decide) (Nat.zero_le _) zero64 zero64 hat)) ?_;rintro e w6 ⟨b6,x6,rfl,s6⟩;obtain⟨ad6,cp6,rfl,h61,h62⟩:=s6.parts.shape;have HC6:=hid2 (HC5.out.next b6);obtain⟨o0,o1,o2,o3,o4,o5,p0,p1,p2,p3,p4,p5⟩:=HC6.out.lt.six;have ll6:=HC6.out.lt.lt;have HS6:=hid2 s6;clear b6 s6;simp only[tmV]))
   all_goals go_wp2_with fail
   all_goals (
    have HC7:=HC6.out.put HS6.out
    have hd:=HD0.out (adv S1)
    exact⟨⟨(P (adv S1)).2,_,_,_,_,f',by omega,HC7,HN⟩,by rw[hmeas];exact Nat.lt_of_le_of_lt (Nat.le_of_eq HC7.re.left) (by omega)⟩)
end Go.Proofs.YtecdfnpbcabdnaaGreatDoor
