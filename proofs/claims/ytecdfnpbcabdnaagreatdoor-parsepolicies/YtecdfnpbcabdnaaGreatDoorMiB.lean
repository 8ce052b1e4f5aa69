import Derived.Test.YtecdfnpbcabdnaaGreatDoorMiA
namespace Go.Proofs.YtecdfnpbcabdnaaGreatDoor
open Go.RowKit Go.Lib
set_option maxHeartbeats 4000000 in
set_option maxRecDepth 20000 in
theorem metric_c {z rb tb lb:Nat}{c:Int}{L:List Tk}{o:Nat}(_hz:z<=9223372036854775807){t0:Tk}(hx:nxt c L=.ok t0)(hm:isT k_metric t0=true)(w:World)(hr:Rea z w rb tb lb c L o):
 Calls Tryz.prog 48 #[.pointer (some ⟨rb,0,none⟩)] w (Out (VIt w.heap.size z) z w rb tb lb c o (metricP c t0.at_ L.tail)):=by
 obtain⟨pr,hpr⟩:∃ pr,Hid (pr=metricP c t0.at_ L.tail):=⟨_,rfl⟩
 rw[<-hpr.out]
 have hE:Hid (∀ f w',pr=.error f->Turn [rb] w w'->Out (VIt w.heap.size z) z w rb tb lb c o pr (.panicked [fltE f]) w'):=fun f w' h ht=>Out.mk_err h ht
 have hO:Hid (∀ i L' w' v vx vy,pr=.ok (i,L')->Turn [rb] w w'->v=itA i vx vy->ItB w.heap.size z w' i vx vy->Rea z w' rb tb lb c L' o->Out (VIt w.heap.size z) z w rb tb lb c o pr (.returned v) w'):=fun i L' w' v vx vy h ht hv hs hr'=>Out.mk_ok h ht ⟨vx,vy,hv,hs⟩ hr'
 generalize Out (VIt w.heap.size z) z w rb tb lb c o pr=Post at *
 have hL:=hr.lts
 have hne:w.heap.size∉[rb]:=by simp;omega
 have fl1:=fld1
 have fl2:=fld2
 have hok:=hr.tl.ok
 rw[<-nxt_inv hx] at hok
 have hm1:=mustS_of hx hm
 obtain⟨m,hm19⟩:∃ m:Nat,Hid (m=19):=⟨_,rfl⟩
 have zs:∀ w,(sizeOf 53).run Tryz.prog w=.ok m w:=by rw[hm19.out];exact Tryz.sizeOf53
 have zm:(19=m)=True:=eq_true hm19.out.symm
 have Z0:=Box.new w zs19 53
 go_enter Tryz.func48,Tryz.ntmps48
 go_wp2_with fail
 have T0:=tnO (ob:=.cells (zs19).toArray 53) (Turn.refl [rb] w)
 have r0:=hr.onO (ob:=.cells (zs19).toArray 53)
 have Rs0:=Z0
 have zsz:w.heap.size<(w.alloc (.cells (zs19).toArray 53)).heap.size:=by simp
 have hz0:(w.alloc (.cells (zs19).toArray 53)).heap.size=w.heap.size+1:=by simp
 clear Z0
 generalize hW0:w.alloc _=w0 at *
 clear hW0
 clear hz0
 clear hr
 obtain⟨X,hX⟩:∃ X:Array Value,Hid (X=(itC (it0 1 (t0.at_:Int)) (.slice none 0 0) (.slice none 0 0)).toArray):=⟨_,rfl⟩
 have stX:=fun W=>st_it W (X:=X) (by rw[hX.out];rfl) (by rw[hX.out];kernel_rfl)
 unfold zeroI at stX
 have sX:X.size=19:=by rw[hX.out];rfl
 refine Calls.mono (must_c k_metric _ r0) ?_
 rintro e w1 h1
 obtain⟨t1,_,rfl,rfl,r1⟩:=Out.of_ok hm1 h1
 have Rs1:=Rs0.turn t1 hne
 have T1:=tn T0 t1
 have s1:=t1.size
 clear Rs0 T0 r0 h1 t1
 go_wp2_with (refine wpList_it rfl _ _ rfl 1 (t0.at_:Int) rfl rfl X hX.out ?_)
 have t2:=tnO (ob:=.cells X 53) (Turn.refl [rb] w1)
 have r2:=r1.onO (ob:=.cells X 53)
 have Lt2:Box (w1.alloc (.cells X 53)) w1.heap.size (itC (it0 1 (t0.at_:Int)) (.slice none 0 0) (.slice none 0 0)):=by rw[hX.out];exact Box.new w1 _ _
 have hnLt:w1.heap.size∉[rb]:=by simp;omega
 have hxLt:w1.heap.size<(w1.alloc (.cells X 53)).heap.size:=by simp
 have Rs2:=Rs1.turn t2 hne
 have T2:=tn T1 t2
 have s2:=t2.size
 clear Rs1 T1 r1 t2 stX sX
 obtain⟨g,hgg⟩:∃ g:Nat,Hid (g=w1.heap.size):=⟨_,rfl⟩
 have hg1:w.heap.size<g:=by rw[hgg.out];omega
 have hg2:g<(w1.alloc (.cells X 53)).heap.size:=by rw[hgg.out];simp
 rw[<-hgg.out] at Lt2 hnLt hxLt ⊢
 generalize hW2:w1.alloc _=w2 at *
 clear hW2 hX
 rw[metricP] at hpr
 have htl1:=r2.tl
 refine Calls.mono (take_c2 1 (by decide) _ r2) ?_
 rintro e w3 h3
 rcases hy1:takeK c 1 L.tail with f | q
 ·obtain⟨rfl,t3⟩:=Out.of_err hy1 h3
  go_wp2_with fail
  exact⟨rfl,hE.out _ _ (by rw[hpr.out,hy1];rfl) (tn T2 t3)⟩
 obtain⟨t3,_,rfl,rfl,r3⟩:=Out.of_ok hy1 h3
 have Rs3:=Rs2.turn t3 hne
 have Lt3:=Lt2.turn t3 hnLt
 have T3:=tn T2 t3
 have s3:=t3.size
 clear Rs2 Lt2 T2 r2 h3 t3
 have hpr1:Hid (pr=bnd (unitP c q.2) fun u=>.ok (itm 1 q.1.text u.1 0 0 0 nilM nilM t0.at_,u.2)):=by show _=_;rw[hpr.out,hy1];rfl
 simp only[tkW]
 have x0:=Lt3.cell 1 _ rfl
 have xf0:=Lt3.free 1 (by simp)
 have xl:=Lt3.lt
 go_wp2_with fail
 clear x0 xf0
 have t4:=turn_set w3 g 1 (.string q.1.text)
 have r4:=r3.turn1 t4 (by omega)
 have T4:=T3.andSet ⟨g,1,none⟩ (.string q.1.text) (.inr (by show w.heap.size<=g;omega))
 have s4:=t4.size
 have Lt4:Box (w3.setCell ⟨g,1,none⟩ (.string q.1.text)) g (itC ⟨1,q.1.text,⟨#[]⟩,0,0,0,nilM,nilM,(t0.at_:Int)⟩ (.slice none 0 0) (.slice none 0 0)):=Lt3.set 1 (by simp) (.string q.1.text)
 have Rs4:=Rs3.other (q:=g) (j:=1) (v:=.string q.1.text) (by omega)
 clear Rs3 Lt3 T3 r3 t4 xl
 generalize hW4:w3.setCell _ _=w4 at *
 clear hW4
 have htl2:=r4.tl
 refine Calls.mono (unit_c _ r4) ?_
 rintro e w5 h5
 rcases hy2:unitP c q.2 with f | u
 ·obtain⟨rfl,t5⟩:=Out.of_err hy2 h5
  go_wp2_with fail
  exact⟨rfl,hE.out _ _ (by rw[hpr1.out,hy2];rfl) (tn T4 t5)⟩
 obtain⟨t5,_,rfl,rfl,r5⟩:=Out.of_ok hy2 h5
 have Rs5:=Rs4.turn t5 hne
 have Lt5:=Lt4.turn t5 hnLt
 have T5:=tn T4 t5
 have s5:=t5.size
 clear Rs4 Lt4 T4 r4 h5 t5
 have hpr2:Hid (pr=.ok (itm 1 q.1.text u.1 0 0 0 nilM nilM t0.at_,u.2)):=by show _=_;rw[hpr1.out,hy2];rfl
 have x0:=Lt5.cell 2 _ rfl
 have xf0:=Lt5.free 2 (by simp)
 have xl:=Lt5.lt
 go_wp2_with fail
 clear x0 xf0
 have t6:=turn_set w5 g 2 (.string u.1)
 have r6:=r5.turn1 t6 (by omega)
 have T6:=T5.andSet ⟨g,2,none⟩ (.string u.1) (.inr (by show w.heap.size<=g;omega))
 have s6:=t6.size
 have Lt6:Box (w5.setCell ⟨g,2,none⟩ (.string u.1)) g (itC ⟨1,q.1.text,u.1,0,0,0,nilM,nilM,(t0.at_:Int)⟩ (.slice none 0 0) (.slice none 0 0)):=Lt5.set 2 (by simp) (.string u.1)
 have Rs6:=Rs5.other (q:=g) (j:=2) (v:=.string u.1) (by omega)
 clear Rs5 Lt5 T5 r5 t6 xl
 generalize hW6:w5.setCell _ _=w6 at *
 clear hW6
 obtain⟨Y,hY⟩:∃ Y:Array Value,Hid (Y=(itC ⟨1,q.1.text,u.1,0,0,0,nilM,nilM,(t0.at_:Int)⟩ (.slice none 0 0) (.slice none 0 0)).toArray):=⟨_,rfl⟩
 have sY:Y.size=19:=by rw[hY.out];rfl
 have ldY:=ld_row (X:=Y) Lt6 (by rw[hY.out]) (n:=m) hm19.out
 have one0:Y.all (·.oneCell')=true:=by rw[hY.out];kernel_rfl
 have one:∀ v∈Y.toList,v.oneCell'=true:=fun v hv=>Array.all_eq_true_iff_forall_mem.1 one0 v (by simpa using hv)
 have stY:=st_at w.heap.size Y.toList 0 w6 _ Rs6 (by simp[sY]) one
 have TF:=hid2 (putRow_turn w.heap.size Y.toList 0 w6)
 have BF:=putRow_whole Rs6 (X:=Y.toList) (by simp[sY])
 have ldF:=ld_row (X:=Y) BF rfl (n:=m) (by simp[sY,hm19.out])
 have xl:=Lt6.lt
 have pl:=Rs6.lt
 have HT:=hid2 T6
 have HR:=hid2 r6
 clear Lt6 Rs6 T6 r6 BF one one0
 generalize hWF:putRow w6 w.heap.size 0 Y.toList=WF at *
 clear hWF
 go_wp2_with fail
 rw[ldY]
 simp only[Result.andThen_ok]
 go_wp2_with fail
 refine bodyPost_ret (v:=.agg Y) (by simp[results,Tryz.results48,go_sem, *]) rfl (hO.out ⟨1,q.1.text,u.1,0,0,0,nilM,nilM,(t0.at_:Int)⟩ (u.2) _ _ (.slice none 0 0) (.slice none 0 0) (hpr2.out) ?_ (by rw[hY.out]) ⟨nil_sits z _,nil_sits z _,(takeK_tl htl1 hy1 (by decide)).1.x,unit_size htl2 hy2⟩ ?_)
 ·exact HT.out.trans TF.out (fun i hi=>.inr (by simp at hi;omega))
 ·exact HR.out.turn1 TF.out hL
set_option maxHeartbeats 4000000 in
set_option maxRecDepth 20000 in
theorem reps_c {z rb tb lb:Nat}{c:Int}{L:List Tk}{o:Nat}(_hz:z<=9223372036854775807){t0:Tk}(hx:nxt c L=.ok t0)(hm:isT k_reps t0=true)(w:World)(hr:Rea z w rb tb lb c L o):
 Calls Tryz.prog 49 #[.pointer (some ⟨rb,0,none⟩)] w (Out (VIt w.heap.size z) z w rb tb lb c o (repsP c t0.at_ L.tail)):=by
 obtain⟨pr,hpr⟩:∃ pr,Hid (pr=repsP c t0.at_ L.tail):=⟨_,rfl⟩
 rw[<-hpr.out]
 have hE:Hid (∀ f w',pr=.error f->Turn [rb] w w'->Out (VIt w.heap.size z) z w rb tb lb c o pr (.panicked [fltE f]) w'):=fun f w' h ht=>Out.mk_err h ht
 have hO:Hid (∀ i L' w' v vx vy,pr=.ok (i,L')->Turn [rb] w w'->v=itA i vx vy->ItB w.heap.size z w' i vx vy->Rea z w' rb tb lb c L' o->Out (VIt w.heap.size z) z w rb tb lb c o pr (.returned v) w'):=fun i L' w' v vx vy h ht hv hs hr'=>Out.mk_ok h ht ⟨vx,vy,hv,hs⟩ hr'
 generalize Out (VIt w.heap.size z) z w rb tb lb c o pr=Post at *
 have hL:=hr.lts
 have hne:w.heap.size∉[rb]:=by simp;omega
 have fl1:=fld1
 have fl2:=fld2
 have hok:=hr.tl.ok
 rw[<-nxt_inv hx] at hok
 have hm1:=mustS_of hx hm
 obtain⟨m,hm19⟩:∃ m:Nat,Hid (m=19):=⟨_,rfl⟩
 have zs:∀ w,(sizeOf 53).run Tryz.prog w=.ok m w:=by rw[hm19.out];exact Tryz.sizeOf53
 have zm:(19=m)=True:=eq_true hm19.out.symm
 have Z0:=Box.new w zs19 53
 go_enter Tryz.func49,Tryz.ntmps49
 go_wp2_with fail
 have T0:=tnO (ob:=.cells (zs19).toArray 53) (Turn.refl [rb] w)
 have r0:=hr.onO (ob:=.cells (zs19).toArray 53)
 have Rs0:=Z0
 have zsz:w.heap.size<(w.alloc (.cells (zs19).toArray 53)).heap.size:=by simp
 have hz0:(w.alloc (.cells (zs19).toArray 53)).heap.size=w.heap.size+1:=by simp
 clear Z0
 generalize hW0:w.alloc _=w0 at *
 clear hW0
 clear hz0
 clear hr
 obtain⟨X,hX⟩:∃ X:Array Value,Hid (X=(itC (it0 2 (t0.at_:Int)) (.slice none 0 0) (.slice none 0 0)).toArray):=⟨_,rfl⟩
 have stX:=fun W=>st_it W (X:=X) (by rw[hX.out];rfl) (by rw[hX.out];kernel_rfl)
 unfold zeroI at stX
 have sX:X.size=19:=by rw[hX.out];rfl
 refine Calls.mono (must_c k_reps _ r0) ?_
 rintro e w1 h1
 obtain⟨t1,_,rfl,rfl,r1⟩:=Out.of_ok hm1 h1
 have Rs1:=Rs0.turn t1 hne
 have T1:=tn T0 t1
 have s1:=t1.size
 clear Rs0 T0 r0 h1 t1
 go_wp2_with (refine wpList_it rfl _ _ rfl 2 (t0.at_:Int) rfl rfl X hX.out ?_)
 have t2:=tnO (ob:=.cells X 53) (Turn.refl [rb] w1)
 have r2:=r1.onO (ob:=.cells X 53)
 have Lt2:Box (w1.alloc (.cells X 53)) w1.heap.size (itC (it0 2 (t0.at_:Int)) (.slice none 0 0) (.slice none 0 0)):=by rw[hX.out];exact Box.new w1 _ _
 have hnLt:w1.heap.size∉[rb]:=by simp;omega
 have hxLt:w1.heap.size<(w1.alloc (.cells X 53)).heap.size:=by simp
 have Rs2:=Rs1.turn t2 hne
 have T2:=tn T1 t2
 have s2:=t2.size
 clear Rs1 T1 r1 t2 stX sX
 obtain⟨g,hgg⟩:∃ g:Nat,Hid (g=w1.heap.size):=⟨_,rfl⟩
 have hg1:w.heap.size<g:=by rw[hgg.out];omega
 have hg2:g<(w1.alloc (.cells X 53)).heap.size:=by rw[hgg.out];simp
 rw[<-hgg.out] at Lt2 hnLt hxLt ⊢
 generalize hW2:w1.alloc _=w2 at *
 clear hW2 hX
 rw[repsP] at hpr
 refine Calls.mono (take_c2 2 (by decide) _ r2) ?_
 rintro e w3 h3
 rcases hy1:takeK c 2 L.tail with f | q
 ·obtain⟨rfl,t3⟩:=Out.of_err hy1 h3
  go_wp2_with fail
  exact⟨rfl,hE.out _ _ (by rw[hpr.out,hy1];rfl) (tn T2 t3)⟩
 obtain⟨t3,_,rfl,rfl,r3⟩:=Out.of_ok hy1 h3
 have Rs3:=Rs2.turn t3 hne
 have Lt3:=Lt2.turn t3 hnLt
 have T3:=tn T2 t3
 have s3:=t3.size
 clear Rs2 Lt2 T2 r2 h3 t3
 have hpr1:Hid (pr=bnd (mustS c k_dots q.2) fun b=>bnd (takeK c 2 b.2) fun d=>bnd (mayS c k_step d.2) fun s=>if s.1=true then bnd (takeK c 2 s.2) fun e=>.ok (itm 2 noB noB q.1.n d.1.n e.1.n nilM nilM t0.at_,e.2) else .ok (itm 2 noB noB q.1.n d.1.n 0 nilM nilM t0.at_,s.2)):=by show _=_;rw[hpr.out,hy1];rfl
 simp only[tkW]
 have x0:=Lt3.cell 3 _ rfl
 have xf0:=Lt3.free 3 (by simp)
 have xl:=Lt3.lt
 go_wp2_with fail
 clear x0 xf0
 have t4:=turn_set w3 g 3 (.int .i64 q.1.n)
 have r4:=r3.turn1 t4 (by omega)
 have T4:=T3.andSet ⟨g,3,none⟩ (.int .i64 q.1.n) (.inr (by show w.heap.size<=g;omega))
 have s4:=t4.size
 have Lt4:Box (w3.setCell ⟨g,3,none⟩ (.int .i64 q.1.n)) g (itC ⟨2,⟨#[]⟩,⟨#[]⟩,q.1.n,0,0,nilM,nilM,(t0.at_:Int)⟩ (.slice none 0 0) (.slice none 0 0)):=Lt3.set 3 (by simp) (.int .i64 q.1.n)
 have Rs4:=Rs3.other (q:=g) (j:=3) (v:=.int .i64 q.1.n) (by omega)
 clear Rs3 Lt3 T3 r3 t4 xl
 generalize hW4:w3.setCell _ _=w4 at *
 clear hW4
 refine Calls.mono (must_c k_dots _ r4) ?_
 rintro e w5 h5
 rcases hy2:mustS c k_dots q.2 with f | b
 ·obtain⟨rfl,t5⟩:=Out.of_err hy2 h5
  go_wp2_with fail
  exact⟨rfl,hE.out _ _ (by rw[hpr1.out,hy2];rfl) (tn T4 t5)⟩
 obtain⟨t5,_,rfl,rfl,r5⟩:=Out.of_ok hy2 h5
 have Rs5:=Rs4.turn t5 hne
 have Lt5:=Lt4.turn t5 hnLt
 have T5:=tn T4 t5
 have s5:=t5.size
 clear Rs4 Lt4 T4 r4 h5 t5
 have hpr2:Hid (pr=bnd (takeK c 2 b.2) fun d=>bnd (mayS c k_step d.2) fun s=>if s.1=true then bnd (takeK c 2 s.2) fun e=>.ok (itm 2 noB noB q.1.n d.1.n e.1.n nilM nilM t0.at_,e.2) else .ok (itm 2 noB noB q.1.n d.1.n 0 nilM nilM t0.at_,s.2)):=by show _=_;rw[hpr1.out,hy2];rfl
 go_wp2_with fail
 refine Calls.mono (take_c2 2 (by decide) _ r5) ?_
 rintro e w6 h6
 rcases hy3:takeK c 2 b.2 with f | d
 ·obtain⟨rfl,t6⟩:=Out.of_err hy3 h6
  go_wp2_with fail
  exact⟨rfl,hE.out _ _ (by rw[hpr2.out,hy3];rfl) (tn T5 t6)⟩
 obtain⟨t6,_,rfl,rfl,r6⟩:=Out.of_ok hy3 h6
 have Rs6:=Rs5.turn t6 hne
 have Lt6:=Lt5.turn t6 hnLt
 have T6:=tn T5 t6
 have s6:=t6.size
 clear Rs5 Lt5 T5 r5 h6 t6
 have hpr3:Hid (pr=bnd (mayS c k_step d.2) fun s=>if s.1=true then bnd (takeK c 2 s.2) fun e=>.ok (itm 2 noB noB q.1.n d.1.n e.1.n nilM nilM t0.at_,e.2) else .ok (itm 2 noB noB q.1.n d.1.n 0 nilM nilM t0.at_,s.2)):=by show _=_;rw[hpr2.out,hy3];rfl
 simp only[tkW]
 have x0:=Lt6.cell 4 _ rfl
 have xf0:=Lt6.free 4 (by simp)
 have xl:=Lt6.lt
 go_wp2_with fail
 clear x0 xf0
 have t7:=turn_set w6 g 4 (.int .i64 d.1.n)
 have r7:=r6.turn1 t7 (by omega)
 have T7:=T6.andSet ⟨g,4,none⟩ (.int .i64 d.1.n) (.inr (by show w.heap.size<=g;omega))
 have s7:=t7.size
 have Lt7:Box (w6.setCell ⟨g,4,none⟩ (.int .i64 d.1.n)) g (itC ⟨2,⟨#[]⟩,⟨#[]⟩,q.1.n,d.1.n,0,nilM,nilM,(t0.at_:Int)⟩ (.slice none 0 0) (.slice none 0 0)):=Lt6.set 4 (by simp) (.int .i64 d.1.n)
 have Rs7:=Rs6.other (q:=g) (j:=4) (v:=.int .i64 d.1.n) (by omega)
 clear Rs6 Lt6 T6 r6 t7 xl
 generalize hW7:w6.setCell _ _=w7 at *
 clear hW7
 refine Calls.mono (may_c k_step _ r7) ?_
 rintro e w8 h8
 rcases hy4:mayS c k_step d.2 with f | st
 ·obtain⟨rfl,t8⟩:=Out.of_err hy4 h8
  go_wp2_with fail
  exact⟨rfl,hE.out _ _ (by rw[hpr3.out,hy4];rfl) (tn T7 t8)⟩
 obtain⟨t8,_,rfl,rfl,r8⟩:=Out.of_ok hy4 h8
 have Rs8:=Rs7.turn t8 hne
 have Lt8:=Lt7.turn t8 hnLt
 have T8:=tn T7 t8
 have s8:=t8.size
 clear Rs7 Lt7 T7 r7 h8 t8
 have hpr4:Hid (pr=if st.1=true then bnd (takeK c 2 st.2) fun e=>.ok (itm 2 noB noB q.1.n d.1.n e.1.n nilM nilM t0.at_,e.2) else .ok (itm 2 noB noB q.1.n d.1.n 0 nilM nilM t0.at_,st.2)):=by show _=_;rw[hpr3.out,hy4];rfl
 obtain⟨sb,Ls⟩:=st
 cases sb
 ·have hprn:Hid (pr=.ok (itm 2 noB noB q.1.n d.1.n 0 nilM nilM t0.at_,Ls)):=hpr4.out
  go_wp2_with fail
  obtain⟨Y,hY⟩:∃ Y:Array Value,Hid (Y=(itC ⟨2,⟨#[]⟩,⟨#[]⟩,q.1.n,d.1.n,0,nilM,nilM,(t0.at_:Int)⟩ (.slice none 0 0) (.slice none 0 0)).toArray):=⟨_,rfl⟩
  have sY:Y.size=19:=by rw[hY.out];rfl
  have ldY:=ld_row (X:=Y) Lt8 (by rw[hY.out]) (n:=m) hm19.out
  have one0:Y.all (·.oneCell')=true:=by rw[hY.out];kernel_rfl
  have one:∀ v∈Y.toList,v.oneCell'=true:=fun v hv=>Array.all_eq_true_iff_forall_mem.1 one0 v (by simpa using hv)
  have stY:=st_at w.heap.size Y.toList 0 w8 _ Rs8 (by simp[sY]) one
  have TF:=hid2 (putRow_turn w.heap.size Y.toList 0 w8)
  have BF:=putRow_whole Rs8 (X:=Y.toList) (by simp[sY])
  have ldF:=ld_row (X:=Y) BF rfl (n:=m) (by simp[sY,hm19.out])
  have xl:=Lt8.lt
  have pl:=Rs8.lt
  have HT:=hid2 T8
  have HR:=hid2 r8
  clear Lt8 Rs8 T8 r8 BF one one0
  generalize hWF:putRow w8 w.heap.size 0 Y.toList=WF at *
  clear hWF
  go_wp2_with fail
  rw[ldY]
  simp only[Result.andThen_ok]
  go_wp2_with fail
  refine bodyPost_ret (v:=.agg Y) (by simp[results,Tryz.results49,go_sem, *]) rfl (hO.out ⟨2,⟨#[]⟩,⟨#[]⟩,q.1.n,d.1.n,0,nilM,nilM,(t0.at_:Int)⟩ (Ls) _ _ (.slice none 0 0) (.slice none 0 0) (hprn.out) ?_ (by rw[hY.out]) ⟨nil_sits z _,nil_sits z _,Nat.zero_le _,Nat.zero_le _⟩ ?_)
  ·exact HT.out.trans TF.out (fun i hi=>.inr (by simp at hi;omega))
  ·exact HR.out.turn1 TF.out hL
 ·have hprn:Hid (pr=bnd (takeK c 2 Ls) fun e=>.ok (itm 2 noB noB q.1.n d.1.n e.1.n nilM nilM t0.at_,e.2)):=hpr4.out
  go_wp2_with fail
  refine Calls.mono (take_c2 2 (by decide) _ r8) ?_
  rintro e w9 h9
  rcases hy5:takeK c 2 Ls with f | e1
  ·obtain⟨rfl,t9⟩:=Out.of_err hy5 h9
   go_wp2_with fail
   exact⟨rfl,hE.out _ _ (by rw[hprn.out,hy5];rfl) (tn T8 t9)⟩
  obtain⟨t9,_,rfl,rfl,r9⟩:=Out.of_ok hy5 h9
  have Rs9:=Rs8.turn t9 hne
  have Lt9:=Lt8.turn t9 hnLt
  have T9:=tn T8 t9
  have s9:=t9.size
  clear Rs8 Lt8 T8 r8 h9 t9
  have hpr5:Hid (pr=.ok (itm 2 noB noB q.1.n d.1.n e1.1.n nilM nilM t0.at_,e1.2)):=by show _=_;rw[hprn.out,hy5];rfl
  simp only[tkW]
  have x0:=Lt9.cell 5 _ rfl
  have xf0:=Lt9.free 5 (by simp)
  have xl:=Lt9.lt
  go_wp2_with fail
  clear x0 xf0
  have t10:=turn_set w9 g 5 (.int .i64 e1.1.n)
  have r10:=r9.turn1 t10 (by omega)
  have T10:=T9.andSet ⟨g,5,none⟩ (.int .i64 e1.1.n) (.inr (by show w.heap.size<=g;omega))
  have s10:=t10.size
  have Lt10:Box (w9.setCell ⟨g,5,none⟩ (.int .i64 e1.1.n)) g (itC ⟨2,⟨#[]⟩,⟨#[]⟩,q.1.n,d.1.n,e1.1.n,nilM,nilM,(t0.at_:Int)⟩ (.slice none 0 0) (.slice none 0 0)):=Lt9.set 5 (by simp) (.int .i64 e1.1.n)
  have Rs10:=Rs9.other (q:=g) (j:=5) (v:=.int .i64 e1.1.n) (by omega)
  clear Rs9 Lt9 T9 r9 t10 xl
  generalize hW10:w9.setCell _ _=w10 at *
  clear hW10
  obtain⟨Y,hY⟩:∃ Y:Array Value,Hid (Y=(itC ⟨2,⟨#[]⟩,⟨#[]⟩,q.1.n,d.1.n,e1.1.n,nilM,nilM,(t0.at_:Int)⟩ (.slice none 0 0) (.slice none 0 0)).toArray):=⟨_,rfl⟩
  have sY:Y.size=19:=by rw[hY.out];rfl
  have ldY:=ld_row (X:=Y) Lt10 (by rw[hY.out]) (n:=m) hm19.out
  have one0:Y.all (·.oneCell')=true:=by rw[hY.out];kernel_rfl
  have one:∀ v∈Y.toList,v.oneCell'=true:=fun v hv=>Array.all_eq_true_iff_forall_mem.1 one0 v (by simpa using hv)
  have stY:=st_at w.heap.size Y.toList 0 w10 _ Rs10 (by simp[sY]) one
  have TF:=hid2 (putRow_turn w.heap.size Y.toList 0 w10)
  have BF:=putRow_whole Rs10 (X:=Y.toList) (by simp[sY])
  have ldF:=ld_row (X:=Y) BF rfl (n:=m) (by simp[sY,hm19.out])
  have xl:=Lt10.lt
  have pl:=Rs10.lt
  have HT:=hid2 T10
  have HR:=hid2 r10
  clear Lt10 Rs10 T10 r10 BF one one0
  generalize hWF:putRow w10 w.heap.size 0 Y.toList=WF at *
  clear hWF
  go_wp2_with fail
  rw[ldY]
  simp only[Result.andThen_ok]
  go_wp2_with fail
  refine bodyPost_ret (v:=.agg Y) (by simp[results,Tryz.results49,go_sem, *]) rfl (hO.out ⟨2,⟨#[]⟩,⟨#[]⟩,q.1.n,d.1.n,e1.1.n,nilM,nilM,(t0.at_:Int)⟩ (e1.2) _ _ (.slice none 0 0) (.slice none 0 0) (hpr5.out) ?_ (by rw[hY.out]) ⟨nil_sits z _,nil_sits z _,Nat.zero_le _,Nat.zero_le _⟩ ?_)
  ·exact HT.out.trans TF.out (fun i hi=>.inr (by simp at hi;omega))
  ·exact HR.out.turn1 TF.out hL
set_option maxHeartbeats 4000000 in
set_option maxRecDepth 20000 in
theorem cool_c {z rb tb lb:Nat}{c:Int}{L:List Tk}{o:Nat}(_hz:z<=9223372036854775807){t0:Tk}(hx:nxt c L=.ok t0)(hm:isT k_cooldown t0=true)(w:World)(hr:Rea z w rb tb lb c L o):
 Calls Tryz.prog 50 #[.pointer (some ⟨rb,0,none⟩)] w (Out (VIt w.heap.size z) z w rb tb lb c o (coolP c t0.at_ L.tail)):=by
 obtain⟨pr,hpr⟩:∃ pr,Hid (pr=coolP c t0.at_ L.tail):=⟨_,rfl⟩
 rw[<-hpr.out]
 have hE:Hid (∀ f w',pr=.error f->Turn [rb] w w'->Out (VIt w.heap.size z) z w rb tb lb c o pr (.panicked [fltE f]) w'):=fun f w' h ht=>Out.mk_err h ht
 have hO:Hid (∀ i L' w' v vx vy,pr=.ok (i,L')->Turn [rb] w w'->v=itA i vx vy->ItB w.heap.size z w' i vx vy->Rea z w' rb tb lb c L' o->Out (VIt w.heap.size z) z w rb tb lb c o pr (.returned v) w'):=fun i L' w' v vx vy h ht hv hs hr'=>Out.mk_ok h ht ⟨vx,vy,hv,hs⟩ hr'
 generalize Out (VIt w.heap.size z) z w rb tb lb c o pr=Post at *
 have hL:=hr.lts
 have hne:w.heap.size∉[rb]:=by simp;omega
 have fl1:=fld1
 have fl2:=fld2
 have hok:=hr.tl.ok
 rw[<-nxt_inv hx] at hok
 have hm1:=mustS_of hx hm
 obtain⟨m,hm19⟩:∃ m:Nat,Hid (m=19):=⟨_,rfl⟩
 have zs:∀ w,(sizeOf 53).run Tryz.prog w=.ok m w:=by rw[hm19.out];exact Tryz.sizeOf53
 have zm:(19=m)=True:=eq_true hm19.out.symm
 have Z0:=Box.new w zs19 53
 go_enter Tryz.func50,Tryz.ntmps50
 go_wp2_with fail
 have T0:=tnO (ob:=.cells (zs19).toArray 53) (Turn.refl [rb] w)
 have r0:=hr.onO (ob:=.cells (zs19).toArray 53)
 have Rs0:=Z0
 have zsz:w.heap.size<(w.alloc (.cells (zs19).toArray 53)).heap.size:=by simp
 have hz0:(w.alloc (.cells (zs19).toArray 53)).heap.size=w.heap.size+1:=by simp
 clear Z0
 generalize hW0:w.alloc _=w0 at *
 clear hW0
 clear hz0
 clear hr
 obtain⟨X,hX⟩:∃ X:Array Value,Hid (X=(itC (it0 3 (t0.at_:Int)) (.slice none 0 0) (.slice none 0 0)).toArray):=⟨_,rfl⟩
 have stX:=fun W=>st_it W (X:=X) (by rw[hX.out];rfl) (by rw[hX.out];kernel_rfl)
 unfold zeroI at stX
 have sX:X.size=19:=by rw[hX.out];rfl
 refine Calls.mono (must_c k_cooldown _ r0) ?_
 rintro e w1 h1
 obtain⟨t1,_,rfl,rfl,r1⟩:=Out.of_ok hm1 h1
 have Rs1:=Rs0.turn t1 hne
 have T1:=tn T0 t1
 have s1:=t1.size
 clear Rs0 T0 r0 h1 t1
 go_wp2_with (refine wpList_it rfl _ _ rfl 3 (t0.at_:Int) rfl rfl X hX.out ?_)
 have t2:=tnO (ob:=.cells X 53) (Turn.refl [rb] w1)
 have r2:=r1.onO (ob:=.cells X 53)
 have Lt2:Box (w1.alloc (.cells X 53)) w1.heap.size (itC (it0 3 (t0.at_:Int)) (.slice none 0 0) (.slice none 0 0)):=by rw[hX.out];exact Box.new w1 _ _
 have hnLt:w1.heap.size∉[rb]:=by simp;omega
 have hxLt:w1.heap.size<(w1.alloc (.cells X 53)).heap.size:=by simp
 have Rs2:=Rs1.turn t2 hne
 have T2:=tn T1 t2
 have s2:=t2.size
 clear Rs1 T1 r1 t2 stX sX
 obtain⟨g,hgg⟩:∃ g:Nat,Hid (g=w1.heap.size):=⟨_,rfl⟩
 have hg1:w.heap.size<g:=by rw[hgg.out];omega
 have hg2:g<(w1.alloc (.cells X 53)).heap.size:=by rw[hgg.out];simp
 rw[<-hgg.out] at Lt2 hnLt hxLt ⊢
 generalize hW2:w1.alloc _=w2 at *
 clear hW2 hX
 rw[coolP] at hpr
 refine Calls.mono (may_c k_up _ r2) ?_
 rintro e w3 h3
 rcases hy1:mayS c k_up L.tail with f | st
 ·obtain⟨rfl,t3⟩:=Out.of_err hy1 h3
  go_wp2_with fail
  exact⟨rfl,hE.out _ _ (by rw[hpr.out,hy1];rfl) (tn T2 t3)⟩
 obtain⟨t3,_,rfl,rfl,r3⟩:=Out.of_ok hy1 h3
 have Rs3:=Rs2.turn t3 hne
 have Lt3:=Lt2.turn t3 hnLt
 have T3:=tn T2 t3
 have s3:=t3.size
 clear Rs2 Lt2 T2 r2 h3 t3
 have hpr1:Hid (pr=if st.1=true then bnd (takeK c 3 st.2) fun t=>.ok (itm 3 noB noB t.1.n 0 0 nilM nilM t0.at_,t.2) else bnd (mustS c k_down st.2) fun b=>bnd (takeK c 3 b.2) fun t=>.ok (itm 4 noB noB t.1.n 0 0 nilM nilM t0.at_,t.2)):=by show _=_;rw[hpr.out,hy1];rfl
 obtain⟨sb,Ls⟩:=st
 cases sb
 ·have hprn:Hid (pr=bnd (mustS c k_down Ls) fun b=>bnd (takeK c 3 b.2) fun t=>.ok (itm 4 noB noB t.1.n 0 0 nilM nilM t0.at_,t.2)):=hpr1.out
  go_wp2_with fail
  refine Calls.mono (must_c k_down _ r3) ?_
  rintro e w4 h4
  rcases hy2:mustS c k_down Ls with f | b
  ·obtain⟨rfl,t4⟩:=Out.of_err hy2 h4
   go_wp2_with fail
   exact⟨rfl,hE.out _ _ (by rw[hprn.out,hy2];rfl) (tn T3 t4)⟩
  obtain⟨t4,_,rfl,rfl,r4⟩:=Out.of_ok hy2 h4
  have Rs4:=Rs3.turn t4 hne
  have Lt4:=Lt3.turn t4 hnLt
  have T4:=tn T3 t4
  have s4:=t4.size
  clear Rs3 Lt3 T3 r3 h4 t4
  have hpr2:Hid (pr=bnd (takeK c 3 b.2) fun t=>.ok (itm 4 noB noB t.1.n 0 0 nilM nilM t0.at_,t.2)):=by show _=_;rw[hprn.out,hy2];rfl
  have x0:=Lt4.cell 0 _ rfl
  have xf0:=Lt4.free 0 (by simp)
  have xl:=Lt4.lt
  go_wp2_with fail
  clear x0 xf0
  have t5:=turn_set w4 g 0 (.int .i64 4)
  have r5:=r4.turn1 t5 (by omega)
  have T5:=T4.andSet ⟨g,0,none⟩ (.int .i64 4) (.inr (by show w.heap.size<=g;omega))
  have s5:=t5.size
  have Lt5:Box (w4.setCell ⟨g,0,none⟩ (.int .i64 4)) g (itC ⟨4,⟨#[]⟩,⟨#[]⟩,0,0,0,nilM,nilM,(t0.at_:Int)⟩ (.slice none 0 0) (.slice none 0 0)):=Lt4.set 0 (by simp) (.int .i64 4)
  have Rs5:=Rs4.other (q:=g) (j:=0) (v:=.int .i64 4) (by omega)
  clear Rs4 Lt4 T4 r4 t5 xl
  generalize hW5:w4.setCell _ _=w5 at *
  clear hW5
  refine Calls.mono (take_c2 3 (by decide) _ r5) ?_
  rintro e w6 h6
  rcases hy3:takeK c 3 b.2 with f | q
  ·obtain⟨rfl,t6⟩:=Out.of_err hy3 h6
   go_wp2_with fail
   exact⟨rfl,hE.out _ _ (by rw[hpr2.out,hy3];rfl) (tn T5 t6)⟩
  obtain⟨t6,_,rfl,rfl,r6⟩:=Out.of_ok hy3 h6
  have Rs6:=Rs5.turn t6 hne
  have Lt6:=Lt5.turn t6 hnLt
  have T6:=tn T5 t6
  have s6:=t6.size
  clear Rs5 Lt5 T5 r5 h6 t6
  have hpr3:Hid (pr=.ok (itm 4 noB noB q.1.n 0 0 nilM nilM t0.at_,q.2)):=by show _=_;rw[hpr2.out,hy3];rfl
  simp only[tkW]
  have x0:=Lt6.cell 3 _ rfl
  have xf0:=Lt6.free 3 (by simp)
  have xl:=Lt6.lt
  go_wp2_with fail
  clear x0 xf0
  have t7:=turn_set w6 g 3 (.int .i64 q.1.n)
  have r7:=r6.turn1 t7 (by omega)
  have T7:=T6.andSet ⟨g,3,none⟩ (.int .i64 q.1.n) (.inr (by show w.heap.size<=g;omega))
  have s7:=t7.size
  have Lt7:Box (w6.setCell ⟨g,3,none⟩ (.int .i64 q.1.n)) g (itC ⟨4,⟨#[]⟩,⟨#[]⟩,q.1.n,0,0,nilM,nilM,(t0.at_:Int)⟩ (.slice none 0 0) (.slice none 0 0)):=Lt6.set 3 (by simp) (.int .i64 q.1.n)
  have Rs7:=Rs6.other (q:=g) (j:=3) (v:=.int .i64 q.1.n) (by omega)
  clear Rs6 Lt6 T6 r6 t7 xl
  generalize hW7:w6.setCell _ _=w7 at *
  clear hW7
  obtain⟨Y,hY⟩:∃ Y:Array Value,Hid (Y=(itC ⟨4,⟨#[]⟩,⟨#[]⟩,q.1.n,0,0,nilM,nilM,(t0.at_:Int)⟩ (.slice none 0 0) (.slice none 0 0)).toArray):=⟨_,rfl⟩
  have sY:Y.size=19:=by rw[hY.out];rfl
  have ldY:=ld_row (X:=Y) Lt7 (by rw[hY.out]) (n:=m) hm19.out
  have one0:Y.all (·.oneCell')=true:=by rw[hY.out];kernel_rfl
  have one:∀ v∈Y.toList,v.oneCell'=true:=fun v hv=>Array.all_eq_true_iff_forall_mem.1 one0 v (by simpa using hv)
  have stY:=st_at w.heap.size Y.toList 0 w7 _ Rs7 (by simp[sY]) one
  have TF:=hid2 (putRow_turn w.heap.size Y.toList 0 w7)
  have BF:=putRow_whole Rs7 (X:=Y.toList) (by simp[sY])
  have ldF:=ld_row (X:=Y) BF rfl (n:=m) (by simp[sY,hm19.out])
  have xl:=Lt7.lt
  have pl:=Rs7.lt
  have HT:=hid2 T7
  have HR:=hid2 r7
  clear Lt7 Rs7 T7 r7 BF one one0
  generalize hWF:putRow w7 w.heap.size 0 Y.toList=WF at *
  clear hWF
  go_wp2_with fail
  rw[ldY]
  simp only[Result.andThen_ok]
  go_wp2_with fail
  refine bodyPost_ret (v:=.agg Y) (by simp[results,Tryz.results50,go_sem, *]) rfl (hO.out ⟨4,⟨#[]⟩,⟨#[]⟩,q.1.n,0,0,nilM,nilM,(t0.at_:Int)⟩ (q.2) _ _ (.slice none 0 0) (.slice none 0 0) (hpr3.out) ?_ (by rw[hY.out]) ⟨nil_sits z _,nil_sits z _,Nat.zero_le _,Nat.zero_le _⟩ ?_)
  ·exact HT.out.trans TF.out (fun i hi=>.inr (by simp at hi;omega))
  ·exact HR.out.turn1 TF.out hL
 ·have hprn:Hid (pr=bnd (takeK c 3 Ls) fun t=>.ok (itm 3 noB noB t.1.n 0 0 nilM nilM t0.at_,t.2)):=hpr1.out
  go_wp2_with fail
  refine Calls.mono (take_c2 3 (by decide) _ r3) ?_
  rintro e w4 h4
  rcases hy2:takeK c 3 Ls with f | q
  ·obtain⟨rfl,t4⟩:=Out.of_err hy2 h4
   go_wp2_with fail
   exact⟨rfl,hE.out _ _ (by rw[hprn.out,hy2];rfl) (tn T3 t4)⟩
  obtain⟨t4,_,rfl,rfl,r4⟩:=Out.of_ok hy2 h4
  have Rs4:=Rs3.turn t4 hne
  have Lt4:=Lt3.turn t4 hnLt
  have T4:=tn T3 t4
  have s4:=t4.size
  clear Rs3 Lt3 T3 r3 h4 t4
  have hpr2:Hid (pr=.ok (itm 3 noB noB q.1.n 0 0 nilM nilM t0.at_,q.2)):=by show _=_;rw[hprn.out,hy2];rfl
  simp only[tkW]
  have x0:=Lt4.cell 3 _ rfl
  have xf0:=Lt4.free 3 (by simp)
  have xl:=Lt4.lt
  go_wp2_with fail
  clear x0 xf0
  have t5:=turn_set w4 g 3 (.int .i64 q.1.n)
  have r5:=r4.turn1 t5 (by omega)
  have T5:=T4.andSet ⟨g,3,none⟩ (.int .i64 q.1.n) (.inr (by show w.heap.size<=g;omega))
  have s5:=t5.size
  have Lt5:Box (w4.setCell ⟨g,3,none⟩ (.int .i64 q.1.n)) g (itC ⟨3,⟨#[]⟩,⟨#[]⟩,q.1.n,0,0,nilM,nilM,(t0.at_:Int)⟩ (.slice none 0 0) (.slice none 0 0)):=Lt4.set 3 (by simp) (.int .i64 q.1.n)
  have Rs5:=Rs4.other (q:=g) (j:=3) (v:=.int .i64 q.1.n) (by omega)
  clear Rs4 Lt4 T4 r4 t5 xl
  generalize hW5:w4.setCell _ _=w5 at *
  clear hW5
  obtain⟨Y,hY⟩:∃ Y:Array Value,Hid (Y=(itC ⟨3,⟨#[]⟩,⟨#[]⟩,q.1.n,0,0,nilM,nilM,(t0.at_:Int)⟩ (.slice none 0 0) (.slice none 0 0)).toArray):=⟨_,rfl⟩
  have sY:Y.size=19:=by rw[hY.out];rfl
  have ldY:=ld_row (X:=Y) Lt5 (by rw[hY.out]) (n:=m) hm19.out
  have one0:Y.all (·.oneCell')=true:=by rw[hY.out];kernel_rfl
  have one:∀ v∈Y.toList,v.oneCell'=true:=fun v hv=>Array.all_eq_true_iff_forall_mem.1 one0 v (by simpa using hv)
  have stY:=st_at w.heap.size Y.toList 0 w5 _ Rs5 (by simp[sY]) one
  have TF:=hid2 (putRow_turn w.heap.size Y.toList 0 w5)
  have BF:=putRow_whole Rs5 (X:=Y.toList) (by simp[sY])
  have ldF:=ld_row (X:=Y) BF rfl (n:=m) (by simp[sY,hm19.out])
  have xl:=Lt5.lt
  have pl:=Rs5.lt
  have HT:=hid2 T5
  have HR:=hid2 r5
  clear Lt5 Rs5 T5 r5 BF one one0
  generalize hWF:putRow w5 w.heap.size 0 Y.toList=WF at *
  clear hWF
  go_wp2_with fail
  rw[ldY]
  simp only[Result.andThen_ok]
  go_wp2_with fail
  refine bodyPost_ret (v:=.agg Y) (by simp[results,Tryz.results50,go_sem, *]) rfl (hO.out ⟨3,⟨#[]⟩,⟨#[]⟩,q.1.n,0,0,nilM,nilM,(t0.at_:Int)⟩ (q.2) _ _ (.slice none 0 0) (.slice none 0 0) (hpr2.out) ?_ (by rw[hY.out]) ⟨nil_sits z _,nil_sits z _,Nat.zero_le _,Nat.zero_le _⟩ ?_)
  ·exact HT.out.trans TF.out (fun i hi=>.inr (by simp at hi;omega))
  ·exact HR.out.turn1 TF.out hL
set_option maxHeartbeats 4000000 in
set_option maxRecDepth 20000 in
theorem let_c {z rb tb lb:Nat}{c:Int}{L:List Tk}{o:Nat}(_hz:z<=9223372036854775807){E:Ps}(HE:ExC z rb tb lb c o 21 E){t0:Tk}(hx:nxt c L=.ok t0)(hm:isT k_let t0=true)(w:World)(hr:Rea z w rb tb lb c L o):
 Calls Tryz.prog 51 #[.pointer (some ⟨rb,0,none⟩)] w (Out (VIt w.heap.size z) z w rb tb lb c o (letP c E t0.at_ L.tail)):=by
 obtain⟨pr,hpr⟩:∃ pr,Hid (pr=letP c E t0.at_ L.tail):=⟨_,rfl⟩
 rw[<-hpr.out]
 have hE:Hid (∀ f w',pr=.error f->Turn [rb] w w'->Out (VIt w.heap.size z) z w rb tb lb c o pr (.panicked [fltE f]) w'):=fun f w' h ht=>Out.mk_err h ht
 have hO:Hid (∀ i L' w' v vx vy,pr=.ok (i,L')->Turn [rb] w w'->v=itA i vx vy->ItB w.heap.size z w' i vx vy->Rea z w' rb tb lb c L' o->Out (VIt w.heap.size z) z w rb tb lb c o pr (.returned v) w'):=fun i L' w' v vx vy h ht hv hs hr'=>Out.mk_ok h ht ⟨vx,vy,hv,hs⟩ hr'
 generalize Out (VIt w.heap.size z) z w rb tb lb c o pr=Post at *
 have hL:=hr.lts
 have hne:w.heap.size∉[rb]:=by simp;omega
 have fl1:=fld1
 have fl2:=fld2
 have hok:=hr.tl.ok
 rw[<-nxt_inv hx] at hok
 have hm1:=mustS_of hx hm
 obtain⟨m,hm19⟩:∃ m:Nat,Hid (m=19):=⟨_,rfl⟩
 have zs:∀ w,(sizeOf 53).run Tryz.prog w=.ok m w:=by rw[hm19.out];exact Tryz.sizeOf53
 have zm:(19=m)=True:=eq_true hm19.out.symm
 have Z0:=Box.new w zs19 53
 go_enter Tryz.func51,Tryz.ntmps51
 go_wp2_with fail
 have T0:=tnO (ob:=.cells (zs19).toArray 53) (Turn.refl [rb] w)
 have r0:=hr.onO (ob:=.cells (zs19).toArray 53)
 have Rs0:=Z0
 have zsz:w.heap.size<(w.alloc (.cells (zs19).toArray 53)).heap.size:=by simp
 have hz0:(w.alloc (.cells (zs19).toArray 53)).heap.size=w.heap.size+1:=by simp
 clear Z0
 generalize hW0:w.alloc _=w0 at *
 clear hW0
 clear hz0
 clear hr
 obtain⟨X,hX⟩:∃ X:Array Value,Hid (X=(itC (it0 5 (t0.at_:Int)) (.slice none 0 0) (.slice none 0 0)).toArray):=⟨_,rfl⟩
 have stX:=fun W=>st_it W (X:=X) (by rw[hX.out];rfl) (by rw[hX.out];kernel_rfl)
 unfold zeroI at stX
 have sX:X.size=19:=by rw[hX.out];rfl
 refine Calls.mono (must_c k_let _ r0) ?_
 rintro e w1 h1
 obtain⟨t1,_,rfl,rfl,r1⟩:=Out.of_ok hm1 h1
 have Rs1:=Rs0.turn t1 hne
 have T1:=tn T0 t1
 have s1:=t1.size
 clear Rs0 T0 r0 h1 t1
 go_wp2_with (refine wpList_it rfl _ _ rfl 5 (t0.at_:Int) rfl rfl X hX.out ?_)
 have t2:=tnO (ob:=.cells X 53) (Turn.refl [rb] w1)
 have r2:=r1.onO (ob:=.cells X 53)
 have Lt2:Box (w1.alloc (.cells X 53)) w1.heap.size (itC (it0 5 (t0.at_:Int)) (.slice none 0 0) (.slice none 0 0)):=by rw[hX.out];exact Box.new w1 _ _
 have hnLt:w1.heap.size∉[rb]:=by simp;omega
 have hxLt:w1.heap.size<(w1.alloc (.cells X 53)).heap.size:=by simp
 have Rs2:=Rs1.turn t2 hne
 have T2:=tn T1 t2
 have s2:=t2.size
 clear Rs1 T1 r1 t2 stX sX
 obtain⟨g,hgg⟩:∃ g:Nat,Hid (g=w1.heap.size):=⟨_,rfl⟩
 have hg1:w.heap.size<g:=by rw[hgg.out];omega
 have hg2:g<(w1.alloc (.cells X 53)).heap.size:=by rw[hgg.out];simp
 rw[<-hgg.out] at Lt2 hnLt hxLt ⊢
 generalize hW2:w1.alloc _=w2 at *
 clear hW2 hX
 rw[letP] at hpr
 have htl1:=r2.tl
 refine Calls.mono (take_c2 1 (by decide) _ r2) ?_
 rintro e w3 h3
 rcases hy1:takeK c 1 L.tail with f | q
 ·obtain⟨rfl,t3⟩:=Out.of_err hy1 h3
  go_wp2_with fail
  exact⟨rfl,hE.out _ _ (by rw[hpr.out,hy1];rfl) (tn T2 t3)⟩
 obtain⟨t3,_,rfl,rfl,r3⟩:=Out.of_ok hy1 h3
 have Rs3:=Rs2.turn t3 hne
 have Lt3:=Lt2.turn t3 hnLt
 have T3:=tn T2 t3
 have s3:=t3.size
 clear Rs2 Lt2 T2 r2 h3 t3
 have hpr1:Hid (pr=bnd (mustS c k_eq q.2) fun b=>bnd (E b.2) fun y=>.ok (itm 5 q.1.text noB 0 0 0 y.1 nilM t0.at_,y.2)):=by show _=_;rw[hpr.out,hy1];rfl
 simp only[tkW]
 have x0:=Lt3.cell 1 _ rfl
 have xf0:=Lt3.free 1 (by simp)
 have xl:=Lt3.lt
 go_wp2_with fail
 clear x0 xf0
 have t4:=turn_set w3 g 1 (.string q.1.text)
 have r4:=r3.turn1 t4 (by omega)
 have T4:=T3.andSet ⟨g,1,none⟩ (.string q.1.text) (.inr (by show w.heap.size<=g;omega))
 have s4:=t4.size
 have Lt4:Box (w3.setCell ⟨g,1,none⟩ (.string q.1.text)) g (itC ⟨5,q.1.text,⟨#[]⟩,0,0,0,nilM,nilM,(t0.at_:Int)⟩ (.slice none 0 0) (.slice none 0 0)):=Lt3.set 1 (by simp) (.string q.1.text)
 have Rs4:=Rs3.other (q:=g) (j:=1) (v:=.string q.1.text) (by omega)
 clear Rs3 Lt3 T3 r3 t4 xl
 generalize hW4:w3.setCell _ _=w4 at *
 clear hW4
 refine Calls.mono (must_c k_eq _ r4) ?_
 rintro e w5 h5
 rcases hy2:mustS c k_eq q.2 with f | b
 ·obtain⟨rfl,t5⟩:=Out.of_err hy2 h5
  go_wp2_with fail
  exact⟨rfl,hE.out _ _ (by rw[hpr1.out,hy2];rfl) (tn T4 t5)⟩
 obtain⟨t5,_,rfl,rfl,r5⟩:=Out.of_ok hy2 h5
 have Rs5:=Rs4.turn t5 hne
 have Lt5:=Lt4.turn t5 hnLt
 have T5:=tn T4 t5
 have s5:=t5.size
 clear Rs4 Lt4 T4 r4 h5 t5
 have hpr2:Hid (pr=bnd (E b.2) fun y=>.ok (itm 5 q.1.text noB 0 0 0 y.1 nilM t0.at_,y.2)):=by show _=_;rw[hpr1.out,hy2];rfl
 go_wp2_with fail
 refine Calls.mono (HE _ _ r5) ?_
 rintro e w6 h6
 rcases hy3:E b.2 with f | y
 ·obtain⟨rfl,t6⟩:=Out.of_err hy3 h6
  go_wp2_with fail
  exact⟨rfl,hE.out _ _ (by rw[hpr2.out,hy3];rfl) (tn T5 t6)⟩
 obtain⟨t6,_,rfl,⟨u6,rfl,S6⟩,r6⟩:=Out.of_ok hy3 h6
 have Rs6:=Rs5.turn t6 hne
 have Lt6:=Lt5.turn t6 hnLt
 have T6:=tn T5 t6
 have s6:=t6.size
 clear Rs5 Lt5 T5 r5 h6 t6
 have hpr3:Hid (pr=.ok (itm 5 q.1.text noB 0 0 0 y.1 nilM t0.at_,y.2)):=by show _=_;rw[hpr2.out,hy3];rfl
 simp only[tmV]
 obtain⟨av6,cv6,hu,-,-⟩:=S6.parts.shape
 subst hu
 have Sx6:=S6
 clear S6
 generalize hnn6:y.1.parts.length=nn6 at *
 obtain⟨x0,x1,x2,x3,x4,x5,y0,y1,y2,y3,y4,y5⟩:=Lt6.cells_at 6 _ _ _ _ _ _ rfl rfl rfl rfl rfl rfl
 have xl:=Lt6.lt
 go_wp2_with fail
 clear x0 x1 x2 x3 x4 x5 y0 y1 y2 y3 y4 y5
 have t7:=turn_six_at w6 g 6 (.int .i64 y.1.kind) (.string y.1.text) (.int .i64 y.1.n) (.int .i64 y.1.m) (.int .i64 y.1.pl) (.slice av6 nn6 cv6)
 have Lt7:Box _ g (itC ⟨5,q.1.text,⟨#[]⟩,0,0,0,y.1,nilM,(t0.at_:Int)⟩ (.slice av6 nn6 cv6) (.slice none 0 0)):=Lt6.six_at 6 (by simp) (.int .i64 y.1.kind) (.string y.1.text) (.int .i64 y.1.n) (.int .i64 y.1.m) (.int .i64 y.1.pl) (.slice av6 nn6 cv6)
 have r7:=r6.turn1 t7 (by omega)
 have T7:=T6.trans t7 (fun i hi=>.inr (by simp at hi;omega))
 have s7:=t7.size
 have Rs7:=Rs6.turn t7 (by simp;omega)
 have Sx7:=SitB.turn Sx6 t7 (by simp;omega)
 clear Rs6 Lt6 Sx6 T6 r6 t7 xl
 generalize hW7:((((((w6.setCell _ _).setCell _ _).setCell _ _).setCell _ _).setCell _ _).setCell _ _)=w7 at *
 clear hW7
 obtain⟨Y,hY⟩:∃ Y:Array Value,Hid (Y=(itC ⟨5,q.1.text,⟨#[]⟩,0,0,0,y.1,nilM,(t0.at_:Int)⟩ (.slice av6 nn6 cv6) (.slice none 0 0)).toArray):=⟨_,rfl⟩
 have sY:Y.size=19:=by rw[hY.out];rfl
 have ldY:=ld_row (X:=Y) Lt7 (by rw[hY.out]) (n:=m) hm19.out
 have one0:Y.all (·.oneCell')=true:=by rw[hY.out];kernel_rfl
 have one:∀ v∈Y.toList,v.oneCell'=true:=fun v hv=>Array.all_eq_true_iff_forall_mem.1 one0 v (by simpa using hv)
 have stY:=st_at w.heap.size Y.toList 0 w7 _ Rs7 (by simp[sY]) one
 have TF:=hid2 (putRow_turn w.heap.size Y.toList 0 w7)
 have BF:=putRow_whole Rs7 (X:=Y.toList) (by simp[sY])
 have ldF:=ld_row (X:=Y) BF rfl (n:=m) (by simp[sY,hm19.out])
 have xl:=Lt7.lt
 have pl:=Rs7.lt
 have HT:=hid2 T7
 have HR:=hid2 r7
 have HSx:=hid2 Sx7
 clear Sx7
 clear Lt7 Rs7 T7 r7 BF one one0
 generalize hWF:putRow w7 w.heap.size 0 Y.toList=WF at *
 clear hWF
 go_wp2_with fail
 rw[ldY]
 simp only[Result.andThen_ok]
 go_wp2_with fail
 refine bodyPost_ret (v:=.agg Y) (by simp[results,Tryz.results51,go_sem, *]) rfl (hO.out ⟨5,q.1.text,⟨#[]⟩,0,0,0,y.1,nilM,(t0.at_:Int)⟩ (y.2) _ _ (.slice av6 nn6 cv6) (.slice none 0 0) (hpr3.out) ?_ (by rw[hY.out]) ⟨SitB.lower (SitB.turn HSx.out TF.out (by simp;omega)) (by omega),nil_sits z _,(takeK_tl htl1 hy1 (by decide)).1.x,Nat.zero_le _⟩ ?_)
 ·exact HT.out.trans TF.out (fun i hi=>.inr (by simp at hi;omega))
 ·exact HR.out.turn1 TF.out hL
set_option maxHeartbeats 4000000 in
set_option maxRecDepth 20000 in
theorem guard_c {z rb tb lb:Nat}{c:Int}{L:List Tk}{o:Nat}(_hz:z<=9223372036854775807){E A:Ps}(HE:ExC z rb tb lb c o 21 E){N:Nat}(HA:AcC z rb tb lb c o N 53 A)(hDE:Dec E)(hN:L.length<=N){t0:Tk}(hx:nxt c L=.ok t0)(hm:isT k_guard t0=true)(w:World)(hr:Rea z w rb tb lb c L o):
 Calls Tryz.prog 52 #[.pointer (some ⟨rb,0,none⟩)] w (Out (VIt w.heap.size z) z w rb tb lb c o (guardP c E A t0.at_ L.tail)):=by
 obtain⟨pr,hpr⟩:∃ pr,Hid (pr=guardP c E A t0.at_ L.tail):=⟨_,rfl⟩
 rw[<-hpr.out]
 have hE:Hid (∀ f w',pr=.error f->Turn [rb] w w'->Out (VIt w.heap.size z) z w rb tb lb c o pr (.panicked [fltE f]) w'):=fun f w' h ht=>Out.mk_err h ht
 have hO:Hid (∀ i L' w' v vx vy,pr=.ok (i,L')->Turn [rb] w w'->v=itA i vx vy->ItB w.heap.size z w' i vx vy->Rea z w' rb tb lb c L' o->Out (VIt w.heap.size z) z w rb tb lb c o pr (.returned v) w'):=fun i L' w' v vx vy h ht hv hs hr'=>Out.mk_ok h ht ⟨vx,vy,hv,hs⟩ hr'
 generalize Out (VIt w.heap.size z) z w rb tb lb c o pr=Post at *
 have hL:=hr.lts
 have hne:w.heap.size∉[rb]:=by simp;omega
 have fl1:=fld1
 have fl2:=fld2
 have hok:=hr.tl.ok
 rw[<-nxt_inv hx] at hok
 have hm1:=mustS_of hx hm
 obtain⟨m,hm19⟩:∃ m:Nat,Hid (m=19):=⟨_,rfl⟩
 have zs:∀ w,(sizeOf 53).run Tryz.prog w=.ok m w:=by rw[hm19.out];exact Tryz.sizeOf53
 have zm:(19=m)=True:=eq_true hm19.out.symm
 have Z0:=Box.new w zs19 53
 go_enter Tryz.func52,Tryz.ntmps52
 go_wp2_with fail
 have T0:=tnO (ob:=.cells (zs19).toArray 53) (Turn.refl [rb] w)
 have r0:=hr.onO (ob:=.cells (zs19).toArray 53)
 have Rs0:=Z0
 have zsz:w.heap.size<(w.alloc (.cells (zs19).toArray 53)).heap.size:=by simp
 have hz0:(w.alloc (.cells (zs19).toArray 53)).heap.size=w.heap.size+1:=by simp
 clear Z0
 generalize hW0:w.alloc _=w0 at *
 clear hW0
 clear hz0
 clear hr
 obtain⟨X,hX⟩:∃ X:Array Value,Hid (X=(itC (it0 6 (t0.at_:Int)) (.slice none 0 0) (.slice none 0 0)).toArray):=⟨_,rfl⟩
 have stX:=fun W=>st_it W (X:=X) (by rw[hX.out];rfl) (by rw[hX.out];kernel_rfl)
 unfold zeroI at stX
 have sX:X.size=19:=by rw[hX.out];rfl
 refine Calls.mono (must_c k_guard _ r0) ?_
 rintro e w1 h1
 obtain⟨t1,_,rfl,rfl,r1⟩:=Out.of_ok hm1 h1
 have Rs1:=Rs0.turn t1 hne
 have T1:=tn T0 t1
 have s1:=t1.size
 clear Rs0 T0 r0 h1 t1
 go_wp2_with (refine wpList_it rfl _ _ rfl 6 (t0.at_:Int) rfl rfl X hX.out ?_)
 have t2:=tnO (ob:=.cells X 53) (Turn.refl [rb] w1)
 have r2:=r1.onO (ob:=.cells X 53)
 have Lt2:Box (w1.alloc (.cells X 53)) w1.heap.size (itC (it0 6 (t0.at_:Int)) (.slice none 0 0) (.slice none 0 0)):=by rw[hX.out];exact Box.new w1 _ _
 have hnLt:w1.heap.size∉[rb]:=by simp;omega
 have hxLt:w1.heap.size<(w1.alloc (.cells X 53)).heap.size:=by simp
 have Rs2:=Rs1.turn t2 hne
 have T2:=tn T1 t2
 have s2:=t2.size
 clear Rs1 T1 r1 t2 stX sX
 obtain⟨g,hgg⟩:∃ g:Nat,Hid (g=w1.heap.size):=⟨_,rfl⟩
 have hg1:w.heap.size<g:=by rw[hgg.out];omega
 have hg2:g<(w1.alloc (.cells X 53)).heap.size:=by rw[hgg.out];simp
 rw[<-hgg.out] at Lt2 hnLt hxLt ⊢
 generalize hW2:w1.alloc _=w2 at *
 clear hW2 hX
 rw[guardP] at hpr
 refine Calls.mono (HE _ _ r2) ?_
 rintro e w3 h3
 rcases hy1:E L.tail with f | y
 ·obtain⟨rfl,t3⟩:=Out.of_err hy1 h3
  go_wp2_with fail
  exact⟨rfl,hE.out _ _ (by rw[hpr.out,hy1];rfl) (tn T2 t3)⟩
 obtain⟨t3,_,rfl,⟨u3,rfl,S3⟩,r3⟩:=Out.of_ok hy1 h3
 have Rs3:=Rs2.turn t3 hne
 have Lt3:=Lt2.turn t3 hnLt
 have T3:=tn T2 t3
 have s3:=t3.size
 clear Rs2 Lt2 T2 r2 h3 t3
 have hpr1:Hid (pr=bnd (mustS c k_then y.2) fun b=>bnd (A b.2) fun q=>.ok (itm 6 noB noB 0 0 0 y.1 q.1 t0.at_,q.2)):=by show _=_;rw[hpr.out,hy1];rfl
 simp only[tmV]
 obtain⟨av6,cv6,hu,-,-⟩:=S3.parts.shape
 subst hu
 have Sx3:=S3
 clear S3
 generalize hnn6:y.1.parts.length=nn6 at *
 obtain⟨x0,x1,x2,x3,x4,x5,y0,y1,y2,y3,y4,y5⟩:=Lt3.cells_at 6 _ _ _ _ _ _ rfl rfl rfl rfl rfl rfl
 have xl:=Lt3.lt
 go_wp2_with fail
 clear x0 x1 x2 x3 x4 x5 y0 y1 y2 y3 y4 y5
 have t4:=turn_six_at w3 g 6 (.int .i64 y.1.kind) (.string y.1.text) (.int .i64 y.1.n) (.int .i64 y.1.m) (.int .i64 y.1.pl) (.slice av6 nn6 cv6)
 have Lt4:Box _ g (itC ⟨6,⟨#[]⟩,⟨#[]⟩,0,0,0,y.1,nilM,(t0.at_:Int)⟩ (.slice av6 nn6 cv6) (.slice none 0 0)):=Lt3.six_at 6 (by simp) (.int .i64 y.1.kind) (.string y.1.text) (.int .i64 y.1.n) (.int .i64 y.1.m) (.int .i64 y.1.pl) (.slice av6 nn6 cv6)
 have r4:=r3.turn1 t4 (by omega)
 have T4:=T3.trans t4 (fun i hi=>.inr (by simp at hi;omega))
 have s4:=t4.size
 have Rs4:=Rs3.turn t4 (by simp;omega)
 have Sx4:=SitB.turn Sx3 t4 (by simp;omega)
 clear Rs3 Lt3 Sx3 T3 r3 t4 xl
 generalize hW4:((((((w3.setCell _ _).setCell _ _).setCell _ _).setCell _ _).setCell _ _).setCell _ _)=w4 at *
 clear hW4
 refine Calls.mono (must_c k_then _ r4) ?_
 rintro e w5 h5
 rcases hy2:mustS c k_then y.2 with f | b
 ·obtain⟨rfl,t5⟩:=Out.of_err hy2 h5
  go_wp2_with fail
  exact⟨rfl,hE.out _ _ (by rw[hpr1.out,hy2];rfl) (tn T4 t5)⟩
 obtain⟨t5,_,rfl,rfl,r5⟩:=Out.of_ok hy2 h5
 have Rs5:=Rs4.turn t5 hne
 have Lt5:=Lt4.turn t5 hnLt
 have Sx5:=SitB.turn Sx4 t5 (by simp;omega)
 have T5:=tn T4 t5
 have s5:=t5.size
 clear Rs4 Lt4 Sx4 T4 r4 h5 t5
 have hpr2:Hid (pr=bnd (A b.2) fun q=>.ok (itm 6 noB noB 0 0 0 y.1 q.1 t0.at_,q.2)):=by show _=_;rw[hpr1.out,hy2];rfl
 go_wp2_with fail
 have hbN:b.2.length<=N:=by
  have h1:=hDE _ _ hy1
  have h2:=dec_must hy2
  have h3:=tail_le L
  omega
 refine Calls.mono (HA _ hbN _ r5) ?_
 rintro e w6 h6
 rcases hy3:A b.2 with f | q
 ·obtain⟨rfl,t6⟩:=Out.of_err hy3 h6
  go_wp2_with fail
  exact⟨rfl,hE.out _ _ (by rw[hpr2.out,hy3];rfl) (tn T5 t6)⟩
 obtain⟨t6,_,rfl,⟨u6,rfl,S6⟩,r6⟩:=Out.of_ok hy3 h6
 have Rs6:=Rs5.turn t6 hne
 have Lt6:=Lt5.turn t6 hnLt
 have Sx6:=SitB.turn Sx5 t6 (by simp;omega)
 have T6:=tn T5 t6
 have s6:=t6.size
 clear Rs5 Lt5 Sx5 T5 r5 h6 t6
 have hpr3:Hid (pr=.ok (itm 6 noB noB 0 0 0 y.1 q.1 t0.at_,q.2)):=by show _=_;rw[hpr2.out,hy3];rfl
 simp only[tmV]
 obtain⟨av12,cv12,hu,-,-⟩:=S6.parts.shape
 subst hu
 have Sy6:=S6
 clear S6
 generalize hnn12:q.1.parts.length=nn12 at *
 obtain⟨x0,x1,x2,x3,x4,x5,y0,y1,y2,y3,y4,y5⟩:=Lt6.cells_at 12 _ _ _ _ _ _ rfl rfl rfl rfl rfl rfl
 have xl:=Lt6.lt
 go_wp2_with fail
 clear x0 x1 x2 x3 x4 x5 y0 y1 y2 y3 y4 y5
 have t7:=turn_six_at w6 g 12 (.int .i64 q.1.kind) (.string q.1.text) (.int .i64 q.1.n) (.int .i64 q.1.m) (.int .i64 q.1.pl) (.slice av12 nn12 cv12)
 have Lt7:Box _ g (itC ⟨6,⟨#[]⟩,⟨#[]⟩,0,0,0,y.1,q.1,(t0.at_:Int)⟩ (.slice av6 nn6 cv6) (.slice av12 nn12 cv12)):=Lt6.six_at 12 (by simp) (.int .i64 q.1.kind) (.string q.1.text) (.int .i64 q.1.n) (.int .i64 q.1.m) (.int .i64 q.1.pl) (.slice av12 nn12 cv12)
 have r7:=r6.turn1 t7 (by omega)
 have T7:=T6.trans t7 (fun i hi=>.inr (by simp at hi;omega))
 have s7:=t7.size
 have Rs7:=Rs6.turn t7 (by simp;omega)
 have Sx7:=SitB.turn Sx6 t7 (by simp;omega)
 have Sy7:=SitB.turn Sy6 t7 (by simp;omega)
 clear Rs6 Lt6 Sx6 Sy6 T6 r6 t7 xl
 generalize hW7:((((((w6.setCell _ _).setCell _ _).setCell _ _).setCell _ _).setCell _ _).setCell _ _)=w7 at *
 clear hW7
 obtain⟨Y,hY⟩:∃ Y:Array Value,Hid (Y=(itC ⟨6,⟨#[]⟩,⟨#[]⟩,0,0,0,y.1,q.1,(t0.at_:Int)⟩ (.slice av6 nn6 cv6) (.slice av12 nn12 cv12)).toArray):=⟨_,rfl⟩
 have sY:Y.size=19:=by rw[hY.out];rfl
 have ldY:=ld_row (X:=Y) Lt7 (by rw[hY.out]) (n:=m) hm19.out
 have one0:Y.all (·.oneCell')=true:=by rw[hY.out];kernel_rfl
 have one:∀ v∈Y.toList,v.oneCell'=true:=fun v hv=>Array.all_eq_true_iff_forall_mem.1 one0 v (by simpa using hv)
 have stY:=st_at w.heap.size Y.toList 0 w7 _ Rs7 (by simp[sY]) one
 have TF:=hid2 (putRow_turn w.heap.size Y.toList 0 w7)
 have BF:=putRow_whole Rs7 (X:=Y.toList) (by simp[sY])
 have ldF:=ld_row (X:=Y) BF rfl (n:=m) (by simp[sY,hm19.out])
 have xl:=Lt7.lt
 have pl:=Rs7.lt
 have HT:=hid2 T7
 have HR:=hid2 r7
 have HSx:=hid2 Sx7
 clear Sx7
 have HSy:=hid2 Sy7
 clear Sy7
 clear Lt7 Rs7 T7 r7 BF one one0
 generalize hWF:putRow w7 w.heap.size 0 Y.toList=WF at *
 clear hWF
 go_wp2_with fail
 rw[ldY]
 simp only[Result.andThen_ok]
 go_wp2_with fail
 refine bodyPost_ret (v:=.agg Y) (by simp[results,Tryz.results52,go_sem, *]) rfl (hO.out ⟨6,⟨#[]⟩,⟨#[]⟩,0,0,0,y.1,q.1,(t0.at_:Int)⟩ (q.2) _ _ (.slice av6 nn6 cv6) (.slice av12 nn12 cv12) (hpr3.out) ?_ (by rw[hY.out]) ⟨SitB.lower (SitB.turn HSx.out TF.out (by simp;omega)) (by omega),SitB.lower (SitB.turn HSy.out TF.out (by simp;omega)) (by omega),Nat.zero_le _,Nat.zero_le _⟩ ?_)
 ·exact HT.out.trans TF.out (fun i hi=>.inr (by simp at hi;omega))
 ·exact HR.out.turn1 TF.out hL
set_option maxHeartbeats 4000000 in
set_option maxRecDepth 20000 in
theorem bound_neg {z rb tb lb:Nat}{c:Int}{L:List Tk}{o:Nat}(hz:z<=9223372036854775807){t0:Tk}(hx:nxt c L=.ok t0)(hm:isT k_sub t0=true)(w:World)(hr:Rea z w rb tb lb c L o):
 Calls Tryz.prog 103 #[.pointer (some ⟨rb,0,none⟩)] w (Out (VTm w.heap.size z) z w rb tb lb c o (bnd (numberP c L.tail) fun y=>.ok (tm 13 t0.at_ [y.1],y.2))):=by
 obtain⟨pr,hpr⟩:∃ pr,Hid (pr=bnd (numberP c L.tail) fun y=>.ok (tm 13 t0.at_ [y.1],y.2)):=⟨_,rfl⟩
 rw[<-hpr.out]
 have hE:Hid (∀ f w',pr=.error f->Turn [rb] w w'->Out (VTm w.heap.size z) z w rb tb lb c o pr (.panicked [fltE f]) w'):=fun f w' h ht=>Out.mk_err h ht
 have hO:Hid (∀ t L' w' v u,pr=.ok (t,L')->Turn [rb] w w'->v=tmV t u->SitB w.heap.size z w' t u->Rea z w' rb tb lb c L' o->Out (VTm w.heap.size z) z w rb tb lb c o pr (.returned v) w'):=fun t L' w' v u h ht hv hs hr'=>Out.mk_ok h ht ⟨u,hv,hs⟩ hr'
 generalize Out (VTm w.heap.size z) z w rb tb lb c o pr=Post at *
 have hL:=hr.lts
 have hne:w.heap.size∉[rb]:=by simp;omega
 have hok:=hr.tl.ok
 rw[<-nxt_inv hx] at hok
 have hm1:=mustS_of hx hm
 have Z0:=Box.new w zs6 33
 go_enter Tryz.func103,Tryz.ntmps103
 go_wp2_with fail
 have T0:=tnO (ob:=.cells (zs6).toArray 33) (Turn.refl [rb] w)
 have r0:=hr.onO (ob:=.cells (zs6).toArray 33)
 have Rs0:=Z0
 have zsz:w.heap.size<(w.alloc (.cells (zs6).toArray 33)).heap.size:=by simp
 have hz0:(w.alloc (.cells (zs6).toArray 33)).heap.size=w.heap.size+1:=by simp
 clear Z0
 generalize hW0:w.alloc _=w0 at *
 clear hW0
 clear hz0
 clear hr
 have HJ:=fun W h=>is_ok (z:=z) (rb:=rb) (tb:=tb) (lb:=lb) (o:=o) hx k_sub W h
 rw[hm] at HJ
 refine Calls.mono (HJ _ r0) ?_
 rintro e w1 ⟨rfl,b1⟩
 have t1:=Turn.of_below (S:=[rb]) b1
 have r1:=r0.next b1
 have Rs1:=Rs0.turn t1 hne
 have T1:=tn T0 t1
 have s1:=t1.size
 clear Rs0 T0 r0 b1 t1
 go_wp2_with fail
 refine Calls.mono (must_c k_sub _ r1) ?_
 rintro e w2 h2
 obtain⟨t2,_,rfl,rfl,r2⟩:=Out.of_ok hm1 h2
 have Rs2:=Rs1.turn t2 hne
 have T2:=tn T1 t2
 have s2:=t2.size
 clear Rs1 T1 r1 h2 t2
 go_wp2_with fail
 refine Calls.mono (numb_c hz _ r2) ?_
 rintro e w3 h3
 rcases hy1:numberP c L.tail with f | q
 ·obtain⟨rfl,t3⟩:=Out.of_err hy1 h3
  go_wp2_with fail
  exact⟨rfl,hE.out _ _ (by rw[hpr.out,hy1];rfl) (tn T2 t3)⟩
 obtain⟨t3,_,rfl,⟨u3,rfl,S3⟩,r3⟩:=Out.of_ok hy1 h3
 have Rs3:=Rs2.turn t3 hne
 have T3:=tn T2 t3
 have s3:=t3.size
 clear Rs2 T2 r2 h3 t3
 have hpr1:Hid (pr=.ok (tm 13 t0.at_ [q.1],q.2)):=by show _=_;rw[hpr.out,hy1];rfl
 simp only[tmV]
 obtain⟨av,cv,hu,-,-⟩:=S3.parts.shape
 subst hu
 generalize hnn:q.1.parts.length=nn at *
 go_wp2_with fail
 have t4:=tnO (ob:=.cells ((tmL q.1 (.slice av nn cv))).toArray 33) (Turn.refl [rb] w3)
 have r4:=r3.onO (ob:=.cells ((tmL q.1 (.slice av nn cv))).toArray 33)
 have Lt4:=Box.new w3 (tmL q.1 (.slice av nn cv)) 33
 have hnLt:w3.heap.size∉[rb]:=by simp;omega
 have hxLt:w3.heap.size<(w3.alloc (.cells ((tmL q.1 (.slice av nn cv))).toArray 33)).heap.size:=by simp
 have Rs4:=Rs3.turn t4 hne
 have S4:=SitB.turn S3 t4 (by simp;omega)
 have T4:=tn T3 t4
 have s4:=t4.size
 clear Rs3 S3 T3 r3 t4
 generalize hW4:w3.alloc _=w4 at *
 clear hW4
 refine Calls.mono (term_c _ _ _ _ _ _) ?_
 rintro e w5 ⟨rfl,b5⟩
 have t5:=Turn.of_below (S:=[rb]) b5
 have r5:=r4.next b5
 have Rs5:=Rs4.turn t5 hne
 have Lt5:=Lt4.turn t5 hnLt
 have S5:=SitB.turn S4 t5 (by simp;omega)
 have T5:=tn T4 t5
 have s5:=t5.size
 clear Rs4 Lt4 S4 T4 r4 b5 t5
 obtain⟨p0,p1,p2,p3,p4,p5,pf0,pf1,pf2,pf3,pf4,pf5⟩:=Rs5.six
 have pl:=Rs5.lt
 have HS:=hid2 S5
 have HB:=hid2 Lt5
 clear S5
 have hg:w3.heap.size≠w.heap.size:=by omega
 go_wp2_with fail
 refine bodyPost_ret (v:=tmV (tm 13 t0.at_ [q.1]) (.slice (some ⟨w3.heap.size,0,none⟩) 1 1)) (by simp[results,Tryz.results103,go_sem, *]) rfl (hO.out (tm 13 t0.at_ [q.1]) (q.2) _ _ (.slice (some ⟨w3.heap.size,0,none⟩) 1 1) (hpr1.out) ?_ rfl ?_ ?_)
 ·exact T5.trans (turn_six _ _ _ _ _ _ _ _) (fun i hi=>.inr (by simp at hi;omega))
 ·exact sitb_one (fit_of _ _ _ _ _ _ hz (by decide) (by decide) (Nat.zero_le _) zero64 zero64 hok.a) rfl (by simpa using HB.out.lt) (by omega) (box_six (HB.out.turn (turn_six _ _ _ _ _ _ _ _) (by simp;omega))) (SitB.lower (SitB.turn HS.out (turn_six _ _ _ _ _ _ _ _) (by simp;omega)) (by omega))
 ·exact r5.turn1 (turn_six _ _ _ _ _ _ _ _) hL
set_option maxHeartbeats 4000000 in
set_option maxRecDepth 20000 in
theorem bound_num {z rb tb lb:Nat}{c:Int}{L:List Tk}{o:Nat}(hz:z<=9223372036854775807){t0:Tk}(hx:nxt c L=.ok t0)(hm:isT k_sub t0=false)(w:World)(hr:Rea z w rb tb lb c L o):
 Calls Tryz.prog 103 #[.pointer (some ⟨rb,0,none⟩)] w (Out (VTm w.heap.size z) z w rb tb lb c o (numberP c L)):=by
 obtain⟨pr,hpr⟩:∃ pr,Hid (pr=numberP c L):=⟨_,rfl⟩
 rw[<-hpr.out]
 have hE:Hid (∀ f w',pr=.error f->Turn [rb] w w'->Out (VTm w.heap.size z) z w rb tb lb c o pr (.panicked [fltE f]) w'):=fun f w' h ht=>Out.mk_err h ht
 have hO:Hid (∀ t L' w' v u,pr=.ok (t,L')->Turn [rb] w w'->v=tmV t u->SitB w.heap.size z w' t u->Rea z w' rb tb lb c L' o->Out (VTm w.heap.size z) z w rb tb lb c o pr (.returned v) w'):=fun t L' w' v u h ht hv hs hr'=>Out.mk_ok h ht ⟨u,hv,hs⟩ hr'
 generalize Out (VTm w.heap.size z) z w rb tb lb c o pr=Post at *
 have hL:=hr.lts
 have hne:w.heap.size∉[rb]:=by simp;omega
 have Z0:=Box.new w zs6 33
 go_enter Tryz.func103,Tryz.ntmps103
 go_wp2_with fail
 have T0:=tnO (ob:=.cells (zs6).toArray 33) (Turn.refl [rb] w)
 have r0:=hr.onO (ob:=.cells (zs6).toArray 33)
 have Rs0:=Z0
 have zsz:w.heap.size<(w.alloc (.cells (zs6).toArray 33)).heap.size:=by simp
 have hz0:(w.alloc (.cells (zs6).toArray 33)).heap.size=w.heap.size+1:=by simp
 clear Z0
 generalize hW0:w.alloc _=w0 at *
 clear hW0
 clear hz0
 clear hr
 have HJ:=fun W h=>is_ok (z:=z) (rb:=rb) (tb:=tb) (lb:=lb) (o:=o) hx k_sub W h
 rw[hm] at HJ
 refine Calls.mono (HJ _ r0) ?_
 rintro e w1 ⟨rfl,b1⟩
 have t1:=Turn.of_below (S:=[rb]) b1
 have r1:=r0.next b1
 have Rs1:=Rs0.turn t1 hne
 have T1:=tn T0 t1
 have s1:=t1.size
 clear Rs0 T0 r0 b1 t1
 go_wp2_with fail
 have HM:=hid2 (numb_c hz _ r1)
 rw[<-hpr.out] at HM
 refine Calls.mono HM.out ?_
 intro e w2 h2
 rcases out_up T1 h2 with ⟨f,rfl,hp,ht⟩ | ⟨t,u,L',rfl,hp2,t2,S2,r2⟩
 ·go_wp2_with fail
  exact⟨rfl,hE.out _ _ hp ht⟩
 obtain⟨p0,p1,p2,p3,p4,p5,q0,q1,q2,q3,q4,q5⟩:=(Rs1.turn t2 hne).six
 have pl:=(Rs1.turn t2 hne).lt
 have HT:=hid2 (tn T1 t2)
 have HS:=hid2 S2
 obtain⟨av,cv,rfl,-,-⟩:=S2.parts.shape
 generalize hnn:t.parts.length=nn at *
 clear h2 t2 S2 HM
 simp only[tmV]
 go_wp2_with fail
 refine bodyPost_ret (v:=tmV t (.slice av nn cv)) (by simp[results,Tryz.results103,go_sem, *]) rfl (hO.out t L' _ _ (.slice av nn cv) hp2 ?_ rfl ?_ ?_)
 ·exact HT.out.trans (turn_six _ _ _ _ _ _ _ _) (fun i hi=>.inr (by simp at hi;omega))
 ·exact SitB.lower (SitB.turn HS.out (turn_six _ _ _ _ _ _ _ _) (by simp;omega)) (by omega)
 ·exact r2.turn1 (turn_six _ _ _ _ _ _ _ _) hL
set_option maxHeartbeats 1000000 in
theorem bound_no {z rb tb lb:Nat}{c:Int}{L:List Tk}{o:Nat}{f:Flt}(hx:nxt c L=.error f)(w:World)(hr:Rea z w rb tb lb c L o):
 Calls Tryz.prog 103 #[.pointer (some ⟨rb,0,none⟩)] w fun e w'=>e=.panicked [fltE f]/\Below w.heap.size w w':=by
 have HN:=hid2 (is_err hx k_sub _ (hr.onO (ob:=.cells (zs6).toArray 33)))
 clear hr hx
 go_enter Tryz.func103,Tryz.ntmps103
 go_wp2_with fail
 refine Calls.mono HN.out ?_
 rintro e w1 ⟨rfl,b1⟩
 go_wp2_with fail
 exact⟨rfl,rfl,below_on ((Below.refl _ _).alloc (Nat.le_refl _) _) b1 (by simp)⟩
theorem bound_c {z rb tb lb:Nat}{c:Int}{o:Nat}(hz:z<=9223372036854775807):ExC z rb tb lb c o 103 (boundP c):=by
 intro L w hr
 unfold boundP
 rcases hx:nxt c L with f | t0
 ·exact(bound_no hx w hr).mono fun e w' ⟨h1,h2⟩=>h1 ▸ Out.mk_err rfl (Turn.of_below h2)
 ·rw[bnd_ok]
  cases h1:isT k_sub t0 with
  | true=>rw[if_pos rfl];exact bound_neg hz hx h1 w hr
  | false=>rw[if_neg (by simp)];exact bound_num hz hx h1 w hr
set_option maxHeartbeats 4000000 in
set_option maxRecDepth 20000 in
theorem ladder_c {z rb tb lb:Nat}{c:Int}{L:List Tk}{o:Nat}(hz:z<=9223372036854775807){E:Ps}(HE:ExC z rb tb lb c o 21 E)(hDE:Dec E){A:Option Ps}{N:Nat}(HX:InA z rb tb lb c o N A)(hN:L.length<=N)(hN2:N<=1000000){t0:Tk}(hx:nxt c L=.ok t0)(hm:isT k_ladder t0=true)(w:World)(hr:Rea z w rb tb lb c L o):
 Calls Tryz.prog 77 #[.pointer (some ⟨rb,0,none⟩)] w (Out (VTm w.heap.size z) z w rb tb lb c o (bnd (E L.tail) fun x=>beginP c k_lb A x.2 fun B L1=>bnd (rungs c B L1.length [x.1] L1) fun z=>.ok (tm 36 t0.at_ z.1,z.2))):=by
 obtain⟨pr,hpr⟩:∃ pr,Hid (pr=bnd (E L.tail) fun x=>beginP c k_lb A x.2 fun B L1=>bnd (rungs c B L1.length [x.1] L1) fun z=>.ok (tm 36 t0.at_ z.1,z.2)):=⟨_,rfl⟩
 rw[<-hpr.out]
 have hE:Hid (∀ f w',pr=.error f->Turn [rb] w w'->Out (VTm w.heap.size z) z w rb tb lb c o pr (.panicked [fltE f]) w'):=fun f w' h ht=>Out.mk_err h ht
 have hO:Hid (∀ t L' w' v u,pr=.ok (t,L')->Turn [rb] w w'->v=tmV t u->SitB w.heap.size z w' t u->Rea z w' rb tb lb c L' o->Out (VTm w.heap.size z) z w rb tb lb c o pr (.returned v) w'):=fun t L' w' v u h ht hv hs hr'=>Out.mk_ok h ht ⟨u,hv,hs⟩ hr'
 generalize Out (VTm w.heap.size z) z w rb tb lb c o pr=Post at *
 have hL:=hr.lts
 have hne:w.heap.size∉[rb]:=by simp;omega
 have hok:=hr.tl.ok
 rw[<-nxt_inv hx] at hok
 have hm1:=mustS_of hx hm
 have Z0:=Box.new w zs6 33
 go_enter Tryz.func77,Tryz.ntmps77
 go_wp2_with fail
 have T0:=tnO (ob:=.cells (zs6).toArray 33) (Turn.refl [rb] w)
 have r0:=hr.onO (ob:=.cells (zs6).toArray 33)
 have Rs0:=Z0
 have zsz:w.heap.size<(w.alloc (.cells (zs6).toArray 33)).heap.size:=by simp
 have hz0:(w.alloc (.cells (zs6).toArray 33)).heap.size=w.heap.size+1:=by simp
 clear Z0
 generalize hW0:w.alloc _=w0 at *
 clear hW0
 clear hz0
 clear hr
 refine Calls.mono (must_c k_ladder _ r0) ?_
 rintro e w1 h1
 obtain⟨t1,_,rfl,rfl,r1⟩:=Out.of_ok hm1 h1
 have Rs1:=Rs0.turn t1 hne
 have T1:=tn T0 t1
 have s1:=t1.size
 clear Rs0 T0 r0  h1 t1
 go_wp2_with fail
 refine Calls.mono (HE _ _ r1) ?_
 rintro e w2 h2
 rcases hy1:E L.tail with f | q
 ·obtain⟨rfl,t2⟩:=Out.of_err hy1 h2
  go_wp2_with fail
  exact⟨rfl,hE.out _ _ (by rw[hpr.out,hy1];rfl) (tn T1 t2)⟩
 obtain⟨t2,_,rfl,⟨u2,rfl,S2⟩,r2⟩:=Out.of_ok hy1 h2
 have Rs2:=Rs1.turn t2 hne
 have T2:=tn T1 t2
 have s2:=t2.size
 clear Rs1 T1 r1  h2 t2
 have hpr1:Hid (pr=beginP c k_lb A q.2 fun B L1=>bnd (rungs c B L1.length [q.1] L1) fun z=>.ok (tm 36 t0.at_ z.1,z.2)):=by show _=_;rw[hpr.out,hy1];rfl
 simp only[tmV]
 obtain⟨av,cv,hu,-,-⟩:=S2.parts.shape
 subst hu
 generalize hnn:q.1.parts.length=nn at *
 obtain⟨C0,hC0⟩:∃ C,Hid (C=w2.heap.size):=⟨_,rfl⟩
 have Sq2:SitQ (fun b=>w.heap.size+1<=b/\b<C0) z w2 q.1 (.slice av nn cv):=SitQ.weak S2 (fun b hb hq=>⟨by have:_<=b:=hq;omega,by rw[hC0.out];exact hb⟩)
 have hC1:C0<=w2.heap.size:=by rw[hC0.out];exact Nat.le_refl _
 clear S2
 go_wp2_with fail
 have t3:=tnO (ob:=.cells ((tmL q.1 (.slice av nn cv))).toArray 33) (Turn.refl [rb] w2)
 have r3:=r2.onO (ob:=.cells ((tmL q.1 (.slice av nn cv))).toArray 33)
 have Lx3:=Box.new w2 (tmL q.1 (.slice av nn cv)) 33
 have hnLx:w2.heap.size∉[rb]:=by simp;omega
 have hxLx:w2.heap.size<(w2.alloc (.cells ((tmL q.1 (.slice av nn cv))).toArray 33)).heap.size:=by simp
 have Rs3:=Rs2.turn t3 hne
 have Sq3:=SitQ.turnQ Sq2 t3 (by simp only[List.mem_singleton];rintro i rfl hh;omega)
 have T3:=tn T2 t3
 have s3:=t3.size
 clear Rs2 T2 r2 Sq2 t3
 have Ow3:(w2.alloc (.cells (tmL q.1 (.slice av nn cv)).toArray 33)).ownsRow (w.heap.size+1) 33 6 (.slice (some ⟨w2.heap.size,0,none⟩) 1 1) 1 (flQ [(q.1,.slice av nn cv)]):=⟨rfl,.inr ⟨_,1,_,rfl,by omega,heap_alloc_last _ _,Nat.le_refl _,by unfold maxLen;decide,rfl,rfl⟩⟩
 generalize hW3:w2.alloc _=w3 at *
 clear hW3
 obtain⟨gx,hgx⟩:∃ g,Hid (g=w2.heap.size):=⟨_,rfl⟩
 have hgx1:w.heap.size<gx:=by rw[hgx.out];omega
 have hgx2:gx<w3.heap.size:=by rw[hgx.out];omega
 have hgx3:C0<=gx:=by rw[hgx.out];omega
 rw[<-hgx.out] at Ow3 ⊢
 clear Lx3 hnLx hxLx
 refine Calls.mono (term_c _ _ _ _ _ _) ?_
 rintro e w4 ⟨rfl,b4⟩
 have t4:=Turn.of_below (S:=[rb]) b4
 have r4:=r3.next b4
 have Rs4:=Rs3.turn t4 hne
 have Ow4:=ownQ_turn Ow3 t4 (by simp;omega)
 have Sq4:=SitQ.turnQ Sq3 t4 (by simp only[List.mem_singleton];rintro i rfl hh;omega)
 have T4:=tn T3 t4
 have s4:=t4.size
 clear Rs3 T3 r3 Ow3 Sq3 b4 t4
 go_wp2_with fail
 have t5:=tnO (ob:=.cells ([.int .i64 36,.string ⟨#[]⟩,.int .i64 0,.int .i64 0,.int .i64 (t0.at_:Nat),.slice (some ⟨gx,0,none⟩) 1 1]).toArray 33) (Turn.refl [rb] w4)
 have r5:=r4.onO (ob:=.cells ([.int .i64 36,.string ⟨#[]⟩,.int .i64 0,.int .i64 0,.int .i64 (t0.at_:Nat),.slice (some ⟨gx,0,none⟩) 1 1]).toArray 33)
 have Lt5:=Box.new w4 [.int .i64 36,.string ⟨#[]⟩,.int .i64 0,.int .i64 0,.int .i64 (t0.at_:Nat),.slice (some ⟨gx,0,none⟩) 1 1] 33
 have hnLt:w4.heap.size∉[rb]:=by simp;omega
 have hxLt:w4.heap.size<(w4.alloc (.cells ([.int .i64 36,.string ⟨#[]⟩,.int .i64 0,.int .i64 0,.int .i64 (t0.at_:Nat),.slice (some ⟨gx,0,none⟩) 1 1]).toArray 33)).heap.size:=by simp
 have Rs5:=Rs4.turn t5 hne
 have Ow5:=ownQ_turn Ow4 t5 (by simp;omega)
 have Sq5:=SitQ.turnQ Sq4 t5 (by simp only[List.mem_singleton];rintro i rfl hh;omega)
 have T5:=tn T4 t5
 have s5:=t5.size
 clear Rs4 T4 r4 Ow4 Sq4 t5
 generalize hW5:w4.alloc _=w5 at *
 clear hW5
 have hqN:q.2.length<=N:=by
  have h1:=hDE _ _ hy1
  have h3:=tail_le L
  omega
 refine Calls.mono (begin_c k_lb _ r5) ?_
 rintro e w6 h6
 rcases hy2:mustS c k_lb q.2 with f | y
 ·obtain⟨rfl,t6⟩:=beg_err hy2 h6
  go_wp2_with fail
  exact⟨rfl,hE.out _ _ (by rw[hpr1.out,beginP,hy2];rfl) (tn T5 t6)⟩
 rcases A with _ | E
 ·obtain⟨rfl,t6⟩:=beg_deep hy2 (HX.no rfl) h6
  go_wp2_with fail
  exact⟨rfl,hE.out _ _ (by rw[hpr1.out,beginP,hy2];rfl) (tn T5 t6)⟩
 obtain⟨rfl,t6,r6⟩:=beg_ok hy2 (HX.yes E rfl).1 h6
 have Rs6:=Rs5.turn t6 hne
 have Lt6:=Lt5.turn t6 hnLt
 have Ow6:=ownQ_turn Ow5 t6 (by simp;omega)
 have Sq6:=SitQ.turnQ Sq5 t6 (by simp only[List.mem_singleton];rintro i rfl hh;omega)
 have T6:=tn T5 t6
 have s6:=t6.size
 clear Rs5 Lt5 T5 r5 Ow5 Sq5 h6 t6
 have hpr2:Hid (pr=bnd (rungs c E y.2.length [q.1] y.2) fun z=>.ok (tm 36 t0.at_ z.1,z.2)):=by show _=_;rw[hpr1.out,beginP,hy2];rfl
 obtain⟨ho64,HAc,hDec⟩:=HX.yes E rfl
 have hyN:y.2.length<=N:=by
  have h1:=dec_must hy2
  omega
 have C:LaS z w w6 rb tb lb c (o+1) (w4.heap.size) t0.at_ y.2 (.slice (some ⟨gx,0,none⟩) 1 1) [(q.1,.slice av nn cv)]:=⟨Rs6,Lt6,⟨Ow6,fun he=>by have:gx=w4.heap.size:=Option.some.inj he;omega,fun p hp=>by obtain rfl:=List.mem_singleton.1 hp;exact Sq6.weak (fun b _ hq=>⟨⟨hq.1,by have:=hq.2;omega⟩,fun he=>by have:gx=b:=Option.some.inj he;have:=hq.2;omega⟩)⟩,r6,T6,by omega,hL⟩
 clear Rs6 Lt6 Ow6 Sq6 T6 r6
 obtain⟨g,hgg⟩:∃ g,Hid (g=w4.heap.size):=⟨_,rfl⟩
 rw[<-hgg.out] at C ⊢
 have HC0:=hid2 C
 clear C
 generalize hW:w6=W0 at *
 clear hW
 go_wp2_with fail
 go_loopw [] (fun wr=>∃ (Lr:List Tk) (v:Value) (ts:List (Tm×Value)) (f:Nat),Lr.length<=f/\f<=N/\ts.length+2*f<=2*N+1/\Hid (LaS z w wr rb tb lb c (o+1) g t0.at_ Lr v ts)/\Hid (pr=bnd (rungs c E f (ts.map Prod.fst) Lr) fun z=>.ok (tm 36 t0.at_ z.1,z.2))) (fun wr=>rdLen wr rb)
 ·exact⟨y.2,_,_,y.2.length,Nat.le_refl _,hyN,by simp;omega,HC0,hpr2⟩
 obtain⟨Lr,v,ts,f,hf,hfN,hts,HC,HQ⟩:=hrel
 have hpos:=HC.out.re.tl.pos
 have hlen:=HC.out.re.len
 obtain⟨f',rfl⟩:∃ f',f=f'+1:=⟨f-1,by omega⟩
 clear HC0 hpr2
 rw[rungs_succ] at HQ
 have hgg0:=HC.out.gg
 go_wp2_with fail
 refine Calls.mono (may_c k_else _ HC.out.re) ?_
 rintro e w1x h1
 rcases hz1:mayS c k_else Lr with fl | st
 ·obtain⟨rfl,t1⟩:=Out.of_err hz1 h1
  go_wp2_with fail
  exact⟨rfl,hE.out _ _ (by rw[HQ.out,hz1];rfl) (tn HC.out.tn t1)⟩
 obtain⟨t1,_,rfl,rfl,r1⟩:=Out.of_ok hz1 h1
 have HC1:=hid2 (HC.out.turn t1 r1)
 have HQ1:Hid (pr=bnd (if st.1=true then bnd (mustS c k_col st.2) fun a=>bnd (E a.2) fun y=>closeP c k_rb (ts.map Prod.fst++[y.1],y.2) else bnd (boundP c st.2) fun x=>bnd (mustS c k_col x.2) fun a=>bnd (E a.2) fun y=>bnd (mustS c k_com y.2) fun d=>rungs c E f' (ts.map Prod.fst++[x.1,y.1]) d.2) fun z=>.ok (tm 36 t0.at_ z.1,z.2)):=by show _=_;rw[HQ.out,hz1];rfl
 have sz1:=t1.size
 clear h1 t1 r1 HC HQ
 have hd1:=dec_may hz1
 obtain⟨sb,Ls⟩:=st
 cases sb
 ·have HQ2:Hid (pr=bnd (bnd (boundP c Ls) fun x=>bnd (mustS c k_col x.2) fun a=>bnd (E a.2) fun y=>bnd (mustS c k_com y.2) fun d=>rungs c E f' (ts.map Prod.fst++[x.1,y.1]) d.2) fun z=>.ok (tm 36 t0.at_ z.1,z.2)):=HQ1.out
  clear HQ1
  go_wp2_with fail
  refine Calls.mono (bound_c hz _ _ HC1.out.re) ?_
  rintro e w2x h1
  rcases hz2:boundP c Ls with fl | x
  ·obtain⟨rfl,t1⟩:=Out.of_err hz2 h1
   go_wp2_with fail
   exact⟨rfl,hE.out _ _ (by rw[HQ2.out,hz2];rfl) (tn HC1.out.tn t1)⟩
  obtain⟨t1,_,rfl,⟨u2,rfl,S2⟩,r1⟩:=Out.of_ok hz2 h1
  have HC2:=hid2 (HC1.out.turn t1 r1)
  have HQ3:Hid (pr=bnd (bnd (mustS c k_col x.2) fun a=>bnd (E a.2) fun y=>bnd (mustS c k_com y.2) fun d=>rungs c E f' (ts.map Prod.fst++[x.1,y.1]) d.2) fun z=>.ok (tm 36 t0.at_ z.1,z.2)):=by show _=_;rw[HQ2.out,hz2];rfl
  have sz2:=t1.size
  have hbk:=hid2 HC1.out.pa.blk
  have hlg1:=HC1.out.lt.lt
  clear h1 t1 r1 HC1 HQ2
  have hd2:=dec_bound c _ _ hz2
  obtain⟨ab,cb,hu,-,-⟩:=S2.parts.shape
  subst hu
  generalize hnb:x.1.parts.length=nb at *
  have Sb:SitQ (fun b=>((w.heap.size+1<=b/\b≠g)/\v.ownBlock≠some b)/\b<w2x.heap.size) z w2x x.1 (.slice ab nb cb):=SitQ.weak S2 (fun b hb hq=>⟨⟨⟨by have:w1x.heap.size<=b:=hq;omega,by have:w1x.heap.size<=b:=hq;omega⟩,fun he=>by have:=(hbk.out b he).2;have:w1x.heap.size<=b:=hq;omega⟩,hb⟩)
  clear S2 hbk
  go_wp2_with fail
  have HC3:=hid2 (HC2.out.next ((Below.refl _ _).alloc (Nat.le_refl _) (.cells (tmL x.1 (.slice ab nb cb)).toArray 33)))
  have Bd3:=Box.new w2x (tmL x.1 (.slice ab nb cb)) 33
  have Sb3:=SitQ.turnQ (S:=[]) Sb (Turn.of_below ((Below.refl _ _).alloc (Nat.le_refl _) (.cells (tmL x.1 (.slice ab nb cb)).toArray 33))) (by simp)
  have hsz3:w2x.heap.size<(w2x.alloc (.cells (tmL x.1 (.slice ab nb cb)).toArray 33)).heap.size:=by simp
  clear HC2 Sb
  obtain⟨bb,hbb⟩:∃ bb,Hid (bb=w2x.heap.size):=⟨_,rfl⟩
  rw[<-hbb.out] at Bd3 Sb3 hsz3 ⊢
  have hbb1:w1x.heap.size<=bb:=by rw[hbb.out];omega
  generalize hW3:w2x.alloc _=w3x at *
  clear hW3
  refine Calls.mono (must_c k_col _ HC3.out.re) ?_
  rintro e w4x h1
  rcases hz3:mustS c k_col x.2 with fl | a
  ·obtain⟨rfl,t1⟩:=Out.of_err hz3 h1
   go_wp2_with fail
   exact⟨rfl,hE.out _ _ (by rw[HQ3.out,hz3];rfl) (tn HC3.out.tn t1)⟩
  obtain⟨t1,_,rfl,rfl,r1⟩:=Out.of_ok hz3 h1
  have HC4:=hid2 (HC3.out.turn t1 r1)
  have HQ4:Hid (pr=bnd (bnd (E a.2) fun y=>bnd (mustS c k_com y.2) fun d=>rungs c E f' (ts.map Prod.fst++[x.1,y.1]) d.2) fun z=>.ok (tm 36 t0.at_ z.1,z.2)):=by show _=_;rw[HQ3.out,hz3];rfl
  have sz3:=t1.size
  have hrb0:rb<w.heap.size:=hL.1
  have Bd4:=Bd3.turn t1 (by simp;omega)
  have Sb4:=SitQ.turnQ Sb3 t1 (by simp only[List.mem_singleton];rintro i rfl hh;omega)
  clear Bd3 Sb3
  clear h1 t1 r1 HC3 HQ3
  have hd3:=dec_must hz3
  have haN:a.2.length<=N:=by omega
  obtain⟨x0,x1,x2,x3,x4,x5,y0,y1,y2,y3,y4,y5⟩:=Bd4.six
  have xl:=Bd4.lt
  have c5:=HC4.out.lt.cell 5 _ rfl
  have l5:=HC4.out.lt.lt
  clear y0 y1 y2 y3 y4 y5
  have HSb:=hid2 Sb4
  have HBd:=hid2 Bd4
  clear Sb4 Bd4
  go_wp2_with fail
  go_region_law (first
   | (refine step_out rfl (HAc _ haN _ (HC4.out.re.next (Below.refl _ _).drew)) (by first | rfl | go_simp) (fun fl w' hf ht=>⟨rfl,hE.out _ _ (by rw[HQ4.out,hf];rfl) (tn HC4.out.tn (tn (Turn.of_below (Below.refl _ _).drew) ht))⟩) ?_;rintro x60 _ w60 hy60 t60 ⟨u60,rfl,S60⟩ r60;have z60:Hid (w4x.heap.size<=w60.heap.size):=t60.size;have C60:=hid2 ((HC4.out.next (Below.refl _ _).drew).turn t60 r60);have q60:=hid2 (HC4.out.next (Below.refl _ w4x).drew).pa.blk;have c560:=C60.out.lt.cell 5 _ rfl;have l560:=C60.out.lt.lt;have X60:=hid2 S60;have Bd60:=HBd.out.turn (tn (Turn.of_below (Below.refl _ _).drew) t60) (by simp;omega);obtain⟨X0,X1,X2,X3,X4,X5,_⟩:=Bd60.six;have XL:=Bd60.lt;have SB60:=hid2 (SitQ.turnQ HSb.out (tn (Turn.of_below (Below.refl _ _).drew) t60) (by simp only[List.mem_singleton];rintro i rfl hh;omega));clear S60 t60 r60)
   | (refine step_append_tg w60 (w.heap.size+1) g rfl (.tmp 21) (.tmp 25) rfl v ts [(x.1,.slice ab nb cb),(x60.1,u60)] rfl (by simp[Act.eval]) C60.out.pa (by have:=C60.out.lt.lt;omega) (fun p hp=>by simp only[List.mem_cons,List.not_mem_nil,or_false] at hp;rcases hp with rfl | rfl;exact(SB60.out.weak (fun _ _ hq=>hq.1));exact sit_apartG X60.out (by simp<;>omega) (by simp<;>omega) (fun q hq=>(q60.out q hq).2)) (by simp<;>omega) (by have:=z60.out;have:=HC4.out.gg;have:=HC4.out.lt.lt;omega) (by simp[Act.eval]) ?_;intro a60 d60 wa60 k60 p60 hk60 hg60 b60;have CA60:=hid2 (C60.out.added p60 hk60 hg60 b60);have l60:=(C60.out.lt.turn b60 (by simp;omega)).lt;have e560:=(C60.out.lt.turn b60 (by simp;omega)).cell 5 _ rfl;have f560:=(C60.out.lt.turn b60 (by simp;omega)).free 5 (by simp);clear p60 b60))
  all_goals (
   have HQ5:Hid (pr=bnd (bnd (mustS c k_com x60.2) fun d=>rungs c E f' (ts.map Prod.fst++[x.1,x60.1]) d.2) fun z=>.ok (tm 36 t0.at_ z.1,z.2)):=by show _=_;rw[HQ4.out,hy60];rfl
   have hd4:=hDec _ _ hy60
   have CA:=CA60
   clear CA60 C60 c560 l560 q60 X60 z60 l60 e560 f560 SB60 X0 X1 X2 X3 X4 X5 XL x0 x1 x2 x3 x4 x5 xl c5 l5 HSb HBd HC4 HQ4
   generalize hW1:wa60.setCell _ _=W1 at *
   clear hW1
   go_wp2_with fail
   refine Calls.mono (must_c k_com _ CA.out.re) ?_
   rintro e w7 h7
   rcases hz7:mustS c k_com x60.2 with fl | d
   ·obtain⟨rfl,t7⟩:=Out.of_err hz7 h7
    go_wp2_with fail
    exact⟨rfl,hE.out _ _ (by rw[HQ5.out,hz7];rfl) (tn CA.out.tn t7)⟩
   obtain⟨t7,_,rfl,rfl,r7⟩:=Out.of_ok hz7 h7
   have CB:=hid2 (CA.out.turn t7 r7)
   have HQ6:Hid (pr=bnd (rungs c E f' (ts.map Prod.fst++[x.1,x60.1]) d.2) fun z=>.ok (tm 36 t0.at_ z.1,z.2)):=by show _=_;rw[HQ5.out,hz7];rfl
   have hd5:d.2.length+1<=x60.2.length:=by
    have h1:=mustS_len hz7
    have h2:=(CA.out.re.tl).pos
    rw[h1,List.length_tail]
    omega
   clear h7 t7 r7 CA HQ5
   go_wp2_with fail
   go_roundw
   ·exact⟨d.2,_,_,f',by omega,by omega,by simp;omega,CB,by show _=_;rw[HQ6.out];simp⟩
   ·rw[CB.out.re.len,hlen]
    omega)
 ·have HQ2:Hid (pr=bnd (bnd (mustS c k_col Ls) fun a=>bnd (E a.2) fun y=>closeP c k_rb (ts.map Prod.fst++[y.1],y.2)) fun z=>.ok (tm 36 t0.at_ z.1,z.2)):=HQ1.out
  clear HQ1
  go_wp2_with fail
  refine Calls.mono (must_c k_col _ HC1.out.re) ?_
  rintro e w4x h1
  rcases hz4:mustS c k_col Ls with fl | a
  ·obtain⟨rfl,t1⟩:=Out.of_err hz4 h1
   go_wp2_with fail
   exact⟨rfl,hE.out _ _ (by rw[HQ2.out,hz4];rfl) (tn HC1.out.tn t1)⟩
  obtain⟨t1,_,rfl,rfl,r1⟩:=Out.of_ok hz4 h1
  have HC4:=hid2 (HC1.out.turn t1 r1)
  have HQ4:Hid (pr=bnd (bnd (E a.2) fun y=>closeP c k_rb (ts.map Prod.fst++[y.1],y.2)) fun z=>.ok (tm 36 t0.at_ z.1,z.2)):=by show _=_;rw[HQ2.out,hz4];rfl
  have sz4:=t1.size
  clear h1 t1 r1 HC1 HQ2
  have hd3:=dec_must hz4
  have haN:a.2.length<=N:=by omega
  have hrb0:rb<w.heap.size:=hL.1
  have c5:=HC4.out.lt.cell 5 _ rfl
  have l5:=HC4.out.lt.lt
  go_wp2_with fail
  go_region_law (first
   | (refine step_out rfl (HAc _ haN _ (HC4.out.re.next (Below.refl _ _).drew)) (by first | rfl | go_simp) (fun fl w' hf ht=>⟨rfl,hE.out _ _ (by rw[HQ4.out,hf];rfl) (tn HC4.out.tn (tn (Turn.of_below (Below.refl _ _).drew) ht))⟩) ?_;rintro x60 _ w60 hy60 t60 ⟨u60,rfl,S60⟩ r60;have z60:Hid (w4x.heap.size<=w60.heap.size):=t60.size;have C60:=hid2 ((HC4.out.next (Below.refl _ _).drew).turn t60 r60);have q60:=hid2 (HC4.out.next (Below.refl _ w4x).drew).pa.blk;have c560:=C60.out.lt.cell 5 _ rfl;have l560:=C60.out.lt.lt;have X60:=hid2 S60;clear S60 t60 r60)
   | (refine step_append_tg w60 (w.heap.size+1) g rfl (.tmp 33) (.tmp 36) rfl v ts [(x60.1,u60)] rfl (by simp[Act.eval]) C60.out.pa (by have:=C60.out.lt.lt;omega) (fun p hp=>by obtain rfl:=List.mem_singleton.1 hp;exact sit_apartG X60.out (by simp<;>omega) (by simp<;>omega) (fun q hq=>(q60.out q hq).2)) (by simp<;>omega) (by have:=z60.out;have:=HC4.out.gg;have:=HC4.out.lt.lt;omega) (by simp[Act.eval]) ?_;intro a60 d60 wa60 k60 p60 hk60 hg60 b60;have CA60:=hid2 (C60.out.added p60 hk60 hg60 b60);have l60:=(C60.out.lt.turn b60 (by simp;omega)).lt;have e560:=(C60.out.lt.turn b60 (by simp;omega)).cell 5 _ rfl;have f560:=(C60.out.lt.turn b60 (by simp;omega)).free 5 (by simp);clear p60 b60))
  all_goals (
   have HQ5:Hid (pr=bnd (closeP c k_rb (ts.map Prod.fst++[x60.1],x60.2)) fun z=>.ok (tm 36 t0.at_ z.1,z.2)):=by show _=_;rw[HQ4.out,hy60];rfl
   rw[closeP] at HQ5
   have CA:=CA60
   clear CA60 C60 c560 l560 q60 X60 z60 l60 e560 f560 c5 l5 HC4 HQ4
   generalize hW1:wa60.setCell _ _=W1 at *
   clear hW1
   go_wp2_with fail
   refine Calls.mono (close_c k_rb _ CA.out.re) ?_
   rintro e w7 h7
   rcases hz7:mustS c k_rb x60.2 with fl | d
   ·obtain⟨rfl,t7⟩:=Out.of_err hz7 h7
    go_wp2_with fail
    exact⟨rfl,hE.out _ _ (by rw[HQ5.out];simp only[hz7];rfl) (tn CA.out.tn t7)⟩
   obtain⟨t7,_,rfl,rfl,r7⟩:=Out.of_ok hz7 h7
   have CB:=hid2 (CA.out.turn t7 r7)
   have HQ6:Hid (pr=.ok (tm 36 t0.at_ (ts.map Prod.fst++[x60.1]),d.2)):=by show _=_;rw[HQ5.out];simp only[hz7];rfl
   clear h7 t7 CA HQ5
   obtain⟨p0,p1,p2,p3,p4,p5,q0,q1,q2,q3,q4,q5⟩:=CB.out.rs.six
   obtain⟨x0,x1,x2,x3,x4,x5,y0,y1,y2,y3,y4,y5⟩:=CB.out.lt.six
   have xl:=CB.out.lt.lt
   have pl:=CB.out.rs.lt
   have hg1:g≠w.heap.size:=by omega
   go_wp2_with fail
   refine bodyPost_ret (v:=tmV (tm 36 t0.at_ (ts.map Prod.fst++[x60.1])) (.slice a60 (ts.length+1) d60)) (by simp[results,Tryz.results77,go_sem, *]) rfl (hO.out (tm 36 t0.at_ (ts.map Prod.fst++[x60.1])) d.2 _ _ (.slice a60 (ts.length+1) d60) HQ6.out ?_ rfl ?_ ?_)
   ·exact CB.out.tn.trans (turn_six _ _ _ _ _ _ _ _) (fun i hi=>.inr (by simp at hi;omega))
   ·exact SitB.lower ((CB.out.pa.turn (turn_six _ _ _ _ _ _ _ _) (by simp)).sits (fit_of _ _ _ _ _ _ hz (by decide) (by decide) (Nat.zero_le _) zero64 zero64 hok.a) (by simp)) (by omega)
   ·exact r7.turn1 (turn_six _ _ _ _ _ _ _ _) hL)
end Go.Proofs.YtecdfnpbcabdnaaGreatDoor
