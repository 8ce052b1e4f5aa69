import Derived.Test.YtecdfnpbcabdnaaGreatDoorMgJ
namespace Go.Proofs.YtecdfnpbcabdnaaGreatDoor
open Go.RowKit Go.Lib
set_option maxHeartbeats 4000000 in
set_option maxRecDepth 20000 in
theorem word_c {z rb tb lb:Nat}{c:Int}{L:List Tk}{o:Nat}(hz:z<=9223372036854775807){X:Option Ps}(HX:InC z rb tb lb c o X){t0:Tk}(hx:nxt c L=.ok t0)(hm:isT t0.text t0=true)(w:World)(hr:Rea z w rb tb lb c L o):
 Calls Tryz.prog 110 #[.pointer (some ⟨rb,0,none⟩),.string t0.text] w (Out (VTm w.heap.size z) z w rb tb lb c o (wordP c X t0 L.tail)):=by
 obtain⟨pr,hpr⟩:∃ pr,Hid (pr=wordP c X t0 L.tail):=⟨_,rfl⟩
 rw[<-hpr.out]
 have hE:Hid (∀ f w',pr=.error f->Turn [rb] w w'->Out (VTm w.heap.size z) z w rb tb lb c o pr (.panicked [fltE f]) w'):=fun f w' h ht=>Out.mk_err h ht
 have hO:Hid (∀ t L' w' v u,pr=.ok (t,L')->Turn [rb] w w'->v=tmV t u->SitB w.heap.size z w' t u->Rea z w' rb tb lb c L' o->Out (VTm w.heap.size z) z w rb tb lb c o pr (.returned v) w'):=fun t L' w' v u h ht hv hs hr'=>Out.mk_ok h ht ⟨u,hv,hs⟩ hr'
 have hC:Hid (∀ W e w',w.heap.size<W.heap.size->Turn [rb] w W->Out (VTm W.heap.size z) z W rb tb lb c o pr e w'->(∃ f,e=.panicked [fltE f]/\Out (VTm w.heap.size z) z w rb tb lb c o pr (.panicked [fltE f]) w')\/(∃ t u L',e=.returned (tmV t u)/\pr=.ok (t,L')/\Turn [rb] W w'/\SitB W.heap.size z w' t u/\Rea z w' rb tb lb c L' o)):=fun W e w' hs hT h=>by
  rcases hp:pr with f | y
  ·obtain⟨rfl,ht⟩:=Out.of_err hp h
   exact .inl ⟨f,rfl,Out.mk_err rfl (tn hT ht)⟩
  ·obtain⟨ht,v,rfl,⟨u,rfl,hs⟩,hr'⟩:=Out.of_ok hp h
   exact .inr ⟨y.1,u,y.2,rfl,rfl,ht,hs,hr'⟩
 generalize Out (VTm w.heap.size z) z w rb tb lb c o pr=Post at *
 have hL:=hr.lts
 have hne:w.heap.size∉[rb]:=by simp;omega
 have hok:=hr.tl.ok
 rw[<-nxt_inv hx] at hok
 have hm1:=mustS_of hx hm
 have Z0:=Box.new w zs6 33
 have T0:=tnO (ob:=.cells (zs6).toArray 33) (Turn.refl [rb] w)
 have r0:=hr.onO (ob:=.cells (zs6).toArray 33)
 have zsz:w.heap.size<(w.alloc (.cells (zs6).toArray 33)).heap.size:=by simp
 have hq:=hpr.out
 unfold wordP at hq
 by_cases h0:t0.text=k_true
 ·rw[if_pos h0] at hq
  rw[h0] at hm1
  have M:=hid2 (must_c k_true _ r0)
  clear hr
  rw[h0]
  go_enter Tryz.func110,Tryz.ntmps110
  go_wp2_with fail
  refine Calls.mono M.out ?_
  rintro e w1 h1
  obtain⟨t1,_,rfl,rfl,r1⟩:=Out.of_ok hm1 h1
  have T1:=tn T0 t1
  have Z1:=Z0.turn t1 hne
  clear h1 t1
  go_wp2_with fail
  refine Calls.mono (term_c _ _ _ _ _ _) ?_
  rintro e w2 ⟨rfl,b2⟩
  have T2:=T1.andBelow b2
  have r2:=r1.next b2
  have Z2:=Z1.next b2
  obtain⟨p0,p1,p2,p3,p4,p5,q0,q1,q2,q3,q4,q5⟩:=Z2.six
  have pl:=Z2.lt
  clear Z2 Z1 b2 T1 r1
  go_wp2_with fail
  refine bodyPost_ret (v:=tmV (tm 3 t0.at_ []) (.slice none 0 0)) (by simp[results,Tryz.results110,go_sem, *]) rfl (hO.out (tm 3 t0.at_ []) L.tail _ _ (.slice none 0 0) hq ?_ rfl ?_ ?_)
  ·exact T2.trans (turn_six _ _ _ _ _ _ _ _) (fun i hi=>.inr (by simp at hi;omega))
  ·exact sitb_leaf (fit_of _ _ _ _ _ _ hz (by decide) (by decide) (Nat.zero_le _) zero64 zero64 hok.a) rfl
  ·exact r2.turn1 (turn_six _ _ _ _ _ _ _ _) hL
 rw[if_neg h0] at hq
 have n0:=ba_neL [116,114,117,101] h0
 by_cases h1:t0.text=k_false
 ·rw[if_pos h1] at hq
  clear n0
  rw[h1] at hm1
  have M:=hid2 (must_c k_false _ r0)
  clear hr
  rw[h1]
  go_enter Tryz.func110,Tryz.ntmps110
  go_wp2_with fail
  refine Calls.mono M.out ?_
  rintro e w1 h1
  obtain⟨t1,_,rfl,rfl,r1⟩:=Out.of_ok hm1 h1
  have T1:=tn T0 t1
  have Z1:=Z0.turn t1 hne
  clear h1 t1
  go_wp2_with fail
  refine Calls.mono (term_c _ _ _ _ _ _) ?_
  rintro e w2 ⟨rfl,b2⟩
  have T2:=T1.andBelow b2
  have r2:=r1.next b2
  have Z2:=Z1.next b2
  obtain⟨p0,p1,p2,p3,p4,p5,q0,q1,q2,q3,q4,q5⟩:=Z2.six
  have pl:=Z2.lt
  clear Z2 Z1 b2 T1 r1
  go_wp2_with fail
  refine bodyPost_ret (v:=tmV (tm 4 t0.at_ []) (.slice none 0 0)) (by simp[results,Tryz.results110,go_sem, *]) rfl (hO.out (tm 4 t0.at_ []) L.tail _ _ (.slice none 0 0) hq ?_ rfl ?_ ?_)
  ·exact T2.trans (turn_six _ _ _ _ _ _ _ _) (fun i hi=>.inr (by simp at hi;omega))
  ·exact sitb_leaf (fit_of _ _ _ _ _ _ hz (by decide) (by decide) (Nat.zero_le _) zero64 zero64 hok.a) rfl
  ·exact r2.turn1 (turn_six _ _ _ _ _ _ _ _) hL
 rw[if_neg h1] at hq
 have n1:=ba_neL [102,97,108,115,101] h1
 by_cases h2:t0.text=k_reps
 ·rw[if_pos h2] at hq
  clear n0 n1
  rw[h2] at hm1
  have M:=hid2 (must_c k_reps _ r0)
  clear hr
  rw[h2]
  go_enter Tryz.func110,Tryz.ntmps110
  go_wp2_with fail
  refine Calls.mono M.out ?_
  rintro e w1 h1
  obtain⟨t1,_,rfl,rfl,r1⟩:=Out.of_ok hm1 h1
  have T1:=tn T0 t1
  have Z1:=Z0.turn t1 hne
  clear h1 t1
  go_wp2_with fail
  refine Calls.mono (term_c _ _ _ _ _ _) ?_
  rintro e w2 ⟨rfl,b2⟩
  have T2:=T1.andBelow b2
  have r2:=r1.next b2
  have Z2:=Z1.next b2
  obtain⟨p0,p1,p2,p3,p4,p5,q0,q1,q2,q3,q4,q5⟩:=Z2.six
  have pl:=Z2.lt
  clear Z2 Z1 b2 T1 r1
  go_wp2_with fail
  refine bodyPost_ret (v:=tmV (tm 5 t0.at_ []) (.slice none 0 0)) (by simp[results,Tryz.results110,go_sem, *]) rfl (hO.out (tm 5 t0.at_ []) L.tail _ _ (.slice none 0 0) hq ?_ rfl ?_ ?_)
  ·exact T2.trans (turn_six _ _ _ _ _ _ _ _) (fun i hi=>.inr (by simp at hi;omega))
  ·exact sitb_leaf (fit_of _ _ _ _ _ _ hz (by decide) (by decide) (Nat.zero_le _) zero64 zero64 hok.a) rfl
  ·exact r2.turn1 (turn_six _ _ _ _ _ _ _ _) hL
 rw[if_neg h2] at hq
 have n2:=ba_neL [114,101,112,108,105,99,97,115] h2
 by_cases h3:t0.text=k_if
 ·rw[if_pos h3] at hq
  clear n0 n1 n2
  have M:=call_c hz HX hx hm 32 (by decide) (by decide) 2 (by decide) _ r0
  rw[<-hq] at M
  rw[h3,show ((2:Nat):Int)+1=3 from rfl] at M
  have HM:=hid2 M
  clear M hr
  rw[h3]
  go_enter Tryz.func110,Tryz.ntmps110
  go_wp2_with fail
  refine Calls.mono HM.out ?_
  intro e w1 h1
  rcases hC.out _ _ _ zsz T0 h1 with ⟨f,rfl,hP⟩ | ⟨t,u,L',rfl,hp2,t1,S1,r1⟩
  ·go_wp2_with fail
   exact⟨rfl,hP⟩
  obtain⟨p0,p1,p2,p3,p4,p5,q0,q1,q2,q3,q4,q5⟩:=(Z0.turn t1 hne).six
  have pl:=(Z0.turn t1 hne).lt
  have HT:=hid2 (tn T0 t1)
  have HS:=hid2 S1
  obtain⟨av,cv,rfl,-,-⟩:=S1.parts.shape
  generalize hnn:t.parts.length=nn at *
  clear h1 t1 S1
  simp only[tmV]
  go_wp2_with fail
  refine bodyPost_ret (v:=tmV t (.slice av nn cv)) (by simp[results,Tryz.results110,go_sem, *]) rfl (hO.out t L' _ _ (.slice av nn cv) hp2 ?_ rfl ?_ ?_)
  ·exact HT.out.trans (turn_six _ _ _ _ _ _ _ _) (fun i hi=>.inr (by simp at hi;omega))
  ·exact SitB.lower (SitB.turn HS.out (turn_six _ _ _ _ _ _ _ _) (by simp)) (by simp)
  ·exact r1.turn1 (turn_six _ _ _ _ _ _ _ _) hL
 rw[if_neg h3] at hq
 have n3:=ba_neL [105,102] h3
 by_cases h4:t0.text=k_min
 ·rw[if_pos h4] at hq
  clear n0 n1 n2 n3
  have M:=call_c hz HX hx hm 29 (by decide) (by decide) 1 (by decide) _ r0
  rw[<-hq] at M
  rw[h4,show ((1:Nat):Int)+1=2 from rfl] at M
  have HM:=hid2 M
  clear M hr
  rw[h4]
  go_enter Tryz.func110,Tryz.ntmps110
  go_wp2_with fail
  refine Calls.mono HM.out ?_
  intro e w1 h1
  rcases hC.out _ _ _ zsz T0 h1 with ⟨f,rfl,hP⟩ | ⟨t,u,L',rfl,hp2,t1,S1,r1⟩
  ·go_wp2_with fail
   exact⟨rfl,hP⟩
  obtain⟨p0,p1,p2,p3,p4,p5,q0,q1,q2,q3,q4,q5⟩:=(Z0.turn t1 hne).six
  have pl:=(Z0.turn t1 hne).lt
  have HT:=hid2 (tn T0 t1)
  have HS:=hid2 S1
  obtain⟨av,cv,rfl,-,-⟩:=S1.parts.shape
  generalize hnn:t.parts.length=nn at *
  clear h1 t1 S1
  simp only[tmV]
  go_wp2_with fail
  refine bodyPost_ret (v:=tmV t (.slice av nn cv)) (by simp[results,Tryz.results110,go_sem, *]) rfl (hO.out t L' _ _ (.slice av nn cv) hp2 ?_ rfl ?_ ?_)
  ·exact HT.out.trans (turn_six _ _ _ _ _ _ _ _) (fun i hi=>.inr (by simp at hi;omega))
  ·exact SitB.lower (SitB.turn HS.out (turn_six _ _ _ _ _ _ _ _) (by simp)) (by simp)
  ·exact r1.turn1 (turn_six _ _ _ _ _ _ _ _) hL
 rw[if_neg h4] at hq
 have n4:=ba_neL [109,105,110] h4
 by_cases h5:t0.text=k_max
 ·rw[if_pos h5] at hq
  clear n0 n1 n2 n3 n4
  have M:=call_c hz HX hx hm 30 (by decide) (by decide) 1 (by decide) _ r0
  rw[<-hq] at M
  rw[h5,show ((1:Nat):Int)+1=2 from rfl] at M
  have HM:=hid2 M
  clear M hr
  rw[h5]
  go_enter Tryz.func110,Tryz.ntmps110
  go_wp2_with fail
  refine Calls.mono HM.out ?_
  intro e w1 h1
  rcases hC.out _ _ _ zsz T0 h1 with ⟨f,rfl,hP⟩ | ⟨t,u,L',rfl,hp2,t1,S1,r1⟩
  ·go_wp2_with fail
   exact⟨rfl,hP⟩
  obtain⟨p0,p1,p2,p3,p4,p5,q0,q1,q2,q3,q4,q5⟩:=(Z0.turn t1 hne).six
  have pl:=(Z0.turn t1 hne).lt
  have HT:=hid2 (tn T0 t1)
  have HS:=hid2 S1
  obtain⟨av,cv,rfl,-,-⟩:=S1.parts.shape
  generalize hnn:t.parts.length=nn at *
  clear h1 t1 S1
  simp only[tmV]
  go_wp2_with fail
  refine bodyPost_ret (v:=tmV t (.slice av nn cv)) (by simp[results,Tryz.results110,go_sem, *]) rfl (hO.out t L' _ _ (.slice av nn cv) hp2 ?_ rfl ?_ ?_)
  ·exact HT.out.trans (turn_six _ _ _ _ _ _ _ _) (fun i hi=>.inr (by simp at hi;omega))
  ·exact SitB.lower (SitB.turn HS.out (turn_six _ _ _ _ _ _ _ _) (by simp)) (by simp)
  ·exact r1.turn1 (turn_six _ _ _ _ _ _ _ _) hL
 rw[if_neg h5] at hq
 have n5:=ba_neL [109,97,120] h5
 by_cases h6:t0.text=k_either
 ·rw[if_pos h6] at hq
  clear n0 n1 n2 n3 n4 n5
  have M:=call_c hz HX hx hm 31 (by decide) (by decide) 1 (by decide) _ r0
  rw[<-hq] at M
  rw[h6,show ((1:Nat):Int)+1=2 from rfl] at M
  have HM:=hid2 M
  clear M hr
  rw[h6]
  go_enter Tryz.func110,Tryz.ntmps110
  go_wp2_with fail
  refine Calls.mono HM.out ?_
  intro e w1 h1
  rcases hC.out _ _ _ zsz T0 h1 with ⟨f,rfl,hP⟩ | ⟨t,u,L',rfl,hp2,t1,S1,r1⟩
  ·go_wp2_with fail
   exact⟨rfl,hP⟩
  obtain⟨p0,p1,p2,p3,p4,p5,q0,q1,q2,q3,q4,q5⟩:=(Z0.turn t1 hne).six
  have pl:=(Z0.turn t1 hne).lt
  have HT:=hid2 (tn T0 t1)
  have HS:=hid2 S1
  obtain⟨av,cv,rfl,-,-⟩:=S1.parts.shape
  generalize hnn:t.parts.length=nn at *
  clear h1 t1 S1
  simp only[tmV]
  go_wp2_with fail
  refine bodyPost_ret (v:=tmV t (.slice av nn cv)) (by simp[results,Tryz.results110,go_sem, *]) rfl (hO.out t L' _ _ (.slice av nn cv) hp2 ?_ rfl ?_ ?_)
  ·exact HT.out.trans (turn_six _ _ _ _ _ _ _ _) (fun i hi=>.inr (by simp at hi;omega))
  ·exact SitB.lower (SitB.turn HS.out (turn_six _ _ _ _ _ _ _ _) (by simp)) (by simp)
  ·exact r1.turn1 (turn_six _ _ _ _ _ _ _ _) hL
 rw[if_neg h6] at hq
 have n6:=ba_neL [101,105,116,104,101,114] h6
 by_cases h7:t0.text=k_abs
 ·rw[if_pos h7] at hq
  clear n0 n1 n2 n3 n4 n5 n6
  have M:=call_c hz HX hx hm 15 (by decide) (by decide) 0 (by decide) _ r0
  rw[<-hq] at M
  rw[h7,show ((0:Nat):Int)+1=1 from rfl] at M
  have HM:=hid2 M
  clear M hr
  rw[h7]
  go_enter Tryz.func110,Tryz.ntmps110
  go_wp2_with fail
  refine Calls.mono HM.out ?_
  intro e w1 h1
  rcases hC.out _ _ _ zsz T0 h1 with ⟨f,rfl,hP⟩ | ⟨t,u,L',rfl,hp2,t1,S1,r1⟩
  ·go_wp2_with fail
   exact⟨rfl,hP⟩
  obtain⟨p0,p1,p2,p3,p4,p5,q0,q1,q2,q3,q4,q5⟩:=(Z0.turn t1 hne).six
  have pl:=(Z0.turn t1 hne).lt
  have HT:=hid2 (tn T0 t1)
  have HS:=hid2 S1
  obtain⟨av,cv,rfl,-,-⟩:=S1.parts.shape
  generalize hnn:t.parts.length=nn at *
  clear h1 t1 S1
  simp only[tmV]
  go_wp2_with fail
  refine bodyPost_ret (v:=tmV t (.slice av nn cv)) (by simp[results,Tryz.results110,go_sem, *]) rfl (hO.out t L' _ _ (.slice av nn cv) hp2 ?_ rfl ?_ ?_)
  ·exact HT.out.trans (turn_six _ _ _ _ _ _ _ _) (fun i hi=>.inr (by simp at hi;omega))
  ·exact SitB.lower (SitB.turn HS.out (turn_six _ _ _ _ _ _ _ _) (by simp)) (by simp)
  ·exact r1.turn1 (turn_six _ _ _ _ _ _ _ _) hL
 rw[if_neg h7] at hq
 have n7:=ba_neL [97,98,115] h7
 by_cases h8:t0.text=k_ceil
 ·rw[if_pos h8] at hq
  clear n0 n1 n2 n3 n4 n5 n6 n7
  have M:=call_c hz HX hx hm 16 (by decide) (by decide) 0 (by decide) _ r0
  rw[<-hq] at M
  rw[h8,show ((0:Nat):Int)+1=1 from rfl] at M
  have HM:=hid2 M
  clear M hr
  rw[h8]
  go_enter Tryz.func110,Tryz.ntmps110
  go_wp2_with fail
  refine Calls.mono HM.out ?_
  intro e w1 h1
  rcases hC.out _ _ _ zsz T0 h1 with ⟨f,rfl,hP⟩ | ⟨t,u,L',rfl,hp2,t1,S1,r1⟩
  ·go_wp2_with fail
   exact⟨rfl,hP⟩
  obtain⟨p0,p1,p2,p3,p4,p5,q0,q1,q2,q3,q4,q5⟩:=(Z0.turn t1 hne).six
  have pl:=(Z0.turn t1 hne).lt
  have HT:=hid2 (tn T0 t1)
  have HS:=hid2 S1
  obtain⟨av,cv,rfl,-,-⟩:=S1.parts.shape
  generalize hnn:t.parts.length=nn at *
  clear h1 t1 S1
  simp only[tmV]
  go_wp2_with fail
  refine bodyPost_ret (v:=tmV t (.slice av nn cv)) (by simp[results,Tryz.results110,go_sem, *]) rfl (hO.out t L' _ _ (.slice av nn cv) hp2 ?_ rfl ?_ ?_)
  ·exact HT.out.trans (turn_six _ _ _ _ _ _ _ _) (fun i hi=>.inr (by simp at hi;omega))
  ·exact SitB.lower (SitB.turn HS.out (turn_six _ _ _ _ _ _ _ _) (by simp)) (by simp)
  ·exact r1.turn1 (turn_six _ _ _ _ _ _ _ _) hL
 rw[if_neg h8] at hq
 have n8:=ba_neL [99,101,105,108] h8
 by_cases h9:t0.text=k_floor
 ·rw[if_pos h9] at hq
  clear n0 n1 n2 n3 n4 n5 n6 n7 n8
  have M:=call_c hz HX hx hm 17 (by decide) (by decide) 0 (by decide) _ r0
  rw[<-hq] at M
  rw[h9,show ((0:Nat):Int)+1=1 from rfl] at M
  have HM:=hid2 M
  clear M hr
  rw[h9]
  go_enter Tryz.func110,Tryz.ntmps110
  go_wp2_with fail
  refine Calls.mono HM.out ?_
  intro e w1 h1
  rcases hC.out _ _ _ zsz T0 h1 with ⟨f,rfl,hP⟩ | ⟨t,u,L',rfl,hp2,t1,S1,r1⟩
  ·go_wp2_with fail
   exact⟨rfl,hP⟩
  obtain⟨p0,p1,p2,p3,p4,p5,q0,q1,q2,q3,q4,q5⟩:=(Z0.turn t1 hne).six
  have pl:=(Z0.turn t1 hne).lt
  have HT:=hid2 (tn T0 t1)
  have HS:=hid2 S1
  obtain⟨av,cv,rfl,-,-⟩:=S1.parts.shape
  generalize hnn:t.parts.length=nn at *
  clear h1 t1 S1
  simp only[tmV]
  go_wp2_with fail
  refine bodyPost_ret (v:=tmV t (.slice av nn cv)) (by simp[results,Tryz.results110,go_sem, *]) rfl (hO.out t L' _ _ (.slice av nn cv) hp2 ?_ rfl ?_ ?_)
  ·exact HT.out.trans (turn_six _ _ _ _ _ _ _ _) (fun i hi=>.inr (by simp at hi;omega))
  ·exact SitB.lower (SitB.turn HS.out (turn_six _ _ _ _ _ _ _ _) (by simp)) (by simp)
  ·exact r1.turn1 (turn_six _ _ _ _ _ _ _ _) hL
 rw[if_neg h9] at hq
 have n9:=ba_neL [102,108,111,111,114] h9
 by_cases h10:t0.text=k_cron
 ·rw[if_pos h10] at hq
  clear n0 n1 n2 n3 n4 n5 n6 n7 n8 n9
  have M:=cron_c hz HX hx (by rw[<-h10];exact hm) _ r0
  rw[<-hq] at M
  have HM:=hid2 M
  clear M hr
  rw[h10]
  go_enter Tryz.func110,Tryz.ntmps110
  go_wp2_with fail
  refine Calls.mono HM.out ?_
  intro e w1 h1
  rcases hC.out _ _ _ zsz T0 h1 with ⟨f,rfl,hP⟩ | ⟨t,u,L',rfl,hp2,t1,S1,r1⟩
  ·go_wp2_with fail
   exact⟨rfl,hP⟩
  obtain⟨p0,p1,p2,p3,p4,p5,q0,q1,q2,q3,q4,q5⟩:=(Z0.turn t1 hne).six
  have pl:=(Z0.turn t1 hne).lt
  have HT:=hid2 (tn T0 t1)
  have HS:=hid2 S1
  obtain⟨av,cv,rfl,-,-⟩:=S1.parts.shape
  generalize hnn:t.parts.length=nn at *
  clear h1 t1 S1
  simp only[tmV]
  go_wp2_with fail
  refine bodyPost_ret (v:=tmV t (.slice av nn cv)) (by simp[results,Tryz.results110,go_sem, *]) rfl (hO.out t L' _ _ (.slice av nn cv) hp2 ?_ rfl ?_ ?_)
  ·exact HT.out.trans (turn_six _ _ _ _ _ _ _ _) (fun i hi=>.inr (by simp at hi;omega))
  ·exact SitB.lower (SitB.turn HS.out (turn_six _ _ _ _ _ _ _ _) (by simp)) (by simp)
  ·exact r1.turn1 (turn_six _ _ _ _ _ _ _ _) hL
 rw[if_neg h10] at hq
 have n10:=ba_neL [99,114,111,110] h10
 by_cases h11:winK t0.text=0
 ·rw[if_pos h11] at hq
  have HM:=hid2 (window_no hx h11 _ r0)
  clear hr
  go_enter Tryz.func110,Tryz.ntmps110
  go_wp2_with fail
  refine Calls.mono HM.out ?_
  rintro e w1 ⟨rfl,b1⟩
  go_wp2_with fail
  exact⟨rfl,hE.out _ _ hq (T0.andBelow b1)⟩
 ·rw[if_neg h11] at hq
  have M:Calls Tryz.prog 129 #[.pointer (some ⟨rb,0,none⟩),.string t0.text] (w.alloc (.cells (zs6).toArray 33)) (Out (VTm (w.alloc (.cells (zs6).toArray 33)).heap.size z) z (w.alloc (.cells (zs6).toArray 33)) rb tb lb c o pr):=by
   rw[hq]
   by_cases h12:winK t0.text=12
   ·exact window_c1 hz HX hx hm _ rfl h11 h12 _ r0
   ·exact window_c0 hz HX hx hm _ rfl h11 h12 _ r0
  have HM:=hid2 M
  clear M hr
  go_enter Tryz.func110,Tryz.ntmps110
  go_wp2_with fail
  refine Calls.mono HM.out ?_
  intro e w1 h1
  rcases hC.out _ _ _ zsz T0 h1 with ⟨f,rfl,hP⟩ | ⟨t,u,L',rfl,hp2,t1,S1,r1⟩
  ·go_wp2_with fail
   exact⟨rfl,hP⟩
  obtain⟨p0,p1,p2,p3,p4,p5,q0,q1,q2,q3,q4,q5⟩:=(Z0.turn t1 hne).six
  have pl:=(Z0.turn t1 hne).lt
  have HT:=hid2 (tn T0 t1)
  have HS:=hid2 S1
  obtain⟨av,cv,rfl,-,-⟩:=S1.parts.shape
  generalize hnn:t.parts.length=nn at *
  clear h1 t1 S1
  simp only[tmV]
  go_wp2_with fail
  refine bodyPost_ret (v:=tmV t (.slice av nn cv)) (by simp[results,Tryz.results110,go_sem, *]) rfl (hO.out t L' _ _ (.slice av nn cv) hp2 ?_ rfl ?_ ?_)
  ·exact HT.out.trans (turn_six _ _ _ _ _ _ _ _) (fun i hi=>.inr (by simp at hi;omega))
  ·exact SitB.lower (SitB.turn HS.out (turn_six _ _ _ _ _ _ _ _) (by simp)) (by simp)
  ·exact r1.turn1 (turn_six _ _ _ _ _ _ _ _) hL
theorem box_six {w:World}{g:Nat}{t:Tm}{u:Value}(h:Box w g (tmL t u)):Six w g 0 t u:=⟨h.cell 0 _ rfl,h.cell 1 _ rfl,h.cell 2 _ rfl,h.cell 3 _ rfl,h.cell 4 _ rfl,h.cell 5 _ rfl⟩
theorem out_up {z:Nat}{w W w':World}{rb tb lb:Nat}{c:Int}{o:Nat}{pr:Rs Tm}{e:Ending}(hT:Turn [rb] w W)(h:Out (VTm W.heap.size z) z W rb tb lb c o pr e w'):
 (∃ f,e=.panicked [fltE f]/\pr=.error f/\Turn [rb] w w')\/(∃ t u L',e=.returned (tmV t u)/\pr=.ok (t,L')/\Turn [rb] W w'/\SitB W.heap.size z w' t u/\Rea z w' rb tb lb c L' o):=by
 rcases hp:pr with f | y
 ·obtain⟨rfl,ht⟩:=Out.of_err hp h
  exact .inl ⟨f,rfl,rfl,tn hT ht⟩
 ·obtain⟨ht,v,rfl,⟨u,rfl,hs⟩,hr'⟩:=Out.of_ok hp h
  exact .inr ⟨y.1,u,y.2,rfl,rfl,ht,hs,hr'⟩
set_option maxHeartbeats 4000000 in
set_option maxRecDepth 20000 in
theorem atom_num {z rb tb lb:Nat}{c:Int}{L:List Tk}{o:Nat}(hz:z<=9223372036854775807){X:Option Ps}(_HX:InC z rb tb lb c o X){t0:Tk}(hx:nxt c L=.ok t0)(hk:t0.kind=2)(w:World)(hr:Rea z w rb tb lb c L o):
 Calls Tryz.prog 87 #[.pointer (some ⟨rb,0,none⟩)] w (Out (VTm w.heap.size z) z w rb tb lb c o (numberP c L)):=by
 obtain⟨pr,hpr⟩:∃ pr,Hid (pr=numberP c L):=⟨_,rfl⟩
 rw[<-hpr.out]
 have hE:Hid (∀ f w',pr=.error f->Turn [rb] w w'->Out (VTm w.heap.size z) z w rb tb lb c o pr (.panicked [fltE f]) w'):=fun f w' h ht=>Out.mk_err h ht
 have hO:Hid (∀ t L' w' v u,pr=.ok (t,L')->Turn [rb] w w'->v=tmV t u->SitB w.heap.size z w' t u->Rea z w' rb tb lb c L' o->Out (VTm w.heap.size z) z w rb tb lb c o pr (.returned v) w'):=fun t L' w' v u h ht hv hs hr'=>Out.mk_ok h ht ⟨u,hv,hs⟩ hr'
 generalize Out (VTm w.heap.size z) z w rb tb lb c o pr=Post at *
 have hL:=hr.lts
 have hne:w.heap.size∉[rb]:=by simp;omega
 have hok:=hr.tl.ok
 rw[<-nxt_inv hx] at hok
 have Z0:=Box.new w zs6 33
 go_enter Tryz.func87,Tryz.ntmps87
 go_wp2_with fail
 have T0:=tnO (ob:=.cells (zs6).toArray 33) (Turn.refl [rb] w)
 have r0:=hr.onO (ob:=.cells (zs6).toArray 33)
 have Rs0:=Z0
 have zsz:w.heap.size<(w.alloc (.cells (zs6).toArray 33)).heap.size:=by simp
 clear Z0
 generalize hW0:w.alloc _=w0 at *
 clear hW0
 clear hr
 refine Calls.mono (next_ok hx _ r0) ?_
 rintro e w1 ⟨rfl,b1⟩
 have t1:=Turn.of_below (S:=[rb]) b1
 have r1:=r0.next b1
 have Rs1:=Rs0.turn t1 hne
 have T1:=tn T0 t1
 have s1:=t1.size
 clear Rs0 T0 r0 b1 t1
 go_wp2_with fail
 have t2:=tnO (ob:=.cells ([.int .i64 2,.string t0.text,.int .i64 t0.n,.int .i64 (t0.at_:Nat)]).toArray 47) (Turn.refl [rb] w1)
 have r2:=r1.onO (ob:=.cells ([.int .i64 2,.string t0.text,.int .i64 t0.n,.int .i64 (t0.at_:Nat)]).toArray 47)
 have Tk2:=Box.new w1 [.int .i64 2,.string t0.text,.int .i64 t0.n,.int .i64 (t0.at_:Nat)] 47
 have hnTk:w1.heap.size∉[rb]:=by simp;omega
 have hxTk:w1.heap.size<(w1.alloc (.cells ([.int .i64 2,.string t0.text,.int .i64 t0.n,.int .i64 (t0.at_:Nat)]).toArray 47)).heap.size:=by simp
 have Rs2:=Rs1.turn t2 hne
 have T2:=tn T1 t2
 have s2:=t2.size
 clear Rs1 T1 r1 t2
 generalize hW2:w1.alloc _=w2 at *
 clear hW2
 obtain⟨x0,x1,x2,x3,y0,y1,y2,y3⟩:=Tk2.four
 have xl:=Tk2.lt
 go_wp2_with fail
 clear x0 x1 x2 x3 y0 y1 y2 y3
 have HM:=hid2 (numb_c hz _ r2)
 rw[<-hpr.out] at HM
 refine Calls.mono HM.out ?_
 intro e w3 h3
 rcases out_up T2 h3 with ⟨f,rfl,hp,ht⟩ | ⟨t,u,L',rfl,hp2,t3,S3,r3⟩
 ·go_wp2_with fail
  exact⟨rfl,hE.out _ _ hp ht⟩
 obtain⟨p0,p1,p2,p3,p4,p5,q0,q1,q2,q3,q4,q5⟩:=(Rs2.turn t3 hne).six
 have pl:=(Rs2.turn t3 hne).lt
 have HT:=hid2 (tn T2 t3)
 have HS:=hid2 S3
 obtain⟨av,cv,rfl,-,-⟩:=S3.parts.shape
 generalize hnn:t.parts.length=nn at *
 clear h3 t3 S3 HM
 simp only[tmV]
 go_wp2_with fail
 refine bodyPost_ret (v:=tmV t (.slice av nn cv)) (by simp[results,Tryz.results87,go_sem, *]) rfl (hO.out t L' _ _ (.slice av nn cv) hp2 ?_ rfl ?_ ?_)
 ·exact HT.out.trans (turn_six _ _ _ _ _ _ _ _) (fun i hi=>.inr (by simp at hi;omega))
 ·exact SitB.lower (SitB.turn HS.out (turn_six _ _ _ _ _ _ _ _) (by simp;omega)) (by omega)
 ·exact r3.turn1 (turn_six _ _ _ _ _ _ _ _) hL
set_option maxHeartbeats 4000000 in
set_option maxRecDepth 20000 in
theorem atom_name {z rb tb lb:Nat}{c:Int}{L:List Tk}{o:Nat}(hz:z<=9223372036854775807){X:Option Ps}(_HX:InC z rb tb lb c o X){t0:Tk}(hx:nxt c L=.ok t0)(hk:t0.kind=1)(w:World)(hr:Rea z w rb tb lb c L o):
 Calls Tryz.prog 87 #[.pointer (some ⟨rb,0,none⟩)] w (Out (VTm w.heap.size z) z w rb tb lb c o ((.ok (⟨2,t0.text,0,0,(t0.at_:Int),[]⟩,L.tail):Rs Tm))):=by
 obtain⟨pr,hpr⟩:∃ pr,Hid (pr=(.ok (⟨2,t0.text,0,0,(t0.at_:Int),[]⟩,L.tail):Rs Tm)):=⟨_,rfl⟩
 rw[<-hpr.out]
 have hE:Hid (∀ f w',pr=.error f->Turn [rb] w w'->Out (VTm w.heap.size z) z w rb tb lb c o pr (.panicked [fltE f]) w'):=fun f w' h ht=>Out.mk_err h ht
 have hO:Hid (∀ t L' w' v u,pr=.ok (t,L')->Turn [rb] w w'->v=tmV t u->SitB w.heap.size z w' t u->Rea z w' rb tb lb c L' o->Out (VTm w.heap.size z) z w rb tb lb c o pr (.returned v) w'):=fun t L' w' v u h ht hv hs hr'=>Out.mk_ok h ht ⟨u,hv,hs⟩ hr'
 generalize Out (VTm w.heap.size z) z w rb tb lb c o pr=Post at *
 have hL:=hr.lts
 have hne:w.heap.size∉[rb]:=by simp;omega
 have hok:=hr.tl.ok
 rw[<-nxt_inv hx] at hok
 have hq:takeK c 1 L=.ok (t0,L.tail):=by unfold takeK;rw[hx];exact if_pos hk
 have Z0:=Box.new w zs6 33
 go_enter Tryz.func87,Tryz.ntmps87
 go_wp2_with fail
 have T0:=tnO (ob:=.cells (zs6).toArray 33) (Turn.refl [rb] w)
 have r0:=hr.onO (ob:=.cells (zs6).toArray 33)
 have Rs0:=Z0
 have zsz:w.heap.size<(w.alloc (.cells (zs6).toArray 33)).heap.size:=by simp
 clear Z0
 generalize hW0:w.alloc _=w0 at *
 clear hW0
 clear hr
 refine Calls.mono (next_ok hx _ r0) ?_
 rintro e w1 ⟨rfl,b1⟩
 have t1:=Turn.of_below (S:=[rb]) b1
 have r1:=r0.next b1
 have Rs1:=Rs0.turn t1 hne
 have T1:=tn T0 t1
 have s1:=t1.size
 clear Rs0 T0 r0 b1 t1
 go_wp2_with fail
 have t2:=tnO (ob:=.cells ([.int .i64 1,.string t0.text,.int .i64 t0.n,.int .i64 (t0.at_:Nat)]).toArray 47) (Turn.refl [rb] w1)
 have r2:=r1.onO (ob:=.cells ([.int .i64 1,.string t0.text,.int .i64 t0.n,.int .i64 (t0.at_:Nat)]).toArray 47)
 have Tk2:=Box.new w1 [.int .i64 1,.string t0.text,.int .i64 t0.n,.int .i64 (t0.at_:Nat)] 47
 have hnTk:w1.heap.size∉[rb]:=by simp;omega
 have hxTk:w1.heap.size<(w1.alloc (.cells ([.int .i64 1,.string t0.text,.int .i64 t0.n,.int .i64 (t0.at_:Nat)]).toArray 47)).heap.size:=by simp
 have Rs2:=Rs1.turn t2 hne
 have T2:=tn T1 t2
 have s2:=t2.size
 clear Rs1 T1 r1 t2
 generalize hW2:w1.alloc _=w2 at *
 clear hW2
 obtain⟨x0,x1,x2,x3,y0,y1,y2,y3⟩:=Tk2.four
 have xl:=Tk2.lt
 go_wp2_with fail
 clear x0 x1 x2 x3 y0 y1 y2 y3
 refine Calls.mono (take_c2 1 (by decide) _ r2) ?_
 rintro e w3 h3
 obtain⟨t3,_,rfl,rfl,r3⟩:=Out.of_ok hq h3
 have Rs3:=Rs2.turn t3 hne
 have Tk3:=Tk2.turn t3 hnTk
 have T3:=tn T2 t3
 have s3:=t3.size
 clear Rs2 Tk2 T2 r2 h3 t3
 simp only[tkW]
 obtain⟨x0,x1,x2,x3,y0,y1,y2,y3⟩:=Tk3.four
 have xl:=Tk3.lt
 obtain⟨p0,p1,p2,p3,p4,p5,pf0,pf1,pf2,pf3,pf4,pf5⟩:=Rs3.six
 have pl:=Rs3.lt
 have hg:w1.heap.size≠w.heap.size:=by omega
 go_wp2_with fail
 refine bodyPost_ret (v:=tmV (⟨2,t0.text,0,0,(t0.at_:Int),[]⟩) (.slice none 0 0)) (by simp[results,Tryz.results87,go_sem, *]) rfl (hO.out (⟨2,t0.text,0,0,(t0.at_:Int),[]⟩) (L.tail) _ _ (.slice none 0 0) (hpr.out) ?_ rfl ?_ ?_)
 ·exact T3.trans (turn_six _ _ _ _ _ _ _ _) (fun i hi=>.inr (by simp at hi;omega))
 ·exact sitb_leaf (fit_of _ _ _ _ _ _ hz (by decide) (by decide) hok.x zero64 zero64 hok.a) rfl
 ·exact r3.turn1 (turn_six _ _ _ _ _ _ _ _) hL
set_option maxHeartbeats 4000000 in
set_option maxRecDepth 20000 in
theorem atom_word {z rb tb lb:Nat}{c:Int}{L:List Tk}{o:Nat}(hz:z<=9223372036854775807){X:Option Ps}(HX:InC z rb tb lb c o X){t0:Tk}(hx:nxt c L=.ok t0)(hk:t0.kind=6)(w:World)(hr:Rea z w rb tb lb c L o):
 Calls Tryz.prog 87 #[.pointer (some ⟨rb,0,none⟩)] w (Out (VTm w.heap.size z) z w rb tb lb c o (wordP c X t0 L.tail)):=by
 obtain⟨pr,hpr⟩:∃ pr,Hid (pr=wordP c X t0 L.tail):=⟨_,rfl⟩
 rw[<-hpr.out]
 have hE:Hid (∀ f w',pr=.error f->Turn [rb] w w'->Out (VTm w.heap.size z) z w rb tb lb c o pr (.panicked [fltE f]) w'):=fun f w' h ht=>Out.mk_err h ht
 have hO:Hid (∀ t L' w' v u,pr=.ok (t,L')->Turn [rb] w w'->v=tmV t u->SitB w.heap.size z w' t u->Rea z w' rb tb lb c L' o->Out (VTm w.heap.size z) z w rb tb lb c o pr (.returned v) w'):=fun t L' w' v u h ht hv hs hr'=>Out.mk_ok h ht ⟨u,hv,hs⟩ hr'
 generalize Out (VTm w.heap.size z) z w rb tb lb c o pr=Post at *
 have hL:=hr.lts
 have hne:w.heap.size∉[rb]:=by simp;omega
 have hok:=hr.tl.ok
 rw[<-nxt_inv hx] at hok
 have hm:isT t0.text t0=true:=by unfold isT;rw[hk];simp
 have Z0:=Box.new w zs6 33
 go_enter Tryz.func87,Tryz.ntmps87
 go_wp2_with fail
 have T0:=tnO (ob:=.cells (zs6).toArray 33) (Turn.refl [rb] w)
 have r0:=hr.onO (ob:=.cells (zs6).toArray 33)
 have Rs0:=Z0
 have zsz:w.heap.size<(w.alloc (.cells (zs6).toArray 33)).heap.size:=by simp
 clear Z0
 generalize hW0:w.alloc _=w0 at *
 clear hW0
 clear hr
 refine Calls.mono (next_ok hx _ r0) ?_
 rintro e w1 ⟨rfl,b1⟩
 have t1:=Turn.of_below (S:=[rb]) b1
 have r1:=r0.next b1
 have Rs1:=Rs0.turn t1 hne
 have T1:=tn T0 t1
 have s1:=t1.size
 clear Rs0 T0 r0 b1 t1
 go_wp2_with fail
 have t2:=tnO (ob:=.cells ([.int .i64 6,.string t0.text,.int .i64 t0.n,.int .i64 (t0.at_:Nat)]).toArray 47) (Turn.refl [rb] w1)
 have r2:=r1.onO (ob:=.cells ([.int .i64 6,.string t0.text,.int .i64 t0.n,.int .i64 (t0.at_:Nat)]).toArray 47)
 have Tk2:=Box.new w1 [.int .i64 6,.string t0.text,.int .i64 t0.n,.int .i64 (t0.at_:Nat)] 47
 have hnTk:w1.heap.size∉[rb]:=by simp;omega
 have hxTk:w1.heap.size<(w1.alloc (.cells ([.int .i64 6,.string t0.text,.int .i64 t0.n,.int .i64 (t0.at_:Nat)]).toArray 47)).heap.size:=by simp
 have Rs2:=Rs1.turn t2 hne
 have T2:=tn T1 t2
 have s2:=t2.size
 clear Rs1 T1 r1 t2
 generalize hW2:w1.alloc _=w2 at *
 clear hW2
 obtain⟨x0,x1,x2,x3,y0,y1,y2,y3⟩:=Tk2.four
 have xl:=Tk2.lt
 go_wp2_with fail
 clear x0 x1 x2 x3 y0 y1 y2 y3
 have HM:=hid2 (word_c hz HX hx hm _ r2)
 rw[<-hpr.out] at HM
 refine Calls.mono HM.out ?_
 intro e w3 h3
 rcases out_up T2 h3 with ⟨f,rfl,hp,ht⟩ | ⟨t,u,L',rfl,hp2,t3,S3,r3⟩
 ·go_wp2_with fail
  exact⟨rfl,hE.out _ _ hp ht⟩
 obtain⟨p0,p1,p2,p3,p4,p5,q0,q1,q2,q3,q4,q5⟩:=(Rs2.turn t3 hne).six
 have pl:=(Rs2.turn t3 hne).lt
 have HT:=hid2 (tn T2 t3)
 have HS:=hid2 S3
 obtain⟨av,cv,rfl,-,-⟩:=S3.parts.shape
 generalize hnn:t.parts.length=nn at *
 clear h3 t3 S3 HM
 simp only[tmV]
 go_wp2_with fail
 refine bodyPost_ret (v:=tmV t (.slice av nn cv)) (by simp[results,Tryz.results87,go_sem, *]) rfl (hO.out t L' _ _ (.slice av nn cv) hp2 ?_ rfl ?_ ?_)
 ·exact HT.out.trans (turn_six _ _ _ _ _ _ _ _) (fun i hi=>.inr (by simp at hi;omega))
 ·exact SitB.lower (SitB.turn HS.out (turn_six _ _ _ _ _ _ _ _) (by simp;omega)) (by omega)
 ·exact r3.turn1 (turn_six _ _ _ _ _ _ _ _) hL
set_option maxHeartbeats 4000000 in
set_option maxRecDepth 20000 in
theorem atom_br {z rb tb lb:Nat}{c:Int}{L:List Tk}{o:Nat}(_hz:z<=9223372036854775807){X:Option Ps}(HX:InC z rb tb lb c o X){t0:Tk}(hx:nxt c L=.ok t0)(h2:t0.kind≠2)(h1:t0.kind≠1)(h6:t0.kind≠6)(w:World)(hr:Rea z w rb tb lb c L o):
 Calls Tryz.prog 87 #[.pointer (some ⟨rb,0,none⟩)] w (Out (VTm w.heap.size z) z w rb tb lb c o (beginP c k_lp X L fun E L1=>bnd (E L1) fun y=>closeP c k_rp y)):=by
 obtain⟨pr,hpr⟩:∃ pr,Hid (pr=beginP c k_lp X L fun E L1=>bnd (E L1) fun y=>closeP c k_rp y):=⟨_,rfl⟩
 rw[<-hpr.out]
 have hE:Hid (∀ f w',pr=.error f->Turn [rb] w w'->Out (VTm w.heap.size z) z w rb tb lb c o pr (.panicked [fltE f]) w'):=fun f w' h ht=>Out.mk_err h ht
 have hO:Hid (∀ t L' w' v u,pr=.ok (t,L')->Turn [rb] w w'->v=tmV t u->SitB w.heap.size z w' t u->Rea z w' rb tb lb c L' o->Out (VTm w.heap.size z) z w rb tb lb c o pr (.returned v) w'):=fun t L' w' v u h ht hv hs hr'=>Out.mk_ok h ht ⟨u,hv,hs⟩ hr'
 generalize Out (VTm w.heap.size z) z w rb tb lb c o pr=Post at *
 have hL:=hr.lts
 have hne:w.heap.size∉[rb]:=by simp;omega
 have hok:=hr.tl.ok
 rw[<-nxt_inv hx] at hok
 have e2:(t0.kind==2)=false:=by simpa using h2
 have e1:(t0.kind==1)=false:=by simpa using h1
 have e6:(t0.kind==6)=false:=by simpa using h6
 have Z0:=Box.new w zs6 33
 go_enter Tryz.func87,Tryz.ntmps87
 go_wp2_with fail
 have T0:=tnO (ob:=.cells (zs6).toArray 33) (Turn.refl [rb] w)
 have r0:=hr.onO (ob:=.cells (zs6).toArray 33)
 have Rs0:=Z0
 have zsz:w.heap.size<(w.alloc (.cells (zs6).toArray 33)).heap.size:=by simp
 clear Z0
 generalize hW0:w.alloc _=w0 at *
 clear hW0
 clear hr
 refine Calls.mono (next_ok hx _ r0) ?_
 rintro e w1 ⟨rfl,b1⟩
 have t1:=Turn.of_below (S:=[rb]) b1
 have r1:=r0.next b1
 have Rs1:=Rs0.turn t1 hne
 have T1:=tn T0 t1
 have s1:=t1.size
 clear Rs0 T0 r0 b1 t1
 go_wp2_with fail
 have t2:=tnO (ob:=.cells ([.int .i64 t0.kind,.string t0.text,.int .i64 t0.n,.int .i64 (t0.at_:Nat)]).toArray 47) (Turn.refl [rb] w1)
 have r2:=r1.onO (ob:=.cells ([.int .i64 t0.kind,.string t0.text,.int .i64 t0.n,.int .i64 (t0.at_:Nat)]).toArray 47)
 have Tk2:=Box.new w1 [.int .i64 t0.kind,.string t0.text,.int .i64 t0.n,.int .i64 (t0.at_:Nat)] 47
 have hnTk:w1.heap.size∉[rb]:=by simp;omega
 have hxTk:w1.heap.size<(w1.alloc (.cells ([.int .i64 t0.kind,.string t0.text,.int .i64 t0.n,.int .i64 (t0.at_:Nat)]).toArray 47)).heap.size:=by simp
 have Rs2:=Rs1.turn t2 hne
 have T2:=tn T1 t2
 have s2:=t2.size
 clear Rs1 T1 r1 t2
 generalize hW2:w1.alloc _=w2 at *
 clear hW2
 obtain⟨x0,x1,x2,x3,y0,y1,y2,y3⟩:=Tk2.four
 have xl:=Tk2.lt
 go_wp2_with fail
 clear x0 x1 x2 x3 y0 y1 y2 y3
 refine Calls.mono (begin_c k_lp _ r2) ?_
 rintro e w3 h3
 rcases hy1:mustS c k_lp L with f | y
 ·obtain⟨rfl,t3⟩:=beg_err hy1 h3
  go_wp2_with fail
  exact⟨rfl,hE.out _ _ (by rw[hpr.out,beginP,hy1];rfl) (tn T2 t3)⟩
 rcases X with _ | E
 ·obtain⟨rfl,t3⟩:=beg_deep hy1 (HX.no rfl) h3
  go_wp2_with fail
  exact⟨rfl,hE.out _ _ (by rw[hpr.out,beginP,hy1];rfl) (tn T2 t3)⟩
 obtain⟨rfl,t3,r3⟩:=beg_ok hy1 (HX.yes E rfl).1 h3
 have Rs3:=Rs2.turn t3 hne
 have Tk3:=Tk2.turn t3 hnTk
 have T3:=tn T2 t3
 have s3:=t3.size
 clear Rs2 Tk2 T2 r2 h3 t3
 have hpr1:Hid (pr=bnd (E y.2) fun y=>closeP c k_rp y):=by show _=_;rw[hpr.out,beginP,hy1];rfl
 obtain⟨ho64,HEx,hDec⟩:=HX.yes E rfl
 go_wp2_with fail
 refine Calls.mono (HEx _ _ r3) ?_
 rintro e w4 h4
 rcases hy2:E y.2 with f | q
 ·obtain⟨rfl,t4⟩:=Out.of_err hy2 h4
  go_wp2_with fail
  exact⟨rfl,hE.out _ _ (by rw[hpr1.out,hy2];rfl) (tn T3 t4)⟩
 obtain⟨t4,_,rfl,⟨u4,rfl,S4⟩,r4⟩:=Out.of_ok hy2 h4
 have Rs4:=Rs3.turn t4 hne
 have Tk4:=Tk3.turn t4 hnTk
 have T4:=tn T3 t4
 have s4:=t4.size
 clear Rs3 Tk3 T3 r3 h4 t4
 have hpr2:Hid (pr=bnd (mustS c k_rp q.2) fun a=>.ok (q.1,a.2)):=by show _=_;rw[hpr1.out,hy2];rfl
 simp only[tmV]
 obtain⟨av,cv,hu,-,-⟩:=S4.parts.shape
 subst hu
 generalize hnn:q.1.parts.length=nn at *
 go_wp2_with fail
 have t5:=tnO (ob:=.cells ((tmL q.1 (.slice av nn cv))).toArray 33) (Turn.refl [rb] w4)
 have r5:=r4.onO (ob:=.cells ((tmL q.1 (.slice av nn cv))).toArray 33)
 have Lt5:=Box.new w4 (tmL q.1 (.slice av nn cv)) 33
 have hnLt:w4.heap.size∉[rb]:=by simp;omega
 have hxLt:w4.heap.size<(w4.alloc (.cells ((tmL q.1 (.slice av nn cv))).toArray 33)).heap.size:=by simp
 have Rs5:=Rs4.turn t5 hne
 have Tk5:=Tk4.turn t5 hnTk
 have S5:=SitB.turn S4 t5 (by simp;omega)
 have T5:=tn T4 t5
 have s5:=t5.size
 clear Rs4 Tk4 S4 T4 r4 t5
 generalize hW5:w4.alloc _=w5 at *
 clear hW5
 refine Calls.mono (close_c k_rp _ r5) ?_
 rintro e w6 h6
 rcases hy3:mustS c k_rp q.2 with f | d
 ·obtain⟨rfl,t6⟩:=Out.of_err hy3 h6
  go_wp2_with fail
  exact⟨rfl,hE.out _ _ (by rw[hpr2.out,hy3];rfl) (tn T5 t6)⟩
 obtain⟨t6,_,rfl,rfl,r6⟩:=Out.of_ok hy3 h6
 have Rs6:=Rs5.turn t6 hne
 have Tk6:=Tk5.turn t6 hnTk
 have Lt6:=Lt5.turn t6 hnLt
 have S6:=SitB.turn S5 t6 (by simp;omega)
 have T6:=tn T5 t6
 have s6:=t6.size
 clear Rs5 Tk5 Lt5 S5 T5 r5 h6 t6
 have hpr3:Hid (pr=.ok (q.1,d.2)):=by show _=_;rw[hpr2.out,hy3];rfl
 obtain⟨p0,p1,p2,p3,p4,p5,pf0,pf1,pf2,pf3,pf4,pf5⟩:=Rs6.six
 have pl:=Rs6.lt
 obtain⟨x0,x1,x2,x3,x4,x5,xf0,xf1,xf2,xf3,xf4,xf5⟩:=Lt6.six
 have xl:=Lt6.lt
 have hg:w4.heap.size≠w.heap.size:=by omega
 have HS:=hid2 S6
 clear S6
 go_wp2_with fail
 refine bodyPost_ret (v:=tmV (q.1) (.slice av nn cv)) (by simp[results,Tryz.results87,go_sem, *]) rfl (hO.out (q.1) (d.2) _ _ (.slice av nn cv) (hpr3.out) ?_ rfl ?_ ?_)
 ·exact T6.trans (turn_six _ _ _ _ _ _ _ _) (fun i hi=>.inr (by simp at hi;omega))
 ·exact SitB.lower (SitB.turn HS.out (turn_six _ _ _ _ _ _ _ _) (by simp;omega)) (by omega)
 ·exact r6.turn1 (turn_six _ _ _ _ _ _ _ _) hL
set_option maxHeartbeats 1000000 in
theorem atom_no {z rb tb lb:Nat}{c:Int}{L:List Tk}{o:Nat}{f:Flt}(hx:nxt c L=.error f)(w:World)(hr:Rea z w rb tb lb c L o):
 Calls Tryz.prog 87 #[.pointer (some ⟨rb,0,none⟩)] w fun e w'=>e=.panicked [fltE f]/\Below w.heap.size w w':=by
 have HN:=hid2 (next_err hx _ (hr.onO (ob:=.cells (zs6).toArray 33)))
 clear hr hx
 go_enter Tryz.func87,Tryz.ntmps87
 go_wp2_with fail
 refine Calls.mono HN.out ?_
 rintro e w1 ⟨rfl,b1⟩
 go_wp2_with fail
 exact⟨rfl,rfl,below_on ((Below.refl _ _).alloc (Nat.le_refl _) _) b1 (by simp)⟩
theorem atom_c {z rb tb lb:Nat}{c:Int}{o:Nat}(hz:z<=9223372036854775807){X:Option Ps}(HX:InC z rb tb lb c o X):ExC z rb tb lb c o 87 (atomP c X):=by
 intro L w hr
 unfold atomP
 rcases hx:nxt c L with f | t0
 ·exact(atom_no hx w hr).mono fun e w' ⟨h1,h2⟩=>h1 ▸ Out.mk_err rfl (Turn.of_below h2)
 ·rw[bnd_ok]
  by_cases h2:t0.kind=2
  ·rw[if_pos h2];exact atom_num hz HX hx h2 w hr
  ·rw[if_neg h2]
   by_cases h1:t0.kind=1
   ·rw[if_pos h1];exact atom_name hz HX hx h1 w hr
   ·rw[if_neg h1]
    by_cases h6:t0.kind=6
    ·rw[if_pos h6];exact atom_word hz HX hx h6 w hr
    ·rw[if_neg h6];exact atom_br hz HX hx h2 h1 h6 w hr
set_option maxHeartbeats 4000000 in
set_option maxRecDepth 20000 in
theorem fac_neg {z rb tb lb:Nat}{c:Int}{L:List Tk}{o:Nat}(hz:z<=9223372036854775807){A:Ps}(HA:ExC z rb tb lb c o 87 A){t0:Tk}(hx:nxt c L=.ok t0)(hm:isT k_sub t0=true)(w:World)(hr:Rea z w rb tb lb c L o):
 Calls Tryz.prog 61 #[.pointer (some ⟨rb,0,none⟩)] w (Out (VTm w.heap.size z) z w rb tb lb c o (bnd (A L.tail) fun y=>.ok (tm 13 t0.at_ [y.1],y.2))):=by
 obtain⟨pr,hpr⟩:∃ pr,Hid (pr=bnd (A L.tail) fun y=>.ok (tm 13 t0.at_ [y.1],y.2)):=⟨_,rfl⟩
 rw[<-hpr.out]
 have hE:Hid (∀ f w',pr=.error f->Turn [rb] w w'->Out (VTm w.heap.size z) z w rb tb lb c o pr (.panicked [fltE f]) w'):=fun f w' h ht=>Out.mk_err h ht
 have hO:Hid (∀ t L' w' v u,pr=.ok (t,L')->Turn [rb] w w'->v=tmV t u->SitB w.heap.size z w' t u->Rea z w' rb tb lb c L' o->Out (VTm w.heap.size z) z w rb tb lb c o pr (.returned v) w'):=fun t L' w' v u h ht hv hs hr'=>Out.mk_ok h ht ⟨u,hv,hs⟩ hr'
 generalize Out (VTm w.heap.size z) z w rb tb lb c o pr=Post at *
 have hL:=hr.lts
 have hne:w.heap.size∉[rb]:=by simp;omega
 have hok:=hr.tl.ok
 rw[<-nxt_inv hx] at hok
 have hm1:=mustS_of hx hm
 have Z0:=Box.new w zs6 33
 go_enter Tryz.func61,Tryz.ntmps61
 go_wp2_with fail
 have T0:=tnO (ob:=.cells (zs6).toArray 33) (Turn.refl [rb] w)
 have r0:=hr.onO (ob:=.cells (zs6).toArray 33)
 have Rs0:=Z0
 have zsz:w.heap.size<(w.alloc (.cells (zs6).toArray 33)).heap.size:=by simp
 clear Z0
 generalize hW0:w.alloc _=w0 at *
 clear hW0
 clear hr
 have HJ:=fun W h=>is_ok (z:=z) (rb:=rb) (tb:=tb) (lb:=lb) (o:=o) hx k_sub W h
 rw[hm] at HJ
 refine Calls.mono (HJ _ r0) ?_
 rintro e w1 ⟨rfl,b1⟩
 have t1:=Turn.of_below (S:=[rb]) b1
 have r1:=r0.next b1
 have Rs1:=Rs0.turn t1 hne
 have T1:=tn T0 t1
 have s1:=t1.size
 clear Rs0 T0 r0 b1 t1
 go_wp2_with fail
 refine Calls.mono (must_c k_sub _ r1) ?_
 rintro e w2 h2
 obtain⟨t2,_,rfl,rfl,r2⟩:=Out.of_ok hm1 h2
 have Rs2:=Rs1.turn t2 hne
 have T2:=tn T1 t2
 have s2:=t2.size
 clear Rs1 T1 r1 h2 t2
 go_wp2_with fail
 refine Calls.mono (HA _ _ r2) ?_
 rintro e w3 h3
 rcases hy1:A L.tail with f | q
 ·obtain⟨rfl,t3⟩:=Out.of_err hy1 h3
  go_wp2_with fail
  exact⟨rfl,hE.out _ _ (by rw[hpr.out,hy1];rfl) (tn T2 t3)⟩
 obtain⟨t3,_,rfl,⟨u3,rfl,S3⟩,r3⟩:=Out.of_ok hy1 h3
 have Rs3:=Rs2.turn t3 hne
 have T3:=tn T2 t3
 have s3:=t3.size
 clear Rs2 T2 r2 h3 t3
 have hpr1:Hid (pr=.ok (tm 13 t0.at_ [q.1],q.2)):=by show _=_;rw[hpr.out,hy1];rfl
 simp only[tmV]
 obtain⟨av,cv,hu,-,-⟩:=S3.parts.shape
 subst hu
 generalize hnn:q.1.parts.length=nn at *
 go_wp2_with fail
 have t4:=tnO (ob:=.cells ((tmL q.1 (.slice av nn cv))).toArray 33) (Turn.refl [rb] w3)
 have r4:=r3.onO (ob:=.cells ((tmL q.1 (.slice av nn cv))).toArray 33)
 have Lt4:=Box.new w3 (tmL q.1 (.slice av nn cv)) 33
 have hnLt:w3.heap.size∉[rb]:=by simp;omega
 have hxLt:w3.heap.size<(w3.alloc (.cells ((tmL q.1 (.slice av nn cv))).toArray 33)).heap.size:=by simp
 have Rs4:=Rs3.turn t4 hne
 have S4:=SitB.turn S3 t4 (by simp;omega)
 have T4:=tn T3 t4
 have s4:=t4.size
 clear Rs3 S3 T3 r3 t4
 generalize hW4:w3.alloc _=w4 at *
 clear hW4
 refine Calls.mono (term_c _ _ _ _ _ _) ?_
 rintro e w5 ⟨rfl,b5⟩
 have t5:=Turn.of_below (S:=[rb]) b5
 have r5:=r4.next b5
 have Rs5:=Rs4.turn t5 hne
 have Lt5:=Lt4.turn t5 hnLt
 have S5:=SitB.turn S4 t5 (by simp;omega)
 have T5:=tn T4 t5
 have s5:=t5.size
 clear Rs4 Lt4 S4 T4 r4 b5 t5
 obtain⟨p0,p1,p2,p3,p4,p5,pf0,pf1,pf2,pf3,pf4,pf5⟩:=Rs5.six
 have pl:=Rs5.lt
 have HS:=hid2 S5
 have HB:=hid2 Lt5
 clear S5
 have hg:w3.heap.size≠w.heap.size:=by omega
 go_wp2_with fail
 refine bodyPost_ret (v:=tmV (tm 13 t0.at_ [q.1]) (.slice (some ⟨w3.heap.size,0,none⟩) 1 1)) (by simp[results,Tryz.results61,go_sem, *]) rfl (hO.out (tm 13 t0.at_ [q.1]) (q.2) _ _ (.slice (some ⟨w3.heap.size,0,none⟩) 1 1) (hpr1.out) ?_ rfl ?_ ?_)
 ·exact T5.trans (turn_six _ _ _ _ _ _ _ _) (fun i hi=>.inr (by simp at hi;omega))
 ·exact sitb_one (fit_of _ _ _ _ _ _ hz (by decide) (by decide) (Nat.zero_le _) zero64 zero64 hok.a) rfl (by simpa using HB.out.lt) (by omega) (box_six (HB.out.turn (turn_six _ _ _ _ _ _ _ _) (by simp;omega))) (SitB.lower (SitB.turn HS.out (turn_six _ _ _ _ _ _ _ _) (by simp;omega)) (by omega))
 ·exact r5.turn1 (turn_six _ _ _ _ _ _ _ _) hL
set_option maxHeartbeats 4000000 in
set_option maxRecDepth 20000 in
theorem fac_not {z rb tb lb:Nat}{c:Int}{L:List Tk}{o:Nat}(hz:z<=9223372036854775807){A:Ps}(HA:ExC z rb tb lb c o 87 A){t0:Tk}(hx:nxt c L=.ok t0)(hn:isT k_sub t0=false)(hm:isT k_not t0=true)(w:World)(hr:Rea z w rb tb lb c L o):
 Calls Tryz.prog 61 #[.pointer (some ⟨rb,0,none⟩)] w (Out (VTm w.heap.size z) z w rb tb lb c o (bnd (A L.tail) fun y=>.ok (tm 14 t0.at_ [y.1],y.2))):=by
 obtain⟨pr,hpr⟩:∃ pr,Hid (pr=bnd (A L.tail) fun y=>.ok (tm 14 t0.at_ [y.1],y.2)):=⟨_,rfl⟩
 rw[<-hpr.out]
 have hE:Hid (∀ f w',pr=.error f->Turn [rb] w w'->Out (VTm w.heap.size z) z w rb tb lb c o pr (.panicked [fltE f]) w'):=fun f w' h ht=>Out.mk_err h ht
 have hO:Hid (∀ t L' w' v u,pr=.ok (t,L')->Turn [rb] w w'->v=tmV t u->SitB w.heap.size z w' t u->Rea z w' rb tb lb c L' o->Out (VTm w.heap.size z) z w rb tb lb c o pr (.returned v) w'):=fun t L' w' v u h ht hv hs hr'=>Out.mk_ok h ht ⟨u,hv,hs⟩ hr'
 generalize Out (VTm w.heap.size z) z w rb tb lb c o pr=Post at *
 have hL:=hr.lts
 have hne:w.heap.size∉[rb]:=by simp;omega
 have hok:=hr.tl.ok
 rw[<-nxt_inv hx] at hok
 have hm1:=mustS_of hx hm
 have Z0:=Box.new w zs6 33
 go_enter Tryz.func61,Tryz.ntmps61
 go_wp2_with fail
 have T0:=tnO (ob:=.cells (zs6).toArray 33) (Turn.refl [rb] w)
 have r0:=hr.onO (ob:=.cells (zs6).toArray 33)
 have Rs0:=Z0
 have zsz:w.heap.size<(w.alloc (.cells (zs6).toArray 33)).heap.size:=by simp
 clear Z0
 generalize hW0:w.alloc _=w0 at *
 clear hW0
 clear hr
 have HI:=fun W h=>is_ok (z:=z) (rb:=rb) (tb:=tb) (lb:=lb) (o:=o) hx k_sub W h
 rw[hn] at HI
 refine Calls.mono (HI _ r0) ?_
 rintro e w1 ⟨rfl,b1⟩
 have t1:=Turn.of_below (S:=[rb]) b1
 have r1:=r0.next b1
 have Rs1:=Rs0.turn t1 hne
 have T1:=tn T0 t1
 have s1:=t1.size
 clear Rs0 T0 r0 b1 t1
 go_wp2_with fail
 have HJ:=fun W h=>is_ok (z:=z) (rb:=rb) (tb:=tb) (lb:=lb) (o:=o) hx k_not W h
 rw[hm] at HJ
 refine Calls.mono (HJ _ r1) ?_
 rintro e w2 ⟨rfl,b2⟩
 have t2:=Turn.of_below (S:=[rb]) b2
 have r2:=r1.next b2
 have Rs2:=Rs1.turn t2 hne
 have T2:=tn T1 t2
 have s2:=t2.size
 clear Rs1 T1 r1 b2 t2
 go_wp2_with fail
 refine Calls.mono (must_c k_not _ r2) ?_
 rintro e w3 h3
 obtain⟨t3,_,rfl,rfl,r3⟩:=Out.of_ok hm1 h3
 have Rs3:=Rs2.turn t3 hne
 have T3:=tn T2 t3
 have s3:=t3.size
 clear Rs2 T2 r2 h3 t3
 go_wp2_with fail
 refine Calls.mono (HA _ _ r3) ?_
 rintro e w4 h4
 rcases hy1:A L.tail with f | q
 ·obtain⟨rfl,t4⟩:=Out.of_err hy1 h4
  go_wp2_with fail
  exact⟨rfl,hE.out _ _ (by rw[hpr.out,hy1];rfl) (tn T3 t4)⟩
 obtain⟨t4,_,rfl,⟨u4,rfl,S4⟩,r4⟩:=Out.of_ok hy1 h4
 have Rs4:=Rs3.turn t4 hne
 have T4:=tn T3 t4
 have s4:=t4.size
 clear Rs3 T3 r3 h4 t4
 have hpr1:Hid (pr=.ok (tm 14 t0.at_ [q.1],q.2)):=by show _=_;rw[hpr.out,hy1];rfl
 simp only[tmV]
 obtain⟨av,cv,hu,-,-⟩:=S4.parts.shape
 subst hu
 generalize hnn:q.1.parts.length=nn at *
 go_wp2_with fail
 have t5:=tnO (ob:=.cells ((tmL q.1 (.slice av nn cv))).toArray 33) (Turn.refl [rb] w4)
 have r5:=r4.onO (ob:=.cells ((tmL q.1 (.slice av nn cv))).toArray 33)
 have Lt5:=Box.new w4 (tmL q.1 (.slice av nn cv)) 33
 have hnLt:w4.heap.size∉[rb]:=by simp;omega
 have hxLt:w4.heap.size<(w4.alloc (.cells ((tmL q.1 (.slice av nn cv))).toArray 33)).heap.size:=by simp
 have Rs5:=Rs4.turn t5 hne
 have S5:=SitB.turn S4 t5 (by simp;omega)
 have T5:=tn T4 t5
 have s5:=t5.size
 clear Rs4 S4 T4 r4 t5
 generalize hW5:w4.alloc _=w5 at *
 clear hW5
 refine Calls.mono (term_c _ _ _ _ _ _) ?_
 rintro e w6 ⟨rfl,b6⟩
 have t6:=Turn.of_below (S:=[rb]) b6
 have r6:=r5.next b6
 have Rs6:=Rs5.turn t6 hne
 have Lt6:=Lt5.turn t6 hnLt
 have S6:=SitB.turn S5 t6 (by simp;omega)
 have T6:=tn T5 t6
 have s6:=t6.size
 clear Rs5 Lt5 S5 T5 r5 b6 t6
 obtain⟨p0,p1,p2,p3,p4,p5,pf0,pf1,pf2,pf3,pf4,pf5⟩:=Rs6.six
 have pl:=Rs6.lt
 have HS:=hid2 S6
 have HB:=hid2 Lt6
 clear S6
 have hg:w4.heap.size≠w.heap.size:=by omega
 go_wp2_with fail
 refine bodyPost_ret (v:=tmV (tm 14 t0.at_ [q.1]) (.slice (some ⟨w4.heap.size,0,none⟩) 1 1)) (by simp[results,Tryz.results61,go_sem, *]) rfl (hO.out (tm 14 t0.at_ [q.1]) (q.2) _ _ (.slice (some ⟨w4.heap.size,0,none⟩) 1 1) (hpr1.out) ?_ rfl ?_ ?_)
 ·exact T6.trans (turn_six _ _ _ _ _ _ _ _) (fun i hi=>.inr (by simp at hi;omega))
 ·exact sitb_one (fit_of _ _ _ _ _ _ hz (by decide) (by decide) (Nat.zero_le _) zero64 zero64 hok.a) rfl (by simpa using HB.out.lt) (by omega) (box_six (HB.out.turn (turn_six _ _ _ _ _ _ _ _) (by simp;omega))) (SitB.lower (SitB.turn HS.out (turn_six _ _ _ _ _ _ _ _) (by simp;omega)) (by omega))
 ·exact r6.turn1 (turn_six _ _ _ _ _ _ _ _) hL
set_option maxHeartbeats 4000000 in
set_option maxRecDepth 20000 in
theorem fac_at {z rb tb lb:Nat}{c:Int}{L:List Tk}{o:Nat}(_hz:z<=9223372036854775807){A:Ps}(HA:ExC z rb tb lb c o 87 A){t0:Tk}(hx:nxt c L=.ok t0)(hn:isT k_sub t0=false)(hm:isT k_not t0=false)(w:World)(hr:Rea z w rb tb lb c L o):
 Calls Tryz.prog 61 #[.pointer (some ⟨rb,0,none⟩)] w (Out (VTm w.heap.size z) z w rb tb lb c o (A L)):=by
 obtain⟨pr,hpr⟩:∃ pr,Hid (pr=A L):=⟨_,rfl⟩
 rw[<-hpr.out]
 have hE:Hid (∀ f w',pr=.error f->Turn [rb] w w'->Out (VTm w.heap.size z) z w rb tb lb c o pr (.panicked [fltE f]) w'):=fun f w' h ht=>Out.mk_err h ht
 have hO:Hid (∀ t L' w' v u,pr=.ok (t,L')->Turn [rb] w w'->v=tmV t u->SitB w.heap.size z w' t u->Rea z w' rb tb lb c L' o->Out (VTm w.heap.size z) z w rb tb lb c o pr (.returned v) w'):=fun t L' w' v u h ht hv hs hr'=>Out.mk_ok h ht ⟨u,hv,hs⟩ hr'
 generalize Out (VTm w.heap.size z) z w rb tb lb c o pr=Post at *
 have hL:=hr.lts
 have hne:w.heap.size∉[rb]:=by simp;omega
 have hok:=hr.tl.ok
 rw[<-nxt_inv hx] at hok
 have Z0:=Box.new w zs6 33
 go_enter Tryz.func61,Tryz.ntmps61
 go_wp2_with fail
 have T0:=tnO (ob:=.cells (zs6).toArray 33) (Turn.refl [rb] w)
 have r0:=hr.onO (ob:=.cells (zs6).toArray 33)
 have Rs0:=Z0
 have zsz:w.heap.size<(w.alloc (.cells (zs6).toArray 33)).heap.size:=by simp
 clear Z0
 generalize hW0:w.alloc _=w0 at *
 clear hW0
 clear hr
 have HI:=fun W h=>is_ok (z:=z) (rb:=rb) (tb:=tb) (lb:=lb) (o:=o) hx k_sub W h
 rw[hn] at HI
 refine Calls.mono (HI _ r0) ?_
 rintro e w1 ⟨rfl,b1⟩
 have t1:=Turn.of_below (S:=[rb]) b1
 have r1:=r0.next b1
 have Rs1:=Rs0.turn t1 hne
 have T1:=tn T0 t1
 have s1:=t1.size
 clear Rs0 T0 r0 b1 t1
 go_wp2_with fail
 have HJ:=fun W h=>is_ok (z:=z) (rb:=rb) (tb:=tb) (lb:=lb) (o:=o) hx k_not W h
 rw[hm] at HJ
 refine Calls.mono (HJ _ r1) ?_
 rintro e w2 ⟨rfl,b2⟩
 have t2:=Turn.of_below (S:=[rb]) b2
 have r2:=r1.next b2
 have Rs2:=Rs1.turn t2 hne
 have T2:=tn T1 t2
 have s2:=t2.size
 clear Rs1 T1 r1 b2 t2
 go_wp2_with fail
 have HM:=hid2 (HA _ _ r2)
 rw[<-hpr.out] at HM
 refine Calls.mono HM.out ?_
 intro e w3 h3
 rcases out_up T2 h3 with ⟨f,rfl,hp,ht⟩ | ⟨t,u,L',rfl,hp2,t3,S3,r3⟩
 ·go_wp2_with fail
  exact⟨rfl,hE.out _ _ hp ht⟩
 obtain⟨p0,p1,p2,p3,p4,p5,q0,q1,q2,q3,q4,q5⟩:=(Rs2.turn t3 hne).six
 have pl:=(Rs2.turn t3 hne).lt
 have HT:=hid2 (tn T2 t3)
 have HS:=hid2 S3
 obtain⟨av,cv,rfl,-,-⟩:=S3.parts.shape
 generalize hnn:t.parts.length=nn at *
 clear h3 t3 S3 HM
 simp only[tmV]
 go_wp2_with fail
 refine bodyPost_ret (v:=tmV t (.slice av nn cv)) (by simp[results,Tryz.results61,go_sem, *]) rfl (hO.out t L' _ _ (.slice av nn cv) hp2 ?_ rfl ?_ ?_)
 ·exact HT.out.trans (turn_six _ _ _ _ _ _ _ _) (fun i hi=>.inr (by simp at hi;omega))
 ·exact SitB.lower (SitB.turn HS.out (turn_six _ _ _ _ _ _ _ _) (by simp;omega)) (by omega)
 ·exact r3.turn1 (turn_six _ _ _ _ _ _ _ _) hL
set_option maxHeartbeats 1000000 in
theorem fac_no {z rb tb lb:Nat}{c:Int}{L:List Tk}{o:Nat}{f:Flt}(hx:nxt c L=.error f)(w:World)(hr:Rea z w rb tb lb c L o):
 Calls Tryz.prog 61 #[.pointer (some ⟨rb,0,none⟩)] w fun e w'=>e=.panicked [fltE f]/\Below w.heap.size w w':=by
 have HN:=hid2 (is_err hx k_sub _ (hr.onO (ob:=.cells (zs6).toArray 33)))
 clear hr hx
 go_enter Tryz.func61,Tryz.ntmps61
 go_wp2_with fail
 refine Calls.mono HN.out ?_
 rintro e w1 ⟨rfl,b1⟩
 go_wp2_with fail
 exact⟨rfl,rfl,below_on ((Below.refl _ _).alloc (Nat.le_refl _) _) b1 (by simp)⟩
theorem fac_c {z rb tb lb:Nat}{c:Int}{o:Nat}(hz:z<=9223372036854775807){A:Ps}(HA:ExC z rb tb lb c o 87 A):ExC z rb tb lb c o 61 (facP c A):=by
 intro L w hr
 unfold facP
 rcases hx:nxt c L with f | t0
 ·exact(fac_no hx w hr).mono fun e w' ⟨h1,h2⟩=>h1 ▸ Out.mk_err rfl (Turn.of_below h2)
 ·rw[bnd_ok]
  cases h1:isT k_sub t0 with
  | true=>rw[if_pos rfl];exact fac_neg hz HA hx h1 w hr
  | false=>
    rw[if_neg (by simp)]
    cases h2:isT k_not t0 with
    | true=>rw[if_pos rfl];exact fac_not hz HA hx h1 h2 w hr
    | false=>rw[if_neg (by simp)];exact fac_at hz HA hx h1 h2 w hr
theorem SitQ.turnQ {Q:Nat->Prop}{S:List Nat}{z:Nat}{w w':World}{t:Tm}{v:Value}(h:SitQ Q z w t v)(k:Turn S w w')(hS:∀ i∈S,¬ Q i):SitQ Q z w' t v:=
 SitQ.keep k.size (fun b hb hq=>⟨hq,fun _=>turn_cell k hb (fun hm=>hS b hm hq)⟩) t v h
theorem box_two {w:World}{g:Nat}{x y:Tm}{u v:Value}(h:Box w g (tmL x u++tmL y v)):Six w g 0 x u/\Six w g 6 y v:=
 ⟨⟨h.cell 0 _ rfl,h.cell 1 _ rfl,h.cell 2 _ rfl,h.cell 3 _ rfl,h.cell 4 _ rfl,h.cell 5 _ rfl⟩,⟨h.cell 6 _ rfl,h.cell 7 _ rfl,h.cell 8 _ rfl,h.cell 9 _ rfl,h.cell 10 _ rfl,h.cell 11 _ rfl⟩⟩
def sgC (sg:Sg):List Value:=sg.flatMap fun s=>[.string s.1,.int .i64 s.2]
theorem sgC_get:∀ (sg:Sg) (i q:Nat),q<2->(hi:i<sg.length)->(sgC sg)[i*2+q]? = ([.string sg[i].1,.int .i64 sg[i].2]:List Value)[q]?
 | [],i,q,_,hi=>by simp at hi
 | p::r,0,q,hq,hi=>by
   show (([.string p.1,.int .i64 p.2]:List Value)++sgC r)[0*2+q]? = _
   rw[Nat.zero_mul,Nat.zero_add,List.getElem?_append_left (by simpa using hq)]
   rfl
 | p::r,i+1,q,hq,hi=>by
   show (([.string p.1,.int .i64 p.2]:List Value)++sgC r)[(i+1)*2+q]? = _
   rw[List.getElem?_append_right (by simp;omega),show (i+1)*2+q-([.string p.1,.int .i64 p.2]:List Value).length=i*2+q by simp;omega]
   exact sgC_get r i q hq (by simpa using hi)
theorem sitq_two {Q:Nat->Prop}{z:Nat}{w:World}{t x y:Tm}{g:Nat}{u v:Value}(hf:Fit z t)(hp:t.parts=[x,y])(hg:g<w.heap.size)(hB:Q g)(h6:Six w g 0 x u)(h7:Six w g 6 y v)(hx:SitQ Q z w x u)(hy:SitQ Q z w y v):SitQ Q z w t (.slice (some ⟨g,0,none⟩) 2 2):=by
 rw[sitq_iff,hp]
 refine⟨hf,_,2,rfl,Nat.le_refl _,by decide,.inr ⟨g,0,rfl,hg,hB,fun i hi=>?_⟩⟩
 have h0:i=0\/i=1:=by simp at hi;omega
 rcases h0 with rfl | rfl
 ·exact⟨u,h6,hx⟩
 ·exact⟨v,h7,hy⟩
abbrev VJo (Q:Nat->Prop)(z:Nat):Tm×Bool->Value->World->Prop:=fun y v w'=>∃ u,v=.tuple #[tmV y.1 u,.bool y.2]/\SitQ Q z w' y.1 u
def LvC (z rb tb lb:Nat)(c:Int)(o fn:Nat)(lv:Int)(p:Ps):Prop:=∀ L w,Rea z w rb tb lb c L o->Calls Tryz.prog fn #[.pointer (some ⟨rb,0,none⟩),.int .i64 lv] w (Out (VTm w.heap.size z) z w rb tb lb c o (p L))
structure JoS (z:Nat)(w W:World)(rb tb lb:Nat)(c:Int)(L:List Tk)(o:Nat)(Q:Nat->Prop)(x:Tm)(ux:Value)(sb:Nat)(sg:Sg):Prop where
 fb:Box W w.heap.size (tmL x ux)
 rs:Box W (w.heap.size+1) zs6
 re:Rea z W rb tb lb c L o
 tn:Turn [rb] w W
 st:SitQ (fun b=>Q b/\b<w.heap.size) z W x ux
 sc:∀ q u,(sgC sg)[q]? = some u->W.cell? ⟨sb,q,none⟩=some u
 sl:sb<w.heap.size/\sb≠rb
 hr:rb<w.heap.size/\tb<w.heap.size/\lb<w.heap.size
 hB:¬ Q rb
theorem JoS.turn {z:Nat}{w W W':World}{rb tb lb:Nat}{c:Int}{L L':List Tk}{o:Nat}{Q:Nat->Prop}{x:Tm}{ux:Value}{sb:Nat}{sg:Sg}(h:JoS z w W rb tb lb c L o Q x ux sb sg)(k:Turn [rb] W W')(r:Rea z W' rb tb lb c L' o):JoS z w W' rb tb lb c L' o Q x ux sb sg:=by
 have h1:=h.hr
 have h2:=h.hB
 have h3:=h.sl
 have h4:=h.fb.lt
 exact⟨h.fb.turn k (by simp;omega),h.rs.turn k (by simp;omega),r,Go.Proofs.YtecdfnpbcabdnaaGreatDoor.tn h.tn k,h.st.turnQ k (by simp only[List.mem_singleton];rintro i rfl hh;exact h2 hh.1),fun q u hu=>(turn_cell k (by omega) (by simp;omega)).trans (h.sc q u hu),h.sl,h.hr,h.hB⟩
theorem JoS.next {z:Nat}{w W W':World}{rb tb lb:Nat}{c:Int}{L:List Tk}{o:Nat}{Q:Nat->Prop}{x:Tm}{ux:Value}{sb:Nat}{sg:Sg}(h:JoS z w W rb tb lb c L o Q x ux sb sg)(k:Below W.heap.size W W'):JoS z w W' rb tb lb c L o Q x ux sb sg:=h.turn (Turn.of_below k) (h.re.next k)
theorem sgT_drop {sg:Sg}{t:Tk}{i:Nat}(hi:i<sg.length):sgT (sg.drop i) t=if isT sg[i].1 t=true then some sg[i].2 else sgT (sg.drop (i+1)) t:=by
 rw[List.drop_eq_getElem_cons hi]
 unfold sgT
 rw[List.find?_cons]
 cases isT sg[i].1 t<;>rfl
theorem joinP_of {c:Int}{sg:Sg}{S:Ps}{x:Tm}{L:List Tk}{t:Tk}(hx:nxt c L=.ok t){k:Int}(h:sgT sg t=some k):joinP c sg S x L=bnd (S L.tail) fun y=>.ok ((tm k t.at_ [x,y.1],true),y.2):=by
 unfold joinP
 rw[hx,bnd_ok]
 simp only[h]
theorem joinP_no {c:Int}{sg:Sg}{S:Ps}{x:Tm}{L:List Tk}{t:Tk}(hx:nxt c L=.ok t)(h:sgT sg t=none):joinP c sg S x L=.ok ((x,false),L):=by
 unfold joinP
 rw[hx,bnd_ok]
 simp only[h]
set_option maxHeartbeats 4000000 in
set_option maxRecDepth 20000 in
theorem joined_c {z rb tb lb:Nat}{c:Int}{L:List Tk}{o:Nat}(hz:z<=9223372036854775807){S:Ps}{lv:Int}(hlv:0<=lv/\lv<=5)(HS:LvC z rb tb lb c o 37 (lv+1) S)(sg:Sg)(hsg:sg≠[])(h5:sg.length<=5)(hsk:∀ s,s∈sg->0<=s.2/\s.2<=100)(sb:Nat)(Q:Nat->Prop)(x:Tm)(ux:Value)(w:World)(hr:Rea z w rb tb lb c L o)
 (hs:SitQ Q z w x ux) (hB:¬ Q rb) (hQn:∀ b,w.heap.size<=b->Q b) (hsc:∀ q u,(sgC sg)[q]? = some u->w.cell? ⟨sb,q,none⟩=some u) (hsb:sb<w.heap.size/\sb≠rb) :
 Calls Tryz.prog 98 #[.pointer (some ⟨rb,0,none⟩),tmV x ux,.int .i64 lv,.slice (some ⟨sb,0,none⟩) sg.length sg.length] w (Out (VJo Q z) z w rb tb lb c o (joinP c sg S x L)):=by
 obtain⟨pr,hpr⟩:∃ pr,Hid (pr=joinP c sg S x L):=⟨_,rfl⟩
 rw[<-hpr.out]
 have hE:Hid (∀ f w',pr=.error f->Turn [rb] w w'->Out (VJo Q z) z w rb tb lb c o pr (.panicked [fltE f]) w'):=fun f w' h ht=>Out.mk_err h ht
 have hO:Hid (∀ t b L' w' v u,pr=.ok ((t,b),L')->Turn [rb] w w'->v=.tuple #[tmV t u,.bool b]->SitQ Q z w' t u->Rea z w' rb tb lb c L' o->Out (VJo Q z) z w rb tb lb c o pr (.returned v) w'):=fun t b L' w' v u h ht hv hs hr'=>Out.mk_ok h ht ⟨u,hv,hs⟩ hr'
 generalize Out (VJo Q z) z w rb tb lb c o pr=Post at *
 have hL:=hr.lts
 obtain⟨hlv0,hlv1⟩:=hlv
 have HSw:Hid (LvC z rb tb lb c o 37 (IntKind.i64.wrap (lv+1)) S):=by
  have hw1:IntKind.i64.wrap (lv+1)=lv+1:=by rw[IntKind.wrap_i64];omega
  rw[hw1]
  exact HS
 clear HS
 have hlen:0<sg.length:=List.length_pos_iff.2 hsg
 obtain⟨av,cv,rfl,-,-⟩:=hs.parts.shape
 have J0:Hid (JoS z w ((w.alloc (.cells (tmL x (.slice av x.parts.length cv)).toArray 33)).alloc (.cells (zs6).toArray 33)) rb tb lb c L o Q x (.slice av x.parts.length cv) sb sg):=by
  obtain⟨X0,X1,XB⟩:=two_boxes w 33 33 (tmL x (.slice av x.parts.length cv)) zs6
  exact⟨X0,X1,hr.next XB,Turn.of_below XB,(hs.weak (fun b hb hq=>⟨hq,hb⟩)).turnQ (S:=[rb]) (Turn.of_below XB) (by simp only[List.mem_singleton];rintro i rfl hh;exact hB hh.1),fun q u hu=>(XB.cell (p:=⟨sb,q,none⟩) hsb.1).trans (hsc q u hu),hsb,hL,hB⟩
 obtain⟨nn,hnn⟩:∃ nn,nn=x.parts.length:=⟨_,rfl⟩
 rw[<-hnn] at J0 ⊢
 clear hr hs hsc hnn
 obtain⟨N,hN⟩:∃ N,Hid (N=sg.length):=⟨_,rfl⟩
 have hNp:0<N:=by rw[hN.out];exact hlen
 have hN5:N<=5:=by rw[hN.out];exact h5
 rw[<-hN.out]
 simp only[tmV]
 go_enter Tryz.func98,Tryz.ntmps98
 go_wp2_with fail
 generalize hW:(w.alloc _).alloc _=W0 at *
 clear hW
 go_loopw [14] (fun p wr=>∃ i:Nat,p=.int .i64 i/\i<=N/\Hid (∀ t,nxt c L=.ok t->sgT (sg.drop i) t=sgT sg t)/\Hid ((∃ f,nxt c L=.error f)->i=0)/\Hid (JoS z w wr rb tb lb c L o Q x (.slice av nn cv) sb sg)) (fun p _=>N-(RowKit.intOf p).toNat)
 ·exact⟨0,rfl,Nat.zero_le _,fun t _=>rfl,fun _=>rfl,J0⟩
 obtain⟨i,rfl,hi,HD,H0,HJ⟩:=hrel
 clear J0
 by_cases hlt:i<N
 ·have hlt':(i:Int)<(N:Int):=by omega
  have hi2:i<sg.length:=by rw[<-hN.out];exact hlt
  have c0:=HJ.out.sc (i*2) _ ((sgC_get sg i 0 (by omega) hi2).trans rfl)
  have c1:=HJ.out.sc (i*2+1) _ ((sgC_get sg i 1 (by omega) hi2).trans rfl)
  have sbl:sb<wr.heap.size:=Nat.lt_of_lt_of_le HJ.out.sl.1 HJ.out.tn.size
  have hks:=hsk sg[i] (List.getElem_mem hi2)
  have hsd:=fun t=>sgT_drop (t:=t) hi2
  generalize sg[i]=s at *
  have J1:=hid2 (HJ.out.next ((Below.refl _ wr).alloc (Nat.le_refl _) (.cells (([.string s.1,.int .i64 s.2]:List Value)).toArray 129)))
  have SB:=hid2 (Box.new wr [.string s.1,.int .i64 s.2] 129)
  go_wp2_with fail
  generalize hW1:wr.alloc _=W1 at *
  clear hW1
  have SBx:=SB.out
  obtain⟨x0,x1,y0,y1⟩:=SBx.two
  have sl:=SBx.lt
  go_wp2_with fail
  rcases hx:nxt c L with f | t
  ·refine Calls.mono (is_err hx s.1 _ J1.out.re) ?_
   rintro e w2 ⟨rfl,b2⟩
   go_wp2_with fail
   exact⟨rfl,hE.out _ _ (by rw[hpr.out];unfold joinP;rw[hx];rfl) (J1.out.tn.andBelow b2)⟩
  refine Calls.mono (is_ok hx s.1 _ J1.out.re) ?_
  rintro e w2 ⟨rfl,b2⟩
  have J2:=hid2 (J1.out.next b2)
  have S2:=hid2 (SB.out.next b2)
  have z2:=b2.size
  clear b2 J1 SB SBx x0 x1 y0 y1 c0 c1
  have hsd2:=hsd t
  rw[HD.out t hx] at hsd2
  cases hm:isT s.1 t with
  | false=>
    rw[hm] at hsd2
    simp only[Bool.false_eq_true,if_false] at hsd2
    go_wp2_with fail
    go_roundw
    ·exact⟨i+1,by simp,hlt,fun t' ht'=>by rw[hx] at ht';cases ht';exact hsd2.symm,(fun ⟨f,hf⟩=>by rw[hx] at hf;cases hf),J2⟩
    ·simp[RowKit.intOf];omega
  | true=>
    rw[hm] at hsd2
    simp only[if_true] at hsd2
    have hp2:Hid (pr=bnd (S L.tail) fun y=>.ok ((tm s.2 t.at_ [x,y.1],true),y.2)):=by show _=_;rw[hpr.out];exact joinP_of hx hsd2
    have hm1:=mustS_of hx hm
    obtain⟨f0,f1,f2,f3,f4,f5,_⟩:=J2.out.fb.six
    obtain⟨s0,s1,_⟩:=S2.out.two
    have sl2:=S2.out.lt
    have fl2:=J2.out.fb.lt
    have hsB:wr.heap.size∉[rb]:=by have:=J2.out.hr;have:=J2.out.fb.lt;have:=HJ.out.tn.size;simp;omega
    have hwr:=HJ.out.rs.lt
    have HM1:=hid2 hm1
    have Hok:Hid (TkOk z t):=by have:=J2.out.re.tl.ok;rw[<-nxt_inv hx] at this;exact this
    have HK:=hid2 hks
    have HH:=hid2 hsk
    clear hsd hsd2 hx hm hm1 hks HD H0 HJ hsk hsg h5 hlen
    go_wp2_with fail
    go_region_held2 (fun w'=>w'.cell? ⟨wr.heap.size,0,none⟩=some (.string s.1)/\w'.cell? ⟨wr.heap.size,1,none⟩=some (.int .i64 s.2)/\w'.cell? ⟨w.heap.size,0,none⟩=some (.int .i64 x.kind)/\w'.cell? ⟨w.heap.size,1,none⟩=some (.string x.text)/\w'.cell? ⟨w.heap.size,2,none⟩=some (.int .i64 x.n)/\w'.cell? ⟨w.heap.size,3,none⟩=some (.int .i64 x.m)/\w'.cell? ⟨w.heap.size,4,none⟩=some (.int .i64 x.pl)/\w'.cell? ⟨w.heap.size,5,none⟩=some (.slice av nn cv)) (simp[go_sem, *]) (first
     | (go_at_call 27;refine Calls.mono (must_c s.1 _ (J2.out.re.next (Below.refl _ _).drew)) ?_;intro e w3 h3;obtain⟨t3,_,rfl,rfl,r3⟩:=Out.of_ok HM1.out h3;have t3':=tn (Turn.of_below (Below.refl _ _).drew) t3;have J3:=hid2 (J2.out.turn t3' r3);have S3:=hid2 (S2.out.turn t3' hsB);obtain⟨g0,g1,g2,g3,g4,g5,_⟩:=J3.out.fb.six;obtain⟨m0,m1,_⟩:=S3.out.two;have sl3:=S3.out.lt;clear h3 t3 r3 t3')
     | (go_at_call 37;refine Calls.mono (HSw.out _ _ J3.out.re) ?_;intro e w4 h4;rcases hy:S L.tail with f | y;(obtain⟨rfl,t4⟩:=Out.of_err hy h4;exact⟨rfl,hE.out _ _ (by rw[hp2.out,hy];rfl) (tn J3.out.tn t4)⟩);(obtain⟨t4,_,rfl,⟨u4,rfl,S4⟩,r4⟩:=Out.of_ok hy h4;have J4:=hid2 (J3.out.turn t4 r4);have SS4:=hid2 (S3.out.turn t4 hsB);obtain⟨g0',g1',g2',g3',g4',g5',_⟩:=J4.out.fb.six;obtain⟨m0',m1',_⟩:=SS4.out.two;have sl4:=SS4.out.lt;have fl4:=J4.out.fb.lt;obtain⟨ay,cy,rfl,-,-⟩:=S4.parts.shape;have Y4:=hid2 S4;have z34:=t4.size;clear h4 t4 r4 S4))
     | (go_at_call 76;refine Calls.mono (term_c _ _ _ _ _ _) ?_;rintro e w6 ⟨rfl,b6⟩;have b46:=hid2 b6;have J6:=hid2 ((J4.out.next ((Below.refl _ _).alloc (Nat.le_refl _) _)).next b6);have S6:=hid2 ((SS4.out.next ((Below.refl _ _).alloc (Nat.le_refl _) _)).next b6);obtain⟨h0,h1,h2,h3,h4,h5',_⟩:=J6.out.fb.six;obtain⟨i0,i1,_⟩:=S6.out.two;obtain⟨p0,p1,p2,p3,p4,p5,q0,q1,q2,q3,q4,q5⟩:=J6.out.rs.six;have pl:=J6.out.rs.lt;have sl6:=S6.out.lt;have zz6:=b6.size;clear b6))
    all_goals go_wp2_with fail
    have AB:=(Box.new w4 (tmL x (.slice av nn cv)++tmL y.1 (.slice ay y.1.parts.length cy)) 33).next b46.out
    have YT:=SitB.turn (S:=[]) (SitB.turn (S:=[]) Y4.out (Turn.of_below ((Below.refl _ w4).alloc (Nat.le_refl _) (.cells (tmL x (.slice av nn cv)++tmL y.1 (.slice ay y.1.parts.length cy)).toArray 33))) (by simp)) (Turn.of_below b46.out) (by simp)
    have h34:=J3.out.rs.lt
    have hne4:w4.heap.size∉[w.heap.size+1]:=by simp;omega
    refine bodyPost_ret (v:=.tuple #[tmV (tm s.2 t.at_ [x,y.1]) (.slice (some ⟨w4.heap.size,0,none⟩) 2 2),.bool true]) (by simp[results,Tryz.results98,go_sem, *]) rfl (hO.out (tm s.2 t.at_ [x,y.1]) true y.2 _ _ (.slice (some ⟨w4.heap.size,0,none⟩) 2 2) (by rw[hp2.out,hy];rfl) ?_ rfl ?_ ?_)
    ·exact J6.out.tn.trans (turn_six _ _ _ _ _ _ _ _) (fun i hi=>.inr (by simp at hi;omega))
    ·refine sitq_two (x:=x) (y:=y.1) (u:=.slice av nn cv) (v:=.slice ay y.1.parts.length cy) (fit_of _ _ _ _ _ _ hz HK.out.1 HK.out.2 (Nat.zero_le _) zero64 zero64 Hok.out.a) rfl (by have:=AB.lt;simpa using this) (hQn _ (by omega)) ?_ ?_ ?_ ?_
     ·exact(box_two (AB.turn (turn_six _ _ _ _ _ _ _ _) hne4)).1
     ·exact(box_two (AB.turn (turn_six _ _ _ _ _ _ _ _) hne4)).2
     ·exact(J6.out.st.turnQ (turn_six _ _ _ _ _ _ _ _) (by simp)).weak (fun b _ hq=>hq.1)
     ·exact SitQ.weak (SitB.turn YT (turn_six _ _ _ _ _ _ _ _) (by simp;omega)) (fun b _ hq=>hQn b (by omega))
    ·exact J6.out.re.turn1 (turn_six _ _ _ _ _ _ _ _) (by omega)
 ·have hiN:i=N:=by omega
  subst hiN
  rcases hx:nxt c L with f | t
  ·exact absurd (H0.out ⟨f,hx⟩) (by omega)
  have hno:sgT sg t=none:=by
   have:=HD.out t hx
   rw[<-this,hN.out,List.drop_length]
   rfl
  obtain⟨f0,f1,f2,f3,f4,f5,_⟩:=HJ.out.fb.six
  obtain⟨p0,p1,p2,p3,p4,p5,q0,q1,q2,q3,q4,q5⟩:=HJ.out.rs.six
  have fl:=HJ.out.fb.lt
  have pl:=HJ.out.rs.lt
  have J:=HJ
  clear HJ HD H0
  go_wp2_with fail
  refine bodyPost_ret (v:=.tuple #[tmV x (.slice av nn cv),.bool false]) (by simp[results,Tryz.results98,go_sem, *]) rfl (hO.out x false L _ _ (.slice av nn cv) (by rw[hpr.out];exact joinP_no hx hno) ?_ rfl ?_ ?_)
  ·exact J.out.tn.trans (turn_six _ _ _ _ _ _ _ _) (fun i hi=>.inr (by simp at hi;omega))
  ·exact(J.out.st.turnQ (turn_six _ _ _ _ _ _ _ _) (by simp)).weak (fun b _ hq=>hq.1)
  ·exact J.out.re.turn1 (turn_six _ _ _ _ _ _ _ _) (by omega)
theorem Box.put_six {w:World}{g:Nat}{u0 u1 u2 u3 u4 u5:Value}(h:Box w g [u0,u1,u2,u3,u4,u5])(v0 v1 v2 v3 v4 v5:Value):Box ((((((w.setCell ⟨g,0,none⟩ v0).setCell ⟨g,1,none⟩ v1).setCell ⟨g,2,none⟩ v2).setCell ⟨g,3,none⟩ v3).setCell ⟨g,4,none⟩ v4).setCell ⟨g,5,none⟩ v5) g [v0,v1,v2,v3,v4,v5]:=
 ((((((h.set 0 (by simp) v0).set 1 (by simp) v1).set 2 (by simp) v2).set 3 (by simp) v3).set 4 (by simp) v4).set 5 (by simp) v5)
def rdLen (w:World)(rb:Nat):Nat:=match w.cell? ⟨rb,0,none⟩ with
 | some (.slice _ n _)=>n
 | _=>0
theorem Rea.len {z:Nat}{w:World}{rb tb lb:Nat}{c:Int}{L:List Tk}{o:Nat}(h:Rea z w rb tb lb c L o):rdLen w rb=L.length:=by
 obtain⟨off,cap,h⟩:=h
 unfold rdLen
 rw[h.box.cell 0 _ rfl]
def moN (p:Value)(n:Nat):Nat:=match p with
 | .bool true=>n+1
 | _=>0
structure FlS (z:Nat)(w W:World)(rb tb lb:Nat)(c:Int)(o g sb:Nat)(sg:Sg)(L:List Tk)(x:Tm)(ux:Value):Prop where
 rs:Box W w.heap.size zs6
 lt:Box W g (tmL x ux)
 re:Rea z W rb tb lb c L o
 tn:Turn [rb] w W
 st:SitQ (fun b=>w.heap.size+1<=b/\b≠g) z W x ux
 sc:∀ q u,(sgC sg)[q]? = some u->W.cell? ⟨sb,q,none⟩=some u
 sl:sb<w.heap.size/\sb≠rb
 gg:w.heap.size<g
 hr:rb<w.heap.size/\tb<w.heap.size/\lb<w.heap.size
theorem FlS.joined {z:Nat}{w W W':World}{rb tb lb:Nat}{c:Int}{o g sb:Nat}{sg:Sg}{L L':List Tk}{x y:Tm}{ux uy:Value}(h:FlS z w W rb tb lb c o g sb sg L x ux)(k:Turn [rb] W W')(s:SitQ (fun b=>w.heap.size+1<=b/\b≠g) z W' y uy)(r:Rea z W' rb tb lb c L' o):
 FlS z w ((((((W'.setCell ⟨g,0,none⟩ (.int .i64 y.kind)).setCell ⟨g,1,none⟩ (.string y.text)).setCell ⟨g,2,none⟩ (.int .i64 y.n)).setCell ⟨g,3,none⟩ (.int .i64 y.m)).setCell ⟨g,4,none⟩ (.int .i64 y.pl)).setCell ⟨g,5,none⟩ uy) rb tb lb c o g sb sg L' y uy:=by
 have h1:=h.gg
 have h2:=h.hr
 have h3:=h.sl
 have h4:=h.lt.lt
 have h5:=h.rs.lt
 have t6:=turn_six W' g (.int .i64 y.kind) (.string y.text) (.int .i64 y.n) (.int .i64 y.m) (.int .i64 y.pl) uy
 exact⟨(h.rs.turn k (by simp;omega)).turn t6 (by simp;omega),(h.lt.turn k (by simp;omega)).put_six _ _ _ _ _ _,r.turn1 t6 (by omega),(Go.Proofs.YtecdfnpbcabdnaaGreatDoor.tn h.tn k).trans t6 (fun i hi=>.inr (by simp at hi;omega)),s.turnQ t6 (by simp),
  fun q u hu=>(turn_cell t6 (by have:=k.size;omega) (by simp;omega)).trans ((turn_cell k (by omega) (by simp;omega)).trans (h.sc q u hu)),h.sl,h.gg,h.hr⟩
set_option maxHeartbeats 4000000 in
set_option maxRecDepth 20000 in
theorem fromLeft_c {z rb tb lb:Nat}{c:Int}{L:List Tk}{o:Nat}(hz:z<=9223372036854775807){S:Ps}{lv:Int}(hlv:0<=lv/\lv<=5)(HS:LvC z rb tb lb c o 37 (lv+1) S)(hDec:Dec S)(sg:Sg)(hsg:sg≠[])(h5:sg.length<=5)(hsk:∀ s,s∈sg->0<=s.2/\s.2<=100)(sb:Nat)(w:World)(hr:Rea z w rb tb lb c L o)
 (hsc:∀ q u,(sgC sg)[q]? = some u->w.cell? ⟨sb,q,none⟩=some u) (hsb:sb<w.heap.size/\sb≠rb) :
 Calls Tryz.prog 97 #[.pointer (some ⟨rb,0,none⟩),.int .i64 lv,.slice (some ⟨sb,0,none⟩) sg.length sg.length] w (Out (VTm w.heap.size z) z w rb tb lb c o (leftP c sg S L)):=by
 obtain⟨pr,hpr⟩:∃ pr,Hid (pr=leftP c sg S L):=⟨_,rfl⟩
 rw[<-hpr.out]
 have hE:Hid (∀ f w',pr=.error f->Turn [rb] w w'->Out (VTm w.heap.size z) z w rb tb lb c o pr (.panicked [fltE f]) w'):=fun f w' h ht=>Out.mk_err h ht
 have hO:Hid (∀ t L' w' v u,pr=.ok (t,L')->Turn [rb] w w'->v=tmV t u->SitB w.heap.size z w' t u->Rea z w' rb tb lb c L' o->Out (VTm w.heap.size z) z w rb tb lb c o pr (.returned v) w'):=fun t L' w' v u h ht hv hs hr'=>Out.mk_ok h ht ⟨u,hv,hs⟩ hr'
 generalize Out (VTm w.heap.size z) z w rb tb lb c o pr=Post at *
 have hL:=hr.lts
 obtain⟨hlv0,hlv1⟩:=hlv
 have HJ:Hid (∀ (x:Tm) (ux:Value) (Lr:List Tk) (W:World) (Q:Nat->Prop),Rea z W rb tb lb c Lr o->SitQ Q z W x ux->¬ Q rb->(∀ b,W.heap.size<=b->Q b)->(∀ q u,(sgC sg)[q]? = some u->W.cell? ⟨sb,q,none⟩=some u)->(sb<W.heap.size/\sb≠rb)->Calls Tryz.prog 98 #[.pointer (some ⟨rb,0,none⟩),tmV x ux,.int .i64 lv,.slice (some ⟨sb,0,none⟩) sg.length sg.length] W (Out (VJo Q z) z W rb tb lb c o (joinP c sg S x Lr))):=
  fun x ux Lr W Q h1 h2 h3 h4 h5' h6=>joined_c hz ⟨hlv0,hlv1⟩ HS sg hsg h5 hsk sb Q x ux W h1 h2 h3 h4 h5' h6
 have Z0:=Box.new w zs6 33
 have T0:=tnO (ob:=.cells (zs6).toArray 33) (Turn.refl [rb] w)
 have r0:=hr.onO (ob:=.cells (zs6).toArray 33)
 have sc0:∀ q u,(sgC sg)[q]? = some u->(w.alloc (.cells (zs6).toArray 33)).cell? ⟨sb,q,none⟩=some u:=fun q u hu=>(((Below.refl _ w).alloc (Nat.le_refl _) _).cell (p:=⟨sb,q,none⟩) hsb.1).trans (hsc q u hu)
 have HSC:=hid2 sc0
 have HSS:=hid2 HS
 have zsz:(w.alloc (.cells (zs6).toArray 33)).heap.size=w.heap.size+1:=by simp
 clear hr hsc sc0 HS hsk h5 hsg
 obtain⟨N,hN⟩:∃ N,N=sg.length:=⟨_,rfl⟩
 rw[<-hN] at HJ ⊢
 clear hN
 go_enter Tryz.func97,Tryz.ntmps97
 go_wp2_with fail
 generalize hW:w.alloc _=W0 at *
 clear hW
 refine Calls.mono (HSS.out _ _ r0) ?_
 intro e w1 h1
 rcases hy:S L with f | y
 ·obtain⟨rfl,t1⟩:=Out.of_err hy h1
  go_wp2_with fail
  exact⟨rfl,hE.out _ _ (by rw[hpr.out];unfold leftP;rw[hy];rfl) (tn T0 t1)⟩
 obtain⟨t1,_,rfl,⟨u1,rfl,S1⟩,r1⟩:=Out.of_ok hy h1
 obtain⟨av,cv,rfl,-,-⟩:=S1.parts.shape
 have s1:=t1.size
 have F0:Hid (FlS z w (w1.alloc (.cells (tmL y.1 (.slice av y.1.parts.length cv)).toArray 33)) rb tb lb c o w1.heap.size sb sg y.2 y.1 (.slice av y.1.parts.length cv)):=by
  have ta:=tnO (ob:=.cells (tmL y.1 (.slice av y.1.parts.length cv)).toArray 33) (Turn.refl [rb] w1)
  refine⟨(Z0.turn t1 (by simp;omega)).turn ta (by simp;omega),Box.new w1 _ _,r1.onO,tn (tn T0 t1) ta,?_,fun q u hu=>(turn_cell ta (by omega) (by simp;omega)).trans ((turn_cell t1 (by omega) (by simp;omega)).trans (HSC.out q u hu)),hsb,by omega,hL⟩
  exact SitQ.turnQ (SitQ.weak S1 (fun b hb hq=>⟨by omega,by omega⟩)) ta (by simp only[List.mem_singleton];rintro i rfl hh;omega)
 have hpr2:Hid (pr=if true=true then leftL c sg S y.2.length y.1 y.2 else .ok (y.1,y.2)):=by show _=_;rw[hpr.out];unfold leftP;rw[hy];rfl
 clear h1 t1 S1 r1 Z0 T0 r0 HSC
 generalize y.1.parts.length=nn at *
 simp only[tmV]
 go_wp2_with fail
 generalize hW1:w1.alloc _=W1 at *
 clear hW1
 go_loopw [8] (fun p wr=>∃ (more:Bool) (Lr:List Tk) (x:Tm) (ux:Value) (f:Nat),p=.bool more/\(more=true->Lr.length<=f)/\Hid (FlS z w wr rb tb lb c o w1.heap.size sb sg Lr x ux)/\Hid (pr=if more=true then leftL c sg S f x Lr else .ok (x,Lr))) (fun p wr=>moN p (rdLen wr rb))
 ·exact⟨true,y.2,y.1,_,y.2.length,rfl,fun _=>Nat.le_refl _,F0,hpr2⟩
 obtain⟨more,Lr,x,ux,f,rfl,hf,HF,HQ⟩:=hrel
 clear F0 hpr2
 have hpos:=HF.out.re.tl.pos
 obtain⟨f0,f1,f2,f3,f4,f5,e0,e1,e2,e3,e4,e5⟩:=HF.out.lt.six
 have fl:=HF.out.lt.lt
 have hgg:=HF.out.gg
 cases more with
 | true=>
   have hf:=hf rfl
   obtain⟨f',rfl⟩:∃ f',f=f'+1:=⟨f-1,by omega⟩
   have hq:Hid (pr=bnd (joinP c sg S x Lr) fun y=>if y.1.2=true then leftL c sg S f' y.1.1 y.2 else .ok (y.1.1,y.2)):=HQ.out
   clear HQ
   obtain⟨ax,cx,rfl,-,-⟩:=HF.out.st.parts.shape
   have HC:=HJ.out x _ Lr wr _ HF.out.re HF.out.st (fun hh=>by omega) (fun b hb=>⟨by omega,by omega⟩) HF.out.sc ⟨by omega,HF.out.sl.2⟩
   generalize hnx:x.parts.length=nx at *
   simp only[tmV] at HC
   have HC2:=hid2 HC
   clear HC
   have hlen:=HF.out.re.len
   go_wp2_with fail
   refine Calls.mono HC2.out ?_
   intro e w2 h2
   rcases hj:joinP c sg S x Lr with f | q
   ·obtain⟨rfl,t2⟩:=Out.of_err hj h2
    go_wp2_with fail
    exact⟨rfl,hE.out _ _ (by rw[hq.out,hj];rfl) (tn HF.out.tn t2)⟩
   obtain⟨t2,_,rfl,⟨u2,rfl,S2⟩,r2⟩:=Out.of_ok hj h2
   have F2:=hid2 (HF.out.joined t2 S2 r2)
   obtain⟨aq,cq,rfl,-,-⟩:=S2.parts.shape
   have hdj:=dec_join hDec hj
   obtain⟨g0,g1,g2,g3,g4,g5,i0,i1,i2,i3,i4,i5⟩:=(HF.out.lt.turn t2 (by simp;omega)).six
   have gl:=(HF.out.lt.turn t2 (by simp;omega)).lt
   clear h2 t2 S2 HC2 r2 f0 f1 f2 f3 f4 f5 e0 e1 e2 e3 e4 e5 HF
   generalize hnq:q.1.1.parts.length=nq at *
   simp only[tmV]
   go_wp2_with fail
   go_roundw
   ·refine⟨q.1.2,q.2,q.1.1,_,f',rfl,?_,F2,?_⟩
    ·intro hm
     have:=hdj.2 hm
     rw[List.length_tail] at this
     omega
    ·show _=_
     rw[hq.out,hj]
     rfl
   ·rw[F2.out.re.len,hlen]
    have hd2:=hdj.2
    rw[List.length_tail] at hd2
    cases hm:q.1.2 with
    | true=>
      have:=hd2 hm
      show q.2.length+1<Lr.length+1
      omega
    | false=>
      show 0<Lr.length+1
      omega
 | false=>
   have hq:Hid (pr=.ok (x,Lr)):=HQ.out
   clear HQ
   obtain⟨p0,p1,p2,p3,p4,p5,q0,q1,q2,q3,q4,q5⟩:=HF.out.rs.six
   have pl:=HF.out.rs.lt
   obtain⟨ax,cx,rfl,-,-⟩:=HF.out.st.parts.shape
   generalize hnx:x.parts.length=nx at *
   have hne2:w1.heap.size≠w.heap.size:=by omega
   go_wp2_with fail
   refine bodyPost_ret (v:=tmV x (.slice ax nx cx)) (by simp[results,Tryz.results97,go_sem, *]) rfl (hO.out x Lr _ _ (.slice ax nx cx) hq.out ?_ rfl ?_ ?_)
   ·exact HF.out.tn.trans (turn_six _ _ _ _ _ _ _ _) (fun i hi=>.inr (by simp at hi;omega))
   ·exact(HF.out.st.turnQ (turn_six _ _ _ _ _ _ _ _) (by simp only[List.mem_singleton];rintro i rfl hh;omega)).weak (fun b _ hq=>by omega)
   ·exact HF.out.re.turn1 (turn_six _ _ _ _ _ _ _ _) hL
set_option maxHeartbeats 4000000 in
set_option maxRecDepth 20000 in
theorem or_lv {z rb tb lb:Nat}{c:Int}{L:List Tk}{o:Nat}(hz:z<=9223372036854775807){S:Ps}{lv:Int}(hlv:0<=lv/\lv<=5)(HS:LvC z rb tb lb c o 37 (lv+1) S)(hDec:Dec S)(w:World)(hr:Rea z w rb tb lb c L o):
 Calls Tryz.prog 65 #[.pointer (some ⟨rb,0,none⟩),.int .i64 lv] w (Out (VTm w.heap.size z) z w rb tb lb c o (leftP c sgOr S L)):=by
 obtain⟨pr,hpr⟩:∃ pr,Hid (pr=leftP c sgOr S L):=⟨_,rfl⟩
 rw[<-hpr.out]
 have hE:Hid (∀ f w',pr=.error f->Turn [rb] w w'->Out (VTm w.heap.size z) z w rb tb lb c o pr (.panicked [fltE f]) w'):=fun f w' h ht=>Out.mk_err h ht
 have hO:Hid (∀ t L' w' v u,pr=.ok (t,L')->Turn [rb] w w'->v=tmV t u->SitB w.heap.size z w' t u->Rea z w' rb tb lb c L' o->Out (VTm w.heap.size z) z w rb tb lb c o pr (.returned v) w'):=fun t L' w' v u h ht hv hs hr'=>Out.mk_ok h ht ⟨u,hv,hs⟩ hr'
 generalize Out (VTm w.heap.size z) z w rb tb lb c o pr=Post at *
 have hL:=hr.lts
 have hne:w.heap.size∉[rb]:=by simp;omega
 have Z0:=Box.new w zs6 33
 go_enter Tryz.func65,Tryz.ntmps65
 go_wp2_with fail
 have T0:=tnO (ob:=.cells (zs6).toArray 33) (Turn.refl [rb] w)
 have r0:=hr.onO (ob:=.cells (zs6).toArray 33)
 have Rs0:=Z0
 have zsz:w.heap.size<(w.alloc (.cells (zs6).toArray 33)).heap.size:=by simp
 have hz0:(w.alloc (.cells (zs6).toArray 33)).heap.size=w.heap.size+1:=by simp
 clear Z0
 generalize hW0:w.alloc _=w0 at *
 clear hW0
 clear hr
 have t1:=tnO (ob:=.cells ([.string ⟨#[111,114]⟩,.int .i64 28]).toArray 129) (Turn.refl [rb] w0)
 have r1:=r0.onO (ob:=.cells ([.string ⟨#[111,114]⟩,.int .i64 28]).toArray 129)
 have Sg1:=Box.new w0 [.string ⟨#[111,114]⟩,.int .i64 28] 129
 have hnSg:w0.heap.size∉[rb]:=by simp;omega
 have hxSg:w0.heap.size<(w0.alloc (.cells ([.string ⟨#[111,114]⟩,.int .i64 28]).toArray 129)).heap.size:=by simp
 have Rs1:=Rs0.turn t1 hne
 have T1:=tn T0 t1
 have s1:=t1.size
 clear Rs0 T0 r0 t1
 generalize hW1:w0.alloc _=w1 at *
 clear hW1
 have HM0:=fromLeft_c hz hlv HS hDec sgOr (by simp) (by simp) (by simp) (w0.heap.size) _ r1 (fun q u hu=>Sg1.cell q u hu) ⟨Sg1.lt,by omega⟩
 rw[hz0] at HM0
 have HM:=hid2 (HM0)
 rw[<-hpr.out] at HM
 refine Calls.mono HM.out ?_
 intro e w2 h2
 rcases out_up T1 h2 with ⟨f,rfl,hp,ht⟩ | ⟨t,u,L',rfl,hp2,t2,S2,r2⟩
 ·go_wp2_with fail
  exact⟨rfl,hE.out _ _ hp ht⟩
 obtain⟨p0,p1,p2,p3,p4,p5,q0,q1,q2,q3,q4,q5⟩:=(Rs1.turn t2 hne).six
 have pl:=(Rs1.turn t2 hne).lt
 have HT:=hid2 (tn T1 t2)
 have HS:=hid2 S2
 obtain⟨av,cv,rfl,-,-⟩:=S2.parts.shape
 generalize hnn:t.parts.length=nn at *
 clear h2 t2 S2 HM
 simp only[tmV]
 go_wp2_with fail
 refine bodyPost_ret (v:=tmV t (.slice av nn cv)) (by simp[results,Tryz.results65,go_sem, *]) rfl (hO.out t L' _ _ (.slice av nn cv) hp2 ?_ rfl ?_ ?_)
 ·exact HT.out.trans (turn_six _ _ _ _ _ _ _ _) (fun i hi=>.inr (by simp at hi;omega))
 ·exact SitB.lower (SitB.turn HS.out (turn_six _ _ _ _ _ _ _ _) (by simp;omega)) (by omega)
 ·exact r2.turn1 (turn_six _ _ _ _ _ _ _ _) hL
set_option maxHeartbeats 4000000 in
set_option maxRecDepth 20000 in
theorem and_lv {z rb tb lb:Nat}{c:Int}{L:List Tk}{o:Nat}(hz:z<=9223372036854775807){S:Ps}{lv:Int}(hlv:0<=lv/\lv<=5)(HS:LvC z rb tb lb c o 37 (lv+1) S)(hDec:Dec S)(w:World)(hr:Rea z w rb tb lb c L o):
 Calls Tryz.prog 66 #[.pointer (some ⟨rb,0,none⟩),.int .i64 lv] w (Out (VTm w.heap.size z) z w rb tb lb c o (leftP c sgAnd S L)):=by
 obtain⟨pr,hpr⟩:∃ pr,Hid (pr=leftP c sgAnd S L):=⟨_,rfl⟩
 rw[<-hpr.out]
 have hE:Hid (∀ f w',pr=.error f->Turn [rb] w w'->Out (VTm w.heap.size z) z w rb tb lb c o pr (.panicked [fltE f]) w'):=fun f w' h ht=>Out.mk_err h ht
 have hO:Hid (∀ t L' w' v u,pr=.ok (t,L')->Turn [rb] w w'->v=tmV t u->SitB w.heap.size z w' t u->Rea z w' rb tb lb c L' o->Out (VTm w.heap.size z) z w rb tb lb c o pr (.returned v) w'):=fun t L' w' v u h ht hv hs hr'=>Out.mk_ok h ht ⟨u,hv,hs⟩ hr'
 generalize Out (VTm w.heap.size z) z w rb tb lb c o pr=Post at *
 have hL:=hr.lts
 have hne:w.heap.size∉[rb]:=by simp;omega
 have Z0:=Box.new w zs6 33
 go_enter Tryz.func66,Tryz.ntmps66
 go_wp2_with fail
 have T0:=tnO (ob:=.cells (zs6).toArray 33) (Turn.refl [rb] w)
 have r0:=hr.onO (ob:=.cells (zs6).toArray 33)
 have Rs0:=Z0
 have zsz:w.heap.size<(w.alloc (.cells (zs6).toArray 33)).heap.size:=by simp
 have hz0:(w.alloc (.cells (zs6).toArray 33)).heap.size=w.heap.size+1:=by simp
 clear Z0
 generalize hW0:w.alloc _=w0 at *
 clear hW0
 clear hr
 have t1:=tnO (ob:=.cells ([.string ⟨#[97,110,100]⟩,.int .i64 27]).toArray 129) (Turn.refl [rb] w0)
 have r1:=r0.onO (ob:=.cells ([.string ⟨#[97,110,100]⟩,.int .i64 27]).toArray 129)
 have Sg1:=Box.new w0 [.string ⟨#[97,110,100]⟩,.int .i64 27] 129
 have hnSg:w0.heap.size∉[rb]:=by simp;omega
 have hxSg:w0.heap.size<(w0.alloc (.cells ([.string ⟨#[97,110,100]⟩,.int .i64 27]).toArray 129)).heap.size:=by simp
 have Rs1:=Rs0.turn t1 hne
 have T1:=tn T0 t1
 have s1:=t1.size
 clear Rs0 T0 r0 t1
 generalize hW1:w0.alloc _=w1 at *
 clear hW1
 have HM0:=fromLeft_c hz hlv HS hDec sgAnd (by simp) (by simp) (by simp) (w0.heap.size) _ r1 (fun q u hu=>Sg1.cell q u hu) ⟨Sg1.lt,by omega⟩
 rw[hz0] at HM0
 have HM:=hid2 (HM0)
 rw[<-hpr.out] at HM
 refine Calls.mono HM.out ?_
 intro e w2 h2
 rcases out_up T1 h2 with ⟨f,rfl,hp,ht⟩ | ⟨t,u,L',rfl,hp2,t2,S2,r2⟩
 ·go_wp2_with fail
  exact⟨rfl,hE.out _ _ hp ht⟩
 obtain⟨p0,p1,p2,p3,p4,p5,q0,q1,q2,q3,q4,q5⟩:=(Rs1.turn t2 hne).six
 have pl:=(Rs1.turn t2 hne).lt
 have HT:=hid2 (tn T1 t2)
 have HS:=hid2 S2
 obtain⟨av,cv,rfl,-,-⟩:=S2.parts.shape
 generalize hnn:t.parts.length=nn at *
 clear h2 t2 S2 HM
 simp only[tmV]
 go_wp2_with fail
 refine bodyPost_ret (v:=tmV t (.slice av nn cv)) (by simp[results,Tryz.results66,go_sem, *]) rfl (hO.out t L' _ _ (.slice av nn cv) hp2 ?_ rfl ?_ ?_)
 ·exact HT.out.trans (turn_six _ _ _ _ _ _ _ _) (fun i hi=>.inr (by simp at hi;omega))
 ·exact SitB.lower (SitB.turn HS.out (turn_six _ _ _ _ _ _ _ _) (by simp;omega)) (by omega)
 ·exact r2.turn1 (turn_six _ _ _ _ _ _ _ _) hL
set_option maxHeartbeats 4000000 in
set_option maxRecDepth 20000 in
theorem sum_lv {z rb tb lb:Nat}{c:Int}{L:List Tk}{o:Nat}(hz:z<=9223372036854775807){S:Ps}{lv:Int}(hlv:0<=lv/\lv<=5)(HS:LvC z rb tb lb c o 37 (lv+1) S)(hDec:Dec S)(w:World)(hr:Rea z w rb tb lb c L o):
 Calls Tryz.prog 68 #[.pointer (some ⟨rb,0,none⟩),.int .i64 lv] w (Out (VTm w.heap.size z) z w rb tb lb c o (leftP c sgSum S L)):=by
 obtain⟨pr,hpr⟩:∃ pr,Hid (pr=leftP c sgSum S L):=⟨_,rfl⟩
 rw[<-hpr.out]
 have hE:Hid (∀ f w',pr=.error f->Turn [rb] w w'->Out (VTm w.heap.size z) z w rb tb lb c o pr (.panicked [fltE f]) w'):=fun f w' h ht=>Out.mk_err h ht
 have hO:Hid (∀ t L' w' v u,pr=.ok (t,L')->Turn [rb] w w'->v=tmV t u->SitB w.heap.size z w' t u->Rea z w' rb tb lb c L' o->Out (VTm w.heap.size z) z w rb tb lb c o pr (.returned v) w'):=fun t L' w' v u h ht hv hs hr'=>Out.mk_ok h ht ⟨u,hv,hs⟩ hr'
 generalize Out (VTm w.heap.size z) z w rb tb lb c o pr=Post at *
 have hL:=hr.lts
 have hne:w.heap.size∉[rb]:=by simp;omega
 have Z0:=Box.new w zs6 33
 go_enter Tryz.func68,Tryz.ntmps68
 go_wp2_with fail
 have T0:=tnO (ob:=.cells (zs6).toArray 33) (Turn.refl [rb] w)
 have r0:=hr.onO (ob:=.cells (zs6).toArray 33)
 have Rs0:=Z0
 have zsz:w.heap.size<(w.alloc (.cells (zs6).toArray 33)).heap.size:=by simp
 have hz0:(w.alloc (.cells (zs6).toArray 33)).heap.size=w.heap.size+1:=by simp
 clear Z0
 generalize hW0:w.alloc _=w0 at *
 clear hW0
 clear hr
 have t1:=tnO (ob:=.cells ([.string ⟨#[43]⟩,.int .i64 18,.string ⟨#[45]⟩,.int .i64 19]).toArray 129) (Turn.refl [rb] w0)
 have r1:=r0.onO (ob:=.cells ([.string ⟨#[43]⟩,.int .i64 18,.string ⟨#[45]⟩,.int .i64 19]).toArray 129)
 have Sg1:=Box.new w0 [.string ⟨#[43]⟩,.int .i64 18,.string ⟨#[45]⟩,.int .i64 19] 129
 have hnSg:w0.heap.size∉[rb]:=by simp;omega
 have hxSg:w0.heap.size<(w0.alloc (.cells ([.string ⟨#[43]⟩,.int .i64 18,.string ⟨#[45]⟩,.int .i64 19]).toArray 129)).heap.size:=by simp
 have Rs1:=Rs0.turn t1 hne
 have T1:=tn T0 t1
 have s1:=t1.size
 clear Rs0 T0 r0 t1
 generalize hW1:w0.alloc _=w1 at *
 clear hW1
 have HM0:=fromLeft_c hz hlv HS hDec sgSum (by simp) (by simp) (by simp) (w0.heap.size) _ r1 (fun q u hu=>Sg1.cell q u hu) ⟨Sg1.lt,by omega⟩
 rw[hz0] at HM0
 have HM:=hid2 (HM0)
 rw[<-hpr.out] at HM
 refine Calls.mono HM.out ?_
 intro e w2 h2
 rcases out_up T1 h2 with ⟨f,rfl,hp,ht⟩ | ⟨t,u,L',rfl,hp2,t2,S2,r2⟩
 ·go_wp2_with fail
  exact⟨rfl,hE.out _ _ hp ht⟩
 obtain⟨p0,p1,p2,p3,p4,p5,q0,q1,q2,q3,q4,q5⟩:=(Rs1.turn t2 hne).six
 have pl:=(Rs1.turn t2 hne).lt
 have HT:=hid2 (tn T1 t2)
 have HS:=hid2 S2
 obtain⟨av,cv,rfl,-,-⟩:=S2.parts.shape
 generalize hnn:t.parts.length=nn at *
 clear h2 t2 S2 HM
 simp only[tmV]
 go_wp2_with fail
 refine bodyPost_ret (v:=tmV t (.slice av nn cv)) (by simp[results,Tryz.results68,go_sem, *]) rfl (hO.out t L' _ _ (.slice av nn cv) hp2 ?_ rfl ?_ ?_)
 ·exact HT.out.trans (turn_six _ _ _ _ _ _ _ _) (fun i hi=>.inr (by simp at hi;omega))
 ·exact SitB.lower (SitB.turn HS.out (turn_six _ _ _ _ _ _ _ _) (by simp;omega)) (by omega)
 ·exact r2.turn1 (turn_six _ _ _ _ _ _ _ _) hL
set_option maxHeartbeats 4000000 in
set_option maxRecDepth 20000 in
theorem product_lv {z rb tb lb:Nat}{c:Int}{L:List Tk}{o:Nat}(hz:z<=9223372036854775807){S:Ps}{lv:Int}(hlv:0<=lv/\lv<=5)(HS:LvC z rb tb lb c o 37 (lv+1) S)(hDec:Dec S)(w:World)(hr:Rea z w rb tb lb c L o):
 Calls Tryz.prog 69 #[.pointer (some ⟨rb,0,none⟩),.int .i64 lv] w (Out (VTm w.heap.size z) z w rb tb lb c o (leftP c sgMul S L)):=by
 obtain⟨pr,hpr⟩:∃ pr,Hid (pr=leftP c sgMul S L):=⟨_,rfl⟩
 rw[<-hpr.out]
 have hE:Hid (∀ f w',pr=.error f->Turn [rb] w w'->Out (VTm w.heap.size z) z w rb tb lb c o pr (.panicked [fltE f]) w'):=fun f w' h ht=>Out.mk_err h ht
 have hO:Hid (∀ t L' w' v u,pr=.ok (t,L')->Turn [rb] w w'->v=tmV t u->SitB w.heap.size z w' t u->Rea z w' rb tb lb c L' o->Out (VTm w.heap.size z) z w rb tb lb c o pr (.returned v) w'):=fun t L' w' v u h ht hv hs hr'=>Out.mk_ok h ht ⟨u,hv,hs⟩ hr'
 generalize Out (VTm w.heap.size z) z w rb tb lb c o pr=Post at *
 have hL:=hr.lts
 have hne:w.heap.size∉[rb]:=by simp;omega
 have Z0:=Box.new w zs6 33
 go_enter Tryz.func69,Tryz.ntmps69
 go_wp2_with fail
 have T0:=tnO (ob:=.cells (zs6).toArray 33) (Turn.refl [rb] w)
 have r0:=hr.onO (ob:=.cells (zs6).toArray 33)
 have Rs0:=Z0
 have zsz:w.heap.size<(w.alloc (.cells (zs6).toArray 33)).heap.size:=by simp
 have hz0:(w.alloc (.cells (zs6).toArray 33)).heap.size=w.heap.size+1:=by simp
 clear Z0
 generalize hW0:w.alloc _=w0 at *
 clear hW0
 clear hr
 have t1:=tnO (ob:=.cells ([.string ⟨#[42]⟩,.int .i64 20,.string ⟨#[47]⟩,.int .i64 21]).toArray 129) (Turn.refl [rb] w0)
 have r1:=r0.onO (ob:=.cells ([.string ⟨#[42]⟩,.int .i64 20,.string ⟨#[47]⟩,.int .i64 21]).toArray 129)
 have Sg1:=Box.new w0 [.string ⟨#[42]⟩,.int .i64 20,.string ⟨#[47]⟩,.int .i64 21] 129
 have hnSg:w0.heap.size∉[rb]:=by simp;omega
 have hxSg:w0.heap.size<(w0.alloc (.cells ([.string ⟨#[42]⟩,.int .i64 20,.string ⟨#[47]⟩,.int .i64 21]).toArray 129)).heap.size:=by simp
 have Rs1:=Rs0.turn t1 hne
 have T1:=tn T0 t1
 have s1:=t1.size
 clear Rs0 T0 r0 t1
 generalize hW1:w0.alloc _=w1 at *
 clear hW1
 have HM0:=fromLeft_c hz hlv HS hDec sgMul (by simp) (by simp) (by simp) (w0.heap.size) _ r1 (fun q u hu=>Sg1.cell q u hu) ⟨Sg1.lt,by omega⟩
 rw[hz0] at HM0
 have HM:=hid2 (HM0)
 rw[<-hpr.out] at HM
 refine Calls.mono HM.out ?_
 intro e w2 h2
 rcases out_up T1 h2 with ⟨f,rfl,hp,ht⟩ | ⟨t,u,L',rfl,hp2,t2,S2,r2⟩
 ·go_wp2_with fail
  exact⟨rfl,hE.out _ _ hp ht⟩
 obtain⟨p0,p1,p2,p3,p4,p5,q0,q1,q2,q3,q4,q5⟩:=(Rs1.turn t2 hne).six
 have pl:=(Rs1.turn t2 hne).lt
 have HT:=hid2 (tn T1 t2)
 have HS:=hid2 S2
 obtain⟨av,cv,rfl,-,-⟩:=S2.parts.shape
 generalize hnn:t.parts.length=nn at *
 clear h2 t2 S2 HM
 simp only[tmV]
 go_wp2_with fail
 refine bodyPost_ret (v:=tmV t (.slice av nn cv)) (by simp[results,Tryz.results69,go_sem, *]) rfl (hO.out t L' _ _ (.slice av nn cv) hp2 ?_ rfl ?_ ?_)
 ·exact HT.out.trans (turn_six _ _ _ _ _ _ _ _) (fun i hi=>.inr (by simp at hi;omega))
 ·exact SitB.lower (SitB.turn HS.out (turn_six _ _ _ _ _ _ _ _) (by simp;omega)) (by omega)
 ·exact r2.turn1 (turn_six _ _ _ _ _ _ _ _) hL
set_option maxHeartbeats 4000000 in
set_option maxRecDepth 20000 in
theorem cmp_lv {z rb tb lb:Nat}{c:Int}{L:List Tk}{o:Nat}(hz:z<=9223372036854775807){S:Ps}{lv:Int}(hlv:0<=lv/\lv<=5)(HS:LvC z rb tb lb c o 37 (lv+1) S)(w:World)(hr:Rea z w rb tb lb c L o):
 Calls Tryz.prog 67 #[.pointer (some ⟨rb,0,none⟩),.int .i64 lv] w (Out (VTm w.heap.size z) z w rb tb lb c o (cmpP c sgCmp S L)):=by
 obtain⟨pr,hpr⟩:∃ pr,Hid (pr=cmpP c sgCmp S L):=⟨_,rfl⟩
 rw[<-hpr.out]
 have hE:Hid (∀ f w',pr=.error f->Turn [rb] w w'->Out (VTm w.heap.size z) z w rb tb lb c o pr (.panicked [fltE f]) w'):=fun f w' h ht=>Out.mk_err h ht
 have hO:Hid (∀ t L' w' v u,pr=.ok (t,L')->Turn [rb] w w'->v=tmV t u->SitB w.heap.size z w' t u->Rea z w' rb tb lb c L' o->Out (VTm w.heap.size z) z w rb tb lb c o pr (.returned v) w'):=fun t L' w' v u h ht hv hs hr'=>Out.mk_ok h ht ⟨u,hv,hs⟩ hr'
 generalize Out (VTm w.heap.size z) z w rb tb lb c o pr=Post at *
 have hL:=hr.lts
 have hne:w.heap.size∉[rb]:=by simp;omega
 have HSS:=hid2 HS
 obtain⟨hlv0,hlv1⟩:=hlv
 rw[cmpP] at hpr
 have Z0:=Box.new w zs6 33
 go_enter Tryz.func67,Tryz.ntmps67
 go_wp2_with fail
 have T0:=tnO (ob:=.cells (zs6).toArray 33) (Turn.refl [rb] w)
 have r0:=hr.onO (ob:=.cells (zs6).toArray 33)
 have Rs0:=Z0
 have zsz:w.heap.size<(w.alloc (.cells (zs6).toArray 33)).heap.size:=by simp
 have hz0:(w.alloc (.cells (zs6).toArray 33)).heap.size=w.heap.size+1:=by simp
 clear Z0
 generalize hW0:w.alloc _=w0 at *
 clear hW0
 clear hz0
 clear hr
 refine Calls.mono (HSS.out _ _ r0) ?_
 rintro e w1 h1
 rcases hy1:S L with f | y
 ·obtain⟨rfl,t1⟩:=Out.of_err hy1 h1
  go_wp2_with fail
  exact⟨rfl,hE.out _ _ (by rw[hpr.out,hy1];rfl) (tn T0 t1)⟩
 obtain⟨t1,_,rfl,⟨u1,rfl,S1⟩,r1⟩:=Out.of_ok hy1 h1
 have Rs1:=Rs0.turn t1 hne
 have T1:=tn T0 t1
 have s1:=t1.size
 clear Rs0 T0 r0 h1 t1
 have hpr1:Hid (pr=bnd (joinP c sgCmp S y.1 y.2) fun z=>.ok (z.1.1,z.2)):=by show _=_;rw[hpr.out,hy1];rfl
 simp only[tmV]
 obtain⟨av,cv,hu,-,-⟩:=S1.parts.shape
 subst hu
 generalize hnn:y.1.parts.length=nn at *
 go_wp2_with fail
 have t2:=tnO (ob:=.cells ([.string ⟨#[60]⟩,.int .i64 22,.string ⟨#[60,61]⟩,.int .i64 23,.string ⟨#[61]⟩,.int .i64 24,.string ⟨#[62]⟩,.int .i64 25,.string ⟨#[62,61]⟩,.int .i64 26]).toArray 129) (Turn.refl [rb] w1)
 have r2:=r1.onO (ob:=.cells ([.string ⟨#[60]⟩,.int .i64 22,.string ⟨#[60,61]⟩,.int .i64 23,.string ⟨#[61]⟩,.int .i64 24,.string ⟨#[62]⟩,.int .i64 25,.string ⟨#[62,61]⟩,.int .i64 26]).toArray 129)
 have Sg2:=Box.new w1 [.string ⟨#[60]⟩,.int .i64 22,.string ⟨#[60,61]⟩,.int .i64 23,.string ⟨#[61]⟩,.int .i64 24,.string ⟨#[62]⟩,.int .i64 25,.string ⟨#[62,61]⟩,.int .i64 26] 129
 have hnSg:w1.heap.size∉[rb]:=by simp;omega
 have hxSg:w1.heap.size<(w1.alloc (.cells ([.string ⟨#[60]⟩,.int .i64 22,.string ⟨#[60,61]⟩,.int .i64 23,.string ⟨#[61]⟩,.int .i64 24,.string ⟨#[62]⟩,.int .i64 25,.string ⟨#[62,61]⟩,.int .i64 26]).toArray 129)).heap.size:=by simp
 have Rs2:=Rs1.turn t2 hne
 have S2:=SitB.turn S1 t2 (by simp;omega)
 have T2:=tn T1 t2
 have s2:=t2.size
 clear Rs1 S1 T1 r1 t2
 generalize hW2:w1.alloc _=w2 at *
 clear hW2
 have HC:=joined_c hz ⟨hlv0,hlv1⟩ HS sgCmp (by simp) (by simp) (by simp) (w1.heap.size) (fun b=>w.heap.size+1<=b) y.1 _ w2 r2 (SitQ.weak S2 (fun b _ hq=>by omega)) (by omega) (fun b hb=>by omega) (fun q u hu=>Sg2.cell q u hu) ⟨Sg2.lt,by omega⟩
 simp only[tmV] at HC
 have HC2:=hid2 HC
 clear HC S2 HS
 refine Calls.mono HC2.out ?_
 intro e w3 h3
 rcases hj:joinP c sgCmp S y.1 y.2 with f | q
 ·obtain⟨rfl,t3⟩:=Out.of_err hj h3
  go_wp2_with fail
  exact⟨rfl,hE.out _ _ (by rw[hpr1.out,hj];rfl) (tn T2 t3)⟩
 obtain⟨t3,_,rfl,⟨u3,rfl,S3⟩,r3⟩:=Out.of_ok hj h3
 have hprj:Hid (pr=.ok (q.1.1,q.2)):=by show _=_;rw[hpr1.out,hj];rfl
 obtain⟨aq,cq,hu,-,-⟩:=S3.parts.shape
 subst hu
 generalize hnq:q.1.1.parts.length=nq at *
 simp only[tmV]
 have Rs3:=Rs2.turn t3 hne
 have Sg3:=Sg2.turn t3 hnSg
 have T3:=tn T2 t3
 have s3:=t3.size
 clear Rs2 Sg2 T2 r2 h3 t3 HC2
 change SitB (w.heap.size+1) z w3 q.1.1 (.slice aq nq cq) at S3
 obtain⟨p0,p1,p2,p3,p4,p5,pf0,pf1,pf2,pf3,pf4,pf5⟩:=Rs3.six
 have pl:=Rs3.lt
 have HS2:=hid2 S3
 clear S3
 go_wp2_with fail
 refine bodyPost_ret (v:=tmV (q.1.1) (.slice aq nq cq)) (by simp[results,Tryz.results67,go_sem, *]) rfl (hO.out (q.1.1) (q.2) _ _ (.slice aq nq cq) (hprj.out) ?_ rfl ?_ ?_)
 ·exact tnO (T3.trans (turn_six _ _ _ _ _ _ _ _) (fun i hi=>.inr (by simp at hi;omega)))
 ·exact SitB.lower (SitB.turn (S:=[]) (SitB.turn HS2.out (turn_six _ _ _ _ _ _ _ _) (by simp)) (Turn.of_below ((Below.refl _ _).alloc (Nat.le_refl _) _)) (by simp)) (by omega)
 ·exact(r3.turn1 (turn_six _ _ _ _ _ _ _ _) hL).onO
set_option maxHeartbeats 4000000 in
set_option maxRecDepth 20000 in
theorem level_5 {z rb tb lb:Nat}{c:Int}{L:List Tk}{o:Nat}(_hz:z<=9223372036854775807){p:Ps}(HF:ExC z rb tb lb c o 61 p)(w:World)(hr:Rea z w rb tb lb c L o):
 Calls Tryz.prog 37 #[.pointer (some ⟨rb,0,none⟩),.int .i64 5] w (Out (VTm w.heap.size z) z w rb tb lb c o (p L)):=by
 obtain⟨pr,hpr⟩:∃ pr,Hid (pr=p L):=⟨_,rfl⟩
 rw[<-hpr.out]
 have hE:Hid (∀ f w',pr=.error f->Turn [rb] w w'->Out (VTm w.heap.size z) z w rb tb lb c o pr (.panicked [fltE f]) w'):=fun f w' h ht=>Out.mk_err h ht
 have hO:Hid (∀ t L' w' v u,pr=.ok (t,L')->Turn [rb] w w'->v=tmV t u->SitB w.heap.size z w' t u->Rea z w' rb tb lb c L' o->Out (VTm w.heap.size z) z w rb tb lb c o pr (.returned v) w'):=fun t L' w' v u h ht hv hs hr'=>Out.mk_ok h ht ⟨u,hv,hs⟩ hr'
 generalize Out (VTm w.heap.size z) z w rb tb lb c o pr=Post at *
 have hL:=hr.lts
 have hne:w.heap.size∉[rb]:=by simp;omega
 have Z0:=Box.new w zs6 33
 obtain⟨off,cap,rx⟩:=hr
 have c3:=rx.box.cell 3 _ rfl
 have l3:=rx.box.lt
 have hr:Rea z w rb tb lb c L o:=⟨off,cap,rx⟩
 clear rx
 go_enter Tryz.func37,Tryz.ntmps37
 go_wp2_with fail
 have T0:=tnO (ob:=.cells (zs6).toArray 33) (Turn.refl [rb] w)
 have r0:=hr.onO (ob:=.cells (zs6).toArray 33)
 have Rs0:=Z0
 have zsz:w.heap.size<(w.alloc (.cells (zs6).toArray 33)).heap.size:=by simp
 have hz0:(w.alloc (.cells (zs6).toArray 33)).heap.size=w.heap.size+1:=by simp
 clear Z0
 generalize hW0:w.alloc _=w0 at *
 clear hW0
 clear hz0
 clear hr
 have HM:=hid2 (HF _ _ r0)
 rw[<-hpr.out] at HM
 refine Calls.mono HM.out ?_
 intro e w1 h1
 rcases out_up T0 h1 with ⟨f,rfl,hp,ht⟩ | ⟨t,u,L',rfl,hp2,t1,S1,r1⟩
 ·go_wp2_with fail
  exact⟨rfl,hE.out _ _ hp ht⟩
 obtain⟨p0,p1,p2,p3,p4,p5,q0,q1,q2,q3,q4,q5⟩:=(Rs0.turn t1 hne).six
 have pl:=(Rs0.turn t1 hne).lt
 have HT:=hid2 (tn T0 t1)
 have HS:=hid2 S1
 obtain⟨av,cv,rfl,-,-⟩:=S1.parts.shape
 generalize hnn:t.parts.length=nn at *
 clear h1 t1 S1 HM
 simp only[tmV]
 go_wp2_with fail
 refine bodyPost_ret (v:=tmV t (.slice av nn cv)) (by simp[results,Tryz.results37,go_sem, *]) rfl (hO.out t L' _ _ (.slice av nn cv) hp2 ?_ rfl ?_ ?_)
 ·exact HT.out.trans (turn_six _ _ _ _ _ _ _ _) (fun i hi=>.inr (by simp at hi;omega))
 ·exact SitB.lower (SitB.turn HS.out (turn_six _ _ _ _ _ _ _ _) (by simp;omega)) (by omega)
 ·exact r1.turn1 (turn_six _ _ _ _ _ _ _ _) hL
set_option maxHeartbeats 4000000 in
set_option maxRecDepth 20000 in
theorem level_0 {z rb tb lb:Nat}{c:Int}{L:List Tk}{o:Nat}(_hz:z<=9223372036854775807){p:Ps}(HF:LvC z rb tb lb c o 65 0 p)(w:World)(hr:Rea z w rb tb lb c L o):
 Calls Tryz.prog 37 #[.pointer (some ⟨rb,0,none⟩),.int .i64 0] w (Out (VTm w.heap.size z) z w rb tb lb c o (p L)):=by
 obtain⟨pr,hpr⟩:∃ pr,Hid (pr=p L):=⟨_,rfl⟩
 rw[<-hpr.out]
 have hE:Hid (∀ f w',pr=.error f->Turn [rb] w w'->Out (VTm w.heap.size z) z w rb tb lb c o pr (.panicked [fltE f]) w'):=fun f w' h ht=>Out.mk_err h ht
 have hO:Hid (∀ t L' w' v u,pr=.ok (t,L')->Turn [rb] w w'->v=tmV t u->SitB w.heap.size z w' t u->Rea z w' rb tb lb c L' o->Out (VTm w.heap.size z) z w rb tb lb c o pr (.returned v) w'):=fun t L' w' v u h ht hv hs hr'=>Out.mk_ok h ht ⟨u,hv,hs⟩ hr'
 generalize Out (VTm w.heap.size z) z w rb tb lb c o pr=Post at *
 have hL:=hr.lts
 have hne:w.heap.size∉[rb]:=by simp;omega
 have Z0:=Box.new w zs6 33
 obtain⟨off,cap,rx⟩:=hr
 have c3:=rx.box.cell 3 _ rfl
 have l3:=rx.box.lt
 have lv:=rx.levs 0 _ rfl
 have ll:=rx.ll
 have hr:Rea z w rb tb lb c L o:=⟨off,cap,rx⟩
 clear rx
 go_enter Tryz.func37,Tryz.ntmps37
 go_wp2_with fail
 have T0:=tnO (ob:=.cells (zs6).toArray 33) (Turn.refl [rb] w)
 have r0:=hr.onO (ob:=.cells (zs6).toArray 33)
 have Rs0:=Z0
 have zsz:w.heap.size<(w.alloc (.cells (zs6).toArray 33)).heap.size:=by simp
 have hz0:(w.alloc (.cells (zs6).toArray 33)).heap.size=w.heap.size+1:=by simp
 clear Z0
 generalize hW0:w.alloc _=w0 at *
 clear hW0
 clear hz0
 clear hr
 have HM:=hid2 (HF _ _ r0)
 rw[<-hpr.out] at HM
 refine Calls.mono HM.out ?_
 intro e w1 h1
 rcases out_up T0 h1 with ⟨f,rfl,hp,ht⟩ | ⟨t,u,L',rfl,hp2,t1,S1,r1⟩
 ·go_wp2_with fail
  exact⟨rfl,hE.out _ _ hp ht⟩
 obtain⟨p0,p1,p2,p3,p4,p5,q0,q1,q2,q3,q4,q5⟩:=(Rs0.turn t1 hne).six
 have pl:=(Rs0.turn t1 hne).lt
 have HT:=hid2 (tn T0 t1)
 have HS:=hid2 S1
 obtain⟨av,cv,rfl,-,-⟩:=S1.parts.shape
 generalize hnn:t.parts.length=nn at *
 clear h1 t1 S1 HM
 simp only[tmV]
 go_wp2_with fail
 refine bodyPost_ret (v:=tmV t (.slice av nn cv)) (by simp[results,Tryz.results37,go_sem, *]) rfl (hO.out t L' _ _ (.slice av nn cv) hp2 ?_ rfl ?_ ?_)
 ·exact HT.out.trans (turn_six _ _ _ _ _ _ _ _) (fun i hi=>.inr (by simp at hi;omega))
 ·exact SitB.lower (SitB.turn HS.out (turn_six _ _ _ _ _ _ _ _) (by simp;omega)) (by omega)
 ·exact r1.turn1 (turn_six _ _ _ _ _ _ _ _) hL
set_option maxHeartbeats 4000000 in
set_option maxRecDepth 20000 in
theorem level_1 {z rb tb lb:Nat}{c:Int}{L:List Tk}{o:Nat}(_hz:z<=9223372036854775807){p:Ps}(HF:LvC z rb tb lb c o 66 1 p)(w:World)(hr:Rea z w rb tb lb c L o):
 Calls Tryz.prog 37 #[.pointer (some ⟨rb,0,none⟩),.int .i64 1] w (Out (VTm w.heap.size z) z w rb tb lb c o (p L)):=by
 obtain⟨pr,hpr⟩:∃ pr,Hid (pr=p L):=⟨_,rfl⟩
 rw[<-hpr.out]
 have hE:Hid (∀ f w',pr=.error f->Turn [rb] w w'->Out (VTm w.heap.size z) z w rb tb lb c o pr (.panicked [fltE f]) w'):=fun f w' h ht=>Out.mk_err h ht
 have hO:Hid (∀ t L' w' v u,pr=.ok (t,L')->Turn [rb] w w'->v=tmV t u->SitB w.heap.size z w' t u->Rea z w' rb tb lb c L' o->Out (VTm w.heap.size z) z w rb tb lb c o pr (.returned v) w'):=fun t L' w' v u h ht hv hs hr'=>Out.mk_ok h ht ⟨u,hv,hs⟩ hr'
 generalize Out (VTm w.heap.size z) z w rb tb lb c o pr=Post at *
 have hL:=hr.lts
 have hne:w.heap.size∉[rb]:=by simp;omega
 have Z0:=Box.new w zs6 33
 obtain⟨off,cap,rx⟩:=hr
 have c3:=rx.box.cell 3 _ rfl
 have l3:=rx.box.lt
 have lv:=rx.levs 1 _ rfl
 have ll:=rx.ll
 have hr:Rea z w rb tb lb c L o:=⟨off,cap,rx⟩
 clear rx
 go_enter Tryz.func37,Tryz.ntmps37
 go_wp2_with fail
 have T0:=tnO (ob:=.cells (zs6).toArray 33) (Turn.refl [rb] w)
 have r0:=hr.onO (ob:=.cells (zs6).toArray 33)
 have Rs0:=Z0
 have zsz:w.heap.size<(w.alloc (.cells (zs6).toArray 33)).heap.size:=by simp
 have hz0:(w.alloc (.cells (zs6).toArray 33)).heap.size=w.heap.size+1:=by simp
 clear Z0
 generalize hW0:w.alloc _=w0 at *
 clear hW0
 clear hz0
 clear hr
 have HM:=hid2 (HF _ _ r0)
 rw[<-hpr.out] at HM
 refine Calls.mono HM.out ?_
 intro e w1 h1
 rcases out_up T0 h1 with ⟨f,rfl,hp,ht⟩ | ⟨t,u,L',rfl,hp2,t1,S1,r1⟩
 ·go_wp2_with fail
  exact⟨rfl,hE.out _ _ hp ht⟩
 obtain⟨p0,p1,p2,p3,p4,p5,q0,q1,q2,q3,q4,q5⟩:=(Rs0.turn t1 hne).six
 have pl:=(Rs0.turn t1 hne).lt
 have HT:=hid2 (tn T0 t1)
 have HS:=hid2 S1
 obtain⟨av,cv,rfl,-,-⟩:=S1.parts.shape
 generalize hnn:t.parts.length=nn at *
 clear h1 t1 S1 HM
 simp only[tmV]
 go_wp2_with fail
 refine bodyPost_ret (v:=tmV t (.slice av nn cv)) (by simp[results,Tryz.results37,go_sem, *]) rfl (hO.out t L' _ _ (.slice av nn cv) hp2 ?_ rfl ?_ ?_)
 ·exact HT.out.trans (turn_six _ _ _ _ _ _ _ _) (fun i hi=>.inr (by simp at hi;omega))
 ·exact SitB.lower (SitB.turn HS.out (turn_six _ _ _ _ _ _ _ _) (by simp;omega)) (by omega)
 ·exact r1.turn1 (turn_six _ _ _ _ _ _ _ _) hL
set_option maxHeartbeats 4000000 in
set_option maxRecDepth 20000 in
theorem level_2 {z rb tb lb:Nat}{c:Int}{L:List Tk}{o:Nat}(_hz:z<=9223372036854775807){p:Ps}(HF:LvC z rb tb lb c o 67 2 p)(w:World)(hr:Rea z w rb tb lb c L o):
 Calls Tryz.prog 37 #[.pointer (some ⟨rb,0,none⟩),.int .i64 2] w (Out (VTm w.heap.size z) z w rb tb lb c o (p L)):=by
 obtain⟨pr,hpr⟩:∃ pr,Hid (pr=p L):=⟨_,rfl⟩
 rw[<-hpr.out]
 have hE:Hid (∀ f w',pr=.error f->Turn [rb] w w'->Out (VTm w.heap.size z) z w rb tb lb c o pr (.panicked [fltE f]) w'):=fun f w' h ht=>Out.mk_err h ht
 have hO:Hid (∀ t L' w' v u,pr=.ok (t,L')->Turn [rb] w w'->v=tmV t u->SitB w.heap.size z w' t u->Rea z w' rb tb lb c L' o->Out (VTm w.heap.size z) z w rb tb lb c o pr (.returned v) w'):=fun t L' w' v u h ht hv hs hr'=>Out.mk_ok h ht ⟨u,hv,hs⟩ hr'
 generalize Out (VTm w.heap.size z) z w rb tb lb c o pr=Post at *
 have hL:=hr.lts
 have hne:w.heap.size∉[rb]:=by simp;omega
 have Z0:=Box.new w zs6 33
 obtain⟨off,cap,rx⟩:=hr
 have c3:=rx.box.cell 3 _ rfl
 have l3:=rx.box.lt
 have lv:=rx.levs 2 _ rfl
 have ll:=rx.ll
 have hr:Rea z w rb tb lb c L o:=⟨off,cap,rx⟩
 clear rx
 go_enter Tryz.func37,Tryz.ntmps37
 go_wp2_with fail
 have T0:=tnO (ob:=.cells (zs6).toArray 33) (Turn.refl [rb] w)
 have r0:=hr.onO (ob:=.cells (zs6).toArray 33)
 have Rs0:=Z0
 have zsz:w.heap.size<(w.alloc (.cells (zs6).toArray 33)).heap.size:=by simp
 have hz0:(w.alloc (.cells (zs6).toArray 33)).heap.size=w.heap.size+1:=by simp
 clear Z0
 generalize hW0:w.alloc _=w0 at *
 clear hW0
 clear hz0
 clear hr
 have HM:=hid2 (HF _ _ r0)
 rw[<-hpr.out] at HM
 refine Calls.mono HM.out ?_
 intro e w1 h1
 rcases out_up T0 h1 with ⟨f,rfl,hp,ht⟩ | ⟨t,u,L',rfl,hp2,t1,S1,r1⟩
 ·go_wp2_with fail
  exact⟨rfl,hE.out _ _ hp ht⟩
 obtain⟨p0,p1,p2,p3,p4,p5,q0,q1,q2,q3,q4,q5⟩:=(Rs0.turn t1 hne).six
 have pl:=(Rs0.turn t1 hne).lt
 have HT:=hid2 (tn T0 t1)
 have HS:=hid2 S1
 obtain⟨av,cv,rfl,-,-⟩:=S1.parts.shape
 generalize hnn:t.parts.length=nn at *
 clear h1 t1 S1 HM
 simp only[tmV]
 go_wp2_with fail
 refine bodyPost_ret (v:=tmV t (.slice av nn cv)) (by simp[results,Tryz.results37,go_sem, *]) rfl (hO.out t L' _ _ (.slice av nn cv) hp2 ?_ rfl ?_ ?_)
 ·exact HT.out.trans (turn_six _ _ _ _ _ _ _ _) (fun i hi=>.inr (by simp at hi;omega))
 ·exact SitB.lower (SitB.turn HS.out (turn_six _ _ _ _ _ _ _ _) (by simp;omega)) (by omega)
 ·exact r1.turn1 (turn_six _ _ _ _ _ _ _ _) hL
set_option maxHeartbeats 4000000 in
set_option maxRecDepth 20000 in
theorem level_3 {z rb tb lb:Nat}{c:Int}{L:List Tk}{o:Nat}(_hz:z<=9223372036854775807){p:Ps}(HF:LvC z rb tb lb c o 68 3 p)(w:World)(hr:Rea z w rb tb lb c L o):
 Calls Tryz.prog 37 #[.pointer (some ⟨rb,0,none⟩),.int .i64 3] w (Out (VTm w.heap.size z) z w rb tb lb c o (p L)):=by
 obtain⟨pr,hpr⟩:∃ pr,Hid (pr=p L):=⟨_,rfl⟩
 rw[<-hpr.out]
 have hE:Hid (∀ f w',pr=.error f->Turn [rb] w w'->Out (VTm w.heap.size z) z w rb tb lb c o pr (.panicked [fltE f]) w'):=fun f w' h ht=>Out.mk_err h ht
 have hO:Hid (∀ t L' w' v u,pr=.ok (t,L')->Turn [rb] w w'->v=tmV t u->SitB w.heap.size z w' t u->Rea z w' rb tb lb c L' o->Out (VTm w.heap.size z) z w rb tb lb c o pr (.returned v) w'):=fun t L' w' v u h ht hv hs hr'=>Out.mk_ok h ht ⟨u,hv,hs⟩ hr'
 generalize Out (VTm w.heap.size z) z w rb tb lb c o pr=Post at *
 have hL:=hr.lts
 have hne:w.heap.size∉[rb]:=by simp;omega
 have Z0:=Box.new w zs6 33
 obtain⟨off,cap,rx⟩:=hr
 have c3:=rx.box.cell 3 _ rfl
 have l3:=rx.box.lt
 have lv:=rx.levs 3 _ rfl
 have ll:=rx.ll
 have hr:Rea z w rb tb lb c L o:=⟨off,cap,rx⟩
 clear rx
 go_enter Tryz.func37,Tryz.ntmps37
 go_wp2_with fail
 have T0:=tnO (ob:=.cells (zs6).toArray 33) (Turn.refl [rb] w)
 have r0:=hr.onO (ob:=.cells (zs6).toArray 33)
 have Rs0:=Z0
 have zsz:w.heap.size<(w.alloc (.cells (zs6).toArray 33)).heap.size:=by simp
 have hz0:(w.alloc (.cells (zs6).toArray 33)).heap.size=w.heap.size+1:=by simp
 clear Z0
 generalize hW0:w.alloc _=w0 at *
 clear hW0
 clear hz0
 clear hr
 have HM:=hid2 (HF _ _ r0)
 rw[<-hpr.out] at HM
 refine Calls.mono HM.out ?_
 intro e w1 h1
 rcases out_up T0 h1 with ⟨f,rfl,hp,ht⟩ | ⟨t,u,L',rfl,hp2,t1,S1,r1⟩
 ·go_wp2_with fail
  exact⟨rfl,hE.out _ _ hp ht⟩
 obtain⟨p0,p1,p2,p3,p4,p5,q0,q1,q2,q3,q4,q5⟩:=(Rs0.turn t1 hne).six
 have pl:=(Rs0.turn t1 hne).lt
 have HT:=hid2 (tn T0 t1)
 have HS:=hid2 S1
 obtain⟨av,cv,rfl,-,-⟩:=S1.parts.shape
 generalize hnn:t.parts.length=nn at *
 clear h1 t1 S1 HM
 simp only[tmV]
 go_wp2_with fail
 refine bodyPost_ret (v:=tmV t (.slice av nn cv)) (by simp[results,Tryz.results37,go_sem, *]) rfl (hO.out t L' _ _ (.slice av nn cv) hp2 ?_ rfl ?_ ?_)
 ·exact HT.out.trans (turn_six _ _ _ _ _ _ _ _) (fun i hi=>.inr (by simp at hi;omega))
 ·exact SitB.lower (SitB.turn HS.out (turn_six _ _ _ _ _ _ _ _) (by simp;omega)) (by omega)
 ·exact r1.turn1 (turn_six _ _ _ _ _ _ _ _) hL
set_option maxHeartbeats 4000000 in
set_option maxRecDepth 20000 in
theorem level_4 {z rb tb lb:Nat}{c:Int}{L:List Tk}{o:Nat}(_hz:z<=9223372036854775807){p:Ps}(HF:LvC z rb tb lb c o 69 4 p)(w:World)(hr:Rea z w rb tb lb c L o):
 Calls Tryz.prog 37 #[.pointer (some ⟨rb,0,none⟩),.int .i64 4] w (Out (VTm w.heap.size z) z w rb tb lb c o (p L)):=by
 obtain⟨pr,hpr⟩:∃ pr,Hid (pr=p L):=⟨_,rfl⟩
 rw[<-hpr.out]
 have hE:Hid (∀ f w',pr=.error f->Turn [rb] w w'->Out (VTm w.heap.size z) z w rb tb lb c o pr (.panicked [fltE f]) w'):=fun f w' h ht=>Out.mk_err h ht
 have hO:Hid (∀ t L' w' v u,pr=.ok (t,L')->Turn [rb] w w'->v=tmV t u->SitB w.heap.size z w' t u->Rea z w' rb tb lb c L' o->Out (VTm w.heap.size z) z w rb tb lb c o pr (.returned v) w'):=fun t L' w' v u h ht hv hs hr'=>Out.mk_ok h ht ⟨u,hv,hs⟩ hr'
 generalize Out (VTm w.heap.size z) z w rb tb lb c o pr=Post at *
 have hL:=hr.lts
 have hne:w.heap.size∉[rb]:=by simp;omega
 have Z0:=Box.new w zs6 33
 obtain⟨off,cap,rx⟩:=hr
 have c3:=rx.box.cell 3 _ rfl
 have l3:=rx.box.lt
 have lv:=rx.levs 4 _ rfl
 have ll:=rx.ll
 have hr:Rea z w rb tb lb c L o:=⟨off,cap,rx⟩
 clear rx
 go_enter Tryz.func37,Tryz.ntmps37
 go_wp2_with fail
 have T0:=tnO (ob:=.cells (zs6).toArray 33) (Turn.refl [rb] w)
 have r0:=hr.onO (ob:=.cells (zs6).toArray 33)
 have Rs0:=Z0
 have zsz:w.heap.size<(w.alloc (.cells (zs6).toArray 33)).heap.size:=by simp
 have hz0:(w.alloc (.cells (zs6).toArray 33)).heap.size=w.heap.size+1:=by simp
 clear Z0
 generalize hW0:w.alloc _=w0 at *
 clear hW0
 clear hz0
 clear hr
 have HM:=hid2 (HF _ _ r0)
 rw[<-hpr.out] at HM
 refine Calls.mono HM.out ?_
 intro e w1 h1
 rcases out_up T0 h1 with ⟨f,rfl,hp,ht⟩ | ⟨t,u,L',rfl,hp2,t1,S1,r1⟩
 ·go_wp2_with fail
  exact⟨rfl,hE.out _ _ hp ht⟩
 obtain⟨p0,p1,p2,p3,p4,p5,q0,q1,q2,q3,q4,q5⟩:=(Rs0.turn t1 hne).six
 have pl:=(Rs0.turn t1 hne).lt
 have HT:=hid2 (tn T0 t1)
 have HS:=hid2 S1
 obtain⟨av,cv,rfl,-,-⟩:=S1.parts.shape
 generalize hnn:t.parts.length=nn at *
 clear h1 t1 S1 HM
 simp only[tmV]
 go_wp2_with fail
 refine bodyPost_ret (v:=tmV t (.slice av nn cv)) (by simp[results,Tryz.results37,go_sem, *]) rfl (hO.out t L' _ _ (.slice av nn cv) hp2 ?_ rfl ?_ ?_)
 ·exact HT.out.trans (turn_six _ _ _ _ _ _ _ _) (fun i hi=>.inr (by simp at hi;omega))
 ·exact SitB.lower (SitB.turn HS.out (turn_six _ _ _ _ _ _ _ _) (by simp;omega)) (by omega)
 ·exact r1.turn1 (turn_six _ _ _ _ _ _ _ _) hL
set_option maxHeartbeats 4000000 in
set_option maxRecDepth 20000 in
theorem expression_c {z rb tb lb:Nat}{c:Int}{L:List Tk}{o:Nat}(_hz:z<=9223372036854775807){p:Ps}(HF:LvC z rb tb lb c o 37 0 p)(w:World)(hr:Rea z w rb tb lb c L o):
 Calls Tryz.prog 21 #[.pointer (some ⟨rb,0,none⟩)] w (Out (VTm w.heap.size z) z w rb tb lb c o (p L)):=by
 obtain⟨pr,hpr⟩:∃ pr,Hid (pr=p L):=⟨_,rfl⟩
 rw[<-hpr.out]
 have hE:Hid (∀ f w',pr=.error f->Turn [rb] w w'->Out (VTm w.heap.size z) z w rb tb lb c o pr (.panicked [fltE f]) w'):=fun f w' h ht=>Out.mk_err h ht
 have hO:Hid (∀ t L' w' v u,pr=.ok (t,L')->Turn [rb] w w'->v=tmV t u->SitB w.heap.size z w' t u->Rea z w' rb tb lb c L' o->Out (VTm w.heap.size z) z w rb tb lb c o pr (.returned v) w'):=fun t L' w' v u h ht hv hs hr'=>Out.mk_ok h ht ⟨u,hv,hs⟩ hr'
 generalize Out (VTm w.heap.size z) z w rb tb lb c o pr=Post at *
 have hL:=hr.lts
 have hne:w.heap.size∉[rb]:=by simp;omega
 have Z0:=Box.new w zs6 33
 go_enter Tryz.func21,Tryz.ntmps21
 go_wp2_with fail
 have T0:=tnO (ob:=.cells (zs6).toArray 33) (Turn.refl [rb] w)
 have r0:=hr.onO (ob:=.cells (zs6).toArray 33)
 have Rs0:=Z0
 have zsz:w.heap.size<(w.alloc (.cells (zs6).toArray 33)).heap.size:=by simp
 have hz0:(w.alloc (.cells (zs6).toArray 33)).heap.size=w.heap.size+1:=by simp
 clear Z0
 generalize hW0:w.alloc _=w0 at *
 clear hW0
 clear hz0
 clear hr
 have HM:=hid2 (HF _ _ r0)
 rw[<-hpr.out] at HM
 refine Calls.mono HM.out ?_
 intro e w1 h1
 rcases out_up T0 h1 with ⟨f,rfl,hp,ht⟩ | ⟨t,u,L',rfl,hp2,t1,S1,r1⟩
 ·go_wp2_with fail
  exact⟨rfl,hE.out _ _ hp ht⟩
 obtain⟨p0,p1,p2,p3,p4,p5,q0,q1,q2,q3,q4,q5⟩:=(Rs0.turn t1 hne).six
 have pl:=(Rs0.turn t1 hne).lt
 have HT:=hid2 (tn T0 t1)
 have HS:=hid2 S1
 obtain⟨av,cv,rfl,-,-⟩:=S1.parts.shape
 generalize hnn:t.parts.length=nn at *
 clear h1 t1 S1 HM
 simp only[tmV]
 go_wp2_with fail
 refine bodyPost_ret (v:=tmV t (.slice av nn cv)) (by simp[results,Tryz.results21,go_sem, *]) rfl (hO.out t L' _ _ (.slice av nn cv) hp2 ?_ rfl ?_ ?_)
 ·exact HT.out.trans (turn_six _ _ _ _ _ _ _ _) (fun i hi=>.inr (by simp at hi;omega))
 ·exact SitB.lower (SitB.turn HS.out (turn_six _ _ _ _ _ _ _ _) (by simp;omega)) (by omega)
 ·exact r1.turn1 (turn_six _ _ _ _ _ _ _ _) hL
theorem lv0_c {z rb tb lb:Nat}{c:Int}{o:Nat}(hz:z<=9223372036854775807){X:Option Ps}(HX:InC z rb tb lb c o X)(hD:DecO X):ExC z rb tb lb c o 21 (lv0 c X):=by
 have h5:LvC z rb tb lb c o 37 5 (lv5 c X):=fun L w hr=>level_5 hz (fac_c hz (atom_c hz HX)) w hr
 have e5:LvC z rb tb lb c o 37 (4+1) (lv5 c X):=by rw[show (4:Int)+1=5 by decide];exact h5
 have h4:LvC z rb tb lb c o 37 4 (lv4 c X):=fun L w hr=>level_4 hz (fun L w hr=>product_lv hz (by decide) e5 (dec_lv5 hD) w hr) w hr
 have e4:LvC z rb tb lb c o 37 (3+1) (lv4 c X):=by rw[show (3:Int)+1=4 by decide];exact h4
 have h3:LvC z rb tb lb c o 37 3 (lv3 c X):=fun L w hr=>level_3 hz (fun L w hr=>sum_lv hz (by decide) e4 (dec_lv4 hD) w hr) w hr
 have e3:LvC z rb tb lb c o 37 (2+1) (lv3 c X):=by rw[show (2:Int)+1=3 by decide];exact h3
 have h2:LvC z rb tb lb c o 37 2 (lv2 c X):=fun L w hr=>level_2 hz (fun L w hr=>cmp_lv hz (by decide) e3 w hr) w hr
 have e2:LvC z rb tb lb c o 37 (1+1) (lv2 c X):=by rw[show (1:Int)+1=2 by decide];exact h2
 have h1:LvC z rb tb lb c o 37 1 (lv1 c X):=fun L w hr=>level_1 hz (fun L w hr=>and_lv hz (by decide) e2 (dec_lv2 hD) w hr) w hr
 have e1:LvC z rb tb lb c o 37 (0+1) (lv1 c X):=by rw[show (0:Int)+1=1 by decide];exact h1
 have h0:LvC z rb tb lb c o 37 0 (lv0 c X):=fun L w hr=>level_0 hz (fun L w hr=>or_lv hz (by decide) e1 (dec_lv1 hD) w hr) w hr
 exact fun L w hr=>expression_c hz h0 w hr
theorem expr_c {z rb tb lb:Nat}{c:Int}(hz:z<=9223372036854775807):∀ d o,o+d=64->ExC z rb tb lb c o 21 (exprD c d)
 | 0,o,ho=>lv0_c hz ⟨fun _=>(by omega),(fun _ h=>by cases h)⟩ (fun _ h=>by cases h)
 | d+1,o,ho=>lv0_c hz ⟨(fun h=>by cases h),fun E h=>by cases h;exact⟨by omega,expr_c hz d (o+1) (by omega),dec_expr c d⟩⟩ (fun E h=>by cases h;exact dec_expr c d)
end Go.Proofs.YtecdfnpbcabdnaaGreatDoor
