import Derived.Test.YtkbmgloilckdhaaGreatDoorMfA
import Derived.Test.YtkbmgloilckdhaaGreatDoorMrB
import Derived.Test.YtkbmgloilckdhaaGreatDoorMpI
import Derived.Test.YtkbmgloilckdhaaGreatDoorMkB
import Derived.Test.YtkbmgloilckdhaaGreatDoorMgK
import Derived.Deep.AppendLies
import Derived.Deep.RegionHeld3
namespace Go.Proofs.YtkbmgloilckdhaaGreatDoor
open Go.RowKit
theorem b0k (w:World):a3c w a6k ⟨.slice none 0 0,.slice none 0 0,.slice none 0 0,.slice none 0 0,.slice none 0 0⟩:=
 ⟨⟨a0o,a0o,a0o,a0o,a0o⟩,a0o,(fun x hx=>by cases hx),(fun x hx=>by cases hx),⟨none,0,rfl,Nat.le_refl _,by omega,.inl rfl⟩,⟨none,0,rfl,Nat.le_refl _,by omega,.inl rfl⟩,⟨none,0,rfl,Nat.le_refl _,by omega,.inl rfl⟩,⟨none,0,rfl,Nat.le_refl _,by omega,.inl rfl⟩,(CSP.leaf (ok:=fun _=>True) _ ⟨a0o,a0o,a0o⟩).sits⟩
set_option maxHeartbeats 20000000 in
set_option maxRecDepth 20000 in
theorem b0u (q:Co->Co->Bool)(hq:∀ a b,q a b=true↔a=b)(p:PlP)(v:PlV)(w:World)(hs:a3c w p v)(hL:p.gs.length*96<=140737488355328):
 Calls Tryz.prog 7 #[plV p v] w fun e w'=>∃ u,e=.returned (.tuple #[plV (a2N q p).1 u,.int .i64 (a2N q p).2])/\a3c w' (a2N q p).1 u/\Below w.heap.size w w':=by
 have HFo:=a0a (fun W (hW:Below w.heap.size w W)=>b0v q hq p v W (hs.next hW) hL)
 have HGl:Hid (p.gs.length*96<=140737488355328):=hL
 have HPs:=a0a hs
 have HOk:=a0a (fun h:a1f q p=true=>a8v h)
 obtain⟨a1,c1,a2,c2,a3,c3,a4,c4,a5,c5,rfl,g1,g2,g3,g4⟩:=hs.shapes
 obtain⟨Y0,Y1,Y2⟩:=a0e w 32 32 (plL p ⟨.slice a1 p.mets.length c1,.slice a2 p.wins.length c2,.slice a3 p.crons.length c3,.slice a4 p.gs.length c4,.slice a5 p.fin.parts.length c5⟩) [.slice none 0 0,.int .i64 0,.int .i64 0,.int .i64 0,.int .i64 0,.int .i64 0,.slice none 0 0,.slice none 0 0,.int .i64 0,.slice none 0 0,.int .i64 0,.int .i64 0,.int .i64 0,.slice none 0 0]
 have HY0:=a0a Y0
 have HY1:=a0a Y1
 have B0:=a0a Y2
 clear hs Y0 Y1 Y2 g1 g2 g3 g4 hq hL
 obtain⟨R,hR⟩:∃ R,Hid (R=a2N q p):=⟨_,rfl⟩
 rw[<-hR.out]
 cases hf:a1f q p with
 | false=>
   obtain rfl:R=(a6k,1):=by rw[hR.out];unfold a2N;rw[hf];rfl
   rw[hf] at HFo
   clear HOk hR hf
   obtain⟨x0,x1,x2,x3,x4,x5,x6,x7,x8,x9,x10,x11,x12,x13⟩:=Box.c14 HY0.out
   have xl:=HY0.out.lt
   go_enter Tryz.func7,Tryz.ntmps7
   go_wp2_with fail
   refine Calls.mono (HFo.out _ B0.out) ?_
   rintro e w1 ⟨rfl,b1⟩
   have B1:=kb B0 b1
   replace HY1:=kn HY1 b1
   clear b1 HFo HY0 x0 x1 x2 x3 x4 x5 x6 x7 x8 x9 x10 x11 x12 x13 xl
   obtain⟨y0,y1,y2,y3,y4,y5,y6,y7,y8,y9,y10,y11,y12,y13⟩:=Box.c14 HY1.out
   have yl:=HY1.out.lt
   have g0:=HY1.out.free 0 (by simp)
   have g1:=HY1.out.free 1 (by simp)
   have g2:=HY1.out.free 2 (by simp)
   have g3:=HY1.out.free 3 (by simp)
   have g4:=HY1.out.free 4 (by simp)
   have g5:=HY1.out.free 5 (by simp)
   have g6:=HY1.out.free 6 (by simp)
   have g7:=HY1.out.free 7 (by simp)
   have g8:=HY1.out.free 8 (by simp)
   have g9:=HY1.out.free 9 (by simp)
   have g10:=HY1.out.free 10 (by simp)
   have g11:=HY1.out.free 11 (by simp)
   have g12:=HY1.out.free 12 (by simp)
   have g13:=HY1.out.free 13 (by simp)
   go_wp2_with fail
   refine bodyPost_ret (v:=.tuple #[plV a6k ⟨.slice none 0 0,.slice none 0 0,.slice none 0 0,.slice none 0 0,.slice none 0 0⟩,.int .i64 1]) (by simp[results,Tryz.results7,go_sem,a6k,co0, *]) rfl ?_
   exact⟨_,rfl,b0k _,a2E (g:=w.heap.size+1) B1.out (a0c (a0c (a0c (a0c (a0c (a0c (a0c (a0c (a0c (a0c (a0c (a0c (a0c (a0p.set w1 _ _ (by simp)) (a0p.set _ _ _ (by simp))) (a0p.set _ _ _ (by simp))) (a0p.set _ _ _ (by simp))) (a0p.set _ _ _ (by simp))) (a0p.set _ _ _ (by simp))) (a0p.set _ _ _ (by simp))) (a0p.set _ _ _ (by simp))) (a0p.set _ _ _ (by simp))) (a0p.set _ _ _ (by simp))) (a0p.set _ _ _ (by simp))) (a0p.set _ _ _ (by simp))) (a0p.set _ _ _ (by simp))) (a0p.set _ _ _ (by simp))) (by omega) B1.out.size⟩
 | true=>
   obtain rfl:R=(a6x p,0):=by rw[hR.out];unfold a2N;rw[hf];rfl
   replace HOk:=a0a (HOk.out hf)
   rw[hf] at HFo
   clear hR hf
   obtain⟨x0,x1,x2,x3,x4,x5,x6,x7,x8,x9,x10,x11,x12,x13⟩:=Box.c14 HY0.out
   have xl:=HY0.out.lt
   go_enter Tryz.func7,Tryz.ntmps7
   go_wp2_with fail
   refine Calls.mono (HFo.out _ B0.out) ?_
   rintro e w1 ⟨rfl,b1⟩
   have B1:=kb B0 b1
   replace HY0:=kn HY0 b1
   replace HY1:=kn HY1 b1
   have BA:Below w1.heap.size w1 (w1.alloc (.cells #[.slice a1 p.mets.length c1,.int .i64 p.ru.mn,.int .i64 p.ru.mx,.int .i64 p.ru.st,.int .i64 p.ru.up,.int .i64 p.ru.dn,.slice a2 p.wins.length c2,.slice a3 p.crons.length c3,.int .i64 p.loc,.slice none 0 0,.int .i64 p.fin.op,.int .i64 p.fin.n,.int .i64 p.fin.m,.slice a5 p.fin.parts.length c5] 32)):=(Below.refl _ _).alloc (Nat.le_refl _) _
   have HR0:Hid (a9R (w1.heap.size+1) w1.heap.size (plL p ⟨.slice a1 p.mets.length c1,.slice a2 p.wins.length c2,.slice a3 p.crons.length c3,.slice a4 p.gs.length c4,.slice a5 p.fin.parts.length c5⟩) (.slice none 0 0) [] (w1.alloc (.cells #[.slice a1 p.mets.length c1,.int .i64 p.ru.mn,.int .i64 p.ru.mx,.int .i64 p.ru.st,.int .i64 p.ru.up,.int .i64 p.ru.dn,.slice a2 p.wins.length c2,.slice a3 p.crons.length c3,.int .i64 p.loc,.slice none 0 0,.int .i64 p.fin.op,.int .i64 p.fin.n,.int .i64 p.fin.m,.slice a5 p.fin.parts.length c5] 32))):=a0a ⟨Box.new w1 [.slice a1 p.mets.length c1,.int .i64 p.ru.mn,.int .i64 p.ru.mx,.int .i64 p.ru.st,.int .i64 p.ru.up,.int .i64 p.ru.dn,.slice a2 p.wins.length c2,.slice a3 p.crons.length c3,.int .i64 p.loc,.slice none 0 0,.int .i64 p.fin.op,.int .i64 p.fin.n,.int .i64 p.fin.m,.slice a5 p.fin.parts.length c5] 32,a3s.nil _ _,by omega⟩
   have hs2:Hid ((w1.alloc (.cells #[.slice a1 p.mets.length c1,.int .i64 p.ru.mn,.int .i64 p.ru.mx,.int .i64 p.ru.st,.int .i64 p.ru.up,.int .i64 p.ru.dn,.slice a2 p.wins.length c2,.slice a3 p.crons.length c3,.int .i64 p.loc,.slice none 0 0,.int .i64 p.fin.op,.int .i64 p.fin.n,.int .i64 p.fin.m,.slice a5 p.fin.parts.length c5] 32)).heap.size=w1.heap.size+1):=a0a (by simp)
   clear b1 HFo x0 x1 x2 x3 x4 x5 x6 x7 x8 x9 x10 x11 x12 x13 xl B0
   obtain⟨x0,x1,x2,x3,x4,x5,x6,x7,x8,x9,x10,x11,x12,x13⟩:=Box.c14 HY0.out
   have xl:=HY0.out.lt
   go_wp2_with fail
   have hob:Hid (w.heap.size+1<w1.heap.size):=a0a (by have:=HY1.out.lt;exact this)
   replace HY0:=kn HY0 BA
   replace HY1:=kn HY1 BA
   have B2:=kb B1 BA
   clear BA x0 x1 x2 x3 x4 x5 x6 x7 x8 x9 x10 x11 x12 x13 xl
   obtain⟨ob,hobe⟩:∃ ob,Hid (ob=w1.heap.size):=⟨_,rfl⟩
   rw[<-hobe.out] at HR0 hs2 hob ⊢
   generalize hW1:w1.alloc _=w2 at *
   clear hW1
   obtain⟨N,hN⟩:∃ N,Hid (N=p.gs.length):=⟨_,rfl⟩
   have hNb:N<=1466015503701:=by have:=HGl.out;rw[hN.out];omega
   rw[<-hN.out] at HY0
   rw[<-hN.out]
   obtain⟨i0,hi,hz0,hz1,hz2⟩:=a4R
   go_loopw [5] (fun i wr=>∃ (k:Nat) (xs:List GPr) (av:Option Addr) (cv:Nat),i=.int .i64 (k:Nat)/\k<=N/\Hid (xs.length=k)/\Hid (xs.map (fun x=>(x.1.1,x.2.1))=(p.gs.take k).map a5o)/\Hid (a9R (ob+1) ob (plL p ⟨.slice a1 p.mets.length c1,.slice a2 p.wins.length c2,.slice a3 p.crons.length c3,.slice a4 p.gs.length c4,.slice a5 p.fin.parts.length c5⟩) (.slice av k cv) xs wr)/\Hid (Below ob w2 wr)) (fun i _=>match i with | .int _ z=>((N:Int)-z).toNat | _=>0)
   case atStart=>exact⟨0,[],none,0,rfl,by omega,a0a rfl,a0a rfl,HR0,a0a (Below.refl _ _)⟩
   case round=>
    obtain⟨k,xs,av,cv,rfl,hk,HXl,HXs,HRw,HBr⟩:=hrel
    have HBw:Hid (Below w.heap.size w wr):=a0a (B2.out.trans (HBr.out.mono (by have:=hob.out;omega)))
    have hwr:Hid (ob+1<=wr.heap.size):=a0a (by have:=HBr.out.size;have:=hs2.out;omega)
    have Y0:=HY0.out.later HBr.out (by have:=hob.out;omega)
    have x9:=Y0.cell 9 _ rfl
    have xl:=Y0.lt
    have HYr:=a0a Y0
    by_cases hlt:k<N
    ·have hlt':(k:Int)<(N:Int):=by omega
     have hl1:k<p.gs.length:=by rw[<-hN.out];exact hlt
     obtain⟨b,off,cap',hv,-,-,hbl,hx⟩:=HPs.out.gs.open (by omega)
     simp only[Value.slice.injEq] at hv
     obtain⟨rfl,-,rfl⟩:=hv
     obtain⟨ux,uy,h6,h7,hu,hv2⟩:=hx k hl1
     have y0:=a0d HBw.out h6.c0
     have y1:=a0d HBw.out h6.c1
     have y2:=a0d HBw.out h6.c2
     have y3:=a0d HBw.out h6.c3
     have y4:=a0d HBw.out h7.c0
     have y5:=a0d HBw.out h7.c1
     have y6:=a0d HBw.out h7.c2
     have y7:=a0d HBw.out h7.c3
     have lbr:b<wr.heap.size:=World.block_lt_of_cell? wr _ y0
     have hok:=HOk.out.1 _ (List.getElem_mem hl1)
     have hok1:=a0a hok.1
     have hok2:=a0a hok.2
     have HSx:=a0a (fun W (hW:Below wr.heap.size wr W)=>(hu.next HBw.out).next hW)
     have HSy:=a0a (fun W (hW:Below wr.heap.size wr W)=>(hv2.next HBw.out).next hW)
     have HTk:Hid (p.gs.take (k+1)=p.gs.take k++[p.gs[k]]):=a0a (List.take_succ_eq_append_getElem hl1)
     obtain⟨a7,c7,rfl,-,-⟩:=hu.parts.shape
     obtain⟨a8,c8,rfl,-,-⟩:=hv2.parts.shape
     clear h6 h7 hu hv2 hx hok
     generalize p.gs[k]=t at *
     obtain⟨tx,ty⟩:=t
     dsimp only at *
     have hNk:Hid (k+1<=1466015503701):=a0a (by omega)
     have o9:=HRw.out.box.cell 9 _ rfl
     have ol:=HRw.out.box.lt
     have of9:=HRw.out.box.free 9 (by simp)
     go_wp2_with fail
     have HSk:Hid (∀ W,Below ob wr W->(fun w'=>w'.cell? ⟨w.heap.size,9,none⟩=some (.slice (some ⟨b,off,none⟩) N c4)/\w'.cell? ⟨b,off+k*8,none⟩=some (.int .i64 tx.op)/\w'.cell? ⟨b,off+k*8+1,none⟩=some (.int .i64 tx.n)/\w'.cell? ⟨b,off+k*8+2,none⟩=some (.int .i64 tx.m)/\w'.cell? ⟨b,off+k*8+3,none⟩=some (.slice a7 tx.parts.length c7)/\w'.cell? ⟨b,off+k*8+4,none⟩=some (.int .i64 ty.op)/\w'.cell? ⟨b,off+k*8+4+1,none⟩=some (.int .i64 ty.n)/\w'.cell? ⟨b,off+k*8+4+2,none⟩=some (.int .i64 ty.m)/\w'.cell? ⟨b,off+k*8+4+3,none⟩=some (.slice a8 ty.parts.length c8)/\b<w'.heap.size/\w.heap.size<w'.heap.size) W):=a0a (fun W hW=>by
      have hb1:b<ob:=by have:=hob.out;omega
      have hb2:w.heap.size<ob:=by have:=hob.out;omega
      exact⟨(hW.cell (p:=⟨w.heap.size,9,none⟩) hb2).trans x9,(hW.cell (p:=⟨b,_,none⟩) hb1).trans y0,(hW.cell (p:=⟨b,_,none⟩) hb1).trans y1,(hW.cell (p:=⟨b,_,none⟩) hb1).trans y2,(hW.cell (p:=⟨b,_,none⟩) hb1).trans y3,(hW.cell (p:=⟨b,_,none⟩) hb1).trans y4,(hW.cell (p:=⟨b,_,none⟩) hb1).trans y5,(hW.cell (p:=⟨b,_,none⟩) hb1).trans y6,(hW.cell (p:=⟨b,_,none⟩) hb1).trans y7,Nat.lt_of_lt_of_le lbr hW.size,Nat.lt_of_lt_of_le xl hW.size⟩)
     have hole:Hid (ob<=wr.heap.size):=a0a (by have:=hwr.out;omega)
     refine wp_region_held_drew (S:=(fun w'=>w'.cell? ⟨w.heap.size,9,none⟩=some (.slice (some ⟨b,off,none⟩) N c4)/\w'.cell? ⟨b,off+k*8,none⟩=some (.int .i64 tx.op)/\w'.cell? ⟨b,off+k*8+1,none⟩=some (.int .i64 tx.n)/\w'.cell? ⟨b,off+k*8+2,none⟩=some (.int .i64 tx.m)/\w'.cell? ⟨b,off+k*8+3,none⟩=some (.slice a7 tx.parts.length c7)/\w'.cell? ⟨b,off+k*8+4,none⟩=some (.int .i64 ty.op)/\w'.cell? ⟨b,off+k*8+4+1,none⟩=some (.int .i64 ty.n)/\w'.cell? ⟨b,off+k*8+4+2,none⟩=some (.int .i64 ty.m)/\w'.cell? ⟨b,off+k*8+4+3,none⟩=some (.slice a8 ty.parts.length c8)/\b<w'.heap.size/\w.heap.size<w'.heap.size)) (by kernel_rfl) (HSk.out _ (Below.refl _ _).drew) (fun hS0=>?_)
     refine wpAnyH_take (i:=0) (v:=.pointer (some ⟨ob,9,none⟩)) rfl (by kernel_rfl) (by kernel_rfl) (by kernel_rfl) (fun _ _ _ h=>h) (Or.inl ⟨rfl,fun w' hS'=>?_⟩) hS0 ?_
     ·obtain⟨q9,q0,q1,q2,q3,q4,q5,q6,q7,ql,qx⟩:=hS'
      go_simp
     refine wpAnyH_take (i:=2) (v:=.pointer (some ⟨w.heap.size,9,none⟩)) rfl (by kernel_rfl) (by kernel_rfl) (by kernel_rfl) (fun _ _ _ h=>h) (Or.inl ⟨rfl,fun w' hS'=>?_⟩) hS0 ?_
     ·obtain⟨q9,q0,q1,q2,q3,q4,q5,q6,q7,ql,qx⟩:=hS'
      go_simp
     refine wpAnyH_take (i:=3) (v:=.slice (some ⟨b,off,none⟩) N c4) rfl (by kernel_rfl) (by kernel_rfl) (by kernel_rfl) (fun _ _ _ h=>h) (Or.inl ⟨rfl,fun w' hS'=>?_⟩) hS0 ?_
     ·obtain⟨q9,q0,q1,q2,q3,q4,q5,q6,q7,ql,qx⟩:=hS'
      go_simp
     refine wpAnyH_take (i:=4) (v:=.int .i64 (k:Nat)) rfl (by kernel_rfl) (by kernel_rfl) (by kernel_rfl) (fun _ _ _ h=>h) (Or.inl ⟨rfl,fun w' hS'=>?_⟩) hS0 ?_
     ·obtain⟨q9,q0,q1,q2,q3,q4,q5,q6,q7,ql,qx⟩:=hS'
      go_simp
     refine wpAnyH_take (i:=5) (v:=.pointer (some ⟨b,off+k*8,none⟩)) rfl (by kernel_rfl) (by kernel_rfl) (by kernel_rfl) (fun _ _ _ h=>h) (Or.inl ⟨rfl,fun w' hS'=>?_⟩) hS0 ?_
     ·obtain⟨q9,q0,q1,q2,q3,q4,q5,q6,q7,ql,qx⟩:=hS'
      go_simp
     refine wpAnyH_take (i:=6) (v:=.pointer (some ⟨b,off+k*8,none⟩)) rfl (by kernel_rfl) (by kernel_rfl) (by kernel_rfl) (fun _ _ _ h=>h) (Or.inl ⟨rfl,fun w' hS'=>?_⟩) hS0 ?_
     ·obtain⟨q9,q0,q1,q2,q3,q4,q5,q6,q7,ql,qx⟩:=hS'
      go_simp
     refine wpAnyH_take (i:=7) (v:=.agg #[.int .i64 tx.op,.int .i64 tx.n,.int .i64 tx.m,.slice a7 tx.parts.length c7]) rfl (by kernel_rfl) (by kernel_rfl) (by kernel_rfl) (fun _ _ _ h=>h) (Or.inl ⟨rfl,fun w' hS'=>?_⟩) hS0 ?_
     ·obtain⟨q9,q0,q1,q2,q3,q4,q5,q6,q7,ql,qx⟩:=hS'
      go_simp
     refine wpAnyH_take (i:=9) (v:=.pointer (some ⟨w.heap.size,9,none⟩)) rfl (by kernel_rfl) (by kernel_rfl) (by kernel_rfl) (fun _ _ _ h=>h) (Or.inl ⟨rfl,fun w' hS'=>?_⟩) hS0 ?_
     ·obtain⟨q9,q0,q1,q2,q3,q4,q5,q6,q7,ql,qx⟩:=hS'
      go_simp
     refine wpAnyH_take (i:=10) (v:=.slice (some ⟨b,off,none⟩) N c4) rfl (by kernel_rfl) (by kernel_rfl) (by kernel_rfl) (fun _ _ _ h=>h) (Or.inl ⟨rfl,fun w' hS'=>?_⟩) hS0 ?_
     ·obtain⟨q9,q0,q1,q2,q3,q4,q5,q6,q7,ql,qx⟩:=hS'
      go_simp
     refine wpAnyH_take (i:=11) (v:=.int .i64 (k:Nat)) rfl (by kernel_rfl) (by kernel_rfl) (by kernel_rfl) (fun _ _ _ h=>h) (Or.inl ⟨rfl,fun w' hS'=>?_⟩) hS0 ?_
     ·obtain⟨q9,q0,q1,q2,q3,q4,q5,q6,q7,ql,qx⟩:=hS'
      go_simp
     refine wpAnyH_take (i:=12) (v:=.pointer (some ⟨b,off+k*8,none⟩)) rfl (by kernel_rfl) (by kernel_rfl) (by kernel_rfl) (fun _ _ _ h=>h) (Or.inl ⟨rfl,fun w' hS'=>?_⟩) hS0 ?_
     ·obtain⟨q9,q0,q1,q2,q3,q4,q5,q6,q7,ql,qx⟩:=hS'
      go_simp
     refine wpAnyH_take (i:=13) (v:=.pointer (some ⟨b,off+k*8+4,none⟩)) rfl (by kernel_rfl) (by kernel_rfl) (by kernel_rfl) (fun _ _ _ h=>h) (Or.inl ⟨rfl,fun w' hS'=>?_⟩) hS0 ?_
     ·obtain⟨q9,q0,q1,q2,q3,q4,q5,q6,q7,ql,qx⟩:=hS'
      go_simp
     refine wpAnyH_take (i:=14) (v:=.agg #[.int .i64 ty.op,.int .i64 ty.n,.int .i64 ty.m,.slice a8 ty.parts.length c8]) rfl (by kernel_rfl) (by kernel_rfl) (by kernel_rfl) (fun _ _ _ h=>h) (Or.inl ⟨rfl,fun w' hS'=>?_⟩) hS0 ?_
     ·obtain⟨q9,q0,q1,q2,q3,q4,q5,q6,q7,ql,qx⟩:=hS'
      go_simp
     clear x9 y0 y1 y2 y3 y4 y5 y6 y7
     refine wpAnyH_ready (rs:=[1,8]) (by kernel_rfl) (by simp) (AllReadyH.cons (i:=1) (o:={dst:=some 20,op:=.load 27 (.tmp 19),type:=27,pos := "ref.go:147",after:=#[{on:=0,ground:=.data}],guard:=none}) rfl (fun K hK=>?_) (AllReadyH.cons (i:=8) (o:={dst:=some 27,op:=.call {callee:=.value (.func 18),args:=#[.tmp 26],argTypes:=#[30]},type:=30,pos := "ref.go:147",after:=#[{on:=7,ground:=.data}],guard:=none}) rfl (fun K hK=>?_) AllReadyH.nil))
     ·rw[if_pos (show Region.wanted _ _=true from rfl)]
      go_simp
      refine hK.out _ _ hS0 (fun _=>?_)
      clear hK
      refine wpAnyH_ready (rs:=[8]) (by kernel_rfl) (by simp) (AllReadyH.cons (i:=8) (o:={dst:=some 27,op:=.call {callee:=.value (.func 18),args:=#[.tmp 26],argTypes:=#[30]},type:=30,pos := "ref.go:147",after:=#[{on:=7,ground:=.data}],guard:=none}) rfl (fun K hK=>?_) AllReadyH.nil)
      refine a2b rfl (a2A tx) hok1.out.so hok1.out.no (.slice a7 tx.parts.length c7) (HSx.out _ (Below.refl _ _).drew) (by first | rfl | go_simp) ?_
      intro a60 c60 w60 s60 b60
      have B60:Hid (Below wr.heap.size wr w60):=a0a ⟨b60.os,b60.tape,b60.output,b60.size,b60.block⟩
      have C60:=a0a (HRw.out.next B60.out)
      have S60:Hid (CSP (fun b=>wr.heap.size<=b) w60 (a0g tx) (.slice a60 (a0g tx).parts.length c60)):=a0a s60
      have hS60:=HSk.out _ (B60.out.mono hole.out)
      refine hK.out _ _ hS60 (fun _=>?_)
      clear b60 s60 hK
      refine wpAnyH_ready (rs:=[15]) (by kernel_rfl) (by simp) (AllReadyH.cons (i:=15) (o:={dst:=some 34,op:=.call {callee:=.value (.func 18),args:=#[.tmp 33],argTypes:=#[30]},type:=30,pos := "ref.go:147",after:=#[{on:=14,ground:=.data},{on:=8,ground:=.chain}],guard:=none}) rfl (fun K hK=>?_) AllReadyH.nil)
      refine a2b rfl (a2A ty) hok2.out.so hok2.out.no (.slice a8 ty.parts.length c8) (HSy.out _ B60.out) (by first | rfl | go_simp) ?_
      intro a61 c61 w61 s61 b61
      have B61:Hid (Below wr.heap.size wr w61):=a0a (a0b B60.out (b:=w61) ⟨b61.os,b61.tape,b61.output,b61.size,b61.block⟩ B60.out.size)
      have C61:=a0a (HRw.out.next B61.out)
      have S61:Hid (CSP (fun b=>w60.heap.size<=b) w61 (a0g ty) (.slice a61 (a0g ty).parts.length c61)):=a0a s61
      have S60b:Hid (CSP (fun b=>wr.heap.size<=b) w61 (a0g tx) (.slice a60 (a0g tx).parts.length c60)):=a0a (CSP.next S60.out ⟨b61.os,b61.tape,b61.output,b61.size,b61.block⟩)
      have Z61:Hid (wr.heap.size<=w61.heap.size):=a0a B61.out.size
      have Z60b:Hid (wr.heap.size<=w60.heap.size):=a0a B60.out.size
      have h61:Hid (Below ob wr w61):=a0a (B61.out.mono hole.out)
      have hS61:=HSk.out _ h61.out
      have BA:=a0a ((Below.refl w61.heap.size w61).alloc (Nat.le_refl _) (.cells #[.int .i64 (a0g tx).op,.int .i64 (a0g tx).n,.int .i64 (a0g tx).m,.slice a60 (a0g tx).parts.length c60,.int .i64 (a0g ty).op,.int .i64 (a0g ty).n,.int .i64 (a0g ty).m,.slice a61 (a0g ty).parts.length c61] 49))
      have h61a:Hid (Below ob wr (w61.alloc (.cells #[.int .i64 (a0g tx).op,.int .i64 (a0g tx).n,.int .i64 (a0g tx).m,.slice a60 (a0g tx).parts.length c60,.int .i64 (a0g ty).op,.int .i64 (a0g ty).n,.int .i64 (a0g ty).m,.slice a61 (a0g ty).parts.length c61] 49))):=a0a (h61.out.alloc (by have:=Z61.out;have:=hole.out;omega) _)
      have hS61a:=HSk.out _ h61a.out
      refine hK.out _ _ hS61 (fun _=>?_)
      clear b61 s61 hK
      refine wpAnyH_take (i:=16) (v:=.agg #[.int .i64 (a0g tx).op,.int .i64 (a0g tx).n,.int .i64 (a0g tx).m,.slice a60 (a0g tx).parts.length c60,.int .i64 (a0g ty).op,.int .i64 (a0g ty).n,.int .i64 (a0g ty).m,.slice a61 (a0g ty).parts.length c61]) rfl (by kernel_rfl) (by kernel_rfl) (by kernel_rfl) (fun _ _ _ h=>h) (Or.inl ⟨rfl,fun w' hS'=>?_⟩) hS61 ?_
      ·clear hS'
       go_simp
      refine wpAnyH_ready (rs:=[17]) (by kernel_rfl) (by simp) (AllReadyH.cons (i:=17) (o:={dst:=some 36,op:=.buildSlice 27 1 #[(0,.tmp 35)],type:=27,pos := "ref.go:147",after:=#[{on:=16,ground:=.data}],guard:=none}) rfl (fun K hK=>?_) AllReadyH.nil)
      rw[if_pos (show Region.wanted _ _=true from rfl)]
      go_simp
      refine hK.out _ _ hS61a (fun _=>?_)
      clear hK
      refine wpAnyH_ready (rs:=[18]) (by kernel_rfl) (by simp) (AllReadyH.cons (i:=18) (o:={dst:=some 37,op:=.call {callee:=.builtin .append,args:=#[.tmp 20,.tmp 36],argTypes:=#[27,27]},type:=27,pos := "ref.go:147",after:=#[{on:=1,ground:=.data},{on:=17,ground:=.data},{on:=15,ground:=.chain}],guard:=none}) rfl (fun K hK=>?_) AllReadyH.nil)
      refine step_append_lies _ rfl (.tmp 20) (.tmp 36) 27 rfl (ob+1) 49 i0 gz0 8 96 Tryz.underlying27 hi hz0 hz1 hz2 rfl (by decide) (.slice av k cv) xs.length (flG xs) (by simp[Act.eval]) (C61.out.row.own.alloc _) ⟨w61.heap.size,0,none⟩ 1 1 (coL (a0g tx) (.slice a60 (a0g tx).parts.length c60)++coL (a0g ty) (.slice a61 (a0g ty).parts.length c61)) (by simp[Act.eval]) rfl (a3i _ _ _) (by intro u hu;simp at hu;rcases hu with rfl | rfl | rfl | rfl | rfl | rfl | rfl | rfl<;>rfl) (by decide) (by have h1:=HXl.out;have h2:=hNk.out;unfold maxLen;omega) (by have h1:=HXl.out;have h2:=hNk.out;omega) (by have:=Z61.out;have:=hwr.out;simp;omega) _ rfl ?_
      intro g1 cap1 w62 o1 k1 a1' l1
      have A1:=a0a (a9R.grow (x:=a0g tx) (y:=a0g ty) (C61.out.next BA.out) (by simp) ((S60b.out.weak (fun b _ hb=>⟨by have:=hwr.out;have hb':wr.heap.size<=b:=hb;omega,fun e=>by have h:=(HRw.out.row.own.lt b e).2;have hb':wr.heap.size<=b:=hb;omega⟩)).next BA.out) ((S61.out.weak (fun b _ hb=>⟨by have:=hwr.out;have:=Z60b.out;have hb':w60.heap.size<=b:=hb;omega,fun e=>by have h:=(HRw.out.row.own.lt b e).2;have:=Z60b.out;have hb':w60.heap.size<=b:=hb;omega⟩)).next BA.out) o1 k1 a1')
      have h62:Hid (Below ob wr w62):=a0a (h61a.out.trans ⟨k1.os,k1.tape,k1.output,k1.size,fun q hq=>k1.block q (by have:=Z61.out;have:=hwr.out;simp;omega) (fun e=>by have:=(C61.out.row.own.lt q e.symm).1;omega)⟩)
      have h63:Hid (Below ob wr (w62.setCell ⟨ob,9,none⟩ (.slice (some ⟨g1,0,none⟩) (xs.length+1) cap1))):=a0a (h62.out.setCell (p:=⟨ob,9,none⟩) (Nat.le_refl _) _)
      have hS62:=HSk.out _ h62.out
      have hS63:=HSk.out _ h63.out
      have d62:=A1.out.1.free 9 (by simp)
      have e62:=A1.out.1.cell 9 _ rfl
      have m62:=A1.out.1.lt
      refine hK.out _ _ hS62 (fun _=>?_)
      clear o1 k1 a1' hK
      refine wpAnyH_take (i:=19) (v:=.pointer (some ⟨ob,9,none⟩)) rfl (by kernel_rfl) (by kernel_rfl) (by kernel_rfl) (fun _ _ _ h=>h) (Or.inl ⟨rfl,fun w' hS'=>?_⟩) hS62 ?_
      ·clear hS'
       go_simp
      refine wpAnyH_ready (rs:=[20]) (by kernel_rfl) (by simp) (AllReadyH.cons (i:=20) (o:={dst:=none,op:=.store 27 (.tmp 38) (.tmp 37),type:=0,pos := "ref.go:147",after:=#[{on:=19,ground:=.data},{on:=18,ground:=.data},{on:=18,ground:=.chain},{on:=0,ground:=.phase},{on:=1,ground:=.phase},{on:=2,ground:=.phase},{on:=3,ground:=.phase},{on:=4,ground:=.phase},{on:=5,ground:=.phase},{on:=6,ground:=.phase},{on:=7,ground:=.phase},{on:=8,ground:=.phase},{on:=9,ground:=.phase},{on:=10,ground:=.phase},{on:=11,ground:=.phase},{on:=12,ground:=.phase},{on:=13,ground:=.phase},{on:=14,ground:=.phase},{on:=15,ground:=.phase},{on:=16,ground:=.phase},{on:=17,ground:=.phase},{on:=18,ground:=.phase}],guard:=none}) rfl (fun K hK=>?_) AllReadyH.nil)
      rw[if_pos (show Region.wanted _ _=true from rfl)]
      go_simp
      refine hK.out _ _ hS63 (fun _=>?_)
      clear hK
      refine wpAnyH_done (by kernel_rfl) ?_ _
      go_wp2_with fail
      refine⟨⟨k+1,xs++[((a0g tx,.slice a60 (a0g tx).parts.length c60),(a0g ty,.slice a61 (a0g ty).parts.length c61))],some ⟨g1,0,none⟩,cap1,by simp,by omega,a0a (by rw[List.length_append,HXl.out];rfl),a0a (by rw[HTk.out,List.map_append,List.map_append,HXs.out];rfl),?_,?_⟩,by simp;omega⟩
      ·rw[show k+1=xs.length+1 from by rw[HXl.out]]
       exact a0a A1.out.2
      ·exact a0a (HBr.out.trans h63.out)
     ·refine a2b rfl (a2A tx) hok1.out.so hok1.out.no (.slice a7 tx.parts.length c7) (HSx.out _ (Below.refl _ _).drew) (by first | rfl | go_simp) ?_
      intro a60 c60 w60 s60 b60
      have B60:Hid (Below wr.heap.size wr w60):=a0a ⟨b60.os,b60.tape,b60.output,b60.size,b60.block⟩
      have C60:=a0a (HRw.out.next B60.out)
      have S60:Hid (CSP (fun b=>wr.heap.size<=b) w60 (a0g tx) (.slice a60 (a0g tx).parts.length c60)):=a0a s60
      have hS60:=HSk.out _ (B60.out.mono hole.out)
      refine hK.out _ _ hS60 (fun _=>?_)
      clear b60 s60 hK
      refine wpAnyH_ready (rs:=[1,15]) (by kernel_rfl) (by simp) (AllReadyH.cons (i:=1) (o:={dst:=some 20,op:=.load 27 (.tmp 19),type:=27,pos := "ref.go:147",after:=#[{on:=0,ground:=.data}],guard:=none}) rfl (fun K hK=>?_) (AllReadyH.cons (i:=15) (o:={dst:=some 34,op:=.call {callee:=.value (.func 18),args:=#[.tmp 33],argTypes:=#[30]},type:=30,pos := "ref.go:147",after:=#[{on:=14,ground:=.data},{on:=8,ground:=.chain}],guard:=none}) rfl (fun K hK=>?_) AllReadyH.nil))
      ·rw[if_pos (show Region.wanted _ _=true from rfl)]
       have h1c:=C60.out.box.cell 9 _ rfl
       have h1l:=C60.out.box.lt
       go_simp
       refine hK.out _ _ hS60 (fun _=>?_)
       clear hK h1c h1l
       refine wpAnyH_ready (rs:=[15]) (by kernel_rfl) (by simp) (AllReadyH.cons (i:=15) (o:={dst:=some 34,op:=.call {callee:=.value (.func 18),args:=#[.tmp 33],argTypes:=#[30]},type:=30,pos := "ref.go:147",after:=#[{on:=14,ground:=.data},{on:=8,ground:=.chain}],guard:=none}) rfl (fun K hK=>?_) AllReadyH.nil)
       refine a2b rfl (a2A ty) hok2.out.so hok2.out.no (.slice a8 ty.parts.length c8) (HSy.out _ B60.out) (by first | rfl | go_simp) ?_
       intro a61 c61 w61 s61 b61
       have B61:Hid (Below wr.heap.size wr w61):=a0a (a0b B60.out (b:=w61) ⟨b61.os,b61.tape,b61.output,b61.size,b61.block⟩ B60.out.size)
       have C61:=a0a (HRw.out.next B61.out)
       have S61:Hid (CSP (fun b=>w60.heap.size<=b) w61 (a0g ty) (.slice a61 (a0g ty).parts.length c61)):=a0a s61
       have S60b:Hid (CSP (fun b=>wr.heap.size<=b) w61 (a0g tx) (.slice a60 (a0g tx).parts.length c60)):=a0a (CSP.next S60.out ⟨b61.os,b61.tape,b61.output,b61.size,b61.block⟩)
       have Z61:Hid (wr.heap.size<=w61.heap.size):=a0a B61.out.size
       have Z60b:Hid (wr.heap.size<=w60.heap.size):=a0a B60.out.size
       have h61:Hid (Below ob wr w61):=a0a (B61.out.mono hole.out)
       have hS61:=HSk.out _ h61.out
       have BA:=a0a ((Below.refl w61.heap.size w61).alloc (Nat.le_refl _) (.cells #[.int .i64 (a0g tx).op,.int .i64 (a0g tx).n,.int .i64 (a0g tx).m,.slice a60 (a0g tx).parts.length c60,.int .i64 (a0g ty).op,.int .i64 (a0g ty).n,.int .i64 (a0g ty).m,.slice a61 (a0g ty).parts.length c61] 49))
       have h61a:Hid (Below ob wr (w61.alloc (.cells #[.int .i64 (a0g tx).op,.int .i64 (a0g tx).n,.int .i64 (a0g tx).m,.slice a60 (a0g tx).parts.length c60,.int .i64 (a0g ty).op,.int .i64 (a0g ty).n,.int .i64 (a0g ty).m,.slice a61 (a0g ty).parts.length c61] 49))):=a0a (h61.out.alloc (by have:=Z61.out;have:=hole.out;omega) _)
       have hS61a:=HSk.out _ h61a.out
       refine hK.out _ _ hS61 (fun _=>?_)
       clear b61 s61 hK
       refine wpAnyH_take (i:=16) (v:=.agg #[.int .i64 (a0g tx).op,.int .i64 (a0g tx).n,.int .i64 (a0g tx).m,.slice a60 (a0g tx).parts.length c60,.int .i64 (a0g ty).op,.int .i64 (a0g ty).n,.int .i64 (a0g ty).m,.slice a61 (a0g ty).parts.length c61]) rfl (by kernel_rfl) (by kernel_rfl) (by kernel_rfl) (fun _ _ _ h=>h) (Or.inl ⟨rfl,fun w' hS'=>?_⟩) hS61 ?_
       ·clear hS'
        go_simp
       refine wpAnyH_ready (rs:=[17]) (by kernel_rfl) (by simp) (AllReadyH.cons (i:=17) (o:={dst:=some 36,op:=.buildSlice 27 1 #[(0,.tmp 35)],type:=27,pos := "ref.go:147",after:=#[{on:=16,ground:=.data}],guard:=none}) rfl (fun K hK=>?_) AllReadyH.nil)
       rw[if_pos (show Region.wanted _ _=true from rfl)]
       go_simp
       refine hK.out _ _ hS61a (fun _=>?_)
       clear hK
       refine wpAnyH_ready (rs:=[18]) (by kernel_rfl) (by simp) (AllReadyH.cons (i:=18) (o:={dst:=some 37,op:=.call {callee:=.builtin .append,args:=#[.tmp 20,.tmp 36],argTypes:=#[27,27]},type:=27,pos := "ref.go:147",after:=#[{on:=1,ground:=.data},{on:=17,ground:=.data},{on:=15,ground:=.chain}],guard:=none}) rfl (fun K hK=>?_) AllReadyH.nil)
       refine step_append_lies _ rfl (.tmp 20) (.tmp 36) 27 rfl (ob+1) 49 i0 gz0 8 96 Tryz.underlying27 hi hz0 hz1 hz2 rfl (by decide) (.slice av k cv) xs.length (flG xs) (by simp[Act.eval]) (C61.out.row.own.alloc _) ⟨w61.heap.size,0,none⟩ 1 1 (coL (a0g tx) (.slice a60 (a0g tx).parts.length c60)++coL (a0g ty) (.slice a61 (a0g ty).parts.length c61)) (by simp[Act.eval]) rfl (a3i _ _ _) (by intro u hu;simp at hu;rcases hu with rfl | rfl | rfl | rfl | rfl | rfl | rfl | rfl<;>rfl) (by decide) (by have h1:=HXl.out;have h2:=hNk.out;unfold maxLen;omega) (by have h1:=HXl.out;have h2:=hNk.out;omega) (by have:=Z61.out;have:=hwr.out;simp;omega) _ rfl ?_
       intro g1 cap1 w62 o1 k1 a1' l1
       have A1:=a0a (a9R.grow (x:=a0g tx) (y:=a0g ty) (C61.out.next BA.out) (by simp) ((S60b.out.weak (fun b _ hb=>⟨by have:=hwr.out;have hb':wr.heap.size<=b:=hb;omega,fun e=>by have h:=(HRw.out.row.own.lt b e).2;have hb':wr.heap.size<=b:=hb;omega⟩)).next BA.out) ((S61.out.weak (fun b _ hb=>⟨by have:=hwr.out;have:=Z60b.out;have hb':w60.heap.size<=b:=hb;omega,fun e=>by have h:=(HRw.out.row.own.lt b e).2;have:=Z60b.out;have hb':w60.heap.size<=b:=hb;omega⟩)).next BA.out) o1 k1 a1')
       have h62:Hid (Below ob wr w62):=a0a (h61a.out.trans ⟨k1.os,k1.tape,k1.output,k1.size,fun q hq=>k1.block q (by have:=Z61.out;have:=hwr.out;simp;omega) (fun e=>by have:=(C61.out.row.own.lt q e.symm).1;omega)⟩)
       have h63:Hid (Below ob wr (w62.setCell ⟨ob,9,none⟩ (.slice (some ⟨g1,0,none⟩) (xs.length+1) cap1))):=a0a (h62.out.setCell (p:=⟨ob,9,none⟩) (Nat.le_refl _) _)
       have hS62:=HSk.out _ h62.out
       have hS63:=HSk.out _ h63.out
       have d62:=A1.out.1.free 9 (by simp)
       have e62:=A1.out.1.cell 9 _ rfl
       have m62:=A1.out.1.lt
       refine hK.out _ _ hS62 (fun _=>?_)
       clear o1 k1 a1' hK
       refine wpAnyH_take (i:=19) (v:=.pointer (some ⟨ob,9,none⟩)) rfl (by kernel_rfl) (by kernel_rfl) (by kernel_rfl) (fun _ _ _ h=>h) (Or.inl ⟨rfl,fun w' hS'=>?_⟩) hS62 ?_
       ·clear hS'
        go_simp
       refine wpAnyH_ready (rs:=[20]) (by kernel_rfl) (by simp) (AllReadyH.cons (i:=20) (o:={dst:=none,op:=.store 27 (.tmp 38) (.tmp 37),type:=0,pos := "ref.go:147",after:=#[{on:=19,ground:=.data},{on:=18,ground:=.data},{on:=18,ground:=.chain},{on:=0,ground:=.phase},{on:=1,ground:=.phase},{on:=2,ground:=.phase},{on:=3,ground:=.phase},{on:=4,ground:=.phase},{on:=5,ground:=.phase},{on:=6,ground:=.phase},{on:=7,ground:=.phase},{on:=8,ground:=.phase},{on:=9,ground:=.phase},{on:=10,ground:=.phase},{on:=11,ground:=.phase},{on:=12,ground:=.phase},{on:=13,ground:=.phase},{on:=14,ground:=.phase},{on:=15,ground:=.phase},{on:=16,ground:=.phase},{on:=17,ground:=.phase},{on:=18,ground:=.phase}],guard:=none}) rfl (fun K hK=>?_) AllReadyH.nil)
       rw[if_pos (show Region.wanted _ _=true from rfl)]
       go_simp
       refine hK.out _ _ hS63 (fun _=>?_)
       clear hK
       refine wpAnyH_done (by kernel_rfl) ?_ _
       go_wp2_with fail
       refine⟨⟨k+1,xs++[((a0g tx,.slice a60 (a0g tx).parts.length c60),(a0g ty,.slice a61 (a0g ty).parts.length c61))],some ⟨g1,0,none⟩,cap1,by simp,by omega,a0a (by rw[List.length_append,HXl.out];rfl),a0a (by rw[HTk.out,List.map_append,List.map_append,HXs.out];rfl),?_,?_⟩,by simp;omega⟩
       ·rw[show k+1=xs.length+1 from by rw[HXl.out]]
        exact a0a A1.out.2
       ·exact a0a (HBr.out.trans h63.out)
      ·refine a2b rfl (a2A ty) hok2.out.so hok2.out.no (.slice a8 ty.parts.length c8) (HSy.out _ B60.out) (by first | rfl | go_simp) ?_
       intro a61 c61 w61 s61 b61
       have B61:Hid (Below wr.heap.size wr w61):=a0a (a0b B60.out (b:=w61) ⟨b61.os,b61.tape,b61.output,b61.size,b61.block⟩ B60.out.size)
       have C61:=a0a (HRw.out.next B61.out)
       have S61:Hid (CSP (fun b=>w60.heap.size<=b) w61 (a0g ty) (.slice a61 (a0g ty).parts.length c61)):=a0a s61
       have S60b:Hid (CSP (fun b=>wr.heap.size<=b) w61 (a0g tx) (.slice a60 (a0g tx).parts.length c60)):=a0a (CSP.next S60.out ⟨b61.os,b61.tape,b61.output,b61.size,b61.block⟩)
       have Z61:Hid (wr.heap.size<=w61.heap.size):=a0a B61.out.size
       have Z60b:Hid (wr.heap.size<=w60.heap.size):=a0a B60.out.size
       have h61:Hid (Below ob wr w61):=a0a (B61.out.mono hole.out)
       have hS61:=HSk.out _ h61.out
       have BA:=a0a ((Below.refl w61.heap.size w61).alloc (Nat.le_refl _) (.cells #[.int .i64 (a0g tx).op,.int .i64 (a0g tx).n,.int .i64 (a0g tx).m,.slice a60 (a0g tx).parts.length c60,.int .i64 (a0g ty).op,.int .i64 (a0g ty).n,.int .i64 (a0g ty).m,.slice a61 (a0g ty).parts.length c61] 49))
       have h61a:Hid (Below ob wr (w61.alloc (.cells #[.int .i64 (a0g tx).op,.int .i64 (a0g tx).n,.int .i64 (a0g tx).m,.slice a60 (a0g tx).parts.length c60,.int .i64 (a0g ty).op,.int .i64 (a0g ty).n,.int .i64 (a0g ty).m,.slice a61 (a0g ty).parts.length c61] 49))):=a0a (h61.out.alloc (by have:=Z61.out;have:=hole.out;omega) _)
       have hS61a:=HSk.out _ h61a.out
       refine hK.out _ _ hS61 (fun _=>?_)
       clear b61 s61 hK
       refine wpAnyH_take (i:=16) (v:=.agg #[.int .i64 (a0g tx).op,.int .i64 (a0g tx).n,.int .i64 (a0g tx).m,.slice a60 (a0g tx).parts.length c60,.int .i64 (a0g ty).op,.int .i64 (a0g ty).n,.int .i64 (a0g ty).m,.slice a61 (a0g ty).parts.length c61]) rfl (by kernel_rfl) (by kernel_rfl) (by kernel_rfl) (fun _ _ _ h=>h) (Or.inl ⟨rfl,fun w' hS'=>?_⟩) hS61 ?_
       ·clear hS'
        go_simp
       refine wpAnyH_ready (rs:=[1,17]) (by kernel_rfl) (by simp) (AllReadyH.cons (i:=1) (o:={dst:=some 20,op:=.load 27 (.tmp 19),type:=27,pos := "ref.go:147",after:=#[{on:=0,ground:=.data}],guard:=none}) rfl (fun K hK=>?_) (AllReadyH.cons (i:=17) (o:={dst:=some 36,op:=.buildSlice 27 1 #[(0,.tmp 35)],type:=27,pos := "ref.go:147",after:=#[{on:=16,ground:=.data}],guard:=none}) rfl (fun K hK=>?_) AllReadyH.nil))
       ·rw[if_pos (show Region.wanted _ _=true from rfl)]
        have h1c:=C61.out.box.cell 9 _ rfl
        have h1l:=C61.out.box.lt
        go_simp
        refine hK.out _ _ hS61 (fun _=>?_)
        clear hK h1c h1l
        refine wpAnyH_ready (rs:=[17]) (by kernel_rfl) (by simp) (AllReadyH.cons (i:=17) (o:={dst:=some 36,op:=.buildSlice 27 1 #[(0,.tmp 35)],type:=27,pos := "ref.go:147",after:=#[{on:=16,ground:=.data}],guard:=none}) rfl (fun K hK=>?_) AllReadyH.nil)
        rw[if_pos (show Region.wanted _ _=true from rfl)]
        go_simp
        refine hK.out _ _ hS61a (fun _=>?_)
        clear hK
        refine wpAnyH_ready (rs:=[18]) (by kernel_rfl) (by simp) (AllReadyH.cons (i:=18) (o:={dst:=some 37,op:=.call {callee:=.builtin .append,args:=#[.tmp 20,.tmp 36],argTypes:=#[27,27]},type:=27,pos := "ref.go:147",after:=#[{on:=1,ground:=.data},{on:=17,ground:=.data},{on:=15,ground:=.chain}],guard:=none}) rfl (fun K hK=>?_) AllReadyH.nil)
        refine step_append_lies _ rfl (.tmp 20) (.tmp 36) 27 rfl (ob+1) 49 i0 gz0 8 96 Tryz.underlying27 hi hz0 hz1 hz2 rfl (by decide) (.slice av k cv) xs.length (flG xs) (by simp[Act.eval]) (C61.out.row.own.alloc _) ⟨w61.heap.size,0,none⟩ 1 1 (coL (a0g tx) (.slice a60 (a0g tx).parts.length c60)++coL (a0g ty) (.slice a61 (a0g ty).parts.length c61)) (by simp[Act.eval]) rfl (a3i _ _ _) (by intro u hu;simp at hu;rcases hu with rfl | rfl | rfl | rfl | rfl | rfl | rfl | rfl<;>rfl) (by decide) (by have h1:=HXl.out;have h2:=hNk.out;unfold maxLen;omega) (by have h1:=HXl.out;have h2:=hNk.out;omega) (by have:=Z61.out;have:=hwr.out;simp;omega) _ rfl ?_
        intro g1 cap1 w62 o1 k1 a1' l1
        have A1:=a0a (a9R.grow (x:=a0g tx) (y:=a0g ty) (C61.out.next BA.out) (by simp) ((S60b.out.weak (fun b _ hb=>⟨by have:=hwr.out;have hb':wr.heap.size<=b:=hb;omega,fun e=>by have h:=(HRw.out.row.own.lt b e).2;have hb':wr.heap.size<=b:=hb;omega⟩)).next BA.out) ((S61.out.weak (fun b _ hb=>⟨by have:=hwr.out;have:=Z60b.out;have hb':w60.heap.size<=b:=hb;omega,fun e=>by have h:=(HRw.out.row.own.lt b e).2;have:=Z60b.out;have hb':w60.heap.size<=b:=hb;omega⟩)).next BA.out) o1 k1 a1')
        have h62:Hid (Below ob wr w62):=a0a (h61a.out.trans ⟨k1.os,k1.tape,k1.output,k1.size,fun q hq=>k1.block q (by have:=Z61.out;have:=hwr.out;simp;omega) (fun e=>by have:=(C61.out.row.own.lt q e.symm).1;omega)⟩)
        have h63:Hid (Below ob wr (w62.setCell ⟨ob,9,none⟩ (.slice (some ⟨g1,0,none⟩) (xs.length+1) cap1))):=a0a (h62.out.setCell (p:=⟨ob,9,none⟩) (Nat.le_refl _) _)
        have hS62:=HSk.out _ h62.out
        have hS63:=HSk.out _ h63.out
        have d62:=A1.out.1.free 9 (by simp)
        have e62:=A1.out.1.cell 9 _ rfl
        have m62:=A1.out.1.lt
        refine hK.out _ _ hS62 (fun _=>?_)
        clear o1 k1 a1' hK
        refine wpAnyH_take (i:=19) (v:=.pointer (some ⟨ob,9,none⟩)) rfl (by kernel_rfl) (by kernel_rfl) (by kernel_rfl) (fun _ _ _ h=>h) (Or.inl ⟨rfl,fun w' hS'=>?_⟩) hS62 ?_
        ·clear hS'
         go_simp
        refine wpAnyH_ready (rs:=[20]) (by kernel_rfl) (by simp) (AllReadyH.cons (i:=20) (o:={dst:=none,op:=.store 27 (.tmp 38) (.tmp 37),type:=0,pos := "ref.go:147",after:=#[{on:=19,ground:=.data},{on:=18,ground:=.data},{on:=18,ground:=.chain},{on:=0,ground:=.phase},{on:=1,ground:=.phase},{on:=2,ground:=.phase},{on:=3,ground:=.phase},{on:=4,ground:=.phase},{on:=5,ground:=.phase},{on:=6,ground:=.phase},{on:=7,ground:=.phase},{on:=8,ground:=.phase},{on:=9,ground:=.phase},{on:=10,ground:=.phase},{on:=11,ground:=.phase},{on:=12,ground:=.phase},{on:=13,ground:=.phase},{on:=14,ground:=.phase},{on:=15,ground:=.phase},{on:=16,ground:=.phase},{on:=17,ground:=.phase},{on:=18,ground:=.phase}],guard:=none}) rfl (fun K hK=>?_) AllReadyH.nil)
        rw[if_pos (show Region.wanted _ _=true from rfl)]
        go_simp
        refine hK.out _ _ hS63 (fun _=>?_)
        clear hK
        refine wpAnyH_done (by kernel_rfl) ?_ _
        go_wp2_with fail
        refine⟨⟨k+1,xs++[((a0g tx,.slice a60 (a0g tx).parts.length c60),(a0g ty,.slice a61 (a0g ty).parts.length c61))],some ⟨g1,0,none⟩,cap1,by simp,by omega,a0a (by rw[List.length_append,HXl.out];rfl),a0a (by rw[HTk.out,List.map_append,List.map_append,HXs.out];rfl),?_,?_⟩,by simp;omega⟩
        ·rw[show k+1=xs.length+1 from by rw[HXl.out]]
         exact a0a A1.out.2
        ·exact a0a (HBr.out.trans h63.out)
       ·rw[if_pos (show Region.wanted _ _=true from rfl)]
        go_simp
        refine hK.out _ _ hS61a (fun _=>?_)
        clear hK
        refine wpAnyH_ready (rs:=[1]) (by kernel_rfl) (by simp) (AllReadyH.cons (i:=1) (o:={dst:=some 20,op:=.load 27 (.tmp 19),type:=27,pos := "ref.go:147",after:=#[{on:=0,ground:=.data}],guard:=none}) rfl (fun K hK=>?_) AllReadyH.nil)
        rw[if_pos (show Region.wanted _ _=true from rfl)]
        have h1c:=(C61.out.next BA.out).box.cell 9 _ rfl
        have h1l:=(C61.out.next BA.out).box.lt
        go_simp
        refine hK.out _ _ hS61a (fun _=>?_)
        clear hK h1c h1l
        refine wpAnyH_ready (rs:=[18]) (by kernel_rfl) (by simp) (AllReadyH.cons (i:=18) (o:={dst:=some 37,op:=.call {callee:=.builtin .append,args:=#[.tmp 20,.tmp 36],argTypes:=#[27,27]},type:=27,pos := "ref.go:147",after:=#[{on:=1,ground:=.data},{on:=17,ground:=.data},{on:=15,ground:=.chain}],guard:=none}) rfl (fun K hK=>?_) AllReadyH.nil)
        refine step_append_lies _ rfl (.tmp 20) (.tmp 36) 27 rfl (ob+1) 49 i0 gz0 8 96 Tryz.underlying27 hi hz0 hz1 hz2 rfl (by decide) (.slice av k cv) xs.length (flG xs) (by simp[Act.eval]) (C61.out.row.own.alloc _) ⟨w61.heap.size,0,none⟩ 1 1 (coL (a0g tx) (.slice a60 (a0g tx).parts.length c60)++coL (a0g ty) (.slice a61 (a0g ty).parts.length c61)) (by simp[Act.eval]) rfl (a3i _ _ _) (by intro u hu;simp at hu;rcases hu with rfl | rfl | rfl | rfl | rfl | rfl | rfl | rfl<;>rfl) (by decide) (by have h1:=HXl.out;have h2:=hNk.out;unfold maxLen;omega) (by have h1:=HXl.out;have h2:=hNk.out;omega) (by have:=Z61.out;have:=hwr.out;simp;omega) _ rfl ?_
        intro g1 cap1 w62 o1 k1 a1' l1
        have A1:=a0a (a9R.grow (x:=a0g tx) (y:=a0g ty) (C61.out.next BA.out) (by simp) ((S60b.out.weak (fun b _ hb=>⟨by have:=hwr.out;have hb':wr.heap.size<=b:=hb;omega,fun e=>by have h:=(HRw.out.row.own.lt b e).2;have hb':wr.heap.size<=b:=hb;omega⟩)).next BA.out) ((S61.out.weak (fun b _ hb=>⟨by have:=hwr.out;have:=Z60b.out;have hb':w60.heap.size<=b:=hb;omega,fun e=>by have h:=(HRw.out.row.own.lt b e).2;have:=Z60b.out;have hb':w60.heap.size<=b:=hb;omega⟩)).next BA.out) o1 k1 a1')
        have h62:Hid (Below ob wr w62):=a0a (h61a.out.trans ⟨k1.os,k1.tape,k1.output,k1.size,fun q hq=>k1.block q (by have:=Z61.out;have:=hwr.out;simp;omega) (fun e=>by have:=(C61.out.row.own.lt q e.symm).1;omega)⟩)
        have h63:Hid (Below ob wr (w62.setCell ⟨ob,9,none⟩ (.slice (some ⟨g1,0,none⟩) (xs.length+1) cap1))):=a0a (h62.out.setCell (p:=⟨ob,9,none⟩) (Nat.le_refl _) _)
        have hS62:=HSk.out _ h62.out
        have hS63:=HSk.out _ h63.out
        have d62:=A1.out.1.free 9 (by simp)
        have e62:=A1.out.1.cell 9 _ rfl
        have m62:=A1.out.1.lt
        refine hK.out _ _ hS62 (fun _=>?_)
        clear o1 k1 a1' hK
        refine wpAnyH_take (i:=19) (v:=.pointer (some ⟨ob,9,none⟩)) rfl (by kernel_rfl) (by kernel_rfl) (by kernel_rfl) (fun _ _ _ h=>h) (Or.inl ⟨rfl,fun w' hS'=>?_⟩) hS62 ?_
        ·clear hS'
         go_simp
        refine wpAnyH_ready (rs:=[20]) (by kernel_rfl) (by simp) (AllReadyH.cons (i:=20) (o:={dst:=none,op:=.store 27 (.tmp 38) (.tmp 37),type:=0,pos := "ref.go:147",after:=#[{on:=19,ground:=.data},{on:=18,ground:=.data},{on:=18,ground:=.chain},{on:=0,ground:=.phase},{on:=1,ground:=.phase},{on:=2,ground:=.phase},{on:=3,ground:=.phase},{on:=4,ground:=.phase},{on:=5,ground:=.phase},{on:=6,ground:=.phase},{on:=7,ground:=.phase},{on:=8,ground:=.phase},{on:=9,ground:=.phase},{on:=10,ground:=.phase},{on:=11,ground:=.phase},{on:=12,ground:=.phase},{on:=13,ground:=.phase},{on:=14,ground:=.phase},{on:=15,ground:=.phase},{on:=16,ground:=.phase},{on:=17,ground:=.phase},{on:=18,ground:=.phase}],guard:=none}) rfl (fun K hK=>?_) AllReadyH.nil)
        rw[if_pos (show Region.wanted _ _=true from rfl)]
        go_simp
        refine hK.out _ _ hS63 (fun _=>?_)
        clear hK
        refine wpAnyH_done (by kernel_rfl) ?_ _
        go_wp2_with fail
        refine⟨⟨k+1,xs++[((a0g tx,.slice a60 (a0g tx).parts.length c60),(a0g ty,.slice a61 (a0g ty).parts.length c61))],some ⟨g1,0,none⟩,cap1,by simp,by omega,a0a (by rw[List.length_append,HXl.out];rfl),a0a (by rw[HTk.out,List.map_append,List.map_append,HXs.out];rfl),?_,?_⟩,by simp;omega⟩
        ·rw[show k+1=xs.length+1 from by rw[HXl.out]]
         exact a0a A1.out.2
        ·exact a0a (HBr.out.trans h63.out)
    ·have hlt':¬(k:Int)<(N:Int):=by omega
     obtain rfl:k=N:=by omega
     have HYs:=a0a (HY1.out.later HBr.out (by have:=hob.out;omega))
     have HSF:=a0a (HPs.out.fi.next HBw.out)
     obtain⟨Dn,hDn⟩:∃ X,Hid (X=a0g p.fin):=⟨_,rfl⟩
     have hokf:=a0a HOk.out.2
     have x10:=HYr.out.cell 10 _ rfl
     have x11:=HYr.out.cell 11 _ rfl
     have x12:=HYr.out.cell 12 _ rfl
     have x13:=HYr.out.cell 13 _ rfl
     go_wp2_with fail
     refine Calls.mono (a2A p.fin _ wr HSF.out hokf.out.so hokf.out.no) ?_
     rintro e w60 ⟨u60,rfl,s60,b60⟩
     rw[<-hDn.out] at s60 ⊢
     obtain⟨a60,c60,rfl,-,-⟩:=s60.parts.shape
     have Y60:=HRw.out.box.next b60
     have Z60:=HYs.out.next b60
     have hl60:=b60.size
     have B60:=a0a b60
     have S60:=a0a s60
     clear x9 x10 x11 x12 x13 xl b60 s60
     obtain⟨x0,x1,x2,x3,x4,x5,x6,x7,x8,x9,x10,x11,x12,x13⟩:=Box.c14 Y60
     have f10:=Y60.free 10 (by simp)
     have f11:=Y60.free 11 (by simp)
     have f12:=Y60.free 12 (by simp)
     have f13:=Y60.free 13 (by simp)
     have y0:=Z60.cell 0 _ rfl
     have g0:=Z60.free 0 (by simp)
     have y1:=Z60.cell 1 _ rfl
     have g1:=Z60.free 1 (by simp)
     have y2:=Z60.cell 2 _ rfl
     have g2:=Z60.free 2 (by simp)
     have y3:=Z60.cell 3 _ rfl
     have g3:=Z60.free 3 (by simp)
     have y4:=Z60.cell 4 _ rfl
     have g4:=Z60.free 4 (by simp)
     have y5:=Z60.cell 5 _ rfl
     have g5:=Z60.free 5 (by simp)
     have y6:=Z60.cell 6 _ rfl
     have g6:=Z60.free 6 (by simp)
     have y7:=Z60.cell 7 _ rfl
     have g7:=Z60.free 7 (by simp)
     have y8:=Z60.cell 8 _ rfl
     have g8:=Z60.free 8 (by simp)
     have y9:=Z60.cell 9 _ rfl
     have g9:=Z60.free 9 (by simp)
     have y10:=Z60.cell 10 _ rfl
     have g10:=Z60.free 10 (by simp)
     have y11:=Z60.cell 11 _ rfl
     have g11:=Z60.free 11 (by simp)
     have y12:=Z60.cell 12 _ rfl
     have g12:=Z60.free 12 (by simp)
     have y13:=Z60.cell 13 _ rfl
     have g13:=Z60.free 13 (by simp)
     have xl:=Y60.lt
     have yl:=Z60.lt
     have hwl:=Z60.lt
     have hobr:ob<wr.heap.size:=HRw.out.box.lt
     have hwr1:=HYs.out.lt
     have key:Hid (∀ W,a0p [ob,w.heap.size+1] w60 W->∃ u,Ending.returned (.tuple #[.agg #[.slice a1 p.mets.length c1,.int .i64 p.ru.mn,.int .i64 p.ru.mx,.int .i64 p.ru.st,.int .i64 p.ru.up,.int .i64 p.ru.dn,.slice a2 p.wins.length c2,.slice a3 p.crons.length c3,.int .i64 p.loc,.slice av k cv,.int .i64 Dn.op,.int .i64 Dn.n,.int .i64 Dn.m,.slice a60 Dn.parts.length c60],.int .i64 0])=.returned (.tuple #[plV (a6x p) u,.int .i64 0])/\a3c W (a6x p) u/\Below w.heap.size w W):=by
      intro W TE
      have hob':=hob.out
      have hbw:=a0b HBw.out B60.out HBw.out.size
      have BW:Below w.heap.size w W:=⟨TE.os.trans hbw.os,TE.tape.trans hbw.tape,TE.output.trans hbw.output,Nat.le_trans hbw.size TE.size,fun b hb=>(TE.block b (by omega) (by simp;omega)).trans (hbw.block b hb)⟩
      have hgs:=((HRw.out.row.next B60.out).turn TE (fun b hb=>by simp;omega)).done
      rw[HXs.out,show p.gs.take k=p.gs by rw[hN.out];exact List.take_length] at hgs
      have hfi:a0m W (a0g p.fin) (.slice a60 Dn.parts.length c60):=by
       rw[<-hDn.out]
       exact(a2L S60.out TE (fun b _ hb=>by have hb':wr.heap.size<=b:=hb;simp;omega)).sits
      exact⟨⟨.slice a1 p.mets.length c1,.slice a2 p.wins.length c2,.slice a3 p.crons.length c3,.slice av k cv,.slice a60 Dn.parts.length c60⟩,by rw[hDn.out];rfl,⟨HPs.out.ru,HPs.out.loc,HPs.out.wok,HPs.out.cok,a0Y.next HPs.out.me BW,a0Y.next HPs.out.wi BW,a0Y.next HPs.out.cr BW,hgs,hfi⟩,BW⟩
     have hne:w.heap.size+1∉[ob]:=by have:=hob.out;simp;omega
     have Z4:=a1T (w':=((((w60.setCell ⟨ob,10,none⟩ (.int .i64 Dn.op)).setCell ⟨ob,11,none⟩ (.int .i64 Dn.n)).setCell ⟨ob,12,none⟩ (.int .i64 Dn.m)).setCell ⟨ob,13,none⟩ (.slice a60 Dn.parts.length c60))) Z60 (a0c (a0c (a0c (a0w w60 ob _ _) (a0w _ _ _ _)) (a0w _ _ _ _)) (a0w _ _ _ _)) hne
     have HBE:Hid (Box ((((((((((((((((((w60.setCell ⟨ob,10,none⟩ (.int .i64 Dn.op)).setCell ⟨ob,11,none⟩ (.int .i64 Dn.n)).setCell ⟨ob,12,none⟩ (.int .i64 Dn.m)).setCell ⟨ob,13,none⟩ (.slice a60 Dn.parts.length c60)).setCell ⟨w.heap.size+1,0,none⟩ (.slice a1 p.mets.length c1)).setCell ⟨w.heap.size+1,1,none⟩ (.int .i64 p.ru.mn)).setCell ⟨w.heap.size+1,2,none⟩ (.int .i64 p.ru.mx)).setCell ⟨w.heap.size+1,3,none⟩ (.int .i64 p.ru.st)).setCell ⟨w.heap.size+1,4,none⟩ (.int .i64 p.ru.up)).setCell ⟨w.heap.size+1,5,none⟩ (.int .i64 p.ru.dn)).setCell ⟨w.heap.size+1,6,none⟩ (.slice a2 p.wins.length c2)).setCell ⟨w.heap.size+1,7,none⟩ (.slice a3 p.crons.length c3)).setCell ⟨w.heap.size+1,8,none⟩ (.int .i64 p.loc)).setCell ⟨w.heap.size+1,9,none⟩ (.slice av k cv)).setCell ⟨w.heap.size+1,10,none⟩ (.int .i64 Dn.op)).setCell ⟨w.heap.size+1,11,none⟩ (.int .i64 Dn.n)).setCell ⟨w.heap.size+1,12,none⟩ (.int .i64 Dn.m)).setCell ⟨w.heap.size+1,13,none⟩ (.slice a60 Dn.parts.length c60)) (w.heap.size+1) [.slice a1 p.mets.length c1,.int .i64 p.ru.mn,.int .i64 p.ru.mx,.int .i64 p.ru.st,.int .i64 p.ru.up,.int .i64 p.ru.dn,.slice a2 p.wins.length c2,.slice a3 p.crons.length c3,.int .i64 p.loc,.slice av k cv,.int .i64 Dn.op,.int .i64 Dn.n,.int .i64 Dn.m,.slice a60 Dn.parts.length c60]):=a0a ((((((((((((((Z4.set 0 (by simp) _).set 1 (by simp) _).set 2 (by simp) _).set 3 (by simp) _).set 4 (by simp) _).set 5 (by simp) _).set 6 (by simp) _).set 7 (by simp) _).set 8 (by simp) _).set 9 (by simp) _).set 10 (by simp) _).set 11 (by simp) _).set 12 (by simp) _).set 13 (by simp) _)
     have HKE:Hid (∃ u,Ending.returned (.tuple #[.agg #[.slice a1 p.mets.length c1,.int .i64 p.ru.mn,.int .i64 p.ru.mx,.int .i64 p.ru.st,.int .i64 p.ru.up,.int .i64 p.ru.dn,.slice a2 p.wins.length c2,.slice a3 p.crons.length c3,.int .i64 p.loc,.slice av k cv,.int .i64 Dn.op,.int .i64 Dn.n,.int .i64 Dn.m,.slice a60 Dn.parts.length c60],.int .i64 0])=.returned (.tuple #[plV (a6x p) u,.int .i64 0])/\a3c ((((((((((((((((((w60.setCell ⟨ob,10,none⟩ (.int .i64 Dn.op)).setCell ⟨ob,11,none⟩ (.int .i64 Dn.n)).setCell ⟨ob,12,none⟩ (.int .i64 Dn.m)).setCell ⟨ob,13,none⟩ (.slice a60 Dn.parts.length c60)).setCell ⟨w.heap.size+1,0,none⟩ (.slice a1 p.mets.length c1)).setCell ⟨w.heap.size+1,1,none⟩ (.int .i64 p.ru.mn)).setCell ⟨w.heap.size+1,2,none⟩ (.int .i64 p.ru.mx)).setCell ⟨w.heap.size+1,3,none⟩ (.int .i64 p.ru.st)).setCell ⟨w.heap.size+1,4,none⟩ (.int .i64 p.ru.up)).setCell ⟨w.heap.size+1,5,none⟩ (.int .i64 p.ru.dn)).setCell ⟨w.heap.size+1,6,none⟩ (.slice a2 p.wins.length c2)).setCell ⟨w.heap.size+1,7,none⟩ (.slice a3 p.crons.length c3)).setCell ⟨w.heap.size+1,8,none⟩ (.int .i64 p.loc)).setCell ⟨w.heap.size+1,9,none⟩ (.slice av k cv)).setCell ⟨w.heap.size+1,10,none⟩ (.int .i64 Dn.op)).setCell ⟨w.heap.size+1,11,none⟩ (.int .i64 Dn.n)).setCell ⟨w.heap.size+1,12,none⟩ (.int .i64 Dn.m)).setCell ⟨w.heap.size+1,13,none⟩ (.slice a60 Dn.parts.length c60)) (a6x p) u/\Below w.heap.size w ((((((((((((((((((w60.setCell ⟨ob,10,none⟩ (.int .i64 Dn.op)).setCell ⟨ob,11,none⟩ (.int .i64 Dn.n)).setCell ⟨ob,12,none⟩ (.int .i64 Dn.m)).setCell ⟨ob,13,none⟩ (.slice a60 Dn.parts.length c60)).setCell ⟨w.heap.size+1,0,none⟩ (.slice a1 p.mets.length c1)).setCell ⟨w.heap.size+1,1,none⟩ (.int .i64 p.ru.mn)).setCell ⟨w.heap.size+1,2,none⟩ (.int .i64 p.ru.mx)).setCell ⟨w.heap.size+1,3,none⟩ (.int .i64 p.ru.st)).setCell ⟨w.heap.size+1,4,none⟩ (.int .i64 p.ru.up)).setCell ⟨w.heap.size+1,5,none⟩ (.int .i64 p.ru.dn)).setCell ⟨w.heap.size+1,6,none⟩ (.slice a2 p.wins.length c2)).setCell ⟨w.heap.size+1,7,none⟩ (.slice a3 p.crons.length c3)).setCell ⟨w.heap.size+1,8,none⟩ (.int .i64 p.loc)).setCell ⟨w.heap.size+1,9,none⟩ (.slice av k cv)).setCell ⟨w.heap.size+1,10,none⟩ (.int .i64 Dn.op)).setCell ⟨w.heap.size+1,11,none⟩ (.int .i64 Dn.n)).setCell ⟨w.heap.size+1,12,none⟩ (.int .i64 Dn.m)).setCell ⟨w.heap.size+1,13,none⟩ (.slice a60 Dn.parts.length c60))):=a0a (key.out _ (a0c (a0c (a0c (a0c (a0c (a0c (a0c (a0c (a0c (a0c (a0c (a0c (a0c (a0c (a0c (a0c (a0c (a0p.set w60 _ _ (by simp)) (a0p.set _ _ _ (by simp))) (a0p.set _ _ _ (by simp))) (a0p.set _ _ _ (by simp))) (a0p.set _ _ _ (by simp))) (a0p.set _ _ _ (by simp))) (a0p.set _ _ _ (by simp))) (a0p.set _ _ _ (by simp))) (a0p.set _ _ _ (by simp))) (a0p.set _ _ _ (by simp))) (a0p.set _ _ _ (by simp))) (a0p.set _ _ _ (by simp))) (a0p.set _ _ _ (by simp))) (a0p.set _ _ _ (by simp))) (a0p.set _ _ _ (by simp))) (a0p.set _ _ _ (by simp))) (a0p.set _ _ _ (by simp))) (a0p.set _ _ _ (by simp))))
     clear Y60 Z60 Z4 key HPs HOk HRw HXs HXl HBr HBw HYr HYs HSF hokf S60 B60 HY0 HY1 HGl hs2 B2 hne HR0
     have hon1:¬ ob=w.heap.size+1:=by have:=hob.out;omega
     have hon2:¬ w.heap.size+1=ob:=by have:=hob.out;omega
     have hon3:ob≠w.heap.size+1:=hon1
     go_wp2_with fail
     have E:=HBE.out
     generalize ((((((((((((((((((w60.setCell ⟨ob,10,none⟩ (.int .i64 Dn.op)).setCell ⟨ob,11,none⟩ (.int .i64 Dn.n)).setCell ⟨ob,12,none⟩ (.int .i64 Dn.m)).setCell ⟨ob,13,none⟩ (.slice a60 Dn.parts.length c60)).setCell ⟨w.heap.size+1,0,none⟩ (.slice a1 p.mets.length c1)).setCell ⟨w.heap.size+1,1,none⟩ (.int .i64 p.ru.mn)).setCell ⟨w.heap.size+1,2,none⟩ (.int .i64 p.ru.mx)).setCell ⟨w.heap.size+1,3,none⟩ (.int .i64 p.ru.st)).setCell ⟨w.heap.size+1,4,none⟩ (.int .i64 p.ru.up)).setCell ⟨w.heap.size+1,5,none⟩ (.int .i64 p.ru.dn)).setCell ⟨w.heap.size+1,6,none⟩ (.slice a2 p.wins.length c2)).setCell ⟨w.heap.size+1,7,none⟩ (.slice a3 p.crons.length c3)).setCell ⟨w.heap.size+1,8,none⟩ (.int .i64 p.loc)).setCell ⟨w.heap.size+1,9,none⟩ (.slice av k cv)).setCell ⟨w.heap.size+1,10,none⟩ (.int .i64 Dn.op)).setCell ⟨w.heap.size+1,11,none⟩ (.int .i64 Dn.n)).setCell ⟨w.heap.size+1,12,none⟩ (.int .i64 Dn.m)).setCell ⟨w.heap.size+1,13,none⟩ (.slice a60 Dn.parts.length c60))=we at *
     clear x0 x1 x2 x3 x4 x5 x6 x7 x8 x9 x10 x11 x12 x13 f10 f11 f12 f13 y0 g0 y1 g1 y2 g2 y3 g3 y4 g4 y5 g5 y6 g6 y7 g7 y8 g8 y9 g9 y10 g10 y11 g11 y12 g12 y13 g13 xl yl hwl hwr1
     obtain⟨e0,e1,e2,e3,e4,e5,e6,e7,e8,e9,e10,e11,e12,e13⟩:=Box.c14 E
     have el:=E.lt
     clear E
     refine bodyPost_ret (v:=.tuple #[.agg #[.slice a1 p.mets.length c1,.int .i64 p.ru.mn,.int .i64 p.ru.mx,.int .i64 p.ru.st,.int .i64 p.ru.up,.int .i64 p.ru.dn,.slice a2 p.wins.length c2,.slice a3 p.crons.length c3,.int .i64 p.loc,.slice av k cv,.int .i64 Dn.op,.int .i64 Dn.n,.int .i64 Dn.m,.slice a60 Dn.parts.length c60],.int .i64 0]) (by simp[results,Tryz.results7,go_sem, *]) rfl ?_
     exact HKE.out
end Go.Proofs.YtkbmgloilckdhaaGreatDoor
