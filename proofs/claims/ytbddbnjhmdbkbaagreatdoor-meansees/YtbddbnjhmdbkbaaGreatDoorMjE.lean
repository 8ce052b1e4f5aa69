import Derived.Test.YtbddbnjhmdbkbaaGreatDoorMhA
namespace Go.Proofs.YtbddbnjhmdbkbaaGreatDoor
open Go.RowKit
def a4y (w:World)(b q room:Nat)(L:List Pr)(x:Pr)(ok:Bool)(e:Ending)(w':World):Prop:=∃ q',e=.returned (.tuple #[pv x,.bool ok])/\Rq w' b q' room L/\a0h [b,q] w w'/\(q'=q\/w.heap.size<=q')
def a2r (W w:World)(b q r first:Nat)(cs L:List Pr)(v o:Pr):Prop:=∃ kk:Nat,w=(((((W.drewN kk).setCell ⟨q,(first+L.length)%cs.length*2,none⟩ (.int .i64 v.1)).setCell ⟨q,(first+L.length)%cs.length*2+1,none⟩ (.int .i64 v.2)).setCell ⟨b,2,none⟩ (.int .i64 ((L.length+1:Nat):Int))).setCell ⟨r,0,none⟩ (.int .i64 o.1)).setCell ⟨r,1,none⟩ (.int .i64 o.2)
theorem a2r.is {W w:World}{b q r room first:Nat}{cs L:List Pr}{v o:Pr}(e:a2r W w b q r first cs L v o)(h:a4l W b q room first (.slice (some ⟨q,0,none⟩) cs.length cs.length) cs L)(hl:L.length<cs.length)(h1:r≠b)(h2:r≠q):Rq w b q room (L++[v])/\a0h [b,q,r] W w:=by
 obtain⟨kk,rfl⟩:=e
 have h3:=a4l.put (w':=(((W.drewN kk).setCell ⟨q,(first+L.length)%cs.length*2,none⟩ (.int .i64 v.1)).setCell ⟨q,(first+L.length)%cs.length*2+1,none⟩ (.int .i64 v.2)).setCell ⟨b,2,none⟩ (.int .i64 ((L.length+1:Nat):Int))) (h.drewN kk) hl v rfl
 refine⟨⟨_,_,_,h3.turn (S:=[r]) ((a0h.set _ ⟨r,0,none⟩ (.int .i64 o.1) (by simp)).andSet ⟨r,1,none⟩ (.int .i64 o.2) (.inl (by simp))) (by simpa using Ne.symm h1) (by simpa using Ne.symm h2)⟩,?_⟩
 exact(((((a0I _ _ _).andSet _ _ (.inl (by simp))).andSet _ _ (.inl (by simp))).andSet _ _ (.inl (by simp))).andSet _ _ (.inl (by simp))).andSet _ _ (.inl (by simp))
set_option maxRecDepth 20000 in
set_option maxHeartbeats 4000000 in
theorem b1E (b q room first:Nat)(cs L:List Pr)(v:Pr)(w:World)(h:a4l w b q room first (.slice (some ⟨q,0,none⟩) cs.length cs.length) cs L)(hr:room<=4096)(hroom:L.length<room)(hl:L.length<cs.length):
 Calls Tryz.prog 184 #[.pointer (some ⟨b,0,none⟩),.agg #[.int .i64 v.1,.int .i64 v.2]] w (a4y w b q room (L++[v]) pz false):=by
 have hR:Rq w b q room L:=⟨_,_,_,h⟩
 have lb:=hR.lt
 have lq:=hR.qlt
 obtain⟨_,_,hbl1⟩:=a0n w 78 78 [.int .i64 v.1,.int .i64 v.2] [.int .i64 0,.int .i64 0]
 have hR1:=hR.next hbl1
 obtain⟨hV,hRr,hOo,hbl⟩:=a2f w 78 78 78 [.int .i64 v.1,.int .i64 v.2] [.int .i64 0,.int .i64 0] [.int .i64 0,.int .i64 0]
 obtain⟨W2,hW2⟩:∃ W2,W2=((w.alloc (.cells #[.int .i64 v.1,.int .i64 v.2] 78)).alloc (.cells #[.int .i64 0,.int .i64 0] 78)).alloc (.cells #[.int .i64 0,.int .i64 0] 78):=⟨_,rfl⟩
 have hs2:W2.heap.size=w.heap.size+1+1+1:=by rw[hW2];simp
 rw[<-hW2] at hV hRr hOo hbl
 have hR2:=hR.next hbl
 replace h:=h.next hbl
 have hn:0<cs.length:=by omega
 have hc4:cs.length<=4096:=by have:=h.roomy;omega
 have hf:first<cs.length:=by rcases h.inside with h | ⟨h,_⟩;(· exact h);(· rw[h] at hn;simp at hn)
 rcases h.slots with ⟨e,_,_⟩ | ⟨_,hqb,_,hq⟩
 ·cases e
 obtain⟨n,hnn⟩:∃ n,n=cs.length:=⟨_,rfl⟩
 obtain⟨k,hk⟩:∃ k,k=L.length:=⟨_,rfl⟩
 obtain⟨s,hs⟩:∃ s,s=(first+k)%cs.length:=⟨_,rfl⟩
 have hsn:s<cs.length:=by rw[hs];exact a2V _ hn
 have hkb:k<=4096:=by omega
 obtain⟨y,hy⟩:∃ y,cs[s]? = some y:=⟨_,List.getElem?_eq_getElem hsn⟩
 obtain⟨t0,t1,t2,t3⟩:=a1V (k:=s) hq hy
 obtain⟨c0,c1,c2,c3,f0,f1,f2,f3⟩:=h.box.four
 obtain⟨x0,x1,_,_⟩:=hV.two
 have hc:=fun (wx:World) (hbx:Box wx b [.int .i64 (room:Nat),.int .i64 (first:Nat),.int .i64 (L.length:Nat),.slice (some ⟨q,0,none⟩) cs.length cs.length])=>b1D b q room first cs.length k s _ wx hbx hn hc4 hf (by omega) hs
 have hb0:=h.box
 have hblt:=h.box.lt
 rw[<-hnn] at hsn c3 hb0 hc
 rw[<-hk] at hb0 hc c2
 have hsn':(s:Int)<(n:Int):=by omega
 have dd:=fun kk (u u':Value)=>((hb0.alike (w':=W2.drewN kk) (by rfl)).other (q:=q) (j:=s*2) (v:=u) (Ne.symm hqb)).other (q:=q) (j:=s*2+1) (v:=u') (Ne.symm hqb)
 have d2:=fun kk u u'=>(dd kk u u').cell 2 _ rfl
 have d3:=fun kk u u'=>(dd kk u u').free 2 (by simp)
 have bo:=fun kk (u u' u2:Value)=>((((hOo.alike (w':=W2.drewN kk) (by rfl)).other (q:=q) (j:=s*2) (v:=u) (by omega)).other (q:=q) (j:=s*2+1) (v:=u') (by omega)).other (q:=b) (j:=2) (v:=u2) (by omega)).two
 have br:=fun kk (u u' u2:Value)=>(((hRr.alike (w':=W2.drewN kk) (by rfl)).other (q:=q) (j:=s*2) (v:=u) (by omega)).other (q:=q) (j:=s*2+1) (v:=u') (by omega)).other (q:=b) (j:=2) (v:=u2) (by omega)
 have bo0:=fun kk u u' u2=>(bo kk u u' u2).1
 have bo1:=fun kk u u' u2=>(bo kk u u' u2).2.1
 have br0:=fun kk u u' u2=>(br kk u u' u2).two.1
 have br1:=fun kk u u' u2=>(br kk u u' u2).two.2.1
 have br2:=fun kk u u' u2=>(br kk u u' u2).two.2.2.1
 have br3:=fun kk u u' u2=>(br kk u u' u2).two.2.2.2
 have oo:=fun kk u u' u2=>(((br kk u u' u2).set 0 (by simp) (.int .i64 0)).set 1 (by simp) (.int .i64 0)).two
 have o0:=fun kk u u' u2=>(oo kk u u' u2).1
 have o1:=fun kk u u' u2=>(oo kk u u' u2).2.1
 have HC:=hid hc
 have HN:=hid hnn
 have HS:=hid hs
 have HB:=hid hb0
 have HH:=hid h
 have HK:=hid hk
 have HL:=hid hl
 clear hc hnn hs hb0 h hq hy hk hl dd bo br oo hV hRr hOo
 have HR1:=hid hR1
 have HBL:=hid hbl
 clear hR hR1 hR2 hbl hbl1
 have e1:¬(room:Int)=0:=by omega
 have e2:¬(k:Int)=(room:Int):=by have:=HK.out;omega
 have e3:¬(k:Int)=(n:Int):=by have:=HK.out;have:=HN.out;have:=HL.out;omega
 have e2':((k:Int)==(room:Int))=false:=by simpa using e2
 have e3':((k:Int)==(n:Int))=false:=by simpa using e3
 go_enter Tryz.func184,Tryz.ntmps184
 go_wp2_with fail
 refine(b6g b q room L _ HR1.out).mono ?_
 rintro e w1 ⟨rfl,rfl⟩
 go_wp2_with fail
 rw[<-hW2]
 clear hW2
 go_quiet (fail)
 go_wp2_with fail
 go_quiet (fail)
 go_wp2_with fail
 go_region_with (go_at_call 238;refine(HC.out _ (HB.out.alike (by rfl))).mono ?_;rintro e w9 ⟨rfl,kk,rfl⟩)
 all_goals go_wp2_with fail
 all_goals (
  refine bodyPost_ret (v:=.tuple #[pv pz,.bool false]) (by simp[results,Tryz.results184,go_sem,o0,o1,pv,pz]) rfl ?_
  have a1:=HK.out
  have a2:=HS.out
  subst a1
  subst a2
  exact⟨q,rfl,(a2r.is (W:=W2) (v:=v) (o:=pz) ⟨_,rfl⟩ HH.out HL.out (by omega) (by omega)).1,(a0h.of_below HBL.out).trans (a2r.is (W:=W2) (v:=v) (o:=pz) ⟨_,rfl⟩ HH.out HL.out (by omega) (by omega)).2 (fun i hi=>(by simp at hi ⊢;omega)),.inl rfl⟩)
set_option maxRecDepth 20000 in
set_option maxHeartbeats 4000000 in
theorem b1G (b q room:Nat)(L:List Pr)(v:Pr)(w:World)(first0:Nat)(sv0:Value)(cs0:List Pr)(h0:a4l w b q room first0 sv0 cs0 L)(hr:room<=4096)(hroom:L.length<room)(hl0:L.length=cs0.length):
 Calls Tryz.prog 184 #[.pointer (some ⟨b,0,none⟩),.agg #[.int .i64 v.1,.int .i64 v.2]] w (a4y w b q room (L++[v]) pz false):=by
 have hR:Rq w b q room L:=⟨_,_,_,h0⟩
 have lb:=hR.lt
 have lq:=hR.qlt
 obtain⟨_,_,hbl1⟩:=a0n w 78 78 [.int .i64 v.1,.int .i64 v.2] [.int .i64 0,.int .i64 0]
 have hR1:=hR.next hbl1
 obtain⟨hV,hRr,hOo,hbl⟩:=a2f w 78 78 78 [.int .i64 v.1,.int .i64 v.2] [.int .i64 0,.int .i64 0] [.int .i64 0,.int .i64 0]
 obtain⟨W2,hW2⟩:∃ W2,W2=((w.alloc (.cells #[.int .i64 v.1,.int .i64 v.2] 78)).alloc (.cells #[.int .i64 0,.int .i64 0] 78)).alloc (.cells #[.int .i64 0,.int .i64 0] 78):=⟨_,rfl⟩
 have hs2:W2.heap.size=w.heap.size+1+1+1:=by rw[hW2];simp
 rw[<-hW2] at hV hRr hOo hbl
 have hR2:=hR.next hbl
 replace h0:=h0.next hbl
 obtain⟨n1,a1,hn1,hsv⟩:∃ (n1:Nat) (a1:Option Addr),n1=L.length/\sv0=.slice a1 n1 n1:=by
  rcases h0.slots with ⟨e,e2,_⟩ | ⟨e,_⟩
  ·exact⟨0,none,by rw[hl0,e2];rfl,e⟩
  ·exact⟨L.length,some ⟨q,0,none⟩,rfl,by rw[e,hl0]⟩
 obtain⟨c0,c1,c2,c3,f0,f1,f2,f3⟩:=h0.box.four
 have hblt:=h0.box.lt
 rw[hsv] at c3
 rw[<-hn1] at c2
 have HN1:=hid hn1
 have e1:¬(room:Int)=0:=by omega
 have e2:¬(n1:Int)=(room:Int):=by omega
 have e2':((n1:Int)==(room:Int))=false:=by simpa using e2
 have HR1:=hid hR1
 have HR2:=hid hR2
 have HBL:=hid hbl
 have HV:=hid hV
 have HRr:=hid hRr
 have HOo:=hid hOo
 clear h0 hR hR1 hR2 hn1 hsv hl0 hbl hbl1 hV hRr hOo
 go_enter Tryz.func184,Tryz.ntmps184
 go_wp2_with fail
 refine(b6g b q room L _ HR1.out).mono ?_
 rintro e w1 ⟨rfl,rfl⟩
 go_wp2_with fail
 rw[<-hW2]
 clear hW2
 go_quiet (fail)
 go_wp2_with fail
 go_quiet (fail)
 go_wp2_with fail
 refine ZE (c2A b q room L _ (HR2.out.turn (S:=[]) (a0I [] _ _) (by simp) (by simp)) hr hroom) ?_
 rintro e W ⟨rfl,hT,g,first,cs,hgq,h,hl⟩
 clear c0 c1 c2 c3 f0 f1 f2 f3 hblt
 have hT':a0h [b] W2 W:=⟨hT.os,hT.tape,hT.output,hT.size,hT.block⟩
 have hgq':W2.heap.size<=g:=hgq
 have hV:=HV.out.turn hT' (by simp;omega)
 have hRr:=HRr.out.turn hT' (by simp;omega)
 have hOo:=HOo.out.turn hT' (by simp;omega)
 have HT:=hid hT'
 clear hgq hT hT'
 have hn:0<cs.length:=by omega
 have hc4:cs.length<=4096:=by have:=h.roomy;omega
 have hf:first<cs.length:=by rcases h.inside with h | ⟨h,_⟩;(· exact h);(· rw[h] at hn;simp at hn)
 rcases h.slots with ⟨e,_,_⟩ | ⟨_,hqb,_,hq⟩
 ·cases e
 obtain⟨n,hnn⟩:∃ n,n=cs.length:=⟨_,rfl⟩
 obtain⟨k,hk⟩:∃ k,k=L.length:=⟨_,rfl⟩
 obtain⟨s,hs⟩:∃ s,s=(first+k)%cs.length:=⟨_,rfl⟩
 have hsn:s<cs.length:=by rw[hs];exact a2V _ hn
 have hkb:k<=4096:=by omega
 obtain⟨y,hy⟩:∃ y,cs[s]? = some y:=⟨_,List.getElem?_eq_getElem hsn⟩
 obtain⟨t0,t1,t2,t3⟩:=a1V (k:=s) hq hy
 obtain⟨c0,c1,c2,c3,f0,f1,f2,f3⟩:=h.box.four
 obtain⟨x0,x1,_,_⟩:=hV.two
 have hc:=fun (wx:World) (hbx:Box wx b [.int .i64 (room:Nat),.int .i64 (first:Nat),.int .i64 (L.length:Nat),.slice (some ⟨g,0,none⟩) cs.length cs.length])=>b1D b g room first cs.length k s _ wx hbx hn hc4 hf (by omega) hs
 have hb0:=h.box
 have hblt:=h.box.lt
 rw[<-hnn] at hsn c3 hb0 hc
 rw[<-hk] at hb0 hc c2
 have hsn':(s:Int)<(n:Int):=by omega
 have dd:=fun kk (u u':Value)=>((hb0.alike (w':=W.drewN kk) (by rfl)).other (q:=g) (j:=s*2) (v:=u) (Ne.symm hqb)).other (q:=g) (j:=s*2+1) (v:=u') (Ne.symm hqb)
 have d2:=fun kk u u'=>(dd kk u u').cell 2 _ rfl
 have d3:=fun kk u u'=>(dd kk u u').free 2 (by simp)
 have bo:=fun kk (u u' u2:Value)=>((((hOo.alike (w':=W.drewN kk) (by rfl)).other (q:=g) (j:=s*2) (v:=u) (by omega)).other (q:=g) (j:=s*2+1) (v:=u') (by omega)).other (q:=b) (j:=2) (v:=u2) (by omega)).two
 have br:=fun kk (u u' u2:Value)=>(((hRr.alike (w':=W.drewN kk) (by rfl)).other (q:=g) (j:=s*2) (v:=u) (by omega)).other (q:=g) (j:=s*2+1) (v:=u') (by omega)).other (q:=b) (j:=2) (v:=u2) (by omega)
 have bo0:=fun kk u u' u2=>(bo kk u u' u2).1
 have bo1:=fun kk u u' u2=>(bo kk u u' u2).2.1
 have br0:=fun kk u u' u2=>(br kk u u' u2).two.1
 have br1:=fun kk u u' u2=>(br kk u u' u2).two.2.1
 have br2:=fun kk u u' u2=>(br kk u u' u2).two.2.2.1
 have br3:=fun kk u u' u2=>(br kk u u' u2).two.2.2.2
 have oo:=fun kk u u' u2=>(((br kk u u' u2).set 0 (by simp) (.int .i64 0)).set 1 (by simp) (.int .i64 0)).two
 have o0:=fun kk u u' u2=>(oo kk u u' u2).1
 have o1:=fun kk u u' u2=>(oo kk u u' u2).2.1
 have HC:=hid hc
 have HN:=hid hnn
 have HS:=hid hs
 have HB:=hid hb0
 have HH:=hid h
 have HK:=hid hk
 have HL:=hid hl
 clear hc hnn hs hb0 h hq hy hk hl dd bo br oo hV hRr hOo
 go_wp2_with fail
 go_region_with (go_at_call 238;refine(HC.out _ (HB.out.alike (by rfl))).mono ?_;rintro e w9 ⟨rfl,kk,rfl⟩)
 all_goals go_wp2_with fail
 all_goals (
  refine bodyPost_ret (v:=.tuple #[pv pz,.bool false]) (by simp[results,Tryz.results184,go_sem,o0,o1,pv,pz]) rfl ?_
  have a1:=HK.out
  have a2:=HS.out
  subst a1
  subst a2
  exact⟨g,rfl,(a2r.is (W:=W) (v:=v) (o:=pz) ⟨_,rfl⟩ HH.out HL.out (by omega) (by omega)).1,((a0h.of_below HBL.out).trans HT.out (by simp)).trans (a2r.is (W:=W) (v:=v) (o:=pz) ⟨_,rfl⟩ HH.out HL.out (by omega) (by omega)).2 (fun i hi=>(by simp at hi ⊢;omega)),.inr (by omega)⟩)
set_option maxRecDepth 20000 in
set_option maxHeartbeats 4000000 in
theorem b1H (b q room:Nat)(x:Pr)(L:List Pr)(v:Pr)(w:World)(hR:Rq w b q room (x::L))(hr:room<=4096)(hroom:(x::L).length=room):
 Calls Tryz.prog 184 #[.pointer (some ⟨b,0,none⟩),.agg #[.int .i64 v.1,.int .i64 v.2]] w (a4y w b q room (L++[v]) x true):=by
 have lb:=hR.lt
 have lq:=hR.qlt
 obtain⟨_,_,hbl1⟩:=a0n w 78 78 [.int .i64 v.1,.int .i64 v.2] [.int .i64 0,.int .i64 0]
 have hR1:=hR.next hbl1
 obtain⟨hV,hRr,hOo,hbl⟩:=a2f w 78 78 78 [.int .i64 v.1,.int .i64 v.2] [.int .i64 0,.int .i64 0] [.int .i64 0,.int .i64 0]
 obtain⟨W2,hW2⟩:∃ W2,W2=((w.alloc (.cells #[.int .i64 v.1,.int .i64 v.2] 78)).alloc (.cells #[.int .i64 0,.int .i64 0] 78)).alloc (.cells #[.int .i64 0,.int .i64 0] 78):=⟨_,rfl⟩
 have hs2:W2.heap.size=w.heap.size+1+1+1:=by rw[hW2];simp
 rw[<-hW2] at hV hRr hOo hbl
 have hR2:=hR.next hbl
 have hP:=hR2
 obtain⟨first0,sv0,cs0,h0⟩:=hR2
 obtain⟨c0,c1,c2,c3,f0,f1,f2,f3⟩:=h0.box.four
 have hblt:=h0.box.lt
 rw[hroom] at c2
 have hr1:room=L.length+1:=by rw[<-hroom];simp
 have HRM:=hid hr1
 have e1:¬(room:Int)=0:=by omega
 have HR1:=hid hR1
 have HR2:=hid hP
 have HBL:=hid hbl
 have HV:=hid hV
 have HRr:=hid hRr
 have HOo:=hid hOo
 clear h0 hR hR1 hP hbl hbl1 hV hRr hOo hr1 hroom
 go_enter Tryz.func184,Tryz.ntmps184
 go_wp2_with fail
 refine(b6g b q room (x::L) _ HR1.out).mono ?_
 rintro e w1 ⟨rfl,rfl⟩
 go_wp2_with fail
 rw[<-hW2]
 clear hW2
 go_quiet (fail)
 go_wp2_with fail
 refine ZE (b0x b q room L x _ (HR2.out.turn (S:=[]) (a0I [] _ _) (by simp) (by simp)) hr) ?_
 rintro e W3 ⟨rfl,⟨first,cs,h3,hl⟩,hT⟩
 clear c0 c1 c2 c3 f0 f1 f2 f3 hblt
 have hT':a0h [b,q] W2 W3:=⟨hT.os,hT.tape,hT.output,hT.size,hT.block⟩
 have hV3:=HV.out.turn hT' (by simp;omega)
 have hRr3:=HRr.out.turn hT' (by simp;omega)
 have hOo3:=HOo.out.turn hT' (by simp;omega)
 obtain⟨w0,w1,z0,z1⟩:=hOo3.two
 have z1':(W3.setCell ⟨w.heap.size+1+1,0,none⟩ (.int .i64 x.1)).frozen? ⟨w.heap.size+1+1,1,none⟩=false:=(World.frozen?_setCell _ _ _ _).trans z1
 have HT:=hid hT'
 have H3:=hid h3
 have HV3:=hid hV3
 have HR3:=hid hRr3
 have HO3:=hid hOo3
 clear hT hT' h3 hV3 hRr3 hOo3
 simp only[pv]
 go_wp2_with fail
 obtain⟨W,hW⟩:∃ W,W=(W3.setCell ⟨w.heap.size+1+1,0,none⟩ (.int .i64 x.1)).setCell ⟨w.heap.size+1+1,1,none⟩ (.int .i64 x.2):=⟨_,rfl⟩
 rw[<-hW]
 have tW:a0h [w.heap.size+1+1] W3 W:=by rw[hW];exact(a0h.set _ _ _ (by simp)).andSet _ _ (.inl (by simp))
 have h:=H3.out.turn tW (by simp;omega) (by simp;omega)
 have hV:=HV3.out.turn tW (fun hm=>by have:=List.mem_singleton.1 hm;omega)
 have hRr:=HR3.out.turn tW (fun hm=>by have:=List.mem_singleton.1 hm;omega)
 have hOo:Box W (w.heap.size+1+1) [.int .i64 x.1,.int .i64 x.2]:=by rw[hW];exact(HO3.out.set 0 (by simp) (.int .i64 x.1)).set 1 (by simp) (.int .i64 x.2)
 have HTW:=hid tW
 have hroom:=HRM.out
 clear hW tW w0 w1 z0 z1 z1' H3 HV3 HR3 HO3
 have hn:0<cs.length:=by omega
 have hc4:cs.length<=4096:=by have:=h.roomy;omega
 have hf:first<cs.length:=by rcases h.inside with h | ⟨h,_⟩;(· exact h);(· rw[h] at hn;simp at hn)
 rcases h.slots with ⟨e,_,_⟩ | ⟨_,hqb,_,hq⟩
 ·cases e
 obtain⟨n,hnn⟩:∃ n,n=cs.length:=⟨_,rfl⟩
 obtain⟨k,hk⟩:∃ k,k=L.length:=⟨_,rfl⟩
 obtain⟨s,hs⟩:∃ s,s=(first+k)%cs.length:=⟨_,rfl⟩
 have hsn:s<cs.length:=by rw[hs];exact a2V _ hn
 have hkb:k<=4096:=by omega
 obtain⟨y,hy⟩:∃ y,cs[s]? = some y:=⟨_,List.getElem?_eq_getElem hsn⟩
 obtain⟨t0,t1,t2,t3⟩:=a1V (k:=s) hq hy
 obtain⟨c0,c1,c2,c3,f0,f1,f2,f3⟩:=h.box.four
 obtain⟨x0,x1,_,_⟩:=hV.two
 have hc:=fun (wx:World) (hbx:Box wx b [.int .i64 (room:Nat),.int .i64 (first:Nat),.int .i64 (L.length:Nat),.slice (some ⟨q,0,none⟩) cs.length cs.length])=>b1D b q room first cs.length k s _ wx hbx hn hc4 hf (by omega) hs
 have hb0:=h.box
 have hblt:=h.box.lt
 rw[<-hnn] at hsn c3 hb0 hc
 rw[<-hk] at hb0 hc c2
 have hsn':(s:Int)<(n:Int):=by omega
 have dd:=fun kk (u u':Value)=>((hb0.alike (w':=W.drewN kk) (by rfl)).other (q:=q) (j:=s*2) (v:=u) (Ne.symm hqb)).other (q:=q) (j:=s*2+1) (v:=u') (Ne.symm hqb)
 have d2:=fun kk u u'=>(dd kk u u').cell 2 _ rfl
 have d3:=fun kk u u'=>(dd kk u u').free 2 (by simp)
 have bo:=fun kk (u u' u2:Value)=>((((hOo.alike (w':=W.drewN kk) (by rfl)).other (q:=q) (j:=s*2) (v:=u) (by omega)).other (q:=q) (j:=s*2+1) (v:=u') (by omega)).other (q:=b) (j:=2) (v:=u2) (by omega)).two
 have br:=fun kk (u u' u2:Value)=>(((hRr.alike (w':=W.drewN kk) (by rfl)).other (q:=q) (j:=s*2) (v:=u) (by omega)).other (q:=q) (j:=s*2+1) (v:=u') (by omega)).other (q:=b) (j:=2) (v:=u2) (by omega)
 have bo0:=fun kk u u' u2=>(bo kk u u' u2).1
 have bo1:=fun kk u u' u2=>(bo kk u u' u2).2.1
 have br0:=fun kk u u' u2=>(br kk u u' u2).two.1
 have br1:=fun kk u u' u2=>(br kk u u' u2).two.2.1
 have br2:=fun kk u u' u2=>(br kk u u' u2).two.2.2.1
 have br3:=fun kk u u' u2=>(br kk u u' u2).two.2.2.2
 have oo:=fun kk u u' u2=>(((br kk u u' u2).set 0 (by simp) (.int .i64 x.1)).set 1 (by simp) (.int .i64 x.2)).two
 have o0:=fun kk u u' u2=>(oo kk u u' u2).1
 have o1:=fun kk u u' u2=>(oo kk u u' u2).2.1
 have HC:=hid hc
 have HN:=hid hnn
 have HS:=hid hs
 have HB:=hid hb0
 have HH:=hid h
 have HK:=hid hk
 have HL:=hid hl
 clear hc hnn hs hb0 h hq hy hk hl dd bo br oo hV hRr hOo
 clear hroom
 go_wp2_with fail
 go_region_with (go_at_call 238;refine(HC.out _ (HB.out.alike (by rfl))).mono ?_;rintro e w9 ⟨rfl,kk,rfl⟩)
 all_goals go_wp2_with fail
 all_goals (
  refine bodyPost_ret (v:=.tuple #[pv x,.bool true]) (by simp[results,Tryz.results184,go_sem,o0,o1,pv]) rfl ?_
  have a1:=HK.out
  have a2:=HS.out
  subst a1
  subst a2
  exact⟨q,rfl,(a2r.is (W:=W) (v:=v) (o:=x) ⟨_,rfl⟩ HH.out HL.out (by omega) (by omega)).1,(((a0h.of_below HBL.out).trans HT.out (fun i hi=>.inl hi)).trans HTW.out (fun i hi=>(by simp at hi ⊢;omega))).trans (a2r.is (W:=W) (v:=v) (o:=x) ⟨_,rfl⟩ HH.out HL.out (by omega) (by omega)).2 (fun i hi=>(by simp at hi ⊢;omega)),.inl rfl⟩)
end Go.Proofs.YtbddbnjhmdbkbaaGreatDoor
