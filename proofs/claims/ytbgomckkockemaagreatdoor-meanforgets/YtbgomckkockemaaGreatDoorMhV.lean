import Derived.Test.YtbgomckkockemaaGreatDoorMaJ
import Derived.Test.YtbgomckkockemaaGreatDoorMhO
namespace Go.Proofs.YtbgomckkockemaaGreatDoor
open Go.RowKit
theorem decV_form (ok:Bool)(r:Rs):∃ b x y z,decV ok r=.tuple #[.agg #[.bool b,.int .i64 x,.int .i64 y],.int .i64 z]:=by
 unfold decV rawV
 by_cases h:ok=true
 ·rw[if_pos h]
  by_cases h2:r.2=0
  ·rw[if_pos h2];exact⟨_,_,_,_,rfl⟩
  ·rw[if_neg h2];exact⟨_,_,_,_,rfl⟩
 ·rw[if_neg h];exact⟨_,_,_,_,rfl⟩
def decM (q:Co->Co->Bool)(p:PlP)(l:List EvP)(t rep:Int)(nm:Cr->Bool):Value:=
 if (meanF q p l t rep nm).2=0 then decV (formedP q p&&fitE (meanF q p l t rep nm).1 p) (gsR (meanF q p l t rep nm).1 p.gs p.fin)
 else .tuple #[.agg #[.bool false,.int .i64 0,.int .i64 0],.int .i64 (meanF q p l t rep nm).2]
set_option maxHeartbeats 2000000 in
set_option maxRecDepth 20000 in
theorem mDecide_c (q:Co->Co->Bool)(hq:∀ a b,q a b=true↔a=b)(p:PlP)(v:PlV)(l:List EvP)(u:Value)(t rep:Int)(w:World)(hs:PlAt w p v)(hF:FldAt w)(hg:GlE w)(hE:EvsAt w u l)(hok:∀ e,e∈l->EvOk e)(hL:l.length*32<=140737488355328)(ht:In64 t)(hrep:C64 rep)(nm:Cr->Bool)(hnm:∀ c,c∈p.crons->∀ W,Below w.heap.size w W->Calls Tryz.prog 79 #[.agg (crL c).toArray,.int .i64 t] W fun e w'=>e=.returned (.bool (nm c))/\Below W.heap.size W w'):
 Calls Tryz.prog 18 #[plV p v,u,.int .i64 t,.int .i64 rep] w fun r w'=>r=.returned (decM q p l t rep nm)/\Below w.heap.size w w':=by
 have HEn:=chid (fun W (hW:Below w.heap.size w W)=>mEnv_c q hq p v l u t rep W (hs.next hW) (hF.later hW) (RowsK.next hE hW) hok hL ht hrep nm (fun c hc W' hW'=>hnm c hc W' (cbelow_on hW hW' hW.size)))
 have HDe:=chid (fun W E v1 v2 (hW:Below w.heap.size w W) (he:EnvAt W E v1 v2)=>cDecide_c q hq E p v v1 v2 W (hs.next hW) he (hF.later hW) (GlE.next hg hW))
 have HM:Hid (decM q p l t rep nm=if (meanF q p l t rep nm).2=0 then decV (formedP q p&&fitE (meanF q p l t rep nm).1 p) (gsR (meanF q p l t rep nm).1 p.gs p.fin) else .tuple #[.agg #[.bool false,.int .i64 0,.int .i64 0],.int .i64 (meanF q p l t rep nm).2]):=chid rfl
 generalize decM q p l t rep nm=DM at *
 generalize meanF q p l t rep nm=MF at *
 obtain⟨E,err⟩:=MF
 dsimp only at *
 obtain⟨a1,c1,a2,c2,a3,c3,a4,c4,a5,c5,rfl,-,-,-,-⟩:=hs.shapes
 obtain⟨ea,ec,rfl,-,-,-⟩:=hE
 obtain⟨Y0,Y1,Y2⟩:=two_boxes w 32 48 (plL p ⟨.slice a1 p.mets.length c1,.slice a2 p.wins.length c2,.slice a3 p.crons.length c3,.slice a4 p.gs.length c4,.slice a5 p.fin.parts.length c5⟩) [.bool false,.int .i64 0,.int .i64 0]
 have HY0:=chid Y0
 have HY1:=chid Y1
 have B0:=chid Y2
 have x0:=Y0.cell 0 _ rfl
 have x1:=Y0.cell 1 _ rfl
 have x2:=Y0.cell 2 _ rfl
 have x3:=Y0.cell 3 _ rfl
 have x4:=Y0.cell 4 _ rfl
 have x5:=Y0.cell 5 _ rfl
 have x6:=Y0.cell 6 _ rfl
 have x7:=Y0.cell 7 _ rfl
 have x8:=Y0.cell 8 _ rfl
 have x9:=Y0.cell 9 _ rfl
 have x10:=Y0.cell 10 _ rfl
 have x11:=Y0.cell 11 _ rfl
 have x12:=Y0.cell 12 _ rfl
 have x13:=Y0.cell 13 _ rfl
 have xl:=Y0.lt
 clear hs hF hg hok hnm Y0 Y1 Y2
 go_enter Tryz.func18,Tryz.ntmps18
 go_wp2_with fail
 refine Calls.mono (HEn.out _ B0.out) ?_
 rintro e w1 ⟨u1,u2,rfl,he,b⟩
 obtain⟨e1,d1,e2,d2,rfl,rfl⟩:=he.shape
 have HE:=chid he
 have B1:=chid (cbelow_on B0.out b B0.out.size)
 replace HY0:=chid (HY0.out.next b)
 replace HY1:=chid (HY1.out.next b)
 clear x0 x1 x2 x3 x4 x5 x6 x7 x8 x9 x10 x11 x12 x13 xl b he HEn B0
 have k0:=HY1.out.cell 0 _ rfl
 have k1:=HY1.out.cell 1 _ rfl
 have k2:=HY1.out.cell 2 _ rfl
 have f0:=HY1.out.free 0 (by simp)
 have f1:=HY1.out.free 1 (by simp)
 have f2:=HY1.out.free 2 (by simp)
 have kl:=HY1.out.lt
 by_cases h0:err=0
 ·subst h0
  have HM2:Hid (DM=decV (formedP q p&&fitE E p) (gsR E p.gs p.fin)):=chid (by rw[HM.out];simp)
  obtain⟨b,x,y,z,hdv⟩:=decV_form (formedP q p&&fitE E p) (gsR E p.gs p.fin)
  have HDv:=chid hdv
  clear hdv
  have x0:=HY0.out.cell 0 _ rfl
  have x1:=HY0.out.cell 1 _ rfl
  have x2:=HY0.out.cell 2 _ rfl
  have x3:=HY0.out.cell 3 _ rfl
  have x4:=HY0.out.cell 4 _ rfl
  have x5:=HY0.out.cell 5 _ rfl
  have x6:=HY0.out.cell 6 _ rfl
  have x7:=HY0.out.cell 7 _ rfl
  have x8:=HY0.out.cell 8 _ rfl
  have x9:=HY0.out.cell 9 _ rfl
  have x10:=HY0.out.cell 10 _ rfl
  have x11:=HY0.out.cell 11 _ rfl
  have x12:=HY0.out.cell 12 _ rfl
  have x13:=HY0.out.cell 13 _ rfl
  have xl:=HY0.out.lt
  have ba:=(Below.refl w1.heap.size w1).alloc (Nat.le_refl _) (.cells #[.int .i64 E.rep,.slice e1 E.wins.length d1,.slice e2 E.crons.length d2] 40)
  have BA:=chid ba
  have B2:=chid (cbelow_on B1.out ba B1.out.size)
  have HE2:=chid (HE.out.next ba)
  clear ba
  go_wp2_with fail
  refine Calls.mono (HDe.out _ E _ _ B2.out HE2.out) ?_
  rintro e w2 ⟨rfl,b2⟩
  rw[HDv.out]
  have B3:=chid (cbelow_on B2.out b2 B2.out.size)
  replace HY1:=chid (HY1.out.next (cbelow_on BA.out b2 BA.out.size))
  clear b2 k0 k1 k2 f0 f1 f2 kl x0 x1 x2 x3 x4 x5 x6 x7 x8 x9 x10 x11 x12 x13 xl
  have k0:=HY1.out.cell 0 _ rfl
  have k1:=HY1.out.cell 1 _ rfl
  have k2:=HY1.out.cell 2 _ rfl
  have f0:=HY1.out.free 0 (by simp)
  have f1:=HY1.out.free 1 (by simp)
  have f2:=HY1.out.free 2 (by simp)
  have kl:=HY1.out.lt
  go_wp2_with fail
  refine bodyPost_ret (v:=.tuple #[.agg #[.bool b,.int .i64 x,.int .i64 y],.int .i64 z]) (by simp[results,Tryz.results18,go_sem, *]) rfl ?_
  exact⟨by rw[HM2.out,HDv.out],((B3.out.setCell (p:=⟨w.heap.size+1,0,none⟩) (by simp) _).setCell (p:=⟨w.heap.size+1,1,none⟩) (by simp) _).setCell (p:=⟨w.heap.size+1,2,none⟩) (by simp) _⟩
 ·have HM2:Hid (DM=.tuple #[.agg #[.bool false,.int .i64 0,.int .i64 0],.int .i64 err]):=chid (by rw[HM.out,if_neg h0])
  have h0':(err != 0)=true:=by simpa using h0
  clear HDe HM
  go_wp2_with fail
  refine bodyPost_ret (v:=.tuple #[.agg #[.bool false,.int .i64 0,.int .i64 0],.int .i64 err]) (by simp[results,Tryz.results18,go_sem, *]) rfl ?_
  exact⟨by rw[HM2.out],(((B1.out.setCell (p:=⟨w.heap.size+1,0,none⟩) (by simp) _).setCell (p:=⟨w.heap.size+1,1,none⟩) (by simp) _).setCell (p:=⟨w.heap.size+1,2,none⟩) (by simp) _).alloc (by have:=B1.out.size;simp;omega) _⟩
def pl0:PlP:=⟨[⟨#[113]⟩],⟨0,9,9,0,0⟩,[⟨0,1,10,0⟩],[],0,[],⟨30,0,0,[⟨4,0,0,[]⟩]⟩⟩
def ev1:EvP:=⟨1,0,2000001,0⟩
abbrev pv0 (h:Nat):PlV:=⟨.slice (some ⟨h+1,0,none⟩) 1 1,.slice (some ⟨h+1+1,0,none⟩) 1 1,.slice none 0 0,.slice none 0 0,.slice (some ⟨h+1+1+1,0,none⟩) 1 1⟩
theorem c64 (n:Int)(h:(decide (-9223372036854775808<=n/\n<=9223372036854775807))=true):C64 n:=by have:=of_decide_eq_true h;unfold C64;omega
theorem row_one {w:World}{b k:Nat}{cs:List Value}{t:TypeId}(hb:w.heap[b]? = some (Obj.cells cs.toArray t (0,0)))(g:Nat->List Value)(hg:g 0=cs):RowsK w (.slice (some ⟨b,0,none⟩) 1 1) 1 k g:=by
 refine⟨_,1,rfl,Nat.le_refl _,by omega,.inr ⟨b,0,rfl,(Array.getElem?_eq_some_iff.1 hb).1,fun i hi j x hx=>?_⟩⟩
 have hi0:i=0:=by omega
 subst hi0
 rw[hg] at hx
 have:=(Box.ofBlock hb).cell j x hx
 simpa using this
set_option maxHeartbeats 2000000 in
set_option maxRecDepth 20000 in
theorem summed_c (w:World):Calls Tryz.prog 39 #[] w fun r w'=>∃ v,r=.returned (plV pl0 v)/\PlAt w' pl0 v/\Below w.heap.size w w':=by
 obtain⟨-,X1,X2,X3,B0,hz⟩:=four_boxes w 32 9 74 30 (plL pl0 (pv0 w.heap.size)) [.string ⟨#[113]⟩] [.int .i64 0,.int .i64 1,.int .i64 10,.int .i64 0] [.int .i64 4,.int .i64 0,.int .i64 0,.slice none 0 0]
 have H1:=chid X1
 have H2:=chid X2
 have H3:=chid X3
 have HB:=chid B0
 clear X1 X2 X3 B0 hz
 go_enter Tryz.func39,Tryz.ntmps39
 go_wp2_with fail
 refine bodyPost_ret (v:=plV pl0 (pv0 w.heap.size)) (by simp[results,Tryz.results39,go_sem,pl0]) rfl ?_
 refine⟨pv0 w.heap.size,rfl,?_,HB.out⟩
 refine⟨⟨c64 _ rfl,c64 _ rfl,c64 _ rfl,c64 _ rfl,c64 _ rfl⟩,c64 _ rfl,fun x hx=>?_,(fun x hx=>by cases hx),row_one H1.out _ rfl,row_one H2.out _ rfl,⟨none,0,rfl,by simp[pl0],by omega,.inl rfl⟩,⟨none,0,rfl,by simp[pl0],by omega,.inl rfl⟩,?_⟩
 ·simp only[pl0,List.mem_singleton] at hx
  subst hx
  exact⟨c64 _ rfl,c64 _ rfl,c64 _ rfl,c64 _ rfl⟩
 ·have X:=Box.ofBlock H3.out
  refine csits_iff.2 ⟨⟨c64 _ rfl,c64 _ rfl,c64 _ rfl⟩,_,1,rfl,by simp[pl0],by omega,.inr ⟨w.heap.size+1+1+1,0,rfl,X.lt,fun i hi=>?_⟩⟩
  have hi0:i=0:=by simp[pl0] at hi;omega
  subst hi0
  exact⟨.slice none 0 0,⟨X.cell 0 _ rfl,X.cell 1 _ rfl,X.cell 2 _ rfl,X.cell 3 _ rfl⟩,csits_iff.2 ⟨⟨c64 _ rfl,c64 _ rfl,c64 _ rfl⟩,none,0,rfl,by simp[pl0],by omega,.inl rfl⟩⟩
theorem pl0_ord:plord pl0=[⟨30,0,0,[⟨4,0,0,[]⟩]⟩,⟨4,0,0,[]⟩]:=by
 unfold plord pl0
 simp[cpord_eq]
theorem pl0_sort:soP pl0 pl0.fin=3:=by
 unfold soP pl0
 rw[csort_eq]
 simp only[List.map_cons,List.map_nil]
 rw[csort_eq]
 rfl
theorem pl0_formed (q:Co->Co->Bool):formedP q pl0=true:=by
 have h1:sizesB pl0=true:=by decide
 have h2:fewB pl0=true:=by unfold fewB;rw[pl0_ord];decide
 have h3:ruB pl0.ru=true:=by decide
 have h4:listsB pl0=true:=by decide
 have h5:sortsB pl0=true:=by unfold sortsB;rw[pl0_sort];decide
 have h6:alikeB q pl0=true:=by unfold alikeB;rw[pl0_ord];rfl
 unfold formedP
 rw[h1,h2,h3,h4,h5,h6]
 rfl
theorem ev1_taken:takenF 1 [ev1]=[ev1]:=rfl
theorem tell0:tellW (smpF [ev1]) 9 ⟨0,1,10,0⟩=(0,2000001):=by decide
theorem seen0 (q:Co->Co->Bool)(nm:Cr->Bool):meanF q pl0 [ev1] 9 1 nm=(⟨1,[(0,2000001)],[]⟩,0):=by
 unfold meanF
 rw[if_neg (by rw[pl0_formed];simp),if_neg]
 ·show ((⟨1,[tellW (smpF (takenF 1 [ev1])) 9 ⟨0,1,10,0⟩],[]⟩:EnvP),(0:Int))=_
  rw[ev1_taken,tell0]
 ·rintro⟨x,hx,hxt⟩
  have hx':x∈[ev1]:=hx
  rw[List.mem_singleton.1 hx'] at hxt
  revert hxt
  decide
theorem come0:telV ⟨1,[(0,2000001)],[]⟩ pl0.fin=(3,0):=by
 unfold pl0
 rw[telV_eq]
 simp only[List.map_cons,List.map_nil]
 rw[telV_eq]
 rfl
theorem dec0 (q:Co->Co->Bool)(nm:Cr->Bool):decM q pl0 [ev1] 9 1 nm=.tuple #[.agg #[.bool false,.int .i64 0,.int .i64 3],.int .i64 0]:=by
 unfold decM
 rw[seen0]
 have h:gsR ⟨1,[(0,2000001)],[]⟩ pl0.gs pl0.fin=(3,0):=come0
 rw[if_pos rfl,h,pl0_formed]
 rfl
theorem ev1_ok:∀ e,e∈[ev1]->EvOk e:=fun e he=>by
 rw[List.mem_singleton.1 he]
 exact⟨c64 _ rfl,c64 _ rfl,c64 _ rfl,c64 _ rfl⟩
set_option maxHeartbeats 2000000 in
set_option maxRecDepth 20000 in
theorem awake17_c (w:World)(hF:FldAt w)(hg:GlE w):Calls Tryz.prog 13 #[] w fun r w'=>r=.returned (.bool true)/\Below w.heap.size w w':=by
 classical
 obtain⟨q,hq⟩:∃ q:Co->Co->Bool,∀ a b,q a b=true↔a=b:=⟨fun a b=>decide (a=b),fun a b=>by simp⟩
 have HD:=chid (fun W v u (hW:Below w.heap.size w W) (hs:PlAt W pl0 v) (hE:EvsAt W u [ev1])=>mDecide_c q hq pl0 v [ev1] u 9 1 W hs (hF.later hW) (GlE.next hg hW) hE ev1_ok (by simp) (by unfold In64;decide) (c64 _ rfl) (fun _=>false) (fun c hc=>by cases hc))
 simp only[dec0] at HD
 clear hF hg
 go_enter Tryz.func13,Tryz.ntmps13
 go_wp2_with fail
 refine Calls.mono (summed_c w) ?_
 rintro e w1 ⟨v,rfl,hs,b1⟩
 obtain⟨a1,c1,a2,c2,a3,c3,a4,c4,a5,c5,rfl,-,-,-,-⟩:=hs.shapes
 have HS:=chid hs
 have B1:=chid b1
 clear hs b1
 go_wp2_with fail
 have ba:=(Below.refl w1.heap.size w1).alloc (Nat.le_refl _) (.cells #[.int .i64 1,.int .i64 0,.int .i64 2000001,.int .i64 0] 54)
 have B2:=chid (cbelow_on B1.out ba B1.out.size)
 have hE:EvsAt (w1.alloc (.cells #[.int .i64 1,.int .i64 0,.int .i64 2000001,.int .i64 0] 54)) (.slice (some ⟨w1.heap.size,0,none⟩) 1 1) [ev1]:=row_one (cs:=evtL ev1) (World.alloc_heap_new w1 _) _ rfl
 refine Calls.mono (HD.out _ _ _ B2.out (HS.out.next ba) hE) ?_
 rintro e w2 ⟨rfl,b2⟩
 have B3:=chid (cbelow_on B2.out b2 B2.out.size)
 clear ba hE b2 HD HS
 go_wp2_with fail
 go_ret
 exact⟨rfl,B3.out.alloc B3.out.size _⟩
end Go.Proofs.YtbgomckkockemaaGreatDoor
