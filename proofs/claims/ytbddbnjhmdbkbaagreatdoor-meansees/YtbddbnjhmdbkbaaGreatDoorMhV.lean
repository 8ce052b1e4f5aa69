import Derived.Test.YtbddbnjhmdbkbaaGreatDoorMaJ
import Derived.Test.YtbddbnjhmdbkbaaGreatDoorMhO
namespace Go.Proofs.YtbddbnjhmdbkbaaGreatDoor
open Go.RowKit
theorem b4u (ok:Bool)(r:Rs):∃ b x y z,c0g ok r=.tuple #[.agg #[.bool b,.int .i64 x,.int .i64 y],.int .i64 z]:=by
 unfold c0g b5o
 by_cases h:ok=true
 ·rw[if_pos h]
  by_cases h2:r.2=0
  ·rw[if_pos h2];exact⟨_,_,_,_,rfl⟩
  ·rw[if_neg h2];exact⟨_,_,_,_,rfl⟩
 ·rw[if_neg h];exact⟨_,_,_,_,rfl⟩
def c1H (q:Co->Co->Bool)(p:PlP)(l:List EvP)(t rep:Int)(nm:Cr->Bool):Value:=
 if (a1v q p l t rep nm).2=0 then c0g (a0s q p&&b0O (a1v q p l t rep nm).1 p) (gsR (a1v q p l t rep nm).1 p.gs p.fin)
 else .tuple #[.agg #[.bool false,.int .i64 0,.int .i64 0],.int .i64 (a1v q p l t rep nm).2]
set_option maxHeartbeats 2000000 in
set_option maxRecDepth 20000 in
theorem b3I (q:Co->Co->Bool)(hq:∀ a b,q a b=true↔a=b)(p:PlP)(v:PlV)(l:List EvP)(u:Value)(t rep:Int)(w:World)(hs:a4n w p v)(hF:a2M w)(hg:GlE w)(hE:a4A w u l)(hok:∀ e,e∈l->b0j e)(hL:l.length*32<=140737488355328)(ht:a1n t)(hrep:C64 rep)(nm:Cr->Bool)(hnm:∀ c,c∈p.crons->∀ W,Below w.heap.size w W->Calls Tryz.prog 52 #[.agg (crL c).toArray,.int .i64 t] W fun e w'=>e=.returned (.bool (nm c))/\Below W.heap.size W w'):
 Calls Tryz.prog 14 #[plV p v,u,.int .i64 t,.int .i64 rep] w fun r w'=>r=.returned (c1H q p l t rep nm)/\Below w.heap.size w w':=by
 have HEn:=a0a (fun W (hW:Below w.heap.size w W)=>b7Y q hq p v l u t rep W (hs.next hW) (hF.later hW) (a0Q.next hE hW) hok hL ht hrep nm (fun c hc W' hW'=>hnm c hc W' (a0b hW hW' hW.size)))
 have HDe:=a0a (fun W E v1 v2 (hW:Below w.heap.size w W) (he:a3v W E v1 v2)=>b4O q hq E p v v1 v2 W (hs.next hW) he (hF.later hW) (GlE.next hg hW))
 have HM:Hid (c1H q p l t rep nm=if (a1v q p l t rep nm).2=0 then c0g (a0s q p&&b0O (a1v q p l t rep nm).1 p) (gsR (a1v q p l t rep nm).1 p.gs p.fin) else .tuple #[.agg #[.bool false,.int .i64 0,.int .i64 0],.int .i64 (a1v q p l t rep nm).2]):=a0a rfl
 generalize c1H q p l t rep nm=DM at *
 generalize a1v q p l t rep nm=MF at *
 obtain⟨E,err⟩:=MF
 dsimp only at *
 obtain⟨a1,c1,a2,c2,a3,c3,a4,c4,a5,c5,rfl,-,-,-,-⟩:=hs.shapes
 obtain⟨ea,ec,rfl,-,-,-⟩:=hE
 obtain⟨Y0,Y1,Y2⟩:=a0n w 32 48 (plL p ⟨.slice a1 p.mets.length c1,.slice a2 p.wins.length c2,.slice a3 p.crons.length c3,.slice a4 p.gs.length c4,.slice a5 p.fin.parts.length c5⟩) [.bool false,.int .i64 0,.int .i64 0]
 have HY0:=a0a Y0
 have HY1:=a0a Y1
 have B0:=a0a Y2
 obtain⟨x0,x1,x2,x3,x4,x5,x6,x7,x8,x9,x10,x11,x12,x13⟩:=Box.c14 Y0
 have xl:=Y0.lt
 clear hs hF hg hok hnm Y0 Y1 Y2
 go_enter Tryz.func14,Tryz.ntmps14
 go_wp2_with fail
 refine ZE (HEn.out _ B0.out) ?_
 rintro e w1 ⟨u1,u2,rfl,he,b⟩
 obtain⟨e1,d1,e2,d2,rfl,rfl⟩:=he.shape
 have HE:=a0a he
 have B1:=kb B0 b
 replace HY0:=kn HY0 b
 replace HY1:=kn HY1 b
 clear x0 x1 x2 x3 x4 x5 x6 x7 x8 x9 x10 x11 x12 x13 xl b he HEn B0
 obtain⟨k0,k1,k2⟩:=Box.c3 HY1.out
 have f0:=HY1.out.free 0 (by simp)
 have f1:=HY1.out.free 1 (by simp)
 have f2:=HY1.out.free 2 (by simp)
 have kl:=HY1.out.lt
 by_cases h0:err=0
 ·subst h0
  have HM2:Hid (DM=c0g (a0s q p&&b0O E p) (gsR E p.gs p.fin)):=a0a (by rw[HM.out];simp)
  obtain⟨b,x,y,z,hdv⟩:=b4u (a0s q p&&b0O E p) (gsR E p.gs p.fin)
  have HDv:=a0a hdv
  clear hdv
  obtain⟨x0,x1,x2,x3,x4,x5,x6,x7,x8,x9,x10,x11,x12,x13⟩:=Box.c14 HY0.out
  have xl:=HY0.out.lt
  have ba:=(ZD w1.heap.size w1).alloc (ZB _) (.cells #[.int .i64 E.rep,.slice e1 E.wins.length d1,.slice e2 E.crons.length d2] 40)
  have BA:=a0a ba
  have B2:=kb B1 ba
  have HE2:=a0a (HE.out.next ba)
  clear ba
  go_wp2_with fail
  refine ZE (HDe.out _ E _ _ B2.out HE2.out) ?_
  rintro e w2 ⟨rfl,b2⟩
  rw[HDv.out]
  have B3:=kb B2 b2
  replace HY1:=a0a (HY1.out.next (a0b BA.out b2 BA.out.size))
  clear b2 k0 k1 k2 f0 f1 f2 kl x0 x1 x2 x3 x4 x5 x6 x7 x8 x9 x10 x11 x12 x13 xl
  obtain⟨k0,k1,k2⟩:=Box.c3 HY1.out
  have f0:=HY1.out.free 0 (by simp)
  have f1:=HY1.out.free 1 (by simp)
  have f2:=HY1.out.free 2 (by simp)
  have kl:=HY1.out.lt
  go_wp2_with fail
  refine bodyPost_ret (v:=.tuple #[.agg #[.bool b,.int .i64 x,.int .i64 y],.int .i64 z]) (by simp[results,Tryz.results14,go_sem, *]) rfl ?_
  exact⟨by rw[HM2.out,HDv.out],((B3.out.setCell (p:=⟨w.heap.size+1,0,none⟩) (by simp) _).setCell (p:=⟨w.heap.size+1,1,none⟩) (by simp) _).setCell (p:=⟨w.heap.size+1,2,none⟩) (by simp) _⟩
 ·have HM2:Hid (DM=.tuple #[.agg #[.bool false,.int .i64 0,.int .i64 0],.int .i64 err]):=a0a (by rw[HM.out,if_neg h0])
  have h0':(err != 0)=true:=by simpa using h0
  clear HDe HM
  go_wp2_with fail
  refine bodyPost_ret (v:=.tuple #[.agg #[.bool false,.int .i64 0,.int .i64 0],.int .i64 err]) (by simp[results,Tryz.results14,go_sem, *]) rfl ?_
  exact⟨by rw[HM2.out],(((B1.out.setCell (p:=⟨w.heap.size+1,0,none⟩) (by simp) _).setCell (p:=⟨w.heap.size+1,1,none⟩) (by simp) _).setCell (p:=⟨w.heap.size+1,2,none⟩) (by simp) _).alloc (by have:=B1.out.size;simp;omega) _⟩
def pl0:PlP:=⟨[⟨#[113]⟩],⟨0,9,9,0,0⟩,[⟨0,1,10,0⟩],[],0,[],⟨30,0,0,[⟨4,0,0,[]⟩]⟩⟩
def ev1:EvP:=⟨1,0,2000001,0⟩
abbrev pv0 (h:Nat):PlV:=⟨.slice (some ⟨h+1,0,none⟩) 1 1,.slice (some ⟨h+1+1,0,none⟩) 1 1,.slice none 0 0,.slice none 0 0,.slice (some ⟨h+1+1+1,0,none⟩) 1 1⟩
theorem c64 (n:Int)(h:(decide (-9223372036854775808<=n/\n<=9223372036854775807))=true):C64 n:=by have:=of_decide_eq_true h;unfold C64;omega
theorem a9p {w:World}{b k:Nat}{cs:List Value}{t:TypeId}(hb:w.heap[b]? = some (Obj.cells cs.toArray t (0,0)))(g:Nat->List Value)(hg:g 0=cs):a0Q w (.slice (some ⟨b,0,none⟩) 1 1) 1 k g:=by
 refine⟨_,1,rfl,ZB _,by omega,.inr ⟨b,0,rfl,(Array.getElem?_eq_some_iff.1 hb).1,fun i hi j x hx=>?_⟩⟩
 have hi0:i=0:=by omega
 subst hi0
 rw[hg] at hx
 have:=(Box.ofBlock hb).cell j x hx
 simpa using this
set_option maxHeartbeats 2000000 in
set_option maxRecDepth 20000 in
theorem b5G (w:World):Calls Tryz.prog 22 #[] w fun r w'=>∃ v,r=.returned (plV pl0 v)/\a4n w' pl0 v/\Below w.heap.size w w':=by
 obtain⟨-,X1,X2,X3,B0,hz⟩:=a6v w 32 9 63 30 (plL pl0 (pv0 w.heap.size)) [.string ⟨#[113]⟩] [.int .i64 0,.int .i64 1,.int .i64 10,.int .i64 0] [.int .i64 4,.int .i64 0,.int .i64 0,.slice none 0 0]
 have H1:=a0a X1
 have H2:=a0a X2
 have H3:=a0a X3
 have HB:=a0a B0
 clear X1 X2 X3 B0 hz
 go_enter Tryz.func22,Tryz.ntmps22
 go_wp2_with fail
 refine bodyPost_ret (v:=plV pl0 (pv0 w.heap.size)) (by simp[results,Tryz.results22,go_sem,pl0]) rfl ?_
 refine⟨pv0 w.heap.size,rfl,?_,HB.out⟩
 refine⟨⟨c64 _ rfl,c64 _ rfl,c64 _ rfl,c64 _ rfl,c64 _ rfl⟩,c64 _ rfl,fun x hx=>?_,(fun x hx=>by cases hx),a9p H1.out _ rfl,a9p H2.out _ rfl,⟨none,0,rfl,by simp[pl0],by omega,.inl rfl⟩,⟨none,0,rfl,by simp[pl0],by omega,.inl rfl⟩,?_⟩
 ·simp only[pl0,List.mem_singleton] at hx
  subst hx
  exact⟨c64 _ rfl,c64 _ rfl,c64 _ rfl,c64 _ rfl⟩
 ·have X:=Box.ofBlock H3.out
  refine a1G.2 ⟨⟨c64 _ rfl,c64 _ rfl,c64 _ rfl⟩,_,1,rfl,by simp[pl0],by omega,.inr ⟨w.heap.size+1+1+1,0,rfl,X.lt,fun i hi=>?_⟩⟩
  have hi0:i=0:=by simp[pl0] at hi;omega
  subst hi0
  exact⟨.slice none 0 0,⟨X.cell 0 _ rfl,X.cell 1 _ rfl,X.cell 2 _ rfl,X.cell 3 _ rfl⟩,a1G.2 ⟨⟨c64 _ rfl,c64 _ rfl,c64 _ rfl⟩,none,0,rfl,by simp[pl0],by omega,.inl rfl⟩⟩
theorem b3u:a2P pl0=[⟨30,0,0,[⟨4,0,0,[]⟩]⟩,⟨4,0,0,[]⟩]:=by
 unfold a2P pl0
 simp[a1P]
theorem b6k:soP pl0 pl0.fin=3:=by
 unfold soP pl0
 rw[a1f]
 simp only[List.map_cons,List.map_nil]
 rw[a1f]
 rfl
theorem a6i (q:Co->Co->Bool):a0s q pl0=true:=by
 have h1:a2T pl0=true:=by decide
 have h2:a4Z pl0=true:=by unfold a4Z;rw[b3u];decide
 have h3:ruB pl0.ru=true:=by decide
 have h4:a3z pl0=true:=by decide
 have h5:a1A pl0=true:=by unfold a1A;rw[b6k];decide
 have h6:a1W q pl0=true:=by unfold a1W;rw[b3u];rfl
 unfold a0s
 rw[h1,h2,h3,h4,h5,h6]
 rfl
theorem b4n:a1y 1 [ev1]=[ev1]:=rfl
theorem c2v:a1D (a1d [ev1]) 9 ⟨0,1,10,0⟩=(0,2000001):=by decide
theorem c2w (q:Co->Co->Bool)(nm:Cr->Bool):a1v q pl0 [ev1] 9 1 nm=(⟨1,[(0,2000001)],[]⟩,0):=by
 unfold a1v
 rw[if_neg (by rw[a6i];simp),if_neg]
 ·show ((⟨1,[a1D (a1d (a1y 1 [ev1])) 9 ⟨0,1,10,0⟩],[]⟩:a0z),(0:Int))=_
  rw[b4n,c2v]
 ·rintro⟨x,hx,hxt⟩
  have hx':x∈[ev1]:=hx
  rw[List.mem_singleton.1 hx'] at hxt
  revert hxt
  decide
theorem c3I:a0e ⟨1,[(0,2000001)],[]⟩ pl0.fin=(3,0):=by
 unfold pl0
 rw[a0g]
 simp only[List.map_cons,List.map_nil]
 rw[a0g]
 rfl
theorem c4K (q:Co->Co->Bool)(nm:Cr->Bool):c1H q pl0 [ev1] 9 1 nm=.tuple #[.agg #[.bool false,.int .i64 0,.int .i64 3],.int .i64 0]:=by
 unfold c1H
 rw[c2w]
 have h:gsR ⟨1,[(0,2000001)],[]⟩ pl0.gs pl0.fin=(3,0):=c3I
 rw[if_pos rfl,h,a6i]
 rfl
theorem c1E:∀ e,e∈[ev1]->b0j e:=fun e he=>by
 rw[List.mem_singleton.1 he]
 exact⟨c64 _ rfl,c64 _ rfl,c64 _ rfl,c64 _ rfl⟩
set_option maxHeartbeats 2000000 in
set_option maxRecDepth 20000 in
theorem b5b (w:World)(hF:a2M w)(hg:GlE w):Calls Tryz.prog 9 #[] w fun r w'=>r=.returned (.bool true)/\Below w.heap.size w w':=by
 classical
 obtain⟨q,hq⟩:∃ q:Co->Co->Bool,∀ a b,q a b=true↔a=b:=⟨fun a b=>decide (a=b),fun a b=>by simp⟩
 have HD:=a0a (fun W v u (hW:Below w.heap.size w W) (hs:a4n W pl0 v) (hE:a4A W u [ev1])=>b3I q hq pl0 v [ev1] u 9 1 W hs (hF.later hW) (GlE.next hg hW) hE c1E (by simp) (by unfold a1n;decide) (c64 _ rfl) (fun _=>false) (fun c hc=>by cases hc))
 simp only[c4K] at HD
 clear hF hg
 go_enter Tryz.func9,Tryz.ntmps9
 go_wp2_with fail
 refine ZE (b5G w) ?_
 rintro e w1 ⟨v,rfl,hs,b1⟩
 obtain⟨a1,c1,a2,c2,a3,c3,a4,c4,a5,c5,rfl,-,-,-,-⟩:=hs.shapes
 have HS:=a0a hs
 have B1:=a0a b1
 clear hs b1
 go_wp2_with fail
 have ba:=(ZD w1.heap.size w1).alloc (ZB _) (.cells #[.int .i64 1,.int .i64 0,.int .i64 2000001,.int .i64 0] 69)
 have B2:=kb B1 ba
 have hE:a4A (w1.alloc (.cells #[.int .i64 1,.int .i64 0,.int .i64 2000001,.int .i64 0] 69)) (.slice (some ⟨w1.heap.size,0,none⟩) 1 1) [ev1]:=a9p (cs:=a3O ev1) (World.alloc_heap_new w1 _) _ rfl
 refine ZE (HD.out _ _ _ B2.out (HS.out.next ba) hE) ?_
 rintro e w2 ⟨rfl,b2⟩
 have B3:=kb B2 b2
 clear ba hE b2 HD HS
 go_wp2_with fail
 go_ret
 exact⟨rfl,B3.out.alloc B3.out.size _⟩
end Go.Proofs.YtbddbnjhmdbkbaaGreatDoor
