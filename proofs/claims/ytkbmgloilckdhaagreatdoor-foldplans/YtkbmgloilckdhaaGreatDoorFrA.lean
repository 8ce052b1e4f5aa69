import Derived.Test.YtkbmgloilckdhaaGreatDoorMfA
import Derived.Test.YtkbmgloilckdhaaGreatDoorMrB
import Derived.Test.YtkbmgloilckdhaaGreatDoorMfE
import Derived.Test.YtkbmgloilckdhaaGreatDoorMkA
import Derived.Test.YtkbmgloilckdhaaGreatDoorMhM
namespace Go.Proofs.YtkbmgloilckdhaaGreatDoor
open Go.RowKit
set_option maxHeartbeats 1000000 in
theorem b1c (w:World):Calls Tryz.prog 15 #[] w fun e w'=>∃ fb,e=.returned (foV fb)/\Box w' fb [foV fb]/\w.heap.size<=fb/\Below w.heap.size w w':=by
 have B:=a0a ((Below.refl w.heap.size w).alloc (Nat.le_refl _) (.cells #[foV w.heap.size] 45))
 go_enter Tryz.func15,Tryz.ntmps15
 go_wp2_with fail
 go_ret
 exact⟨_,rfl,Box.new w [foV w.heap.size] _,Nat.le_refl _,B.out⟩
theorem a6W {ops:Array Oper}{o:Oper}{a:Act}{w:World}{K:Act->World->Prop}{Q:Exit->Act->World->Prop}{E:Prop}(hgd:o.guard=none){t D:Co}(hD:D=a0g t)(hc:b8f t)(v:Value)(fb:Nat)(hs:a0m w t v)(hb:Box w fb [foV fb])(hg:GlE w)
 (he:(execOp a.eval o).run Tryz.prog w=.ok (.enter 26 #[coV t v,.pointer (some ⟨fb,0,none⟩)]) w)
 (hK:∀ ad c w',CSP (fun b=>w.heap.size<=b) w' D (.slice ad D.parts.length c)->Below w.heap.size w w'->K (a.put o.dst (coV D (.slice ad D.parts.length c))) w') :
 if Region.wanted o (yielded ops a.tmps)=true then Oper.wp Tryz.prog o a w K Q else E:=by
 have hwd:Region.wanted o (yielded ops a.tmps)=true:=by simp[Region.wanted,hgd]
 rw[if_pos hwd]
 unfold Oper.wp
 rw[he,Oper.upon_enter]
 refine(a4C t v fb w hs hb hg hc.so hc.no).mono fun e w' h=>?_
 subst hD
 obtain⟨u,rfl,h1,h3⟩:=h
 obtain⟨ad,c,rfl,-,-⟩:=h1.parts.shape
 exact hK ad c w' h1 h3
theorem b2X (w:World):a3c w a6k ⟨.slice none 0 0,.slice none 0 0,.slice none 0 0,.slice none 0 0,.slice none 0 0⟩:=
 ⟨⟨a0o,a0o,a0o,a0o,a0o⟩,a0o,(fun x hx=>by cases hx),(fun x hx=>by cases hx),⟨none,0,rfl,Nat.le_refl _,by omega,.inl rfl⟩,⟨none,0,rfl,Nat.le_refl _,by omega,.inl rfl⟩,⟨none,0,rfl,Nat.le_refl _,by omega,.inl rfl⟩,⟨none,0,rfl,Nat.le_refl _,by omega,.inl rfl⟩,(CSP.leaf (ok:=fun _=>True) _ ⟨a0o,a0o,a0o⟩).sits⟩
def gsK (gs:List (Co×Co))(k:Nat):List (Co×Co):=(gs.take k).map a5o++gs.drop k
theorem b3y (gs:List (Co×Co)):gsK gs 0=gs:=by simp[gsK]
theorem b6d (gs:List (Co×Co)):gsK gs gs.length=gs.map a5o:=by simp[gsK]
theorem b6c (gs:List (Co×Co))(k:Nat):(gsK gs k).length=gs.length:=by simp[gsK];omega
theorem b7J (gs:List (Co×Co))(k:Nat)(hk:k<gs.length)(h:k<(gsK gs k).length):(gsK gs k)[k]=gs[k]:=by
 have h2:(gsK gs k)[k]? = some gs[k]:=by
  unfold gsK
  rw[List.getElem?_append_right (by simp;omega)]
  simp[Nat.min_eq_left (Nat.le_of_lt hk),hk]
 rw[List.getElem?_eq_getElem h] at h2
 exact Option.some.inj h2
theorem b3z (gs:List (Co×Co))(k:Nat)(hk:k<gs.length):gsK gs (k+1)=(gsK gs k).set k (a5o gs[k]):=by
 unfold gsK
 rw[List.set_append_right _ _ (by simp;omega),List.take_succ_eq_append_getElem hk,List.map_append,List.append_assoc]
 congr 1
 have e:k-((gs.take k).map a5o).length=0:=by simp;omega
 rw[e,List.drop_eq_getElem_cons hk]
 rfl
set_option maxHeartbeats 4000000 in
set_option maxRecDepth 20000 in
theorem b6k (hcl:∀ (s:ByteArray) (W:World),s.size<=140737488355328->Calls Tryz.prog 29 #[.string s] W fun e w'=>e=.returned (.string s)/\Below W.heap.size W w')(q:Co->Co->Bool)(hq:∀ a b,q a b=true↔a=b)(p:PlP)(v:PlV)(w:World)(hs:a3c w p v)(hp:PWt p)(hF:a3t w)(hg:GlE w):
 Calls Tryz.prog 6 #[plV p v] w fun e w'=>∃ u,e=.returned (.tuple #[plV (a2N q p).1 u,.int .i64 (a2N q p).2])/\a3c w' (a2N q p).1 u/\Below w.heap.size w w':=by
 have HFo:=a0a (fun W (hW:Below w.heap.size w W)=>b1P q hq p v W (hF.later hW) (hs.next hW))
 have HCp:=a0a (fun W (hW:Below w.heap.size w W)=>b7Q hcl p v W (hs.next hW) hp)
 have HFl:=a0a (fun (c:Co) x fb W (hc:b8f c) (hx:a0m W c x) (hb:Box W fb [foV fb]) (hW:Below w.heap.size w W)=>a4C c x fb W hx hb (GlE.next hg hW) hc.so hc.no)
 have HGl:Hid (p.gs.length*96<=140737488355328):=hp.gs
 have HPl:=a0a (fun W u s0 s1 s2 s3 s4 s5 (h:b2j W p u s0 s1 s2 s3 s4 s5)=>h.plan hs)
 have HPs:=a0a hs
 have HOk:=a0a (fun h:a1f q p=true=>a8v h)
 obtain⟨a1,c1,a2,c2,a3,c3,a4,c4,a5,c5,rfl,g1,g2,g3,g4⟩:=hs.shapes
 obtain⟨Y0,Y1,Y2⟩:=a0e w 32 32 (plL p ⟨.slice a1 p.mets.length c1,.slice a2 p.wins.length c2,.slice a3 p.crons.length c3,.slice a4 p.gs.length c4,.slice a5 p.fin.parts.length c5⟩) [.slice none 0 0,.int .i64 0,.int .i64 0,.int .i64 0,.int .i64 0,.int .i64 0,.slice none 0 0,.slice none 0 0,.int .i64 0,.slice none 0 0,.int .i64 0,.int .i64 0,.int .i64 0,.slice none 0 0]
 have HY0:=a0a Y0
 have HY1:=a0a Y1
 have B0:=a0a Y2
 have HGl0:=a0a hg
 clear hs Y0 Y1 Y2 hcl hp g1 g2 g3 g4 hq hF hg
 obtain⟨R,hR⟩:∃ R,Hid (R=a2N q p):=⟨_,rfl⟩
 rw[<-hR.out]
 cases hf:a1f q p with
 | false=>
   obtain rfl:R=(a6k,1):=by rw[hR.out];unfold a2N;rw[hf];rfl
   rw[hf] at HFo
   clear HCp HFl HOk HPl hR hf
   obtain⟨x0,x1,x2,x3,x4,x5,x6,x7,x8,x9,x10,x11,x12,x13⟩:=Box.c14 HY0.out
   have xl:=HY0.out.lt
   go_enter Tryz.func6,Tryz.ntmps6
   go_wp2_with fail
   refine Calls.mono (HFo.out _ B0.out) ?_
   rintro e w1 ⟨rfl,b1⟩
   have B1:=kb B0 b1
   replace HY1:=kn HY1 b1
   clear b1 HFo HY0 x0 x1 x2 x3 x4 x5 x6 x7 x8 x9 x10 x11 x12 x13 xl
   obtain⟨y0,y1,y2,y3,y4,y5,y6,y7,y8,y9,y10,y11,y12,y13⟩:=Box.c14 HY1.out
   have yl:=HY1.out.lt
   have g0:=HY1.out.free 0 (by simp)
   have g1:=HY1.out.free 1 (by simp)
   have g2:=HY1.out.free 2 (by simp)
   have g3:=HY1.out.free 3 (by simp)
   have g4:=HY1.out.free 4 (by simp)
   have g5:=HY1.out.free 5 (by simp)
   have g6:=HY1.out.free 6 (by simp)
   have g7:=HY1.out.free 7 (by simp)
   have g8:=HY1.out.free 8 (by simp)
   have g9:=HY1.out.free 9 (by simp)
   have g10:=HY1.out.free 10 (by simp)
   have g11:=HY1.out.free 11 (by simp)
   have g12:=HY1.out.free 12 (by simp)
   have g13:=HY1.out.free 13 (by simp)
   go_wp2_with fail
   refine bodyPost_ret (v:=.tuple #[plV a6k ⟨.slice none 0 0,.slice none 0 0,.slice none 0 0,.slice none 0 0,.slice none 0 0⟩,.int .i64 1]) (by simp[results,Tryz.results6,go_sem,a6k,co0, *]) rfl ?_
   exact⟨_,rfl,b2X _,a2E (g:=w.heap.size+1) B1.out (a0c (a0c (a0c (a0c (a0c (a0c (a0c (a0c (a0c (a0c (a0c (a0c (a0c (a0p.set w1 _ _ (by simp)) (a0p.set _ _ _ (by simp))) (a0p.set _ _ _ (by simp))) (a0p.set _ _ _ (by simp))) (a0p.set _ _ _ (by simp))) (a0p.set _ _ _ (by simp))) (a0p.set _ _ _ (by simp))) (a0p.set _ _ _ (by simp))) (a0p.set _ _ _ (by simp))) (a0p.set _ _ _ (by simp))) (a0p.set _ _ _ (by simp))) (a0p.set _ _ _ (by simp))) (a0p.set _ _ _ (by simp))) (a0p.set _ _ _ (by simp))) (by omega) B1.out.size⟩
 | true=>
   obtain rfl:R=(a6x p,0):=by rw[hR.out];unfold a2N;rw[hf];rfl
   replace HOk:=a0a (HOk.out hf)
   rw[hf] at HFo
   clear hR hf
   obtain⟨x0,x1,x2,x3,x4,x5,x6,x7,x8,x9,x10,x11,x12,x13⟩:=Box.c14 HY0.out
   have xl:=HY0.out.lt
   go_enter Tryz.func6,Tryz.ntmps6
   go_wp2_with fail
   refine Calls.mono (HFo.out _ B0.out) ?_
   rintro e w1 ⟨rfl,b1⟩
   have B1:=kb B0 b1
   replace HY0:=kn HY0 b1
   replace HY1:=kn HY1 b1
   clear b1 HFo x0 x1 x2 x3 x4 x5 x6 x7 x8 x9 x10 x11 x12 x13 xl B0
   go_wp2_with fail
   refine Calls.mono (b1c _) ?_
   rintro e w2 ⟨fb,rfl,bx,hfb,b1⟩
   have HBx:=a0a bx
   have HFb:Hid (w.heap.size+1<fb):=a0a (by have:=HY1.out.lt;omega)
   have B2:=kb B1 b1
   replace HY0:=kn HY0 b1
   replace HY1:=kn HY1 b1
   have HBxl:Hid (fb<w2.heap.size):=a0a bx.lt
   clear b1 B1 bx hfb
   obtain⟨x0,x1,x2,x3,x4,x5,x6,x7,x8,x9,x10,x11,x12,x13⟩:=Box.c14 HY0.out
   have xl:=HY0.out.lt
   go_wp2_with fail
   refine Calls.mono (HCp.out _ B2.out) ?_
   rintro e w3 ⟨u,s0,s1,s2,s3,s4,s5,rfl,cp,hs0,b1⟩
   have B3:=kb B2 b1
   have Z2:=a0a B2.out.size
   replace HY0:=kn HY0 b1
   replace HY1:=kn HY1 b1
   replace HBx:=a0a (HBx.out.next b1)
   have HCo:=a0a cp
   have HFs:Hid (fb<s0):=a0a (by have:=HBxl.out;omega)
   clear b1 x0 x1 x2 x3 x4 x5 x6 x7 x8 x9 x10 x11 x12 x13 xl HCp
   obtain⟨d1,e1,d2,e2,d3,e3,d4,e4,d5,e5,rfl,-,-,-,-⟩:=(HPl.out _ _ _ _ _ _ _ _ cp).shapes
   clear cp
   obtain⟨x0,x1,x2,x3,x4,x5,x6,x7,x8,x9,x10,x11,x12,x13⟩:=Box.c14 HY0.out
   have xl:=HY0.out.lt
   have f0:=HY0.out.free 0 (by simp)
   have f1:=HY0.out.free 1 (by simp)
   have f2:=HY0.out.free 2 (by simp)
   have f3:=HY0.out.free 3 (by simp)
   have f4:=HY0.out.free 4 (by simp)
   have f5:=HY0.out.free 5 (by simp)
   have f6:=HY0.out.free 6 (by simp)
   have f7:=HY0.out.free 7 (by simp)
   have f8:=HY0.out.free 8 (by simp)
   have f9:=HY0.out.free 9 (by simp)
   have f10:=HY0.out.free 10 (by simp)
   have f11:=HY0.out.free 11 (by simp)
   have f12:=HY0.out.free 12 (by simp)
   have f13:=HY0.out.free 13 (by simp)
   go_wp2_with fail
   have T4:a0p [w.heap.size] w3 (((((((((((((((w3.setCell ⟨w.heap.size,0,none⟩ (.slice d1 p.mets.length e1)).setCell ⟨w.heap.size,1,none⟩ (.int .i64 p.ru.mn)).setCell ⟨w.heap.size,2,none⟩ (.int .i64 p.ru.mx)).setCell ⟨w.heap.size,3,none⟩ (.int .i64 p.ru.st)).setCell ⟨w.heap.size,4,none⟩ (.int .i64 p.ru.up)).setCell ⟨w.heap.size,5,none⟩ (.int .i64 p.ru.dn)).setCell ⟨w.heap.size,6,none⟩ (.slice d2 p.wins.length e2)).setCell ⟨w.heap.size,7,none⟩ (.slice d3 p.crons.length e3)).setCell ⟨w.heap.size,8,none⟩ (.int .i64 p.loc)).setCell ⟨w.heap.size,9,none⟩ (.slice d4 p.gs.length e4)).setCell ⟨w.heap.size,10,none⟩ (.int .i64 p.fin.op)).setCell ⟨w.heap.size,11,none⟩ (.int .i64 p.fin.n)).setCell ⟨w.heap.size,12,none⟩ (.int .i64 p.fin.m)).setCell ⟨w.heap.size,13,none⟩ (.slice d5 p.fin.parts.length e5))):=(a0c (a0c (a0c (a0c (a0c (a0c (a0c (a0c (a0c (a0c (a0c (a0c (a0c (a0p.set w3 _ _ (by simp)) (a0p.set _ _ _ (by simp))) (a0p.set _ _ _ (by simp))) (a0p.set _ _ _ (by simp))) (a0p.set _ _ _ (by simp))) (a0p.set _ _ _ (by simp))) (a0p.set _ _ _ (by simp))) (a0p.set _ _ _ (by simp))) (a0p.set _ _ _ (by simp))) (a0p.set _ _ _ (by simp))) (a0p.set _ _ _ (by simp))) (a0p.set _ _ _ (by simp))) (a0p.set _ _ _ (by simp))) (a0p.set _ _ _ (by simp)))
   have Y4:Box (((((((((((((((w3.setCell ⟨w.heap.size,0,none⟩ (.slice d1 p.mets.length e1)).setCell ⟨w.heap.size,1,none⟩ (.int .i64 p.ru.mn)).setCell ⟨w.heap.size,2,none⟩ (.int .i64 p.ru.mx)).setCell ⟨w.heap.size,3,none⟩ (.int .i64 p.ru.st)).setCell ⟨w.heap.size,4,none⟩ (.int .i64 p.ru.up)).setCell ⟨w.heap.size,5,none⟩ (.int .i64 p.ru.dn)).setCell ⟨w.heap.size,6,none⟩ (.slice d2 p.wins.length e2)).setCell ⟨w.heap.size,7,none⟩ (.slice d3 p.crons.length e3)).setCell ⟨w.heap.size,8,none⟩ (.int .i64 p.loc)).setCell ⟨w.heap.size,9,none⟩ (.slice d4 p.gs.length e4)).setCell ⟨w.heap.size,10,none⟩ (.int .i64 p.fin.op)).setCell ⟨w.heap.size,11,none⟩ (.int .i64 p.fin.n)).setCell ⟨w.heap.size,12,none⟩ (.int .i64 p.fin.m)).setCell ⟨w.heap.size,13,none⟩ (.slice d5 p.fin.parts.length e5))) w.heap.size (plL p ⟨.slice d1 p.mets.length e1,.slice d2 p.wins.length e2,.slice d3 p.crons.length e3,.slice d4 p.gs.length e4,.slice d5 p.fin.parts.length e5⟩):=((((((((((((((HY0.out.set 0 (by simp) _).set 1 (by simp) _).set 2 (by simp) _).set 3 (by simp) _).set 4 (by simp) _).set 5 (by simp) _).set 6 (by simp) _).set 7 (by simp) _).set 8 (by simp) _).set 9 (by simp) _).set 10 (by simp) _).set 11 (by simp) _).set 12 (by simp) _).set 13 (by simp) _)
   generalize (((((((((((((((w3.setCell ⟨w.heap.size,0,none⟩ (.slice d1 p.mets.length e1)).setCell ⟨w.heap.size,1,none⟩ (.int .i64 p.ru.mn)).setCell ⟨w.heap.size,2,none⟩ (.int .i64 p.ru.mx)).setCell ⟨w.heap.size,3,none⟩ (.int .i64 p.ru.st)).setCell ⟨w.heap.size,4,none⟩ (.int .i64 p.ru.up)).setCell ⟨w.heap.size,5,none⟩ (.int .i64 p.ru.dn)).setCell ⟨w.heap.size,6,none⟩ (.slice d2 p.wins.length e2)).setCell ⟨w.heap.size,7,none⟩ (.slice d3 p.crons.length e3)).setCell ⟨w.heap.size,8,none⟩ (.int .i64 p.loc)).setCell ⟨w.heap.size,9,none⟩ (.slice d4 p.gs.length e4)).setCell ⟨w.heap.size,10,none⟩ (.int .i64 p.fin.op)).setCell ⟨w.heap.size,11,none⟩ (.int .i64 p.fin.n)).setCell ⟨w.heap.size,12,none⟩ (.int .i64 p.fin.m)).setCell ⟨w.heap.size,13,none⟩ (.slice d5 p.fin.parts.length e5)))=w4 at *
   have hsz4:Hid (w.heap.size+1+1<=w3.heap.size):=a0a (by have:=HY1.out.lt;omega)
   have hcop:b2j w4 p ⟨.slice d1 p.mets.length e1,.slice d2 p.wins.length e2,.slice d3 p.crons.length e3,.slice d4 p.gs.length e4,.slice d5 p.fin.parts.length e5⟩ s0 s1 s2 s3 s4 s5:=HCo.out.keep T4.size (fun b h1 h2=>T4.block b (by have:=HCo.out.top;omega) (by have h1:=HFb.out;have h2:=HFs.out;simp;omega))
   replace HCo:=a0a hcop
   replace HY0:=a0a Y4
   replace HY1:Hid (Box w4 (w.heap.size+1) [.slice none 0 0,.int .i64 0,.int .i64 0,.int .i64 0,.int .i64 0,.int .i64 0,.slice none 0 0,.slice none 0 0,.int .i64 0,.slice none 0 0,.int .i64 0,.int .i64 0,.int .i64 0,.slice none 0 0]):=a0a (a1T HY1.out T4 (by simp))
   replace HBx:Hid (Box w4 fb [foV fb]):=a0a (a1T HBx.out T4 (by simp;have:=HFb.out;omega))
   have B4:=a0a (a2E B3.out T4 (Nat.le_refl _) B3.out.size)
   clear T4 Y4 hcop B3 x0 x1 x2 x3 x4 x5 x6 x7 x8 x9 x10 x11 x12 x13 xl f0 f1 f2 f3 f4 f5 f6 f7 f8 f9 f10 f11 f12 f13
   have HPw:=a0a (HPl.out _ _ _ _ _ _ _ _ HCo.out)
   obtain⟨N,hN⟩:∃ N,Hid (N=p.gs.length):=⟨_,rfl⟩
   rw[<-hN.out] at HY0 ⊢
   have hNb:N<=1466015503702:=by have:=HGl.out;rw[hN.out];omega
   have hG0:∃ gb xs,Hid (0<N->d4=some ⟨gb,0,none⟩/\e4=N/\GOn gb p.gs xs w4)/\Hid (∀ b,b<w4.heap.size->b<s3\/s4<=b->b≠gb):=by
    by_cases h0:0<N
    ·obtain⟨gb,xs,e,h1,h2,h3⟩:=a9x HPs.out.gs HCo.out.gs (by rw[<-hN.out];exact h0)
     simp only[Value.slice.injEq] at e
     exact⟨gb,xs,a0a (fun _=>⟨e.1,e.2.2.trans hN.out.symm,h3⟩),a0a (fun b _ hb=>by omega)⟩
    ·exact⟨w4.heap.size,[],a0a (fun h=>absurd h h0),a0a (fun b hb _=>by omega)⟩
   obtain⟨gb,xs0,hG,hGb⟩:=hG0
   have hG1:Hid (0<N->GOn gb (gsK p.gs 0) xs0 w4):=fun h=>by rw[b3y];exact(hG.out h).2.2
   go_loopw [17] (fun i wr=>∃ (k:Nat) (xs:List GPr),i=.int .i64 (k:Nat)/\k<=N/\Hid (0<N->GOn gb (gsK p.gs k) xs wr)/\Hid (a0p [gb] w4 wr)) (fun i _=>match i with | .int _ z=>((N:Int)-z).toNat | _=>0)
   case atStart=>exact⟨0,xs0,rfl,by omega,hG1,a0a (a0p.refl _ _)⟩
   case round=>
    obtain⟨k,xs,rfl,hk,HI,HT⟩:=hrel
    by_cases hlt:k<N
    ·have hlt':(k:Int)<(N:Int):=by omega
     have hl1:k<p.gs.length:=by rw[<-hN.out];exact hlt
     obtain⟨rfl,rfl,-⟩:=hG.out (by omega)
     have HGn:=a0a (HI.out (by omega))
     have hgk:k<(gsK p.gs k).length:=by rw[b6c];exact hl1
     have hxk:k<xs.length:=by rw[HGn.out.len];exact hgk
     obtain⟨i1,i2,i3,i4⟩:=HGn.out.it k hgk hxk
     rw[b7J p.gs k hl1 hgk] at i1 i2 i3 i4
     have hok:=HOk.out.1 _ (List.getElem_mem hl1)
     have HSu:=a0a (b3z p.gs k hl1)
     have HCe:Hid (∀ j u,(coL xs[k].1.1 xs[k].1.2++coL xs[k].2.1 xs[k].2.2)[j]? = some u->(flG xs)[k*8+j]? = some u):=fun j u h=>a4V xs k hxk j u h
     have HFr:Hid (∀ j,j<8->k*8+j<(flG xs).length):=fun j hj=>by rw[a4l];omega
     have HMo:=a0a (fun (a b:Co) u1 u2 W (hG:GOn gb (gsK p.gs k) xs W) ha hb=>GOn.more (u1:=u1) (u2:=u2) hG hgk (a:=a) (b:=b) ha hb)
     rw[i1,i2] at HCe
     generalize xs[k]=xk at *
     obtain⟨⟨x1,ux⟩,⟨x2,uy⟩⟩:=xk
     generalize p.gs[k]=t at *
     obtain⟨tx,ty⟩:=t
     dsimp only at *
     obtain⟨a5',c5',rfl,-,-⟩:=i3.parts.shape
     obtain⟨a6',c6',rfl,-,-⟩:=i4.parts.shape
     have hwgb:w.heap.size≠gb:=hGb.out _ (by have:=HY0.out.lt;omega) (.inl (by have h1:=HFb.out;have h2:=HFs.out;have h3:=HCo.out.le;omega))
     have hfgb:fb≠gb:=hGb.out _ HBx.out.lt (.inl (by have h2:=HFs.out;have h3:=HCo.out.le;omega))
     have Y0:=a1T HY0.out HT.out (by simpa using hwgb)
     have HYr:=a0a Y0
     have HBr:Hid (Box wr fb [foV fb]):=a0a (a1T HBx.out HT.out (by simpa using hfgb))
     have hgw:w.heap.size<=gb:=by
      by_cases h:gb<w.heap.size
      ·exact absurd rfl (hGb.out gb (by have:=HY0.out.lt;omega) (.inl (by have h1:=HFb.out;have h2:=HFs.out;have h3:=HCo.out.le;omega)))
      ·omega
     have HWr:Hid (Below w.heap.size w wr):=a0a (a2E B4.out HT.out hgw B4.out.size)
     have hgl:gb<wr.heap.size:=HGn.out.box.lt
     have z0:=HGn.out.box.cell (k*8) _ (HCe.out 0 _ rfl)
     have z1:=HGn.out.box.cell (k*8+1) _ (HCe.out 1 _ rfl)
     have z2:=HGn.out.box.cell (k*8+2) _ (HCe.out 2 _ rfl)
     have z3:=HGn.out.box.cell (k*8+3) _ (HCe.out 3 _ rfl)
     have z4:=HGn.out.box.cell (k*8+4) _ (HCe.out 4 _ rfl)
     have z5:=HGn.out.box.cell (k*8+5) _ (HCe.out 5 _ rfl)
     have z6:=HGn.out.box.cell (k*8+6) _ (HCe.out 6 _ rfl)
     have z7:=HGn.out.box.cell (k*8+7) _ (HCe.out 7 _ rfl)
     have X9:=Y0.cell 9 _ rfl
     have xl:=Y0.lt
     have BA:=a0a ((Below.refl wr.heap.size wr).alloc (Nat.le_refl _) (.cells #[.int .i64 tx.op,.int .i64 tx.n,.int .i64 tx.m,.slice a5' tx.parts.length c5',.int .i64 ty.op,.int .i64 ty.n,.int .i64 ty.m,.slice a6' ty.parts.length c6'] 49))
     have HGb:=a0a (Box.new wr [.int .i64 tx.op,.int .i64 tx.n,.int .i64 tx.m,.slice a5' tx.parts.length c5',.int .i64 ty.op,.int .i64 ty.n,.int .i64 ty.m,.slice a6' ty.parts.length c6'] 49)
     have HSx:=a0a (fun W (hW:Below wr.heap.size wr W)=>i3.sits.next hW)
     have HSy:=a0a (fun W (hW:Below wr.heap.size wr W)=>i4.sits.next hW)
     have HBf:=a0a (fun W (hW:Below wr.heap.size wr W)=>HBr.out.next hW)
     have HGg:=a0a (fun W (hW:Below wr.heap.size wr W)=>GlE.next HGl0.out (a0b HWr.out hW HWr.out.size))
     have hok1:=a0a hok.1
     have hok2:=a0a hok.2
     have HGw:=a0a (fun W (hW:Below wr.heap.size wr W)=>HGn.out.next hW)
     obtain⟨X1,hX1⟩:∃ X,Hid (X=a0g tx):=⟨_,rfl⟩
     obtain⟨X2,hX2⟩:∃ X,Hid (X=a0g ty):=⟨_,rfl⟩
     have HSu2:Hid (gsK p.gs (k+1)=(gsK p.gs k).set k (X1,X2)):=a0a (by rw[HSu.out,hX1.out,hX2.out];rfl)
     have lga:wr.heap.size<wr.heap.size+1:=by omega
     clear i1 i2 i3 i4 hok HSu Y0
     go_wp2_with fail
     obtain⟨ga,hga⟩:∃ ga,Hid (ga=wr.heap.size):=⟨_,rfl⟩
     rw[<-hga.out] at HGb ⊢
     have hga2:Hid (gb<ga):=a0a (by rw[hga.out];exact hgl)
     have xl2:=Nat.lt_of_lt_of_le xl BA.out.size
     have X92:=(BA.out.cell (p:=⟨w.heap.size,9,none⟩) xl).trans X9
     generalize hwa:wr.alloc _=wa at *
     clear hwa X9 xl z0 z1 z2 z3 z4 z5 z6 z7
     have X9:wa.cell? ⟨w.heap.size,9,none⟩=some (.slice (some ⟨gb,0,none⟩) e4 e4):=X92
     have xl:=xl2
     clear X92 xl2
     obtain⟨t0,t1,t2,t3⟩:=Box.c4 HGb.out
     have t4:=HGb.out.cell 4 _ rfl
     have t5:=HGb.out.cell 5 _ rfl
     have t6:=HGb.out.cell 6 _ rfl
     have t7:=HGb.out.cell 7 _ rfl
     have tl:=HGb.out.lt
     have HYw:=a0a (fun W (hW:Below wr.heap.size wr W)=>a1T (S:=[]) (w:=wr) (w':=W) HYr.out ⟨hW.os,hW.tape,hW.output,hW.size,fun q hq _=>hW.block q hq⟩ (by simp))
     go_region_law (first
      | (refine a6W rfl hX2.out hok2.out (.slice a6' ty.parts.length c6') fb (HSy.out _ B60.out) (HBf.out _ B60.out) (HGg.out _ B60.out) (by first | rfl | go_simp) ?_;intro a61 c61 w61 s61 b61;have B61:=kb B60 b61;have G61:=a0a (HGw.out _ B61.out);have Z61:=HYw.out _ B61.out;have q61:=Z61.cell 9 _ rfl;have ql61:=Z61.lt;have v0:=G61.out.box.cell (k*8) _ (HCe.out 0 _ rfl);have f0:=G61.out.box.free (k*8) (HFr.out 0 (by decide));have v1:=G61.out.box.cell (k*8+1) _ (HCe.out 1 _ rfl);have f1:=G61.out.box.free (k*8+1) (HFr.out 1 (by decide));have v2:=G61.out.box.cell (k*8+2) _ (HCe.out 2 _ rfl);have f2:=G61.out.box.free (k*8+2) (HFr.out 2 (by decide));have v3:=G61.out.box.cell (k*8+3) _ (HCe.out 3 _ rfl);have f3:=G61.out.box.free (k*8+3) (HFr.out 3 (by decide));have v4:=G61.out.box.cell (k*8+4) _ (HCe.out 4 _ rfl);have f4:=G61.out.box.free (k*8+4) (HFr.out 4 (by decide));have v5:=G61.out.box.cell (k*8+5) _ (HCe.out 5 _ rfl);have f5:=G61.out.box.free (k*8+5) (HFr.out 5 (by decide));have v6:=G61.out.box.cell (k*8+6) _ (HCe.out 6 _ rfl);have f6:=G61.out.box.free (k*8+6) (HFr.out 6 (by decide));have v7:=G61.out.box.cell (k*8+7) _ (HCe.out 7 _ rfl);have f7:=G61.out.box.free (k*8+7) (HFr.out 7 (by decide));have gl61:=G61.out.box.lt;have S61:=a0a s61;have b61':=a0a b61;clear b61 s61 Z61)
      | (refine a6W rfl hX1.out hok1.out (.slice a5' tx.parts.length c5') fb (HSx.out _ (a0b BA.out (Below.refl _ _).drew BA.out.size)) (HBf.out _ (a0b BA.out (Below.refl _ _).drew BA.out.size)) (HGg.out _ (a0b BA.out (Below.refl _ _).drew BA.out.size)) (by first | rfl | go_simp) ?_;intro a60 c60 w60 s60 b60;have K60:=a0a (a0b (Below.refl wa.heap.size wa).drew b60 (Below.refl wa.heap.size wa).drew.size);have B60:=a0a (a0b BA.out K60.out BA.out.size);have Y60:=HGb.out.next K60.out;have d4:=Y60.cell 4 _ rfl;have d5:=Y60.cell 5 _ rfl;have d6:=Y60.cell 6 _ rfl;have d7:=Y60.cell 7 _ rfl;have l60:=Y60.lt;have Z60:=HYw.out _ B60.out;have q60:=Z60.cell 9 _ rfl;have ql60:=Z60.lt;have S60:=a0a s60;clear b60 s60 Y60 Z60))
     all_goals go_wp2_with fail
     all_goals (
      have b61'':Below w60.heap.size w60 w61:=⟨b61'.out.os,b61'.out.tape,b61'.out.output,b61'.out.size,b61'.out.block⟩
      have hgw2:gb<wa.heap.size:=Nat.lt_of_lt_of_le hgl BA.out.size
      have hgw3:wr.heap.size<=w60.heap.size:=B60.out.size
      have S60':CSP (fun b=>wa.heap.size<=b) w60 X1 (.slice a60 X1.parts.length c60):=S60.out
      have S61':CSP (fun b=>w60.heap.size<=b) w61 X2 (.slice a61 X2.parts.length c61):=S61.out
      have ha:=(S60'.next b61'').weak (ok':=fun b=>gb<b) (fun b _ hb=>Nat.lt_of_lt_of_le hgw2 hb)
      have hb:=S61'.weak (ok':=fun b=>gb<b) (fun b _ hb=>Nat.lt_of_lt_of_le (Nat.lt_of_lt_of_le hgl hgw3) hb)
      have TT:a0p [gb] wr w61:=⟨B61.out.os,B61.out.tape,B61.out.output,B61.out.size,fun q hq _=>B61.out.block q hq⟩
      exact⟨⟨k+1,_,rfl,by omega,a0a (fun _=>by rw[HSu2.out];exact HMo.out X1 X2 _ _ w61 G61.out ha hb),a0a (a0c (a0c HT.out TT) (a7n w61 gb k X1 X2 _ _))⟩,by simp;omega⟩)
    ·have hlt':¬(k:Int)<(N:Int):=by omega
     obtain rfl:k=N:=by omega
     have hw3:Hid (w.heap.size+1<s3):=a0a (by have h1:=HFb.out;have h2:=HFs.out;have h3:=HCo.out.le;omega)
     have hwgb:w.heap.size≠gb:=hGb.out _ (by have:=HY0.out.lt;omega) (.inl (by have:=hw3.out;omega))
     have hwgb1:w.heap.size+1≠gb:=hGb.out _ (by have:=HY1.out.lt;omega) (.inl (by have:=hw3.out;omega))
     have hfgb:fb≠gb:=hGb.out _ HBx.out.lt (.inl (by have h2:=HFs.out;have h3:=HCo.out.le;omega))
     have HYr:=a0a (a1T HY0.out HT.out (by simpa using hwgb))
     have HYs:=a0a (a1T HY1.out HT.out (by simpa using hwgb1))
     have HBr:Hid (Box wr fb [foV fb]):=a0a (a1T HBx.out HT.out (by simpa using hfgb))
     have hgw:w.heap.size<=gb:=by
      by_cases h:gb<w.heap.size
      ·exact absurd rfl (hGb.out gb (by have:=HY0.out.lt;omega) (.inl (by have:=hw3.out;omega)))
      ·omega
     have HWr:Hid (Below w.heap.size w wr):=a0a (a2E B4.out HT.out hgw B4.out.size)
     have HSF:=a0a (a2L (a4m _ _ _ _ _ HPs.out.fi HCo.out.fi) HT.out (fun b hb ho=>by simpa using hGb.out b hb (.inr ho)))
     have HSf:=a0a (fun W (hW:Below wr.heap.size wr W)=>HSF.out.sits.next hW)
     have HBf:=a0a (fun W (hW:Below wr.heap.size wr W)=>HBr.out.next hW)
     have HGg:=a0a (fun W (hW:Below wr.heap.size wr W)=>GlE.next HGl0.out (a0b HWr.out hW HWr.out.size))
     obtain⟨Dn,hDn⟩:∃ X,Hid (X=a0g p.fin):=⟨_,rfl⟩
     have hokf:=a0a HOk.out.2
     have HYo:=a0a (fun W (hW:Below wr.heap.size wr W)=>HYr.out.next hW)
     have HYp:=a0a (fun W (hW:Below wr.heap.size wr W)=>HYs.out.next hW)
     have x10:=HYr.out.cell 10 _ rfl
     have x11:=HYr.out.cell 11 _ rfl
     have x12:=HYr.out.cell 12 _ rfl
     have x13:=HYr.out.cell 13 _ rfl
     have xl:=HYr.out.lt
     go_wp2_with fail
     refine Calls.mono (a4C p.fin _ fb wr HSF.out.sits HBr.out (HGg.out _ (Below.refl _ _)) hokf.out.so hokf.out.no) ?_
     rintro e w60 ⟨u60,rfl,s60,b60⟩
     rw[<-hDn.out] at s60 ⊢
     obtain⟨a60,c60,rfl,-,-⟩:=s60.parts.shape
     have Y60:=HYr.out.next b60
     have Z60:=HYs.out.next b60
     have hl60:=b60.size
     have B60:=a0a b60
     have S60:=a0a s60
     clear x10 x11 x12 x13 xl b60 s60
     obtain⟨x0,x1,x2,x3,x4,x5,x6,x7,x8,x9,x10,x11,x12,x13⟩:=Box.c14 Y60
     have f10:=Y60.free 10 (by simp)
     have f11:=Y60.free 11 (by simp)
     have f12:=Y60.free 12 (by simp)
     have f13:=Y60.free 13 (by simp)
     have y0:=Z60.cell 0 _ rfl
     have g0:=Z60.free 0 (by simp)
     have y1:=Z60.cell 1 _ rfl
     have g1:=Z60.free 1 (by simp)
     have y2:=Z60.cell 2 _ rfl
     have g2:=Z60.free 2 (by simp)
     have y3:=Z60.cell 3 _ rfl
     have g3:=Z60.free 3 (by simp)
     have y4:=Z60.cell 4 _ rfl
     have g4:=Z60.free 4 (by simp)
     have y5:=Z60.cell 5 _ rfl
     have g5:=Z60.free 5 (by simp)
     have y6:=Z60.cell 6 _ rfl
     have g6:=Z60.free 6 (by simp)
     have y7:=Z60.cell 7 _ rfl
     have g7:=Z60.free 7 (by simp)
     have y8:=Z60.cell 8 _ rfl
     have g8:=Z60.free 8 (by simp)
     have y9:=Z60.cell 9 _ rfl
     have g9:=Z60.free 9 (by simp)
     have y10:=Z60.cell 10 _ rfl
     have g10:=Z60.free 10 (by simp)
     have y11:=Z60.cell 11 _ rfl
     have g11:=Z60.free 11 (by simp)
     have y12:=Z60.cell 12 _ rfl
     have g12:=Z60.free 12 (by simp)
     have y13:=Z60.cell 13 _ rfl
     have g13:=Z60.free 13 (by simp)
     have xl:=Y60.lt
     have yl:=Z60.lt
     have hwl:=Z60.lt
     have hwr:=HYs.out.lt
     have key:Hid (∀ W,a0p [w.heap.size,w.heap.size+1] w60 W->∃ u,Ending.returned (.tuple #[.agg #[.slice d1 p.mets.length e1,.int .i64 p.ru.mn,.int .i64 p.ru.mx,.int .i64 p.ru.st,.int .i64 p.ru.up,.int .i64 p.ru.dn,.slice d2 p.wins.length e2,.slice d3 p.crons.length e3,.int .i64 p.loc,.slice d4 k e4,.int .i64 Dn.op,.int .i64 Dn.n,.int .i64 Dn.m,.slice a60 Dn.parts.length c60],.int .i64 0])=.returned (.tuple #[plV (a6x p) u,.int .i64 0])/\a3c W (a6x p) u/\Below w.heap.size w W):=by
      intro W TE
      have hk3:=hw3.out
      have hle:=HCo.out.le
      have htop:=HCo.out.top
      have hk1:∀ b,b<wr.heap.size->b≠w.heap.size->b≠w.heap.size+1->W.heap[b]? = wr.heap[b]?:=fun b h1 h2 h3=>(TE.block b (Nat.lt_of_lt_of_le h1 hl60) (by simp;omega)).trans (B60.out.block b h1)
      have hrow:∀ b,s0<=b->b<s3->W.heap[b]? = w4.heap[b]?:=fun b h1 h2=>(hk1 b (Nat.lt_of_lt_of_le (show b<w4.heap.size by omega) HT.out.size) (by have:=HFb.out;have:=HFs.out;omega) (by have:=HFb.out;have:=HFs.out;omega)).trans (HT.out.block b (by omega) (by simpa using hGb.out b (by omega) (.inl h2)))
      have hlen:(p.gs.map a5o).length=k:=by rw[List.length_map];exact hN.out.symm
      have hgs:a5h W (.slice d4 k e4) (p.gs.map a5o):=by
       by_cases h0:0<k
       ·obtain⟨q1,q2,q3⟩:=hG.out h0
        have hg3:s3<=gb:=by
         by_cases h:gb<s3
         ·exact absurd rfl (hGb.out gb (by omega) (.inl h))
         ·omega
        have G:=((HI.out h0).next B60.out).turn TE (fun b hb=>by simp;omega)
        rw[show gsK p.gs k=p.gs.map a5o by rw[hN.out];exact b6d _] at G
        have G2:=G.gat (by rw[hlen];omega)
        rw[hlen] at G2
        rw[q1,q2]
        exact G2
       ·obtain⟨ad,cap,q1,q2,q3,-⟩:=HCo.out.ga
        simp only[Value.slice.injEq] at q1
        exact⟨d4,e4,by rw[hlen],by omega,by omega,.inl (by omega)⟩
      have hfi:a0m W (a0g p.fin) (.slice a60 Dn.parts.length c60):=by
       rw[<-hDn.out]
       exact(a2L S60.out TE (fun b _ hb=>by have hb':wr.heap.size<=b:=hb;simp;omega)).sits
      have hbw:=a0b HWr.out B60.out HWr.out.size
      refine⟨⟨.slice d1 p.mets.length e1,.slice d2 p.wins.length e2,.slice d3 p.crons.length e3,.slice d4 k e4,.slice a60 Dn.parts.length c60⟩,by rw[hDn.out];rfl,⟨HPs.out.ru,HPs.out.loc,HPs.out.wok,HPs.out.cok,a1L (fun _=>rfl) (HCo.out.me.keep (fun b h1 h2=>hrow b h1 (by omega))).2.1,a1L (fun _=>rfl) (HCo.out.wi.keep (fun b h1 h2=>hrow b (by omega) (by omega))).2.1,a1L (fun _=>rfl) (HCo.out.cr.keep (fun b h1 h2=>hrow b (by omega) h2)).2.1,hgs,hfi⟩,⟨TE.os.trans hbw.os,TE.tape.trans hbw.tape,TE.output.trans hbw.output,Nat.le_trans hbw.size TE.size,fun b hb=>(TE.block b (by omega) (by simp;omega)).trans (hbw.block b hb)⟩⟩
     clear Y60 Z60
     go_wp2_with fail
     refine bodyPost_ret (v:=.tuple #[.agg #[.slice d1 p.mets.length e1,.int .i64 p.ru.mn,.int .i64 p.ru.mx,.int .i64 p.ru.st,.int .i64 p.ru.up,.int .i64 p.ru.dn,.slice d2 p.wins.length e2,.slice d3 p.crons.length e3,.int .i64 p.loc,.slice d4 k e4,.int .i64 Dn.op,.int .i64 Dn.n,.int .i64 Dn.m,.slice a60 Dn.parts.length c60],.int .i64 0]) (by simp[results,Tryz.results6,go_sem, *]) rfl ?_
     exact key.out _ (a0c (a0c (a0c (a0c (a0c (a0c (a0c (a0c (a0c (a0c (a0c (a0c (a0c (a0c (a0c (a0c (a0c (a0p.set w60 _ _ (by simp)) (a0p.set _ _ _ (by simp))) (a0p.set _ _ _ (by simp))) (a0p.set _ _ _ (by simp))) (a0p.set _ _ _ (by simp))) (a0p.set _ _ _ (by simp))) (a0p.set _ _ _ (by simp))) (a0p.set _ _ _ (by simp))) (a0p.set _ _ _ (by simp))) (a0p.set _ _ _ (by simp))) (a0p.set _ _ _ (by simp))) (a0p.set _ _ _ (by simp))) (a0p.set _ _ _ (by simp))) (a0p.set _ _ _ (by simp))) (a0p.set _ _ _ (by simp))) (a0p.set _ _ _ (by simp))) (a0p.set _ _ _ (by simp))) (a0p.set _ _ _ (by simp)))
end Go.Proofs.YtkbmgloilckdhaaGreatDoor
