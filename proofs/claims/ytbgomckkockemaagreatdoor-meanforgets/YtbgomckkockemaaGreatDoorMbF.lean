import Derived.Test.YtbgomckkockemaaGreatDoorMjD
namespace Go.Proofs.YtbgomckkockemaaGreatDoor
open Go.RowKit
set_option maxHeartbeats 2000000 in
set_option maxRecDepth 20000 in
theorem meanForgets_c (p:PlP)(v:PlV)(O l:List EvP)(u0 u:Value)(t0 rep:Int)(w:World)(hs:PlAt w p v)(hgs:p.gs.length*96<=140737488355328)(hE0:EvsAt w u0 O)(hok0:∀ e,e∈O->EvOk e)(hL0:O.length*32<=140737488355328)(hE:EvsAt w u l)(hok:∀ e,e∈l->EvOk e)(hL:l.length*32<=140737488355328)(ht0:C64 t0)(hrep:C64 rep)(hF:FldAt w)(hLn:LenAt w)(hg:GlE w):
 Calls Tryz.prog 5 #[plV p v,.agg #[u0,u],.agg #[.int .i64 t0,.int .i64 rep]] w fun r w'=>r=.returned (.bool true)/\Below w.heap.size w w':=by
 classical
 obtain⟨q,hq⟩:∃ q:Co->Co->Bool,∀ a b,q a b=true↔a=b:=⟨fun a b=>decide (a=b),fun a b=>by simp⟩
 have hT:∀ e,e∈takenF p.mets.length l->EvOk e:=fun e he=>hok e (takF_mem _ _ _ _ he).1
 have hTle:(takenF p.mets.length l).length<=l.length:=takF_len _ _ _
 have HAw:=chid (fun W (hW:Below w.heap.size w W)=>awake17_c W (hF.later hW) (GlE.next hg hW))
 have HMt:=chid (fun W (hW:Below w.heap.size w W)=>mTaken_c p v l u W hs.shapeV (RowsK.next hE hW) hok hL)
 have HEn:=chid (fun W x (X:List EvP) (t:Int) (ht:In64 t) (nm:Cr->Bool) (hnm:∀ c,nm c=true↔Named c t) (hW:Below w.heap.size w W) (hx:EvsAt W x X) (ho:∀ e,e∈X->EvOk e) (hl:X.length*32<=140737488355328)=>mEnvN_c q hq p v X x t rep W (hs.next hW) (hF.later hW) hx ho hl ht hrep nm (names_c t ht nm hnm p hs.cok W (hLn.later hW)))
 have HTa:=chid (taken_again p.mets.length l)
 have HTs:=chid (takF_sorted p.mets.length l minI)
 have HMe:=chid (fun O T m t (nm:Cr->Bool)=>mean_aged q p O T m t rep nm hs.wok)
 have HFw:=chid (fun W (hW:Below w.heap.size w W)=>few17_c p v W (hs.next hW) hgs)
 obtain⟨a1,c1,a2,c2,a3,c3,a4,c4,a5,c5,rfl,g1,g2,g3,g4⟩:=hs.shapes
 have HE0:=chid hE0
 obtain⟨oa,oc,rfl,ho1,ho2,ho3⟩:=hE0
 obtain⟨ea,ec,rfl,he1,he2,he3⟩:=hE
 have hlm:l.length<=9223372036854775807:=by omega
 have hlo:O.length<=9223372036854775807:=by omega
 obtain⟨T,hTT⟩:∃ T,Hid (T=takenF p.mets.length l):=⟨_,rfl⟩
 rw[<-hTT.out] at HMt HTa hT hTle
 have HTo:=chid hT
 have HO0:=chid hok0
 obtain⟨Y0,Y1,Y2,B0⟩:=three_boxes w 32 51 34 (plL p ⟨.slice a1 p.mets.length c1,.slice a2 p.wins.length c2,.slice a3 p.crons.length c3,.slice a4 p.gs.length c4,.slice a5 p.fin.parts.length c5⟩) [.slice oa O.length oc,.slice ea l.length ec] [.int .i64 t0,.int .i64 rep]
 have HY0:=chid Y0
 have HY1:=chid Y1
 have HY2:=chid Y2
 have HB0:=chid B0
 clear hs hF hLn hg hok hok0 hL hgs hT Y0 Y1 Y2 B0 hq g1 g2 g3 g4 he3 ho3
 have s0:=HY1.out.cell 0 _ rfl
 have s1:=HY1.out.cell 1 _ rfl
 have sl:=HY1.out.lt
 go_enter Tryz.func5,Tryz.ntmps5
 go_wp2_with fail
 go_quiet (fail)
 have bq:=fun (W:World)=>below_drewN (Below.refl W.heap.size W) nq
 replace HB0:=chid (cbelow_on HB0.out (bq _) HB0.out.size)
 replace HY0:=chid (HY0.out.next (bq _))
 replace HY1:=chid (HY1.out.next (bq _))
 replace HY2:=chid (HY2.out.next (bq _))
 clear bq s0 s1 sl
 generalize hwq:World.drewN _ nq=wq at *
 clear hwq
 go_wp2_with fail
 refine Calls.mono (HAw.out _ HB0.out) ?_
 rintro e w1 ⟨rfl,b1⟩
 have B1:=chid (cbelow_on HB0.out b1 HB0.out.size)
 replace HY0:=chid (HY0.out.next b1)
 replace HY1:=chid (HY1.out.next b1)
 replace HY2:=chid (HY2.out.next b1)
 clear b1 HB0
 have x0:=HY0.out.cell 0 _ rfl
 have x1:=HY0.out.cell 1 _ rfl
 have x2:=HY0.out.cell 2 _ rfl
 have x3:=HY0.out.cell 3 _ rfl
 have x4:=HY0.out.cell 4 _ rfl
 have x5:=HY0.out.cell 5 _ rfl
 have x6:=HY0.out.cell 6 _ rfl
 have x7:=HY0.out.cell 7 _ rfl
 have x8:=HY0.out.cell 8 _ rfl
 have x9:=HY0.out.cell 9 _ rfl
 have x10:=HY0.out.cell 10 _ rfl
 have x11:=HY0.out.cell 11 _ rfl
 have x12:=HY0.out.cell 12 _ rfl
 have x13:=HY0.out.cell 13 _ rfl
 have xl:=HY0.out.lt
 go_wp2_with fail
 refine Calls.mono (HFw.out _ B1.out _ _ _ hlo) ?_
 rintro e w2 ⟨rfl,b2⟩
 have B2:=chid (cbelow_on B1.out b2 B1.out.size)
 replace HY0:=chid (HY0.out.next b2)
 replace HY1:=chid (HY1.out.next b2)
 replace HY2:=chid (HY2.out.next b2)
 clear b2 B1 x0 x1 x2 x3 x4 x5 x6 x7 x8 x9 x10 x11 x12 x13 xl
 cases hf0:(fewL p&&decide (O.length<=20000)) with
 | false=>
   go_wp2_with fail
   refine Calls.mono (HAw.out _ B2.out) ?_
   rintro e w3 ⟨rfl,b3⟩
   have B3:=chid (cbelow_on B2.out b3 B2.out.size)
   clear b3
   go_wp2_with fail
   go_ret
   exact⟨rfl,B3.out⟩
 | true=>
   have ho20:O.length<=20000:=by
    simp only[Bool.and_eq_true,decide_eq_true_eq] at hf0
    exact hf0.2
   clear hf0
   have x0:=HY0.out.cell 0 _ rfl
   have x1:=HY0.out.cell 1 _ rfl
   have x2:=HY0.out.cell 2 _ rfl
   have x3:=HY0.out.cell 3 _ rfl
   have x4:=HY0.out.cell 4 _ rfl
   have x5:=HY0.out.cell 5 _ rfl
   have x6:=HY0.out.cell 6 _ rfl
   have x7:=HY0.out.cell 7 _ rfl
   have x8:=HY0.out.cell 8 _ rfl
   have x9:=HY0.out.cell 9 _ rfl
   have x10:=HY0.out.cell 10 _ rfl
   have x11:=HY0.out.cell 11 _ rfl
   have x12:=HY0.out.cell 12 _ rfl
   have x13:=HY0.out.cell 13 _ rfl
   have xl:=HY0.out.lt
   go_wp2_with fail
   refine Calls.mono (HFw.out _ B2.out _ _ _ hlm) ?_
   rintro e w3 ⟨rfl,b3⟩
   have B3:=chid (cbelow_on B2.out b3 B2.out.size)
   replace HY0:=chid (HY0.out.next b3)
   replace HY1:=chid (HY1.out.next b3)
   replace HY2:=chid (HY2.out.next b3)
   clear b3 B2 x0 x1 x2 x3 x4 x5 x6 x7 x8 x9 x10 x11 x12 x13 xl HFw
   cases hfw:(fewL p&&decide (l.length<=20000)) with
   | false=>
     go_wp2_with fail
     refine Calls.mono (HAw.out _ B3.out) ?_
     rintro e w4 ⟨rfl,b4⟩
     have B4:=chid (cbelow_on B3.out b4 B3.out.size)
     clear b4
     go_wp2_with fail
     go_ret
     exact⟨rfl,B4.out⟩
   | true=>
     have hl20:l.length<=20000:=by
      simp only[Bool.and_eq_true,decide_eq_true_eq] at hfw
      exact hfw.2
     clear HAw hfw
     have x0:=HY0.out.cell 0 _ rfl
     have x1:=HY0.out.cell 1 _ rfl
     have x2:=HY0.out.cell 2 _ rfl
     have x3:=HY0.out.cell 3 _ rfl
     have x4:=HY0.out.cell 4 _ rfl
     have x5:=HY0.out.cell 5 _ rfl
     have x6:=HY0.out.cell 6 _ rfl
     have x7:=HY0.out.cell 7 _ rfl
     have x8:=HY0.out.cell 8 _ rfl
     have x9:=HY0.out.cell 9 _ rfl
     have x10:=HY0.out.cell 10 _ rfl
     have x11:=HY0.out.cell 11 _ rfl
     have x12:=HY0.out.cell 12 _ rfl
     have x13:=HY0.out.cell 13 _ rfl
     have xl:=HY0.out.lt
     go_wp2_with fail
     refine Calls.mono (HMt.out _ B3.out) ?_
     rintro r w4 ⟨x,rfl,ox,b4⟩
     have B4:=chid (cbelow_on B3.out b4 B3.out.size)
     obtain⟨xa,xc,rfl⟩:=own_shape ox
     have HX:=chid (evs_of_own ox)
     have HOx:=chid ox
     replace HY0:=chid (HY0.out.next b4)
     replace HY1:=chid (HY1.out.next b4)
     replace HY2:=chid (HY2.out.next b4)
     obtain⟨N,hN⟩:∃ N,Hid (N=T.length):=⟨_,rfl⟩
     rw[<-hN.out] at hTle ⊢
     clear b4 B3 ox HMt x0 x1 x2 x3 x4 x5 x6 x7 x8 x9 x10 x11 x12 x13 xl
     by_cases hn:N=0
     ·subst hn
      go_wp2_with fail
      go_ret
      exact⟨rfl,B4.out⟩
     obtain⟨xb,exa,HBT⟩:∃ b,xa=some ⟨b,0,none⟩/\Hid (Box w4 b (flE T)):=by
      rcases cown_box HOx.out with ⟨h,h0⟩ | ⟨g,cap,h,_,hb⟩
      ·rw[<-hN.out] at h0;omega
      ·simp only[Value.slice.injEq] at h
       exact⟨g,h.1,chid hb⟩
     subst exa
     have hp0:0<N:=by omega
     have hTl:Hid (0<T.length):=chid (by rw[<-hN.out];exact hp0)
     have g0:w4.cell? ⟨xb,3,none⟩=some (.int .i64 (T.getD 0 ev0).time):=by
      have:=HBT.out.cell (0*4+3) _ (flE_at T 0 hTl.out 3 _ rfl)
      rw[show T.getD 0 ev0=T[0]'hTl.out by simp[List.getD,hTl.out]]
      exact this
     obtain⟨m,hm⟩:∃ m,Hid (m=(T.getD 0 ev0).time):=⟨_,rfl⟩
     rw[<-hm.out] at g0
     have hT0:Hid (T.getD 0 ev0∈T):=chid (by simp[List.getD,hTl.out])
     have hm64:Hid (C64 m):=chid (by rw[hm.out];exact(HTo.out _ hT0.out).time)
     have hy2l:Hid (w.heap.size+1+1<w4.heap.size):=chid HY2.out.lt
     have hxb4:Hid (xb<w4.heap.size):=chid HBT.out.lt
     have hxcp:Hid (T.length<=xc/\xc<=9223372036854775807):=chid (by obtain⟨q1,q2,q3,q4,q5,q6⟩:=HX.out;cases q3;exact⟨q4,q5⟩)
     clear HOx
     have hni:¬(N:Int)=0:=by omega
     have hnb:((N:Int)==0)=false:=by simpa using hni
     have hni2:¬(N:Int)<=0:=by omega
     by_cases hold:m < -9000000000000000000
     ·go_wp2_with fail
      go_ret
      exact⟨rfl,B4.out⟩
     obtain⟨i0,hi,hz0,hz1,hz2⟩:=info_ev'
     have hmlo : -9000000000000000000<=m:=by omega
     have hold2:decide (m < -9000000000000000000)=false:=by simp;omega
     have HP:=chid ho2
     obtain⟨M,hM⟩:∃ M,Hid (M=O.length):=⟨_,rfl⟩
     rw[<-hM.out] at hlo ho20 ⊢
     have HOc:=HE0
     go_wp2_with fail
     have hmhi:m<=9223372036854775807:=hm64.out.2
     obtain⟨B,hB⟩:∃ B,Hid (B=w4.heap.size):=⟨_,rfl⟩
     go_loopw [11,12] (fun o i wr=>∃ (k:Nat),i=.int .i64 (k:Nat)/\k<=M/\Hid (wr.ownsRow B 54 4 o k (flE ((O.take k).map (agedE m))))/\Hid (Below B w4 wr)) (fun _ i _=>match i with | .int _ z=>((M:Int)-z).toNat | _=>0)
     case atStart=>exact⟨0,rfl,by omega,World.ownsRow_nil _ _ _ _,by rw[hB.out];exact chid (Below.refl _ _)⟩
     case round=>
      obtain⟨k,rfl,hk,HO,HW⟩:=hrel
      obtain⟨ra,rc,rfl⟩:=own_shape HO.out
      have hBw:Hid (B<=w4.heap.size):=chid (by rw[hB.out];exact Nat.le_refl _)
      have HBr:Hid (Below w.heap.size w wr):=chid (cbelow_on B4.out (by rw[<-hB.out];exact HW.out) B4.out.size)
      by_cases hlt:k<M
      ·have hlt':(k:Int)<(M:Int):=by omega
       have hl1:k<O.length:=by rw[<-hM.out];exact hlt
       obtain⟨ob,oo,hoc,hobl,hx⟩:∃ b off,oa=some ⟨b,off,none⟩/\b<w.heap.size/\∀ i,i<O.length->∀ j x,(evtL (O.getD i ev0))[j]? = some x->w.cell? ⟨b,off+i*4+j,none⟩=some x:=by
        obtain⟨q1,q2,q3,q4,q5,q6⟩:=HE0.out
        cases q3
        rcases q6 with h | h
        ·omega
        ·exact h
       subst hoc
       have hgd:O.getD k ev0=O[k]:=by simp[List.getD,hl1]
       have r0:=hx k hl1 0 _ rfl
       have r1:=hx k hl1 1 _ rfl
       have r2:=hx k hl1 2 _ rfl
       have r3:=hx k hl1 3 _ rfl
       rw[hgd] at r0 r1 r2 r3
       rw[Nat.add_zero] at r0
       have y0:=keepc HBr.out r0
       have y1:=keepc HBr.out r1
       have y2:=keepc HBr.out r2
       have y3:=keepc HBr.out r3
       have lb:ob<wr.heap.size:=Nat.lt_of_lt_of_le hobl HBr.out.size
       have HEk:=chid (HO0.out _ (List.getElem_mem hl1))
       have HTk:=chid (show ((O.take (k+1)).map (agedE m))=(O.take k).map (agedE m)++[agedE m O[k]] by rw[List.take_succ_eq_append_getElem hl1,List.map_append];rfl)
       generalize O[k]=e at *
       clear hx hgd r0 r1 r2 r3
       obtain⟨tt,htt⟩:∃ tt,Hid (tt=min e.time (m-604800)):=⟨_,rfl⟩
       have hif:(if m-604800<e.time then m-604800 else e.time)=tt:=by rw[htt.out];split<;>omega
       have hE':Hid (agedE m e=⟨e.kind,e.id,e.val,tt⟩):=chid (by rw[htt.out];rfl)
       have hkl:=HW.out.size
       have HSz:Hid ((wr.alloc (.cells (evtL ⟨e.kind,e.id,e.val,tt⟩).toArray 54)).heap.size=wr.heap.size+1):=chid (by simp)
       have HNc:=chid (ma_new_cells' (wr.alloc (.cells (evtL ⟨e.kind,e.id,e.val,tt⟩).toArray 54)) (evtL ⟨e.kind,e.id,e.val,tt⟩) 54 _ HSz.out)
       have HBz:Hid (B<=((wr.alloc (.cells (evtL ⟨e.kind,e.id,e.val,tt⟩).toArray 54)).alloc (.cells (evtL ⟨e.kind,e.id,e.val,tt⟩).toArray 54)).heap.size):=chid (by have:=hBw.out;simp;omega)
       have HOa:=chid ((HO.out.alloc (.cells (evtL ⟨e.kind,e.id,e.val,tt⟩).toArray 54)).alloc (.cells (evtL ⟨e.kind,e.id,e.val,tt⟩).toArray 54))
       have h1c:Hid (∀ u,u∈evtL ⟨e.kind,e.id,e.val,tt⟩->u.oneCell'=true):=fun u hu=>by simp only[List.mem_cons,List.not_mem_nil,or_false] at hu;rcases hu with rfl | rfl | rfl | rfl<;>rfl
       have hby:Hid (((k+1)+(k+1)/4+192)*32<=281474976710656):=chid (by omega)
       have hml:Hid (k+1<=maxLen):=chid (by unfold maxLen;omega)
       go_wp2_with (at_builtin;refine wpList_append_own_wide _ rfl _ _ 33 rfl B 54 i0 (evtV ev0) 4 32 Tryz.underlying33 hi hz0 hz1 hz2 rfl (by decide) (.slice ra k rc) k _ rfl HOa.out ⟨wr.heap.size+1,0,none⟩ 1 1 (evtL ⟨e.kind,e.id,e.val,tt⟩) rfl rfl HNc.out h1c.out hml.out hby.out HBz.out ?_)
       intro v3 w5 ho3 hg3 _
       have q3:Hid (w5.ownsRow B 54 4 v3 (k+1) (flE ((O.take (k+1)).map (agedE m)))):=by rw[HTk.out,flE_snoc,hE'.out];first | exact chid ho3 | (rw[List.map_take];exact chid ho3)
       have q5:Hid (Below B w4 w5):=by
        have b1:=HW.out
        have al:=(Below.refl wr.heap.size wr).alloc (Nat.le_refl _) (.cells (evtL ⟨e.kind,e.id,e.val,tt⟩).toArray 54)
        have al2:=(Below.refl _ (wr.alloc (.cells (evtL ⟨e.kind,e.id,e.val,tt⟩).toArray 54))).alloc (Nat.le_refl _) (.cells (evtL ⟨e.kind,e.id,e.val,tt⟩).toArray 54)
        exact chid ⟨hg3.os.trans (al2.os.trans (al.os.trans b1.os)),hg3.tape.trans (al2.tape.trans (al.tape.trans b1.tape)),hg3.output.trans (al2.output.trans (al.output.trans b1.output)),Nat.le_trans b1.size (Nat.le_trans al.size (Nat.le_trans al2.size hg3.size)),fun q hq=>by
         have h4:q<wr.heap.size:=Nat.lt_of_lt_of_le hq (Nat.le_trans hBw.out b1.size)
         have h5:=Nat.lt_of_lt_of_le h4 al.size
         exact(hg3.block q (Nat.lt_of_lt_of_le h5 al2.size) (fun e2=>by have:=(own_typed HO.out e2.symm).1;omega)).trans ((al2.block q h5).trans ((al.block q h4).trans (b1.block q hq)))⟩
       obtain⟨va,vc,rfl⟩:=own_shape ho3
       clear ho3 hg3 y0 y1 y2 y3 lb
       go_wp2_with fail
       go_roundw
       case rel=>exact⟨k+1,by go_num,by omega,q3,q5⟩
       case measure=>simp;omega
      ·obtain rfl:k=M:=by omega
       have hTk:Hid (O.take k=O):=chid (by rw[hM.out];exact List.take_length)
       rw[hTk.out] at HO
       obtain⟨tl,htl⟩:∃ tl,Hid (tl=(T.getD (T.length-1) ev0).time):=⟨_,rfl⟩
       have gl:w4.cell? ⟨xb,(N-1)*4+3,none⟩=some (.int .i64 tl):=by
        have hl0:=hTl.out
        have h1:T.length-1<T.length:=by omega
        have:=HBT.out.cell ((T.length-1)*4+3) _ (flE_at T (T.length-1) h1 3 _ rfl)
        rw[htl.out,hN.out,show T.getD (T.length-1) ev0=T[T.length-1]'h1 by simp[List.getD,h1]]
        exact this
       have HWb:Hid (Below w4.heap.size w4 wr):=chid (by rw[<-hB.out];exact HW.out)
       replace HBT:=chid (HBT.out.next HWb.out)
       replace HY0:=chid (HY0.out.next HWb.out)
       replace HY2:=chid (HY2.out.next HWb.out)
       replace HX:=chid (RowsK.next HX.out HWb.out)
       have gl2:=keepc HWb.out gl
       have hbl:=HBT.out.lt
       have hflT:Hid (∀ u,u∈flE T->u.oneCell'=true):=fun u hu=>by
        unfold flE at hu
        obtain⟨y,hy,hu⟩:=List.mem_flatten.1 hu
        obtain⟨z,-,rfl⟩:=List.mem_map.1 hy
        simp only[List.mem_cons,List.not_mem_nil,or_false] at hu
        rcases hu with rfl | rfl | rfl | rfl<;>rfl
       have hfll:Hid ((flE T).length=N*4):=chid (by rw[flE_len,hN.out])
       have hN20:N<=20000:=by omega
       have hb4:=hBw.out
       have hkl:=HW.out.size
       have hby:Hid (((k+N)+(k+N)/4+192)*32<=281474976710656):=chid (by omega)
       have hml:Hid (k+N<=maxLen):=chid (by unfold maxLen;omega)
       have HNc:Hid (∀ j u,(flE T)[j]? = some u->wr.cell? ((⟨xb,0,none⟩:Addr).add j)=some u):=fun j u hu=>by
        have hadd:(⟨xb,0,none⟩:Addr).add j=⟨xb,j,none⟩:=by unfold Addr.add;split<;>simp_all
        rw[hadd]
        exact HBT.out.cell j u hu
       have HBz:Hid (B<=wr.heap.size):=chid (by omega)
       go_wp2_with (at_builtin;refine wpList_append_own_wide _ rfl _ _ 33 rfl B 54 i0 (evtV ev0) 4 32 Tryz.underlying33 hi hz0 hz1 hz2 rfl (by decide) (.slice ra k rc) k _ rfl HO.out ⟨xb,0,none⟩ N xc (flE T) rfl hfll.out HNc.out hflT.out hml.out hby.out HBz.out ?_)
       intro v5 w5 ho5 hg5 _
       have hone:Hid (flE (O.map (agedE m))++flE T=flE (O.map (agedE m)++T)):=chid (by unfold flE;rw[List.map_append,List.flatten_append])
       have HAl:Hid (w5.ownsRow B 54 4 v5 (k+N) (flE (O.map (agedE m)++T))):=by rw[<-hone.out];exact chid ho5
       have hnr:∀ q,q<B->some q≠(Value.slice ra k rc).ownBlock:=fun q hq e2=>by have:=(own_typed HO.out e2.symm).1;omega
       have B5:Hid (Below B wr w5):=chid ⟨hg5.os,hg5.tape,hg5.output,hg5.size,fun q hq=>hg5.block q (by omega) (hnr q hq)⟩
       have keepB:∀ {b:Nat} {xs:List Value},Box wr b xs->b<B->Box w5 b xs:=fun h hb=>⟨fun i v hv=>(World.cell?_of_block (a:=⟨_,i,none⟩) (B5.out.block _ hb)).trans (h.cell i v hv),fun i hi=>(World.frozen?_of_block (a:=⟨_,i,none⟩) (B5.out.block _ hb)).trans (h.free i hi),Nat.lt_of_lt_of_le h.lt B5.out.size⟩
       have hBw4:=hB.out
       have e4:=B4.out.size
       have hs1:w.heap.size+1+1<B:=by rw[hB.out];exact hy2l.out
       replace HY0:=chid (keepB HY0.out (by omega))
       replace HY2:=chid (keepB HY2.out (by omega))
       have hxB:xb<B:=by rw[hB.out];exact hxb4.out
       replace HBT:=chid (keepB HBT.out hxB)
       replace HX:=chid (evs_of_box HBT.out hxcp.out)
       have gl3:w5.cell? ⟨xb,(N-1)*4+3,none⟩=some (.int .i64 tl):=(World.cell?_of_block (a:=⟨xb,_,none⟩) (B5.out.block _ hxB)).trans gl2
       have BW5:=chid (HBr.out.trans (B5.out.mono (by omega)))
       obtain⟨tq,htq⟩:∃ tq,Hid (tq=max t0 tl):=⟨_,rfl⟩
       have hsrt:Hid (T.Pairwise (fun x y=>x.time<=y.time)):=chid (by rw[hTT.out];exact HTs.out.1)
       have htl64:Hid (C64 tl):=chid (by rw[htl.out];exact(HTo.out _ (by have h0:=hTl.out;have h1:T.length-1<T.length:=by omega
                                                                         simp[List.getD,h1])).time)
       have hIn:Hid (In64 tq):=chid (by have h1:=htl64.out;have h2:=ht0;unfold C64 at h1 h2;unfold In64;rw[htq.out];omega)
       obtain⟨nm,hnm⟩:=names_ex tq
       have hMA:=HMe.out O T m tq nm HTa.out (by rw[hm.out];exact srt_first hsrt.out) (by unfold minI;omega) (fun e he=>by have:=srt_last hsrt.out e he;rw[<-htl.out] at this;rw[htq.out];omega) (by have:=srt_last hsrt.out _ hT0.out;rw[<-htl.out,<-hm.out] at this;rw[htq.out];omega)
       have hAok:∀ e,e∈O.map (agedE m)++T->EvOk e:=fun e he=>by
        rcases List.mem_append.1 he with h | h
        ·obtain⟨z,hz,rfl⟩:=List.mem_map.1 h
         exact aged_ok hmlo hm64.out (HO0.out z hz)
        ·exact HTo.out e h
       have hAl:(O.map (agedE m)++T).length=k+N:=by rw[List.length_append,List.length_map,hN.out,hM.out]
       have HE1:=chid (fun W x (hW:Below w.heap.size w W) (hx:EvsAt W x T)=>HEn.out W x T tq hIn.out nm hnm hW hx HTo.out (by rw[<-hN.out];omega))
       have HE2:=chid (fun W x (hW:Below w.heap.size w W) (hx:EvsAt W x (O.map (agedE m)++T))=>HEn.out W x _ tq hIn.out nm hnm hW hx hAok (by rw[hAl];omega))
       have HE3:=chid (fun W x (hW:Below w.heap.size w W) (hx:EvsAt W x (O.map (agedE m)++T++[tickE tq]))=>HEn.out W x _ tq hIn.out nm hnm hW hx (fun e he=>by
        rcases List.mem_append.1 he with h | h
        ·exact hAok e h
        ·rw[List.mem_singleton.1 h];exact tick_ok ⟨hIn.out.1,by have:=hIn.out.2;omega⟩) (by rw[List.length_append,hAl];simp;omega))
       rw[hMA.1] at HE2
       rw[hMA.2] at HE3
       have HAll:=chid hAl
       clear hMA hAok hAl hnm HEn HMe
       generalize meanF q p T tq rep nm=R at *
       obtain⟨EE,er⟩:=R
       dsimp only at HE1 HE2 HE3
       have hif2:(if t0<tl then tl else t0)=tq:=by rw[htq.out];split<;>omega
       obtain⟨va,vc,rfl⟩:=own_shape ho5
       have hNl:(N:Int)-1<(N:Int):=by omega
       have hN1:0<=(N:Int)-1:=by omega
       have hN2:((N:Int)-1).toNat=N-1:=by omega
       have c0:=HY2.out.cell 0 _ rfl
       have c1:=HY2.out.cell 1 _ rfl
       have cl:=HY2.out.lt
       have xl:=HBT.out.lt
       have hg5s:=chid hg5.size
       clear ho5 hg5 hnr keepB HO B5 gl gl2 g0 HNc hfll hflT
       go_wp2_with fail
       go_quiet (fail)
       have bq:=fun (W:World)=>below_drewN (Below.refl W.heap.size W) nq
       have BWq:=chid (cbelow_on BW5.out (bq _) BW5.out.size)
       have HS5a:Hid (wr.heap.size<=(w5.drewN nq).heap.size):=chid hg5s.out
       replace HY0:=chid (HY0.out.next (bq _))
       replace HY2:=chid (HY2.out.next (bq _))
       replace HX:=chid (RowsK.next HX.out (bq _))
       replace HAl:=chid (own_next' HAl.out (bq _))
       clear bq gl3 c0 c1 cl xl hif2 HBT BW5 hNl hN1 hN2
       generalize hwq:World.drewN _ nq=wz at *
       clear hwq
       obtain⟨S5,hS5⟩:∃ S,Hid (S=wz.heap.size):=⟨_,rfl⟩
       have HS5b:Hid (wr.heap.size<=S5):=chid (by rw[hS5.out];exact HS5a.out)
       have HSr:Hid (∀ r,(Value.slice va (k+N) vc).ownBlock=some r->B<=r/\r<S5):=fun r h=>by rw[hS5.out];exact HAl.out.lt r h
       have x0:=HY0.out.cell 0 _ rfl
       have x1:=HY0.out.cell 1 _ rfl
       have x2:=HY0.out.cell 2 _ rfl
       have x3:=HY0.out.cell 3 _ rfl
       have x4:=HY0.out.cell 4 _ rfl
       have x5:=HY0.out.cell 5 _ rfl
       have x6:=HY0.out.cell 6 _ rfl
       have x7:=HY0.out.cell 7 _ rfl
       have x8:=HY0.out.cell 8 _ rfl
       have x9:=HY0.out.cell 9 _ rfl
       have x10:=HY0.out.cell 10 _ rfl
       have x11:=HY0.out.cell 11 _ rfl
       have x12:=HY0.out.cell 12 _ rfl
       have x13:=HY0.out.cell 13 _ rfl
       have xl:=HY0.out.lt
       have t0c:=HY2.out.cell 0 _ rfl
       have t1c:=HY2.out.cell 1 _ rfl
       have tlc:=HY2.out.lt
       go_wp2_with fail
       refine Calls.mono (HE1.out _ _ BWq.out (by have h:=HX.out;rw[hN.out];exact h)) ?_
       rintro r w6 ⟨u1,u2,rfl,hen,b6,hne⟩
       obtain⟨r1,k1,s1,d1,rfl,rfl⟩:=hen.shape
       have BX:Below w6.heap.size w6 (w6.alloc (.cells #[.int .i64 EE.rep,.slice r1 EE.wins.length k1,.slice s1 EE.crons.length d1] 40)):=(Below.refl _ _).alloc (Nat.le_refl _) _
       have B7:=chid (cbelow_on (cbelow_on BWq.out b6 BWq.out.size) BX (Nat.le_trans BWq.out.size b6.size))
       have Xa:=chid (Box.new w6 [.int .i64 EE.rep,.slice r1 EE.wins.length k1,.slice s1 EE.crons.length d1] 40)
       have Ea:=chid (hen.next BX)
       have Na:=chid (hne.low (by rw[hS5.out];exact Nat.le_refl _:S5<=_))
       obtain⟨ab,hab⟩:∃ rb,Hid (rb=w6.heap.size):=⟨_,rfl⟩
       have hab2:Hid (S5<=ab):=chid (by rw[hab.out,hS5.out];exact b6.size)
       have hS7:Hid (S5<=(w6.alloc (.cells #[.int .i64 EE.rep,.slice r1 EE.wins.length k1,.slice s1 EE.crons.length d1] 40)).heap.size):=chid (by rw[hS5.out];exact Nat.le_trans b6.size BX.size)
       rw[<-hab.out] at Xa
       replace HY0:=chid ((HY0.out.next b6).next BX)
       replace HY2:=chid ((HY2.out.next b6).next BX)
       replace HAl:=chid (own_next' (own_next' HAl.out b6) BX)
       clear b6 BX hen hne x0 x1 x2 x3 x4 x5 x6 x7 x8 x9 x10 x11 x12 x13 xl t0c t1c tlc HE1 HX BWq
       have x0:=HY0.out.cell 0 _ rfl
       have x1:=HY0.out.cell 1 _ rfl
       have x2:=HY0.out.cell 2 _ rfl
       have x3:=HY0.out.cell 3 _ rfl
       have x4:=HY0.out.cell 4 _ rfl
       have x5:=HY0.out.cell 5 _ rfl
       have x6:=HY0.out.cell 6 _ rfl
       have x7:=HY0.out.cell 7 _ rfl
       have x8:=HY0.out.cell 8 _ rfl
       have x9:=HY0.out.cell 9 _ rfl
       have x10:=HY0.out.cell 10 _ rfl
       have x11:=HY0.out.cell 11 _ rfl
       have x12:=HY0.out.cell 12 _ rfl
       have x13:=HY0.out.cell 13 _ rfl
       have xl:=HY0.out.lt
       have t0c:=HY2.out.cell 0 _ rfl
       have t1c:=HY2.out.cell 1 _ rfl
       have tlc:=HY2.out.lt
       go_wp2_with fail
       rw[<-hab.out]
       generalize hW:w6.alloc _=w7 at *
       clear hW
       refine Calls.mono (HE2.out _ _ B7.out (evs_of_own (by rw[HAll.out];exact HAl.out))) ?_
       rintro r w8 ⟨u1,u2,rfl,hen,b6,hne⟩
       obtain⟨r2,k2,s2,d2,rfl,rfl⟩:=hen.shape
       have BX:Below w8.heap.size w8 (w8.alloc (.cells #[.int .i64 EE.rep,.slice r2 EE.wins.length k2,.slice s2 EE.crons.length d2] 40)):=(Below.refl _ _).alloc (Nat.le_refl _) _
       have BT:Below (w8.alloc (.cells #[.int .i64 EE.rep,.slice r2 EE.wins.length k2,.slice s2 EE.crons.length d2] 40)).heap.size (w8.alloc (.cells #[.int .i64 EE.rep,.slice r2 EE.wins.length k2,.slice s2 EE.crons.length d2] 40)) ((w8.alloc (.cells #[.int .i64 EE.rep,.slice r2 EE.wins.length k2,.slice s2 EE.crons.length d2] 40)).alloc (.cells (evtL ⟨2,0,0,tq⟩).toArray 54)):=(Below.refl _ _).alloc (Nat.le_refl _) _
       have B9:=chid (cbelow_on (cbelow_on (cbelow_on B7.out b6 B7.out.size) BX (Nat.le_trans B7.out.size b6.size)) BT (Nat.le_trans (Nat.le_trans B7.out.size b6.size) BX.size))
       have Xb:=chid ((Box.new w8 [.int .i64 EE.rep,.slice r2 EE.wins.length k2,.slice s2 EE.crons.length d2] 40).next BT)
       have Eb:=chid ((hen.next BX).next BT)
       have Nb:=chid (hne.low hS7.out)
       obtain⟨bb,hbb⟩:∃ rb,Hid (rb=w8.heap.size):=⟨_,rfl⟩
       have hbb2:Hid (S5<=bb):=chid (by rw[hbb.out];exact Nat.le_trans hS7.out b6.size)
       rw[<-hbb.out] at Xb
       replace HY0:=chid (((HY0.out.next b6).next BX).next BT)
       replace HY2:=chid (((HY2.out.next b6).next BX).next BT)
       replace Xa:=chid (((Xa.out.next b6).next BX).next BT)
       replace Ea:=chid (((Ea.out.next b6).next BX).next BT)
       replace HAl:=chid (own_next' (own_next' (own_next' HAl.out b6) BX) BT)
       have HSz:Hid ((w8.alloc (.cells #[.int .i64 EE.rep,.slice r2 EE.wins.length k2,.slice s2 EE.crons.length d2] 40)).heap.size=w8.heap.size+1):=chid (by simp)
       have HNt:=chid (ma_new_cells' (w8.alloc (.cells #[.int .i64 EE.rep,.slice r2 EE.wins.length k2,.slice s2 EE.crons.length d2] 40)) (evtL ⟨2,0,0,tq⟩) 54 _ HSz.out)
       have h1t:Hid (∀ u,u∈(evtL ⟨2,0,0,tq⟩)->u.oneCell'=true):=fun u hu=>by simp only[List.mem_cons,List.not_mem_nil,or_false] at hu;rcases hu with rfl | rfl | rfl | rfl<;>rfl
       have hbt:Hid (((k+N+1)+(k+N+1)/4+192)*32<=281474976710656):=chid (by omega)
       have hmt:Hid (k+N+1<=maxLen):=chid (by unfold maxLen;omega)
       have HBt:Hid (B<=((w8.alloc (.cells #[.int .i64 EE.rep,.slice r2 EE.wins.length k2,.slice s2 EE.crons.length d2] 40)).alloc (.cells (evtL ⟨2,0,0,tq⟩).toArray 54)).heap.size):=chid (by have h1:=Nat.le_trans b6.size (Nat.le_trans BX.size BT.size);have h2:S5<=w7.heap.size:=hS7.out;have h3:B<=S5:=(Nat.le_trans HBz.out HS5b.out);omega)
       have hcl:=Nat.lt_of_lt_of_le (Nat.lt_of_lt_of_le Xa.out.lt (Nat.le_refl _)) (Nat.le_refl _)
       clear b6 BX BT hen hne x0 x1 x2 x3 x4 x5 x6 x7 x8 x9 x10 x11 x12 x13 xl t0c t1c tlc hcl HE2
       go_wp2_with (at_builtin;refine wpList_append_own_wide _ rfl _ _ 33 rfl B 54 i0 (evtV ev0) 4 32 Tryz.underlying33 hi hz0 hz1 hz2 rfl (by decide) (.slice va (k+N) vc) (k+N) _ rfl HAl.out ⟨w8.heap.size+1,0,none⟩ 1 1 (evtL ⟨2,0,0,tq⟩) rfl rfl HNt.out h1t.out hmt.out hbt.out HBt.out ?_)
       intro v10 w10 ho10 hg10 _
       have hlw:∀ q,q<B->some q≠(Value.slice va (k+N) vc).ownBlock:=fun q hq e2=>by have:=(HSr.out q e2.symm).1;omega
       have hhi:∀ q,S5<=q->some q≠(Value.slice va (k+N) vc).ownBlock:=fun q hq e2=>by have:=(HSr.out q e2.symm).2;omega
       have hLt:Hid (flE (O.map (agedE m)++T++[tickE tq])=flE (O.map (agedE m)++T)++evtL ⟨2,0,0,tq⟩):=chid (flE_snoc _ _)
       have HAt:Hid (w10.ownsRow B 54 4 v10 (O.map (agedE m)++T++[tickE tq]).length (flE (O.map (agedE m)++T++[tickE tq]))):=by
        rw[hLt.out,List.length_append,HAll.out]
        first | exact chid ho10 | (rw[hB.out];exact chid ho10)
       replace HY0:=chid (box_grown HY0.out hg10 (hlw _ (by omega)))
       replace HY2:=chid (box_grown HY2.out hg10 (hlw _ (by omega)))
       replace Xa:=chid (box_grown Xa.out hg10 (hhi _ hab2.out))
       replace Xb:=chid (box_grown Xb.out hg10 (hhi _ hbb2.out))
       replace Ea:=chid (env_grown Ea.out hg10 Na.out (fun r h=>(HSr.out r h).2))
       replace Eb:=chid (env_grown Eb.out hg10 Nb.out (fun r h=>(HSr.out r h).2))
       have B10:Hid (Below w.heap.size w w10):=chid (B9.out.trans ⟨hg10.os,hg10.tape,hg10.output,hg10.size,fun q hq=>hg10.block q (Nat.lt_of_lt_of_le hq B9.out.size) (hlw q (by omega))⟩)
       obtain⟨za,zc,rfl⟩:=own_shape ho10
       clear ho10 hg10 hlw hhi HAl HNt h1t hmt hbt HBt HSz B9 Na Nb
       have x0:=HY0.out.cell 0 _ rfl
       have x1:=HY0.out.cell 1 _ rfl
       have x2:=HY0.out.cell 2 _ rfl
       have x3:=HY0.out.cell 3 _ rfl
       have x4:=HY0.out.cell 4 _ rfl
       have x5:=HY0.out.cell 5 _ rfl
       have x6:=HY0.out.cell 6 _ rfl
       have x7:=HY0.out.cell 7 _ rfl
       have x8:=HY0.out.cell 8 _ rfl
       have x9:=HY0.out.cell 9 _ rfl
       have x10:=HY0.out.cell 10 _ rfl
       have x11:=HY0.out.cell 11 _ rfl
       have x12:=HY0.out.cell 12 _ rfl
       have x13:=HY0.out.cell 13 _ rfl
       have xl:=HY0.out.lt
       have t0c:=HY2.out.cell 0 _ rfl
       have t1c:=HY2.out.cell 1 _ rfl
       have tlc:=HY2.out.lt
       go_wp2_with fail
       rw[<-hbb.out]
       refine Calls.mono (HE3.out _ _ B10.out (evs_of_own HAt.out)) ?_
       rintro r w11 ⟨u1,u2,rfl,hen,b6,hne⟩
       obtain⟨r3,k3,s3,d3,rfl,rfl⟩:=hen.shape
       have la:=Nat.lt_of_lt_of_le Xa.out.lt b6.size
       have lb:=Nat.lt_of_lt_of_le Xb.out.lt b6.size
       have BX:Below w11.heap.size w11 (w11.alloc (.cells #[.int .i64 EE.rep,.slice r3 EE.wins.length k3,.slice s3 EE.crons.length d3] 40)):=(Below.refl _ _).alloc (Nat.le_refl _) _
       have B12:=chid (cbelow_on (cbelow_on B10.out b6 B10.out.size) BX (Nat.le_trans B10.out.size b6.size))
       have Xc:=chid (Box.new w11 [.int .i64 EE.rep,.slice r3 EE.wins.length k3,.slice s3 EE.crons.length d3] 40)
       have Ec:=chid (hen.next BX)
       obtain⟨cb,hcb⟩:∃ rb,Hid (rb=w11.heap.size):=⟨_,rfl⟩
       rw[<-hcb.out] at Xc
       replace Xa:=chid ((Xa.out.next b6).next BX)
       replace Ea:=chid ((Ea.out.next b6).next BX)
       replace Xb:=chid ((Xb.out.next b6).next BX)
       replace Eb:=chid ((Eb.out.next b6).next BX)
       clear b6 BX hen hne x0 x1 x2 x3 x4 x5 x6 x7 x8 x9 x10 x11 x12 x13 xl t0c t1c tlc HE3 B10 HAt
       have HSe:=chid (sameEnv_c EE _ _ _ _ _ Ea.out Eb.out)
       have e0:=Xa.out.cell 0 _ rfl
       have e1:=Xa.out.cell 1 _ rfl
       have e2:=Xa.out.cell 2 _ rfl
       have f0:=Xb.out.cell 0 _ rfl
       have f1:=Xb.out.cell 1 _ rfl
       have f2:=Xb.out.cell 2 _ rfl
       go_wp2_with fail
       refine Calls.mono HSe.out ?_
       rintro r w13 ⟨rfl,b13⟩
       have B13:=chid (cbelow_on B12.out b13 B12.out.size)
       replace Xb:=chid (Xb.out.next b13)
       replace Xc:=chid (Xc.out.next b13)
       replace Eb:=chid (Eb.out.next b13)
       replace Ec:=chid (Ec.out.next b13)
       clear b13 HSe e0 e1 e2 f0 f1 f2 la lb
       rw[<-hcb.out]
       have HSe:=chid (sameEnv_c EE _ _ _ _ _ Eb.out Ec.out)
       have e0:=Xb.out.cell 0 _ rfl
       have e1:=Xb.out.cell 1 _ rfl
       have e2:=Xb.out.cell 2 _ rfl
       have f0:=Xc.out.cell 0 _ rfl
       have f1:=Xc.out.cell 1 _ rfl
       have f2:=Xc.out.cell 2 _ rfl
       have la:=Xb.out.lt
       have lb:=Xc.out.lt
       go_wp2_with fail
       refine Calls.mono HSe.out ?_
       rintro r w14 ⟨rfl,b14⟩
       have B14:=chid (cbelow_on B13.out b14 B13.out.size)
       clear b14 HSe e0 e1 e2 f0 f1 f2 la lb
       go_wp2_with fail
       go_ret
       exact⟨rfl,B14.out⟩
end Go.Proofs.YtbgomckkockemaaGreatDoor
