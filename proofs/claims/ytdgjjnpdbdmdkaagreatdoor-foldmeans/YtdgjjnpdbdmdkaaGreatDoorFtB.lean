import Derived.Test.YtdgjjnpdbdmdkaaGreatDoorFrA
import Derived.Test.YtdgjjnpdbdmdkaaGreatDoorMfQ
import Derived.Test.YtdgjjnpdbdmdkaaGreatDoorMfE
import Derived.Test.YtdgjjnpdbdmdkaaGreatDoorMjC
import Derived.Test.YtdgjjnpdbdmdkaaGreatDoorMkB
import Derived.Test.YtdgjjnpdbdmdkaaGreatDoorMkQ
import Derived.Test.YtdgjjnpdbdmdkaaGreatDoorMgZ
namespace Go.Proofs.YtdgjjnpdbdmdkaaGreatDoor
open Go.RowKit
set_option maxHeartbeats 4000000 in
set_option maxRecDepth 20000 in
theorem a8a (hcl:∀ (s:ByteArray) (W:World),s.size<=140737488355328->Calls Tryz.prog 38 #[.string s] W fun e w'=>e=.returned (.string s)/\Below W.heap.size W w')(p:PlP)(v:PlV)(E:a0y)(v1 v2:Value)(w:World)(hs:a4h w p v)(hp:PWt p)(he:a4y w E v1 v2)(hF:a3q w)(hg:GlE w):
 Calls Tryz.prog 4 #[plV p v,a2q E v1 v2] w fun r w'=>r=.returned (.bool true)/\Below w.heap.size w w':=by
 classical
 obtain⟨q,hq⟩:∃ q:Co->Co->Bool,∀ a b,q a b=true↔a=b:=⟨fun a b=>decide (a=b),fun a b=>by simp⟩
 have HAw:=a0a (fun W (hW:Below w.heap.size w W)=>b1T W (GlE.next hg hW))
 have HFw:=a0a (fun W (hW:Below w.heap.size w W)=>b5X p v W (hs.next hW) hp.gs)
 have HPl:=a0a (fun W (hW:Below w.heap.size w W)=>b5Y hcl q hq p v W (hs.next hW) hp (hF.later hW) (GlE.next hg hW))
 have HFp:=a0a (fun W (hW:Below w.heap.size w W)=>a7b q hq p v W (hs.next hW) hp.gs)
 have HFq:=a0a (fun W u (hu:a4h W (a3o p) u)=>a7b q hq (a3o p) u W hu (by show (p.gs.map a4r).length*96<=_;rw[List.length_map];exact hp.gs))
 have HDp:=a0a (fun W (hW:Below w.heap.size w W) (hk:b7X E p)=>a7d E p v v1 v2 W he.ok hk (hs.next hW) (he.next hW))
 have HDq:=a0a (fun W u (hW:Below w.heap.size w W) (hk:b7X E (a3o p)) (hu:a4h W (a3o p) u)=>a7d E (a3o p) u v1 v2 W he.ok hk hu (he.next hW))
 have HFo:=a0a (fun h:a0O q p=true=>a7Z q hq p h)
 have HSa:=a0a (fun h:a0O q p=true=>b0W q p h E)
 have hL1:E.wins.length<=9223372036854775807:=he.ok.wl
 have hL2:E.crons.length<=9223372036854775807:=he.ok.cl
 obtain⟨a1,c1,a2,c2,a3,c3,a4,c4,a5,c5,rfl,g1,g2,g3,g4⟩:=hs.shapes
 obtain⟨z1,y1,z2,y2,rfl,rfl⟩:=he.shape
 obtain⟨Y0,Y1,B0⟩:=a0k w 32 42 (plL p ⟨.slice a1 p.mets.length c1,.slice a2 p.wins.length c2,.slice a3 p.crons.length c3,.slice a4 p.gs.length c4,.slice a5 p.fin.parts.length c5⟩) [.int .i64 E.rep,.slice z1 E.wins.length y1,.slice z2 E.crons.length y2]
 have HY0:=a0a Y0
 have HY1:=a0a Y1
 have HB0:=a0a B0
 clear hs he hg hF hp hcl hq Y0 Y1 B0 g1 g2 g3 g4
 go_enter Tryz.func4,Tryz.ntmps4
 go_wp2_with fail
 refine Calls.mono (HAw.out _ HB0.out) ?_
 rintro e w1 ⟨rfl,b1⟩
 have B1:=kb HB0 b1
 replace HY0:=kn HY0 b1
 replace HY1:=kn HY1 b1
 clear b1 HB0
 obtain⟨x0,x1,x2,x3,x4,x5,x6,x7,x8,x9,x10,x11,x12,x13⟩:=Box.c14 HY0.out
 have xl:=HY0.out.lt
 go_wp2_with fail
 refine Calls.mono (HFw.out _ B1.out) ?_
 rintro e w2 ⟨rfl,b2⟩
 have B2:=kb B1 b2
 replace HY0:=kn HY0 b2
 replace HY1:=kn HY1 b2
 clear b2 B1 x0 x1 x2 x3 x4 x5 x6 x7 x8 x9 x10 x11 x12 x13 xl HFw
 cases hfw:b7V p with
 | false=>
   go_wp2_with fail
   refine Calls.mono (HAw.out _ B2.out) ?_
   rintro e w3 ⟨rfl,b3⟩
   have B3:=kb B2 b3
   clear b3
   go_wp2_with fail
   go_ret
   exact⟨rfl,B3.out⟩
 | true=>
   clear HAw hfw
   obtain⟨x0,x1,x2,x3,x4,x5,x6,x7,x8,x9,x10,x11,x12,x13⟩:=Box.c14 HY0.out
   have xl:=HY0.out.lt
   go_wp2_with fail
   refine Calls.mono (HPl.out _ B2.out) ?_
   rintro r w3 ⟨u,rfl,pu,b3⟩
   obtain⟨Q,er,hR⟩:∃ Q er,Hid (a6q q p=(Q,er)):=⟨_,_,rfl⟩
   rw[hR.out] at pu ⊢
   dsimp only at pu ⊢
   have B3:=kb B2 b3
   replace HY0:=kn HY0 b3
   replace HY1:=kn HY1 b3
   have HPu:=a0a pu
   clear b3 B2 x0 x1 x2 x3 x4 x5 x6 x7 x8 x9 x10 x11 x12 x13 xl HPl
   obtain⟨b1,d1,b2,d2,b3,d3,b4,d4,b5,d5,rfl,-,-,-,-⟩:=pu.shapes
   clear pu
   have BX:Below w3.heap.size w3 (w3.alloc (.cells #[.slice b1 Q.mets.length d1,.int .i64 Q.ru.mn,.int .i64 Q.ru.mx,.int .i64 Q.ru.st,.int .i64 Q.ru.up,.int .i64 Q.ru.dn,.slice b2 Q.wins.length d2,.slice b3 Q.crons.length d3,.int .i64 Q.loc,.slice b4 Q.gs.length d4,.int .i64 Q.fin.op,.int .i64 Q.fin.n,.int .i64 Q.fin.m,.slice b5 Q.fin.parts.length d5] 32)):=(Below.refl _ _).alloc (Nat.le_refl _) _
   have B4:=kb B3 BX
   have HXq:=a0a (Box.new w3 [.slice b1 Q.mets.length d1,.int .i64 Q.ru.mn,.int .i64 Q.ru.mx,.int .i64 Q.ru.st,.int .i64 Q.ru.up,.int .i64 Q.ru.dn,.slice b2 Q.wins.length d2,.slice b3 Q.crons.length d3,.int .i64 Q.loc,.slice b4 Q.gs.length d4,.int .i64 Q.fin.op,.int .i64 Q.fin.n,.int .i64 Q.fin.m,.slice b5 Q.fin.parts.length d5] 32)
   obtain⟨qb,hqb⟩:∃ rb,Hid (rb=w3.heap.size):=⟨_,rfl⟩
   rw[<-hqb.out] at HXq
   have HPq:=a0a (HPu.out.next BX)
   replace HY0:=kn HY0 BX
   replace HY1:=kn HY1 BX
   clear BX HPu B3
   obtain⟨x0,x1,x2,x3,x4,x5,x6,x7,x8,x9,x10,x11,x12,x13⟩:=Box.c14 HY0.out
   have xl:=HY0.out.lt
   go_wp2_with fail
   rw[<-hqb.out]
   generalize hW:w3.alloc _=w4 at *
   clear hW x0 x1 x2 x3 x4 x5 x6 x7 x8 x9 x10 x11 x12 x13 xl
   refine Calls.mono (HFp.out _ B4.out) ?_
   rintro e w5 ⟨rfl,b5⟩
   have B5:=kb B4 b5
   replace HY0:=kn HY0 b5
   replace HY1:=kn HY1 b5
   replace HXq:=kn HXq b5
   replace HPq:=a0a (HPq.out.next b5)
   clear b5 B4 HFp
   cases hf:a0O q p with
   | false=>
     obtain rfl:er=1:=by
      have h:=hR.out
      unfold a6q at h
      rw[hf] at h
      exact(congrArg Prod.snd h).symm
     go_wp2_with fail
     go_ret
     exact⟨rfl,B5.out⟩
   | true=>
     obtain⟨rfl,rfl⟩:Q=a3o p/\er=0:=by
      have h:=hR.out
      unfold a6q at h
      rw[hf] at h
      exact⟨(congrArg Prod.fst h).symm,(congrArg Prod.snd h).symm⟩
     have hfq:=HFo.out hf
     rw[hfq] at HFq
     have HFq2:=a0a (HFq.out _ _ HPq.out)
     obtain⟨t0,t1,t2,t3,t4,t5,t6,t7,t8,t9,t10,t11,t12,t13⟩:=Box.c14 HXq.out
     have tl:=HXq.out.lt
     go_wp2_with fail
     refine Calls.mono HFq2.out ?_
     rintro e w6 ⟨rfl,b6⟩
     have B6:=kb B5 b6
     replace HY0:=kn HY0 b6
     replace HY1:=kn HY1 b6
     replace HXq:=kn HXq b6
     replace HPq:=a0a (HPq.out.next b6)
     clear b6 B5 HFq HFq2 t0 t1 t2 t3 t4 t5 t6 t7 t8 t9 t10 t11 t12 t13 tl
     obtain⟨x0,x1,x2,x3,x4,x5,x6,x7,x8,x9,x10,x11,x12,x13⟩:=Box.c14 HY0.out
     have xl:=HY0.out.lt
     obtain⟨k0,k1,k2⟩:=Box.c3 HY1.out
     have kl:=HY1.out.lt
     by_cases h1:E.wins.length=p.wins.length
     case neg=>
      have h1':((E.wins.length:Int) != (p.wins.length:Int))=true:=by simp;omega
      clear h1
      go_wp2_with fail
      go_ret
      exact⟨rfl,B6.out⟩
     by_cases h2:E.crons.length=p.crons.length
     case neg=>
      have h1':((E.wins.length:Int) != (p.wins.length:Int))=false:=by simp;omega
      have h2':((E.crons.length:Int) != (p.crons.length:Int))=true:=by simp;omega
      clear h1 h2
      go_wp2_with fail
      go_ret
      exact⟨rfl,B6.out⟩
     have hk1:=(b0p hf h1 h2).1
     have hk2:=(b0p (p:=a3o p) hfq h1 h2).1
     have hsa:=HSa.out hf
     have HD1:=a0a (fun W (hW:Below w6.heap.size w6 W)=>HDp.out W (a0b B6.out hW B6.out.size) hk1)
     have HD2:=a0a (fun W (hW:Below w6.heap.size w6 W)=>HDq.out W _ (a0b B6.out hW B6.out.size) hk2 (HPq.out.next hW))
     rw[hsa] at HD2
     obtain⟨ra,rb,rc,hra⟩:∃ ra rb rc,Hid (a3K (gsR E p.gs p.fin)=.agg #[.bool ra,.int .i64 rb,.int .i64 rc]):=by unfold a3K;split;exact⟨_,_,_,a0a rfl⟩;exact⟨_,_,_,a0a rfl⟩
     rw[hra.out] at HD1 HD2
     have h1':((E.wins.length:Int) != (p.wins.length:Int))=false:=by simp;omega
     have h2':((E.crons.length:Int) != (p.crons.length:Int))=false:=by simp;omega
     clear hra hsa hk1 hk2 HDp HDq HSa HFo hfq hf HPq hR h1 h2
     obtain⟨t0,t1,t2,t3,t4,t5,t6,t7,t8,t9,t10,t11,t12,t13⟩:=Box.c14 HXq.out
     have tl:=HXq.out.lt
     obtain⟨f,hf1,hf2⟩:=a5p w6
     have HF1:=a0a hf1
     have HF2:=a0a hf2
     have x0':=fun n=>a0d (hf1 n) x0
     have x1':=fun n=>a0d (hf1 n) x1
     have x2':=fun n=>a0d (hf1 n) x2
     have x3':=fun n=>a0d (hf1 n) x3
     have x4':=fun n=>a0d (hf1 n) x4
     have x5':=fun n=>a0d (hf1 n) x5
     have x6':=fun n=>a0d (hf1 n) x6
     have x7':=fun n=>a0d (hf1 n) x7
     have x8':=fun n=>a0d (hf1 n) x8
     have x9':=fun n=>a0d (hf1 n) x9
     have x10':=fun n=>a0d (hf1 n) x10
     have x11':=fun n=>a0d (hf1 n) x11
     have x12':=fun n=>a0d (hf1 n) x12
     have x13':=fun n=>a0d (hf1 n) x13
     have t0':=fun n=>a0d (hf1 n) t0
     have t1':=fun n=>a0d (hf1 n) t1
     have t2':=fun n=>a0d (hf1 n) t2
     have t3':=fun n=>a0d (hf1 n) t3
     have t4':=fun n=>a0d (hf1 n) t4
     have t5':=fun n=>a0d (hf1 n) t5
     have t6':=fun n=>a0d (hf1 n) t6
     have t7':=fun n=>a0d (hf1 n) t7
     have t8':=fun n=>a0d (hf1 n) t8
     have t9':=fun n=>a0d (hf1 n) t9
     have t10':=fun n=>a0d (hf1 n) t10
     have t11':=fun n=>a0d (hf1 n) t11
     have t12':=fun n=>a0d (hf1 n) t12
     have t13':=fun n=>a0d (hf1 n) t13
     have k0':=fun n=>a0d (hf1 n) k0
     have k1':=fun n=>a0d (hf1 n) k1
     have k2':=fun n=>a0d (hf1 n) k2
     clear hf1 hf2
     go_wp2_with fail
     clear x0 x1 x2 x3 x4 x5 x6 x7 x8 x9 x10 x11 x12 x13 xl t0 t1 t2 t3 t4 t5 t6 t7 t8 t9 t10 t11 t12 t13 tl k0 k1 k2 kl
     refine a0m f (by kernel_rfl) (by kernel_rfl) (HF2.out _ (Below.refl _ _).drew) ?_
     repeat (go_big_quiet_step (first|(go_at_call 11;with_reducible refine Calls.mono (HD1.out _ (HF1.out _)) ?_;rintro e W1 ⟨rfl,b7⟩;exact⟨rfl,HF2.out _ (a0b (HF1.out _) b7 (HF1.out _).size)⟩)|(go_at_call 11;with_reducible refine Calls.mono (HD2.out _ (HF1.out _)) ?_;rintro e W1 ⟨rfl,b7⟩;exact⟨rfl,HF2.out _ (a0b (HF1.out _) b7 (HF1.out _).size)⟩)))
     refine wpQuiet_nil ?_
     intro w8 hw8
     obtain⟨n8,rfl⟩:=hw8
     have B8:=a0a (a0b B6.out (HF1.out n8) B6.out.size)
     clear x0' x1' x2' x3' x4' x5' x6' x7' x8' x9' x10' x11' x12' x13' t0' t1' t2' t3' t4' t5' t6' t7' t8' t9' t10' t11' t12' t13' k0' k1' k2'
     generalize f n8=w8 at *
     go_wp2_with fail
     go_ret
     exact⟨rfl,B8.out⟩
end Go.Proofs.YtdgjjnpdbdmdkaaGreatDoor
