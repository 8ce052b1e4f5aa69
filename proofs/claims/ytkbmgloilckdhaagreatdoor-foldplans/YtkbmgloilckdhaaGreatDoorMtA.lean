import Derived.Test.YtkbmgloilckdhaaGreatDoorFrA
import Derived.Test.YtkbmgloilckdhaaGreatDoorMfQ
import Derived.Test.YtkbmgloilckdhaaGreatDoorMfE
import Derived.Test.YtkbmgloilckdhaaGreatDoorMjC
import Derived.Test.YtkbmgloilckdhaaGreatDoorCkK
import Derived.Test.YtkbmgloilckdhaaGreatDoorCards
import Derived.Test.YtkbmgloilckdhaaGreatDoorTie
import Derived.Test.YtkbmgloilckdhaaGreatDoorMhZ
import Derived.Test.YtkbmgloilckdhaaGreatDoorMgO
import Derived.Test.YtkbmgloilckdhaaGreatDoorFsA
import Derived.WalkKit
import Derived.ProofKit
import Derived.OpenShut
import Derived.Below
import Derived.Carry
import Derived.SevenTiedAt
import Derived.SizedLaws
import Derived.ChangeMaps5
section
namespace Go.Proofs.YtkbmgloilckdhaaGreatDoor
open Go.RowKit
set_option maxHeartbeats 4000000 in
set_option maxRecDepth 20000 in
theorem a7Y (hcl:∀ (s:ByteArray) (W:World),s.size<=140737488355328->Calls Tryz.prog 29 #[.string s] W fun e w'=>e=.returned (.string s)/\Below W.heap.size W w')
 (hrp:∀ (q:Co->Co->Bool),(∀ a b,q a b=true↔a=b)->∀ (p:PlP) (v:PlV) (w:World),a3c w p v->p.gs.length*96<=140737488355328->Calls Tryz.prog 7 #[plV p v] w fun e w'=>∃ u,e=.returned (.tuple #[plV (a2N q p).1 u,.int .i64 (a2N q p).2])/\a3c w' (a2N q p).1 u/\Below w.heap.size w w')
 (p:PlP) (v:PlV) (w:World) (hs:a3c w p v) (hp:PWt p) (hF:a3t w) (hg:GlE w) :
 Calls Tryz.prog 3 #[plV p v] w fun r w'=>r=.returned (.bool true)/\Below w.heap.size w w':=by
 classical
 obtain⟨q,hq⟩:∃ q:Co->Co->Bool,∀ a b,q a b=true↔a=b:=⟨fun a b=>decide (a=b),fun a b=>by simp⟩
 have HAw:=a0a (fun W (hW:Below w.heap.size w W)=>b1Z W (GlE.next hg hW))
 have HFw:=a0a (fun W (hW:Below w.heap.size w W)=>b6j p v W (hs.next hW) hp.gs)
 have HPl:=a0a (fun W (hW:Below w.heap.size w W)=>b6k hcl q hq p v W (hs.next hW) hp (hF.later hW) (GlE.next hg hW))
 have HRp:=a0a (fun W (hW:Below w.heap.size w W)=>hrp q hq p v W (hs.next hW) hp.gs)
 have HQl:Hid ((a2N q p).1.gs.length*96<=140737488355328):=a0a (by
  unfold a2N
  split
  ·show (p.gs.map a5o).length*96<=_
   rw[List.length_map];exact hp.gs
  ·show ([]:List (Co×Co)).length*96<=_
   simp)
 obtain⟨a1,c1,a2,c2,a3,c3,a4,c4,a5,c5,rfl,g1,g2,g3,g4⟩:=hs.shapes
 have B0:=a0a ((Below.refl w.heap.size w).alloc (Nat.le_refl _) (.cells (plL p ⟨.slice a1 p.mets.length c1,.slice a2 p.wins.length c2,.slice a3 p.crons.length c3,.slice a4 p.gs.length c4,.slice a5 p.fin.parts.length c5⟩).toArray 32))
 have HY0:=a0a (Box.new w (plL p ⟨.slice a1 p.mets.length c1,.slice a2 p.wins.length c2,.slice a3 p.crons.length c3,.slice a4 p.gs.length c4,.slice a5 p.fin.parts.length c5⟩) 32)
 clear hs hg hF hp hcl hq hrp g1 g2 g3 g4
 obtain⟨Q,er,hR⟩:∃ Q er,Hid (a2N q p=(Q,er)):=⟨_,_,rfl⟩
 rw[hR.out] at HPl HRp HQl
 dsimp only at HPl HRp HQl
 clear hR
 go_enter Tryz.func3,Tryz.ntmps3
 go_wp2_with fail
 refine Calls.mono (HAw.out _ B0.out) ?_
 rintro e w1 ⟨rfl,b1⟩
 have B1:=kb B0 b1
 replace HY0:=kn HY0 b1
 clear b1 B0
 obtain⟨x0,x1,x2,x3,x4,x5,x6,x7,x8,x9,x10,x11,x12,x13⟩:=Box.c14 HY0.out
 have xl:=HY0.out.lt
 go_wp2_with fail
 refine Calls.mono (HFw.out _ B1.out) ?_
 rintro e w2 ⟨rfl,b2⟩
 have B2:=kb B1 b2
 replace HY0:=kn HY0 b2
 clear b2 B1 x0 x1 x2 x3 x4 x5 x6 x7 x8 x9 x10 x11 x12 x13 xl HFw
 cases hfw:b8m p with
 | false=>
   go_wp2_with fail
   refine Calls.mono (HAw.out _ B2.out) ?_
   rintro e w3 ⟨rfl,b3⟩
   have B3:=kb B2 b3
   clear b3
   go_wp2_with fail
   go_ret
   exact⟨rfl,B3.out⟩
 | true=>
   clear HAw hfw
   obtain⟨x0,x1,x2,x3,x4,x5,x6,x7,x8,x9,x10,x11,x12,x13⟩:=Box.c14 HY0.out
   have xl:=HY0.out.lt
   go_wp2_with fail
   refine Calls.mono (HPl.out _ B2.out) ?_
   rintro r w3 ⟨u,rfl,pu,b3⟩
   have B3:=kb B2 b3
   replace HY0:=kn HY0 b3
   obtain⟨b1,d1,b2,d2,b3',d3,b4,d4,b5,d5,rfl,-,-,-,-⟩:=pu.shapes
   have BX:Below w3.heap.size w3 (w3.alloc (.cells #[.slice b1 Q.mets.length d1,.int .i64 Q.ru.mn,.int .i64 Q.ru.mx,.int .i64 Q.ru.st,.int .i64 Q.ru.up,.int .i64 Q.ru.dn,.slice b2 Q.wins.length d2,.slice b3' Q.crons.length d3,.int .i64 Q.loc,.slice b4 Q.gs.length d4,.int .i64 Q.fin.op,.int .i64 Q.fin.n,.int .i64 Q.fin.m,.slice b5 Q.fin.parts.length d5] 32)):=(Below.refl _ _).alloc (Nat.le_refl _) _
   have B4:=kb B3 BX
   have HXq:=a0a (Box.new w3 [.slice b1 Q.mets.length d1,.int .i64 Q.ru.mn,.int .i64 Q.ru.mx,.int .i64 Q.ru.st,.int .i64 Q.ru.up,.int .i64 Q.ru.dn,.slice b2 Q.wins.length d2,.slice b3' Q.crons.length d3,.int .i64 Q.loc,.slice b4 Q.gs.length d4,.int .i64 Q.fin.op,.int .i64 Q.fin.n,.int .i64 Q.fin.m,.slice b5 Q.fin.parts.length d5] 32)
   obtain⟨qb,hqb⟩:∃ rb,Hid (rb=w3.heap.size):=⟨_,rfl⟩
   rw[<-hqb.out] at HXq
   have HPq:=a0a (pu.next BX)
   replace HY0:=kn HY0 BX
   clear BX pu B3 b3 B2 x0 x1 x2 x3 x4 x5 x6 x7 x8 x9 x10 x11 x12 x13 xl HPl
   obtain⟨x0,x1,x2,x3,x4,x5,x6,x7,x8,x9,x10,x11,x12,x13⟩:=Box.c14 HY0.out
   have xl:=HY0.out.lt
   go_wp2_with fail
   rw[<-hqb.out]
   generalize hW:w3.alloc _=w4 at *
   clear hW x0 x1 x2 x3 x4 x5 x6 x7 x8 x9 x10 x11 x12 x13 xl
   refine Calls.mono (HRp.out _ B4.out) ?_
   rintro r w5 ⟨u2,rfl,pu,b5⟩
   obtain⟨e1,f1,e2,f2,e3,f3,e4,f4,e5,f5,rfl,-,-,-,-⟩:=pu.shapes
   have B5:=kb B4 b5
   replace HXq:=kn HXq b5
   replace HPq:=a0a (HPq.out.next b5)
   have lq:=HXq.out.lt
   have BX:Below w5.heap.size w5 (w5.alloc (.cells #[.slice e1 Q.mets.length f1,.int .i64 Q.ru.mn,.int .i64 Q.ru.mx,.int .i64 Q.ru.st,.int .i64 Q.ru.up,.int .i64 Q.ru.dn,.slice e2 Q.wins.length f2,.slice e3 Q.crons.length f3,.int .i64 Q.loc,.slice e4 Q.gs.length f4,.int .i64 Q.fin.op,.int .i64 Q.fin.n,.int .i64 Q.fin.m,.slice e5 Q.fin.parts.length f5] 32)):=(Below.refl _ _).alloc (Nat.le_refl _) _
   have B6:=kb B5 BX
   have HXr:=a0a (Box.new w5 [.slice e1 Q.mets.length f1,.int .i64 Q.ru.mn,.int .i64 Q.ru.mx,.int .i64 Q.ru.st,.int .i64 Q.ru.up,.int .i64 Q.ru.dn,.slice e2 Q.wins.length f2,.slice e3 Q.crons.length f3,.int .i64 Q.loc,.slice e4 Q.gs.length f4,.int .i64 Q.fin.op,.int .i64 Q.fin.n,.int .i64 Q.fin.m,.slice e5 Q.fin.parts.length f5] 32)
   have HPr:=a0a (pu.next BX)
   replace HXq:=kn HXq BX
   replace HPq:=a0a (HPq.out.next BX)
   have HSp:=a0a (a8X Q _ _ _ HPq.out HPr.out HQl.out)
   clear BX pu b5 B4 B5 HRp
   obtain⟨t0,t1,t2,t3,t4,t5,t6,t7,t8,t9,t10,t11,t12,t13⟩:=Box.c14 HXq.out
   go_wp2_with fail
   refine Calls.mono HSp.out ?_
   rintro r w7 ⟨rfl,b7⟩
   have B7:=kb B6 b7
   clear b7
   go_wp2_with fail
   go_ret
   exact⟨rfl,B7.out⟩
end Go.Proofs.YtkbmgloilckdhaaGreatDoor
end
section
namespace Go.Proofs.YtkbmgloilckdhaaGreatDoor.foldPlans
open Go.ChangeShapes Go.WideShapes Go.ChangeAt Go.WideMaps Go.WideElems Go.ChangeMaps Go.RowKit
set_option maxRecDepth 100000
theorem own:ownKnob Tryz.prog.godebug=none:=by kernel_rfl
theorem b5R:laidOutB Tryz.prog=true:=by kernel_rfl
theorem reads (os:Os){H:Type}(enc:TypeId×Value->H):∃ places,DataW.whole enc Tryz.prog (({ World.laidAll Tryz.prog os a5n with heap:=(World.laidAll Tryz.prog os a5n).heap.modify 3 b8j}:World).forCall (fun _ _=>0) ⟨#[],#[.agg #[.slice none 0 0,.int .i64 0,.int .i64 0,.int .i64 0,.int .i64 0,.int .i64 0,.slice none 0 0,.slice none 0 0,.int .i64 0,.slice none 0 0,.int .i64 0,.int .i64 0,.int .i64 0,.slice none 0 0]],[]⟩).memory Tryz.f3.params.toList Rows.foldPlansSpec.vars false #[Value.agg #[.slice none 0 0,.int .i64 0,.int .i64 0,.int .i64 0,.int .i64 0,.int .i64 0,.slice none 0 0,.slice none 0 0,.int .i64 0,.slice none 0 0,.int .i64 0,.int .i64 0,.int .i64 0,.slice none 0 0]].toList 8=some ([.agg [.nil,.agg [.lit (.int .i64 0),.lit (.int .i64 0),.lit (.int .i64 0),.lit (.int .i64 0),.lit (.int .i64 0)],.nil,.nil,.lit (.int .i64 0),.nil,.agg [.lit (.int .i64 0),.lit (.int .i64 0),.lit (.int .i64 0),.nil]]],[],places):=
 ⟨[],by kernel_rfl⟩
theorem lifted (os:Os)(started:os.Started)(H:Type)(enc:TypeId×Value->H)(F:Stop.Interp):
 ReturnsInHanded {} Tryz.checked os 3 .any ((OpenSpec.ofChange Rows.foldPlansSpec).preRow enc Tryz.prog Tryz.f3 Rows.foldPlansRow.domain false Rows.foldPlansRow.laid) (((OpenSpec.ofChange Rows.foldPlansSpec).at F).post enc Tryz.prog Tryz.f3 false true false false):=by
 obtain⟨places,hx⟩:=reads os enc
 refine returnsInHanded_of_row (C:=Tryz.checked) (s:=(OpenSpec.ofChange Rows.foldPlansSpec)) own started (by kernel_rfl) Tryz.func3
  (a6U (enc:=enc) (C:=Tryz.checked) ({ World.laidAll Tryz.prog os a5n with heap:=(World.laidAll Tryz.prog os a5n).heap.modify 3 b8j}:World) #[.agg #[.slice none 0 0,.int .i64 0,.int .i64 0,.int .i64 0,.int .i64 0,.int .i64 0,.slice none 0 0,.slice none 0 0,.int .i64 0,.slice none 0 0,.int .i64 0,.int .i64 0,.int .i64 0,.slice none 0 0]] (b3k os) (World.shaped_of_ZipB (by kernel_rfl) (by kernel_rfl)) (by kernel_rfl)
    (OpenSpec.preRow_of_cond 8 hx (by kernel_rfl) (fun k hk=>by cases hk) (by kernel_rfl) (b3j os _))) ?_
 intro W base args ds gs before hval0 hW _ hcond hsz hL _ _
 have hval:∀ (j:Nat) t v,Tryz.f3.params[j]? = some t->args[j]? = some v->Value.okWide Tryz.prog W .any base t v:=hval0
 have hW':=hW
 obtain⟨p,q,hA0,hV,rfl,hfz,hnd⟩:=hW
 have hA:DataW.TrodAll enc Tryz.prog W 0 (fun _=>true) true Tryz.f3.params.toList args.toList ds p:=hA0
 rw[Tryz.params3] at hA hval
 obtain⟨v0,vs0,d0,ds0,p0,q0,hargs,rfl,rfl,h0,r0⟩:=trodAll_cons hA
 obtain⟨rfl,rfl,rfl⟩:=trodAll_nil r0
 obtain rfl:args=#[v0]:=by cases args;simp_all
 obtain⟨rfl,rfl⟩:=trodVars_none hV
 have k0:=h0
 have lt0:∀ x∈p0,x.block<W.heap.size:=by obtain⟨m,hm⟩:=k0;exact DataW.trod_lt m _ _ _ hm
 obtain⟨t0,u0,rfl,s0⟩:=a7i (hval 0 32 v0 rfl rfl) h0
 have z0:=b4T h0 s0 (fun x hx=>by have:=List.all_eq_true.1 hsz _ (DataW.weights_mem_each (ts:=Tryz.f3.params.toList++_) (j:=0) (t:=32) (by rw[Tryz.params3];rfl) rfl x hx);simpa using this)
 clear hA0 hval0
 simp only[List.append_nil] at hW'
 refine(a7Y a8W b0u t0 u0 W s0 z0 (a7Z hL) (a7W hL)).mono fun e W' ⟨he,hb⟩=>?_
 subst he
 exact⟨_,rfl,_,_,_,[],_,[],hW',trodAll_mk1 (shut_bool Tryz.underlying4 _),(trodAll_cons_mk (Below.trod b5R (by kernel_rfl) (of_decide_eq_true (by kernel_rfl)) k0 hb lt0) trodAll_mk0),rfl,hb.frame _,fun h=>by cases h⟩
end Go.Proofs.YtkbmgloilckdhaaGreatDoor.foldPlans
end
