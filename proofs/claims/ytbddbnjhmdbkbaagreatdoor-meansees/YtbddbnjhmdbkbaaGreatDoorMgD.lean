import Derived.Test.YtbddbnjhmdbkbaaGreatDoorMgC
import Derived.Test.YtbddbnjhmdbkbaaGreatDoorMhN
import Derived.Laws.OwnMore
import Derived.Laws.EntriesVeiled
namespace Go.Proofs.YtbddbnjhmdbkbaaGreatDoor
open Go.RowKit
def a1s (lad:Co->List Int->Int)(op:Nat)(c:Co)(ss:List Int):Int:=match mkT.getD op none with
 | some x=>mkF x.1 x.2 ss
 | none=>if op=6 then (if ss=[] then c.m else 0) else if op=7 then a0R 1 ss else if op=27 then a0R 2 ss else if op=28 then a1X ss else lad c ss
def a0l (lad:Co->List Int->Int)(wn cn ln:Int):Co->Int
 | ⟨k,n,m,ps⟩=>if 1<=k/\k<=32 then (if a0m k.toNat wn cn ln ⟨k,n,m,ps⟩=true then (if (ps.map (a0l lad wn cn ln)).contains 0=true then 0 else a1s lad k.toNat ⟨k,n,m,ps⟩ (ps.map (a0l lad wn cn ln))) else 0) else 0
theorem a1f (lad:Co->List Int->Int)(wn cn ln:Int)(c:Co):a0l lad wn cn ln c=if 1<=c.op/\c.op<=32 then (if a0m c.op.toNat wn cn ln c=true then (if (c.parts.map (a0l lad wn cn ln)).contains 0=true then 0 else a1s lad c.op.toNat c (c.parts.map (a0l lad wn cn ln))) else 0) else 0:=by
 cases c
 rw[a0l]
def c2p (lad:Co->List Int->Int)(wn cn ln:Int)(t:Co):Prop:=∀ (v:Value) (b sb:Nat) (w:World),a0p w t v->a0G t<=8192->Box w sb (soL b wn cn ln)->a3h w b->Calls Tryz.prog 81 #[.pointer (some ⟨sb,0,none⟩),coV t v] w fun e w'=>e=.returned (.int .i64 (a0l lad wn cn ln t))/\Below w.heap.size w w'
theorem b6G:(Tryz.prog.info? 3).map (fun i=>(i.zero,i.size,i.bytes))=some (some (.int .i64 0),1,8):=by kernel_rfl
theorem b0V {w:World}{B size:Nat}{e:TypeId}{v:Value}{n:Nat}{xs:List Value}(h:w.ownsRow B e size v n xs):(v=.slice none 0 0/\n=0)\/∃ g cap,v=.slice (some ⟨g,0,none⟩) n cap/\B<=g/\Box w g xs:=by
 obtain⟨h1,⟨h2,h3⟩ | ⟨g,cap,cur,h2,h3,h4,h5,h6,h7,h8⟩⟩:=h
 ·exact .inl ⟨h2,h3⟩
 ·exact .inr ⟨g,cap,h2,h3,(Box.ofBlock h4).part (by rw[<-h8];exact List.take_prefix _ _)⟩
def Ent (f:Nat):Prop:=∀ (args:Array Value) (W:World),(callFunc f args).run Tryz.prog W=.ok (.enter f args) W
theorem b6Z:∀ k,1<=k->k<=32->Ent (b4h.getD k 0):=by
 apply a2n (p:=fun k=>Ent (b4h.getD k 0))<;>(intro args W;kernel_rfl)
theorem a9E:∀ k:Fin 33,1<=k.val->mkT.getD k.val none=none->k.val=6\/k.val=7\/k.val=27\/k.val=28\/k.val=32:=by decide
theorem b6Y {w:World}{k f:Nat}{q:Array Value}(h1:1<=k)(h2:k<=32)(h:SoF w k (.func (.func f) #[] q)):Ent f:=by
 unfold SoF at h
 split at h
 ·obtain⟨p,q',e,_⟩:=h
  cases e
  intro args W
  kernel_rfl
 ·next hm=>
  rcases a9E ⟨k,by omega⟩ h1 hm with e | e | e | e | e<;>(dsimp only at e;subst e;cases h;intro args W;kernel_rfl)
theorem SoF.shape {w:World}{op:Nat}{fs:Value}(h:SoF w op fs):∃ f c,fs=.func (.func f) #[] c:=by
 unfold SoF at h
 split at h
 ·obtain⟨p,q,rfl,_⟩:=h;exact⟨_,_,rfl⟩
 ·exact⟨_,_,h⟩
theorem WoF.shape {w:World}{op:Nat}{fs:Value}(h:WoF w op fs):∃ f c,fs=.func (.func f) #[] c:=by
 unfold WoF at h
 split at h
 ·exact⟨_,_,h⟩
 ·obtain⟨p,rfl,_⟩:=h;exact⟨_,_,rfl⟩
 ·obtain⟨p,rfl,_⟩:=h;exact⟨_,_,rfl⟩
theorem b6E {w:World}{g:Nat}{xs:List Int}(h:Box w g (a1C xs))(cap:Nat):a1r w (.slice (some ⟨g,0,none⟩) xs.length cap) xs:=
 ⟨_,_,rfl,.inr ⟨g,0,rfl,h.lt,fun i hi=>by rw[Nat.zero_add];exact a3o h (List.getElem?_eq_getElem hi)⟩⟩
theorem b2o (lad:Co->List Int->Int)(HLad:StC 175 lad){k:Nat}(h1:1<=k)(h2:k<=32){f:Nat}{q:Array Value}(c:Co)(ss:List Int)(v:Value)(a1:Option Addr)(k1:Nat)(w:World)(h:SoF w k (.func (.func f) #[] q))(hs:a0p w c v)(hl:ss.length=c.parts.length)(hm:ss.length<=8192)(hi:a1r w (.slice a1 ss.length k1) ss)(hk:ss.length<=k1)(hc:k1<=9223372036854775807):
 Calls Tryz.prog f (#[coV c v,.slice a1 ss.length k1]++q) w fun e w'=>e=.returned (.int .i64 (a1s lad k c ss))/\Below w.heap.size w w':=by
 unfold SoF at h
 unfold a1s
 cases hx:mkT.getD k none with
 | some x=>
   rw[hx] at h
   obtain⟨p,q',e,hM⟩:=h
   cases e
   obtain⟨ad,cap,rfl,-,-⟩:=hs.parts.shape
   exact c0l x.1 x.2 ss p q' c ad a1 _ cap k1 w hM hi (by omega)
 | none=>
   rw[hx] at h
   have hh:(Value.func (.func f) #[] q)=.func (.func (soT.getD k 0)) #[] #[]:=h
   simp only[Value.func.injEq,Fn.func.injEq,true_and] at hh
   obtain⟨rfl,rfl⟩:=hh
   rcases a9E ⟨k,by omega⟩ h1 hx with e | e | e | e | e<;>dsimp only at e<;>subst e
   ·exact c0m c ss v a1 k1 w hs hl hm hi hk hc
   ·exact c0k c ss v a1 k1 w hs hl hm hi hk hc
   ·exact b4K c ss v a1 k1 w hs hl hm hi hk hc
   ·exact b4N c ss v a1 k1 w hs hl hm hi hk hc
   ·exact HLad c ss v a1 k1 w hs hl hm hi hk hc
set_option maxHeartbeats 4000000 in
set_option maxRecDepth 20000 in
theorem b2p (lad:Co->List Int->Int)(HLad:StC 175 lad)(wn cn ln:Int)(h64:C64 wn/\C64 cn/\C64 ln)(t:Co)(ih:∀ x,x∈t.parts->c2p lad wn cn ln x):c2p lad wn cn ln t:=by
 intro v b sb w hs hn hb hr
 obtain⟨op,tn,tm,ps⟩:=t
 have HS:=a0a hs
 have HL:=a0a (show CAt w v ps from hs.parts)
 have HI:=a0a (show ∀ x,x∈ps->c2p lad wn cn ln x from ih)
 have HBx:=a0a hb
 have HRw:=a0a hr
 have HFt:=a0a hs.fit
 obtain⟨ad,cap,rfl,hc1,hc2⟩:=HL.out.shape
 have hlen:ps.length<=8192:=by
  have h1:=a2u ps
  rw[a2j] at hn
  have h2:1+a0C ps<=8192:=hn
  omega
 have hnp:Hid (∀ x,x∈ps->a0G x<=8192):=fun x hx=>by
  have:=a1l (t:=⟨op,tn,tm,ps⟩) hx
  omega
 obtain⟨R,hR⟩:∃ R,Hid (R=a0l lad wn cn ln ⟨op,tn,tm,ps⟩):=⟨_,rfl⟩
 rw[<-hR.out]
 obtain⟨N,hN⟩:∃ N,Hid (N=ps.length):=⟨_,rfl⟩
 rw[<-hN.out] at hc1 HL hlen HS ⊢
 have s0:=hb.cell 0 _ rfl
 have sl:=hb.lt
 have hbl:=hr.lt
 clear hs ih hn
 show Calls Tryz.prog 81 #[.pointer (some ⟨sb,0,none⟩),.agg #[.int .i64 op,.int .i64 tn,.int .i64 tm,.slice ad N cap]] w _
 by_cases ho:1<=op/\op<=32
 case neg=>
  have h0:R=0:=by rw[hR.out,a1f];exact if_neg ho
  subst h0
  have HA:Hid (∀ o,Below w.heap.size w (w.alloc o)):=fun o=>(ZD _ _).alloc (ZB _) _
  by_cases h1:op<1
  ·go_enter Tryz.func81,Tryz.ntmps81
   go_wp2_with fail
   go_ret
   exact⟨rfl,HA.out _⟩
  ·have h2:32<op:=by omega
   go_enter Tryz.func81,Tryz.ntmps81
   go_wp2_with fail
   go_ret
   exact⟨rfl,HA.out _⟩
 obtain⟨k,rfl⟩:∃ k:Nat,op=(k:Int):=⟨op.toNat,by omega⟩
 have hk1:1<=k:=by omega
 have hk2:k<=32:=by omega
 have hR1:Hid (R=if a0m k wn cn ln ⟨k,tn,tm,ps⟩=true then (if (ps.map (a0l lad wn cn ln)).contains 0=true then 0 else a1s lad k ⟨k,tn,tm,ps⟩ (ps.map (a0l lad wn cn ln))) else 0):=by
  show _=_
  rw[hR.out,a1f]
  exact if_pos ho
 obtain⟨fs,fw,g1,g2,g3,g4,g5⟩:=hr.row k hk1 hk2
 obtain⟨f1,q1,rfl⟩:=g4.shape
 obtain⟨f2,q2,rfl⟩:=g5.shape
 have HF:=a0a (fun W (hb:Box W sb (soL b wn cn ln))=>b4H k hk1 hk2 wn cn ln b sb ⟨k,tn,tm,ps⟩ ad N cap W h64.1 h64.2.1 h64.2.2 hb HFt.out)
 have G4:=a0a g4
 have hEf:=b6Z k hk1 hk2
 have hEs:=b6Y hk1 hk2 G4.out
 unfold Ent at hEf hEs
 generalize b4h.getD k 0=ff at *
 have hi1:¬(k:Int)<1:=by omega
 have hi2:¬ 32<(k:Int):=by omega
 have hi3:(k:Int)<33:=by omega
 clear g4 g5 hb
 generalize a0m k wn cn ln ⟨k,tn,tm,ps⟩=fb at *
 clear ho hR hr
 have X0:=Box.new w (coL ⟨k,tn,tm,ps⟩ (.slice ad N cap)) 30
 have ka:=(ZD w.heap.size w).alloc (ZB _) (.cells (coL ⟨k,tn,tm,ps⟩ (.slice ad N cap)).toArray 30)
 have t0:=(ka.cell (p:=⟨sb,0,none⟩) sl).trans s0
 have t1:=(ka.cell (p:=⟨b,k*3,none⟩) hbl).trans g1
 have t2:=(ka.cell (p:=⟨b,k*3+1,none⟩) hbl).trans g2
 have t3:=(ka.cell (p:=⟨b,k*3+2,none⟩) hbl).trans g3
 have c0:=X0.cell 0 _ rfl
 have x0:=X0.lt
 have k0:b<(w.alloc (.cells (coL ⟨k,tn,tm,ps⟩ (.slice ad N cap)).toArray 30)).heap.size:=ZA hbl ka.size
 have k1:sb<(w.alloc (.cells (coL ⟨k,tn,tm,ps⟩ (.slice ad N cap)).toArray 30)).heap.size:=ZA sl ka.size
 have HX0:=a0a X0
 have HKa:=a0a ka
 clear s0 g1 g2 g3 X0 ka
 go_enter Tryz.func81,Tryz.ntmps81
 go_wp2_with fail
 generalize hW0:w.alloc _=w0 at *
 clear hW0
 go_region_held3 (fun w'=>w'.cell? ⟨sb,0,none⟩=some (.slice (some ⟨b,0,none⟩) 33 33)/\w'.cell? ⟨w.heap.size,0,none⟩=some (.int .i64 (k:Int))/\(w'.cell? ⟨b,k*3,none⟩=some (.func (.func ff) #[] #[])/\w'.cell? ⟨b,k*3+1,none⟩=some (.func (.func f1) #[] q1)/\w'.cell? ⟨b,k*3+2,none⟩=some (.func (.func f2) #[] q2))) (simp[go_sem, *]) (fail)
 have Z0:=(Box.new w0 [.func (.func ff) #[] #[],.func (.func f1) #[] q1,.func (.func f2) #[] q2] 201).next (a0j (ZD _ _) 1)
 have b1:=a0j ((ZD w0.heap.size w0).alloc (ZB _) (.cells [.func (.func ff) #[] #[],.func (.func f1) #[] q1,.func (.func f2) #[] q2].toArray 201)) 1
 change Box (w0.alloc (.cells #[.func (.func ff) #[] #[],.func (.func f1) #[] q1,.func (.func f2) #[] q2] 201)).drew w0.heap.size _ at Z0
 change Below w0.heap.size w0 (w0.alloc (.cells #[.func (.func ff) #[] #[],.func (.func f1) #[] q1,.func (.func f2) #[] q2] 201)).drew at b1
 generalize (w0.alloc (.cells #[.func (.func ff) #[] #[],.func (.func f1) #[] q1,.func (.func f2) #[] q2] 201)).drew=w1 at *
 have HX1:=a0a (HX0.out.next b1)
 have HB1:=kb HKa b1
 have HZ:=a0a Z0
 have z0:=Z0.cell 0 _ rfl
 have z1:=Z0.lt
 obtain⟨c0,c1,c2,c3⟩:=Box.c4 HX1.out
 have x1:=HX1.out.lt
 obtain⟨g0,hg0⟩:∃ g0,g0=w0.heap.size:=⟨_,rfl⟩
 have hg1:Hid (w.heap.size<g0):=by rw[hg0];exact x0
 rw[<-hg0] at HZ z0 z1 ⊢
 clear t0 t1 t2 t3 x0 k0 k1 HX0 HKa Z0 b1 hg0
 have HFc:=a0a (HF.out w1 (HBx.out.next HB1.out))
 clear HF
 go_wp2_with fail
 refine ZE HFc.out ?_
 rintro e w2 ⟨rfl,b2⟩
 have HB2:=kb HB1 b2
 have HX2:=a0a (HX1.out.next b2)
 have HZ2:=a0a (HZ.out.next b2)
 clear b2 HFc HB1 HX1 HZ c0 c1 c2 c3 x1 z0 z1 hEf
 cases fb with
 | false=>
   have h0:R=0:=hR1.out
   subst h0
   go_wp2_with fail
   go_ret
   exact⟨rfl,HB2.out⟩
 | true=>
   have hR2:Hid (R=(if (ps.map (a0l lad wn cn ln)).contains 0=true then 0 else a1s lad k ⟨k,tn,tm,ps⟩ (ps.map (a0l lad wn cn ln)))):=hR1.out
   obtain⟨i0,hi,hz0,hz1,hz2⟩:=info_parts b6G
   have c3:=HX2.out.cell 3 _ rfl
   have x2:=HX2.out.lt
   have hz2':(8:Int)*(N:Int)<=140737488355328:=by omega
   clear hR1
   go_wp2_with (at_make;refine wpList_make_full _ rfl _ _ 162 rfl w2.heap.size 3 i0 (.int .i64 0) 1 Tryz.underlying162 hi hz0 hz1 _ _ _ _ N rfl rfl rfl rfl (by rw[hz2];omega) (by unfold maxLen;omega) (ZB _) ?_;intro w3 hown hgrow;have hb3:Below w2.heap.size w2 w3:=(ZD _ _).grown hgrow (ZB _) (by simp);have d3:=(hb3.cell (p:=⟨w.heap.size,3,none⟩) x2).trans c3;have x3:w.heap.size<w3.heap.size:=ZA x2 hb3.size;have HB3:=a0a hb3;have HO:=a0a hown;clear hb3 hown hgrow)
   have HBp:Hid (Box w3 w2.heap.size (a1C (List.replicate N 0))):=by
    rcases b0V HO.out with ⟨h,_⟩ | ⟨g,c,h,_,hb⟩
    ·cases h
    ·simp only[Value.slice.injEq,Option.some.injEq,Addr.mk.injEq,and_true] at h
     obtain⟨⟨rfl,_⟩,_⟩:=h
     rw[a7h _ _ (by rfl)] at hb
     refine a0a ?_
     simpa[a1C] using hb
   have hp1:Hid (w.heap.size<w2.heap.size):=x2
   obtain⟨pb,hpb⟩:∃ pb,Hid (pb=w2.heap.size):=⟨_,rfl⟩
   rw[<-hpb.out] at HBp hp1 ⊢
   have HB3':=a0a (a0b HB2.out HB3.out HB2.out.size)
   have HX3:=a0a (HX2.out.next HB3.out)
   have HZ3:=a0a (HZ2.out.next HB3.out)
   have hg2:Hid (g0<pb):=by rw[hpb.out];exact HZ2.out.lt
   clear HO HX2 HZ2 HB2 HB3 c3 x2 hi hz0 hz1 hz2 hz2' hpb
   go_loopw [38] (fun i wr=>∃ (j:Nat) (xs:List Int),i=.int .i64 (j:Nat)/\j<=N/\Hid (xs.length=N)/\Hid (xs.take j=(ps.take j).map (a0l lad wn cn ln))/\Hid (((ps.take j).map (a0l lad wn cn ln)).contains 0=false)/\Hid (Box wr pb (a1C xs))/\Hid (a0h [pb] w3 wr)) (fun i _=>match i with | .int _ p=>((N:Int)-p).toNat | _=>0)
   case atStart=>exact⟨0,_,rfl,by omega,a0a (by simp),a0a (by simp),a0a (by simp),HBp.out,a0h.refl _ _⟩
   case round=>
    obtain⟨j,xs,rfl,hj,HXl,HXs,HNo,HBx',HT⟩:=hrel
    have HBr:=a0a (a0L HB3'.out HT.out (fun b hb=>by simp at hb;have:=hp1.out;omega))
    by_cases hlt:j<N
    ·have hlt':(j:Int)<(N:Int):=by omega
     have hl1:j<ps.length:=by rw[<-hN.out];exact hlt
     obtain⟨bb,off,cap',e0,hle,hcap,hbl',hx⟩:=HL.out.open (by omega)
     simp only[Value.slice.injEq] at e0
     obtain⟨rfl,-,rfl⟩:=e0
     obtain⟨u,h6,hu⟩:=hx j hl1
     have k6:=h6.keep (w':=wr) (fun q=>HBr.out.cell (p:=⟨bb,q,none⟩) hbl')
     obtain⟨p0,p1,p2,p3⟩:=k6
     have lbr:bb<wr.heap.size:=ZA hbl' HBr.out.size
     have A:∀ o,Below wr.heap.size wr (wr.alloc o):=fun o=>(ZD _ _).alloc (ZB _) _
     have HC:=a0a (fun o=>HI.out ps[j] (List.getElem_mem hl1) u b sb (wr.alloc o) ((hu.next HBr.out).next (A o)) (hnp.out _ (List.getElem_mem hl1)) ((HBx.out.next HBr.out).next (A o)) ((HRw.out.next HBr.out).next (A o)))
     have HA:=a0a A
     have HMem:=a0a (List.getElem_mem hl1)
     have HTk:Hid ((ps.take (j+1)).map (a0l lad wn cn ln)=(ps.take j).map (a0l lad wn cn ln)++[a0l lad wn cn ln ps[j]]):=by
      show _=_
      rw[List.take_succ_eq_append_getElem hl1,List.map_append];rfl
     obtain⟨au,cu,rfl,-,-⟩:=hu.parts.shape
     clear h6 hu hx A
     generalize ps[j]=x at *
     generalize hr:a0l lad wn cn ln x=r at *
     have Hr:=a0a hr
     clear hl1 hr
     go_wp2_with fail
     refine ZE (HC.out _) ?_
     rintro e w5 ⟨rfl,b5⟩
     have HW5:=a0a (a0b (HA.out _) b5 (by simp))
     have BP:=HBx'.out.next HW5.out
     obtain⟨y,hy⟩:∃ y,xs[j]? = some y:=⟨_,List.getElem?_eq_getElem (by rw[HXl.out];exact hlt)⟩
     have p4:=a3o BP hy
     have p5:=a7Q BP (i:=j) (by rw[HXl.out];exact hlt)
     have p6:=BP.lt
     have HBP:=a0a BP
     clear b5 HC HA BP hy p0 p1 p2 p3
     by_cases h0:r=0
     ·have hR3:R=0:=by
       rw[hR2.out,if_pos]
       rw[List.contains_iff_mem,List.mem_map]
       exact⟨x,HMem.out,by rw[Hr.out,h0]⟩
      subst hR3
      subst h0
      have HBe:=a0a (a0L (a0b HBr.out HW5.out HBr.out.size) (a0q w5 pb j (.int .i64 0)) (fun b hb=>by simp at hb;have:=hp1.out;omega))
      clear hR2 HTk Hr HMem
      go_wp2_with fail
      go_ret
      exact⟨rfl,HBe.out⟩
     ·have hT5:=a0a ((HT.out.andBelow HW5.out).andSet ⟨pb,j,none⟩ (.int .i64 r) (.inl (by simp)))
      have hB5:=a0a (c0t HBP.out (i:=j) (by rw[HXl.out];exact hlt) r)
      have e1:Hid ((xs.set j r).take (j+1)=(ps.take (j+1)).map (a0l lad wn cn ln)):=by
       show _=_
       have hj2:j<xs.length:=by rw[HXl.out];exact hlt
       rw[HTk.out,<-HXs.out,List.take_succ_eq_append_getElem (by simpa using hj2),List.take_set_of_le (ZB _)]
       simp
      have e2:Hid (((ps.take (j+1)).map (a0l lad wn cn ln)).contains 0=false):=by
       show _=_
       have:=HNo.out
       rw[HTk.out]
       simp only[List.contains_eq_mem,List.mem_append,List.mem_singleton,decide_eq_false_iff_not,not_or] at this ⊢
       exact⟨this,fun e=>h0 e.symm⟩
      have e3:Hid ((xs.set j r).length=N):=by show _=_;rw[List.length_set];exact HXl.out
      clear hR2 HTk Hr HMem HBP HXs HXl HNo
      go_wp2_with fail
      go_roundw
      case rel=>exact⟨j+1,xs.set j r,by go_num,by omega,e3.out,e1.out,e2.out,hB5.out,hT5.out⟩
      case measure=>simp;omega
    ·have hjN:j=N:=by omega
     have hlt':¬(j:Int)<(N:Int):=by omega
     have ex:xs=ps.map (a0l lad wn cn ln):=by
      have:=HXs.out
      rw[hjN,List.take_of_length_le (by rw[HXl.out];exact ZB _),List.take_of_length_le (by rw[hN.out];exact ZB _)] at this
      exact this
     have hno:(ps.map (a0l lad wn cn ln)).contains 0=false:=by
      have:=HNo.out
      rw[hjN,List.take_of_length_le (by rw[hN.out];exact ZB _)] at this
      exact this
     have hR3:Hid (R=a1s lad k ⟨k,tn,tm,ps⟩ xs):=by
      show _=_
      rw[hR2.out,if_neg (by rw[hno];decide),ex]
     have BX:=HX3.out.turn HT.out (by simp;have:=hp1.out;omega)
     have BZ:=HZ3.out.turn HT.out (by simp;have:=hg2.out;omega)
     obtain⟨p0,p1,p2,p3⟩:=Box.c4 BX
     have p4:=BX.lt
     have z1:=BZ.cell 1 _ rfl
     have z2:=BZ.lt
     have HC:=b2o lad HLad hk1 hk2 ⟨k,tn,tm,ps⟩ xs (.slice ad N cap) (some ⟨pb,0,none⟩) N wr (G4.out.next HBr.out) (HS.out.next HBr.out) (by rw[HXl.out];exact hN.out) (by rw[HXl.out];exact hlen) (b6E HBx'.out N) (by rw[HXl.out];exact ZB _) (by omega)
     rw[HXl.out,<-hR3.out] at HC
     have HCc:=a0a HC
     clear BX BZ HC hR3 hR2 hno ex
     go_wp2_with fail
     refine ZE HCc.out ?_
     rintro e w5 ⟨rfl,b5⟩
     have HBe:=kb HBr b5
     clear b5
     go_wp2_with fail
     go_ret
     exact⟨rfl,HBe.out⟩
abbrev co0:Co:=⟨0,0,0,[]⟩
def a9K (c:Co)(ss:List Int)(i:Nat):Prop:=(c.parts.getD i co0).op=1/\ss.getD (i+1) 0=3/\(1<i->(c.parts.getD (i-2) co0).n<(c.parts.getD i co0).n)
def b0i (c:Co)(ss:List Int):Prop:=2<=ss.length/\ss.length%2=0/\ss.getD 0 0=1/\ss.getD (ss.length-1) 0=3/\∀ i,i%2=1->i+1<ss.length->a9K c ss i
def b3K (c:Co)(ss:List Int)(i:Nat):Bool:=decide ((c.parts.getD i co0).op=1)&&(decide (ss.getD (i+1) 0=3)&&(decide (i<=1)||decide ((c.parts.getD (i-2) co0).n<(c.parts.getD i co0).n)))
theorem b1T (c:Co)(ss:List Int)(i:Nat):b3K c ss i=true↔a9K c ss i:=by
 unfold b3K a9K
 simp only[Bool.and_eq_true,Bool.or_eq_true,decide_eq_true_eq]
 constructor
 ·rintro⟨h1,h2,h3⟩
  exact⟨h1,h2,fun h=>h3.resolve_left (by omega)⟩
 ·rintro⟨h1,h2,h3⟩
  exact⟨h1,h2,(Nat.lt_or_ge 1 i).elim (fun h=>.inr (h3 h)) .inl⟩
def c3f (c:Co)(ss:List Int):Bool:=decide (2<=ss.length)&&(decide (ss.length%2=0)&&(decide (ss.getD 0 0=1)&&(decide (ss.getD (ss.length-1) 0=3)&&(List.range ss.length).all fun i=>decide (i%2=0)||(decide (ss.length<=i+1)||b3K c ss i))))
theorem a7p (c:Co)(ss:List Int):c3f c ss=true↔b0i c ss:=by
 unfold c3f b0i
 simp only[Bool.and_eq_true,decide_eq_true_eq,List.all_eq_true,List.mem_range,Bool.or_eq_true,b1T]
 refine and_congr Iff.rfl (and_congr Iff.rfl (and_congr Iff.rfl (and_congr Iff.rfl ⟨fun h i h1 h2=>?_,fun h i h1=>?_⟩)))
 ·rcases h i (by omega) with k | k | k
  ·omega
  ·omega
  ·exact k
 ·by_cases k:i%2=0
  ·exact .inl k
  ·by_cases k2:ss.length<=i+1
   ·exact .inr (.inl k2)
   ·exact .inr (.inr (h i (by omega) (by omega)))
def a0H (c:Co)(ss:List Int):Int:=if c3f c ss=true then 3 else 0
theorem b0E {c:Co}{ss:List Int}(h:b0i c ss):a0H c ss=3:=if_pos ((a7p c ss).2 h)
theorem a4t {c:Co}{ss:List Int}(h:¬ b0i c ss):a0H c ss=0:=if_neg (fun k=>h ((a7p c ss).1 k))
set_option maxHeartbeats 4000000 in
set_option maxRecDepth 20000 in
theorem b4G:StC 175 a0H:=by
 intro c ss v a1 k1 w hs hlen hl h1 hk hk2
 have HL:=a0a hs.parts
 obtain⟨ad,cap,rfl,hc1,hc2⟩:=hs.parts.shape
 rw[<-hlen] at hc1 ⊢
 obtain⟨L,hL⟩:∃ L,Hid (L=ss.length):=⟨_,rfl⟩
 obtain⟨R,hR⟩:∃ R,Hid (R=a0H c ss):=⟨_,rfl⟩
 have H1:=a0a h1
 have HLen:=a0a hlen
 rw[<-hL.out] at hc1 H1 hk hl ⊢
 rw[<-hR.out]
 have HA:Hid (∀ o,Below w.heap.size w (w.alloc o)):=fun o=>(ZD _ _).alloc (ZB _) _
 clear hs h1 hlen
 by_cases a2:L<2
 ·have h0:R=0:=by rw[hR.out];exact a4t (fun h=>by have:=h.1;rw[<-hL.out] at this;omega)
  subst h0
  have b2:(L:Int)-1<1:=by omega
  go_enter Tryz.func175,Tryz.ntmps175
  go_wp2_with fail
  go_ret
  exact⟨rfl,HA.out _⟩
 have b2:¬(L:Int)-1<1:=by omega
 by_cases a3:L%2=0
 case neg=>
  have h0:R=0:=by rw[hR.out];exact a4t (fun h=>by have:=h.2.1;rw[<-hL.out] at this;omega)
  subst h0
  have b3:Int.tmod ((L:Int)-1) 2=0:=by rw[Int.tmod_eq_emod_of_nonneg (by omega)];omega
  go_enter Tryz.func175,Tryz.ntmps175
  go_wp2_with fail
  go_ret
  exact⟨rfl,HA.out _⟩
 obtain⟨b,o1,rfl,hb,hc⟩:=H1.out.open (by rw[<-hL.out];omega)
 obtain⟨M,rfl⟩:∃ M,L=M+1:=⟨L-1,by omega⟩
 have b3:Int.tmod (M:Int) 2=1:=by rw[Int.tmod_eq_emod_of_nonneg (by omega)];omega
 have hM:1<=M:=by omega
 have b4:¬(M:Int)<1:=by omega
 have g0:ss.getD 0 0=ss[0]'(by rw[<-hL.out];omega):=by simp[List.getD,List.getElem?_eq_getElem (show 0<ss.length by rw[<-hL.out];omega)]
 have gM:ss.getD M 0=ss[M]'(by rw[<-hL.out];omega):=by simp[List.getD,List.getElem?_eq_getElem (show M<ss.length by rw[<-hL.out];omega)]
 have e0:=hc 0 (by rw[<-hL.out];omega)
 have eM:=hc M (by rw[<-hL.out];omega)
 rw[<-g0,Nat.add_zero] at e0
 rw[<-gM] at eM
 have HC:=a0a hc
 clear g0 gM hc a2 b2
 by_cases a4:ss.getD 0 0=1
 case neg=>
  have h0:R=0:=by rw[hR.out];exact a4t (fun h=>a4 h.2.2.1)
  subst h0
  have d4:(ss.getD 0 0 != 1)=true:=by simpa using a4
  generalize ss.getD 0 0=x0 at *
  go_enter Tryz.func175,Tryz.ntmps175
  go_wp2_with fail
  go_ret
  exact⟨rfl,HA.out _⟩
 rw[a4] at e0
 by_cases a5:ss.getD M 0=3
 case neg=>
  have h0:R=0:=by rw[hR.out];exact a4t (fun h=>a5 (by have:=h.2.2.2.1;rw[<-hL.out] at this;exact this))
  subst h0
  have d5:(ss.getD M 0 != 3)=true:=by simpa using a5
  generalize ss.getD M 0=x0 at *
  go_enter Tryz.func175,Tryz.ntmps175
  go_wp2_with fail
  go_ret
  exact⟨rfl,HA.out _⟩
 rw[a5] at eM
 obtain⟨bb,off,cap',ec,hle,hcap,hbl',hx⟩:=HL.out.open (by rw[<-HLen.out,<-hL.out];omega)
 simp only[Value.slice.injEq] at ec
 obtain⟨rfl,-,rfl⟩:=ec
 have X0:=Box.new w (coL c (.slice (some ⟨bb,off,none⟩) (M+1) cap)) 30
 have c3:=X0.cell 3 _ rfl
 have x0:=X0.lt
 have hb0:=HA.out (.cells (coL c (.slice (some ⟨bb,off,none⟩) (M+1) cap)).toArray 30)
 have HX:Hid (∀ i (h:i<c.parts.length),(w.alloc (.cells (coL c (.slice (some ⟨bb,off,none⟩) (M+1) cap)).toArray 30)).cell? ⟨bb,off+i*4,none⟩=some (.int .i64 (c.parts.getD i co0).op)/\(w.alloc (.cells (coL c (.slice (some ⟨bb,off,none⟩) (M+1) cap)).toArray 30)).cell? ⟨bb,off+i*4+1,none⟩=some (.int .i64 (c.parts.getD i co0).n)):=fun i h=>by
  obtain⟨u,h6,-⟩:=hx i h
  have e:c.parts.getD i co0=c.parts[i]:=by simp[List.getD,List.getElem?_eq_getElem h]
  rw[e]
  exact⟨(hb0.cell (p:=⟨bb,_,none⟩) hbl').trans h6.c0,(hb0.cell (p:=⟨bb,_,none⟩) hbl').trans h6.c1⟩
 have HS:Hid (∀ i (h:i<ss.length),(w.alloc (.cells (coL c (.slice (some ⟨bb,off,none⟩) (M+1) cap)).toArray 30)).cell? ⟨b,o1+i,none⟩=some (.int .i64 (ss.getD i 0))):=fun i h=>by
  have e:ss.getD i 0=ss[i]:=by simp[List.getD,List.getElem?_eq_getElem h]
  rw[e]
  exact(hb0.cell (p:=⟨b,_,none⟩) hb).trans (HC.out i h)
 have y1:bb<(w.alloc (.cells (coL c (.slice (some ⟨bb,off,none⟩) (M+1) cap)).toArray 30)).heap.size:=ZA hbl' hb0.size
 have y2:b<(w.alloc (.cells (coL c (.slice (some ⟨bb,off,none⟩) (M+1) cap)).toArray 30)).heap.size:=ZA hb hb0.size
 have HB0:=a0a hb0
 clear hx X0 hb0 HC
 go_enter Tryz.func175,Tryz.ntmps175
 go_wp2_with fail
 generalize hW0:w.alloc _=w0 at *
 clear hW0 e0 eM HA
 go_loopw [6] (fun i wr=>∃ i0:Nat,i=.int .i64 (i0:Nat)/\i0<=M/\Hid (i0%2=1)/\Hid (∀ q,q%2=1->q<i0->a9K c ss q)/\Hid (Below w0.heap.size w0 wr)) (fun i _=>match i with | .int _ p=>((M:Int)-p).toNat | _=>0)
 case atStart=>exact⟨1,rfl,hM,a0a rfl,(fun q h1 h2=>by omega),ZD _ _⟩
 case round=>
  obtain⟨i,rfl,hj,HO,HQ,HW⟩:=hrel
  have r3:=(HW.out.cell (p:=⟨w.heap.size,3,none⟩) x0).trans c3
  have rx:=ZA x0 HW.out.size
  have r1:=ZA y1 HW.out.size
  have r2:=ZA y2 HW.out.size
  have HB1:=a0a (a0b HB0.out HW.out HB0.out.size)
  by_cases hlt:i<M
  ·have hlt':(i:Int)<(M:Int):=by omega
   have hl1:i<c.parts.length:=by rw[<-HLen.out,<-hL.out];omega
   have hl2:i+1<ss.length:=by rw[<-hL.out];omega
   have p0:=(HW.out.cell (p:=⟨bb,_,none⟩) y1).trans (HX.out i hl1).1
   have p1:=(HW.out.cell (p:=⟨bb,_,none⟩) y1).trans (HX.out i hl1).2
   have p2:=(HW.out.cell (p:=⟨b,_,none⟩) y2).trans (HS.out (i+1) hl2)
   have HNo:Hid (¬ a9K c ss i->R=0):=fun h=>by rw[hR.out];exact a4t (fun k=>h (k.2.2.2.2 i HO.out hl2))
   by_cases q1:(c.parts.getD i co0).op=1
   case neg=>
    have h0:R=0:=HNo.out (fun h=>q1 h.1)
    subst h0
    have d4:((c.parts.getD i co0).op != 1)=true:=by simpa using q1
    generalize c.parts.getD i co0=x at *
    clear HX HS HQ
    go_wp2_with fail
    go_ret
    exact⟨rfl,by first | exact HB1.out | exact HB1.out.drew | exact a0j HB1.out _⟩
   rw[q1] at p0
   by_cases q2:ss.getD (i+1) 0=3
   case neg=>
    have h0:R=0:=HNo.out (fun h=>q2 h.2.1)
    subst h0
    have d4:(ss.getD (i+1) 0 != 3)=true:=by simpa using q2
    generalize ss.getD (i+1) 0=x at *
    clear HX HS HQ
    go_wp2_with fail
    go_ret
    exact⟨rfl,by first | exact HB1.out | exact HB1.out.drew | exact a0j HB1.out _⟩
   rw[q2] at p2
   by_cases q3:1<i
   case neg=>
    have HQ2:Hid (∀ q,q%2=1->q<i+2->a9K c ss q):=fun q h1 h2=>by
     by_cases e:q=i
     ·rw[e];exact⟨q1,q2,fun h=>absurd h q3⟩
     ·exact HQ.out q h1 (by have:=HO.out;omega)
    have q4:¬ 1<(i:Int):=by omega
    have q4b:decide ((1:Int)<(i:Int))=false:=decide_eq_false q4
    have q4c:decide ((i:Int)>1)=false:=decide_eq_false q4
    clear HX HS HQ
    go_wp2_with fail
    go_quiet (fail)
    go_wp2_with fail
    go_roundw
    case rel=>exact⟨i+2,by go_num,by have:=HO.out;omega,a0a (by have:=HO.out;omega),HQ2.out,by first | exact HW.out | exact HW.out.drew | exact a0j HW.out _⟩
    case measure=>simp;omega
   obtain⟨r,rfl⟩:∃ r,i=r+2:=⟨i-2,by omega⟩
   have q4:1<(r:Int)+2:=by omega
   have q4b:decide ((1:Int)<(r:Int)+2)=true:=decide_eq_true q4
   have p3:=(HW.out.cell (p:=⟨bb,_,none⟩) y1).trans (HX.out r (by omega)).2
   by_cases q5:(c.parts.getD r co0).n<(c.parts.getD (r+2) co0).n
   case neg=>
    have h0:R=0:=HNo.out (fun h=>q5 (h.2.2 q3))
    subst h0
    have q6:(c.parts.getD (r+2) co0).n<=(c.parts.getD r co0).n:=by omega
    generalize c.parts.getD r co0=x at *
    generalize c.parts.getD (r+2) co0=y at *
    clear HX HS HQ
    go_wp2_with fail
    go_quiet (fail)
    go_wp2_with fail
    go_ret
    exact⟨rfl,by first | exact HB1.out | exact HB1.out.drew | exact a0j HB1.out _⟩
   have HQ2:Hid (∀ q,q%2=1->q<r+2+2->a9K c ss q):=fun q h1 h2=>by
    by_cases e:q=r+2
    ·rw[e];exact⟨q1,q2,fun _=>q5⟩
    ·exact HQ.out q h1 (by have:=HO.out;omega)
   have q6:¬(c.parts.getD (r+2) co0).n<=(c.parts.getD r co0).n:=by omega
   clear q1
   generalize c.parts.getD r co0=x at *
   generalize c.parts.getD (r+2) co0=y at *
   clear HX HS HQ
   go_wp2_with fail
   go_quiet (fail)
   go_wp2_with fail
   go_roundw
   case rel=>exact⟨r+2+2,by go_num,by have:=HO.out;omega,a0a (by have:=HO.out;omega),HQ2.out,by first | exact HW.out | exact HW.out.drew | exact a0j HW.out _⟩
   case measure=>simp;omega
  ·have hlt':¬(i:Int)<(M:Int):=by omega
   have h3:R=3:=by
    rw[hR.out]
    refine b0E ⟨by rw[<-hL.out];omega,by rw[<-hL.out];exact a3,a4,by rw[<-hL.out];exact a5,fun q h1 h2=>HQ.out q h1 (by rw[<-hL.out] at h2;omega)⟩
   subst h3
   go_wp2_with fail
   go_ret
   exact⟨rfl,by first | exact HB1.out | exact HB1.out.drew | exact a0j HB1.out _⟩
theorem b0a (wn cn ln:Int)(h64:C64 wn/\C64 cn/\C64 ln)(t:Co):c2p a0H wn cn ln t:=by
 induction t using Co.ind with
 | h t ih=>exact b2p a0H b4G wn cn ln h64 t ih
end Go.Proofs.YtbddbnjhmdbkbaaGreatDoor
