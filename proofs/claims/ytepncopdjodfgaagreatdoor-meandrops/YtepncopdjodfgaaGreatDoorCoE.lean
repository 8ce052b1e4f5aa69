import Derived.Test.YtepncopdjodfgaaGreatDoorMgC
import Derived.Test.YtepncopdjodfgaaGreatDoorMhX
import Derived.Laws.OwnMore
import Derived.Laws.EntriesVeiled
namespace Go.Proofs.YtepncopdjodfgaaGreatDoor
open Go.RowKit
def sortF (lad:Co->List Int->Int)(op:Nat)(c:Co)(ss:List Int):Int:=match mkT.getD op none with
 | some x=>mkF x.1 x.2 ss
 | none=>if op=6 then (if ss=[] then c.m else 0) else if op=7 then alikeF 1 ss else if op=27 then alikeF 2 ss else if op=28 then choiceF ss else lad c ss
def csort (lad:Co->List Int->Int)(wn cn ln:Int):Co->Int
 | ⟨k,n,m,ps⟩=>if 1<=k/\k<=32 then (if fitsB k.toNat wn cn ln ⟨k,n,m,ps⟩=true then (if (ps.map (csort lad wn cn ln)).contains 0=true then 0 else sortF lad k.toNat ⟨k,n,m,ps⟩ (ps.map (csort lad wn cn ln))) else 0) else 0
theorem csort_eq (lad:Co->List Int->Int)(wn cn ln:Int)(c:Co):csort lad wn cn ln c=if 1<=c.op/\c.op<=32 then (if fitsB c.op.toNat wn cn ln c=true then (if (c.parts.map (csort lad wn cn ln)).contains 0=true then 0 else sortF lad c.op.toNat c (c.parts.map (csort lad wn cn ln))) else 0) else 0:=by
 cases c
 rw[csort]
def CSoC (lad:Co->List Int->Int)(wn cn ln:Int)(t:Co):Prop:=∀ (v:Value) (b sb:Nat) (w:World),CSits w t v->cnodes t<=8192->Box w sb (soL b wn cn ln)->RowsAt w b->Calls Tryz.prog 123 #[.pointer (some ⟨sb,0,none⟩),coV t v] w fun e w'=>e=.returned (.int .i64 (csort lad wn cn ln t))/\Below w.heap.size w w'
theorem info_int:(Tryz.prog.info? 3).map (fun i=>(i.zero,i.size,i.bytes))=some (some (.int .i64 0),1,8):=by kernel_rfl
theorem cown_box {w:World}{B size:Nat}{e:TypeId}{v:Value}{n:Nat}{xs:List Value}(h:w.ownsRow B e size v n xs):(v=.slice none 0 0/\n=0)\/∃ g cap,v=.slice (some ⟨g,0,none⟩) n cap/\B<=g/\Box w g xs:=by
 obtain⟨h1,⟨h2,h3⟩ | ⟨g,cap,cur,h2,h3,h4,h5,h6,h7,h8⟩⟩:=h
 ·exact .inl ⟨h2,h3⟩
 ·exact .inr ⟨g,cap,h2,h3,(Box.ofBlock h4).part (by rw[<-h8];exact List.take_prefix _ _)⟩
def Ent (f:Nat):Prop:=∀ (args:Array Value) (W:World),(callFunc f args).run Tryz.prog W=.ok (.enter f args) W
theorem ent_fits:∀ k,1<=k->k<=32->Ent (fitsT.getD k 0):=by
 apply op_cases (p:=fun k=>Ent (fitsT.getD k 0))<;>(intro args W;kernel_rfl)
theorem mk_none:∀ k:Fin 33,1<=k.val->mkT.getD k.val none=none->k.val=6\/k.val=7\/k.val=27\/k.val=28\/k.val=32:=by decide
theorem ent_sort {w:World}{k f:Nat}{q:Array Value}(h1:1<=k)(h2:k<=32)(h:SoF w k (.func (.func f) #[] q)):Ent f:=by
 unfold SoF at h
 split at h
 ·obtain⟨p,q',e,_⟩:=h
  cases e
  intro args W
  kernel_rfl
 ·next hm=>
  rcases mk_none ⟨k,by omega⟩ h1 hm with e | e | e | e | e<;>(dsimp only at e;subst e;cases h;intro args W;kernel_rfl)
theorem SoF.shape {w:World}{op:Nat}{fs:Value}(h:SoF w op fs):∃ f c,fs=.func (.func f) #[] c:=by
 unfold SoF at h
 split at h
 ·obtain⟨p,q,rfl,_⟩:=h;exact⟨_,_,rfl⟩
 ·exact⟨_,_,h⟩
theorem WoF.shape {w:World}{op:Nat}{fs:Value}(h:WoF w op fs):∃ f c,fs=.func (.func f) #[] c:=by
 unfold WoF at h
 split at h
 ·exact⟨_,_,h⟩
 ·obtain⟨p,rfl,_⟩:=h;exact⟨_,_,rfl⟩
 ·obtain⟨p,rfl,_⟩:=h;exact⟨_,_,rfl⟩
theorem ints_box {w:World}{g:Nat}{xs:List Int}(h:Box w g (ints xs))(cap:Nat):IntsAt w (.slice (some ⟨g,0,none⟩) xs.length cap) xs:=
 ⟨_,_,rfl,.inr ⟨g,0,rfl,h.lt,fun i hi=>by rw[Nat.zero_add];exact box_cell h (List.getElem?_eq_getElem hi)⟩⟩
theorem csorts_all (lad:Co->List Int->Int)(HLad:StC 211 lad){k:Nat}(h1:1<=k)(h2:k<=32){f:Nat}{q:Array Value}(c:Co)(ss:List Int)(v:Value)(a1:Option Addr)(k1:Nat)(w:World)(h:SoF w k (.func (.func f) #[] q))(hs:CSits w c v)(hl:ss.length=c.parts.length)(hm:ss.length<=8192)(hi:IntsAt w (.slice a1 ss.length k1) ss)(hk:ss.length<=k1)(hc:k1<=9223372036854775807):
 Calls Tryz.prog f (#[coV c v,.slice a1 ss.length k1]++q) w fun e w'=>e=.returned (.int .i64 (sortF lad k c ss))/\Below w.heap.size w w':=by
 unfold SoF at h
 unfold sortF
 cases hx:mkT.getD k none with
 | some x=>
   rw[hx] at h
   obtain⟨p,q',e,hM⟩:=h
   cases e
   obtain⟨ad,cap,rfl,-,-⟩:=hs.parts.shape
   exact cmade_c x.1 x.2 ss p q' c ad a1 _ cap k1 w hM hi (by omega)
 | none=>
   rw[hx] at h
   have hh:(Value.func (.func f) #[] q)=.func (.func (soT.getD k 0)) #[] #[]:=h
   simp only[Value.func.injEq,Fn.func.injEq,true_and] at hh
   obtain⟨rfl,rfl⟩:=hh
   rcases mk_none ⟨k,by omega⟩ h1 hx with e | e | e | e | e<;>dsimp only at e<;>subst e
   ·exact cfail_s c ss v a1 k1 w hs hl hm hi hk hc
   ·exact cmemo_s c ss v a1 k1 w hs hl hm hi hk hc
   ·exact ceither_s c ss v a1 k1 w hs hl hm hi hk hc
   ·exact cchoice_s c ss v a1 k1 w hs hl hm hi hk hc
   ·exact HLad c ss v a1 k1 w hs hl hm hi hk hc
set_option maxHeartbeats 4000000 in
set_option maxRecDepth 20000 in
theorem csort_step (lad:Co->List Int->Int)(HLad:StC 211 lad)(wn cn ln:Int)(h64:C64 wn/\C64 cn/\C64 ln)(t:Co)(ih:∀ x,x∈t.parts->CSoC lad wn cn ln x):CSoC lad wn cn ln t:=by
 intro v b sb w hs hn hb hr
 obtain⟨op,tn,tm,ps⟩:=t
 have HS:=chid hs
 have HL:=chid (show CAt w v ps from hs.parts)
 have HI:=chid (show ∀ x,x∈ps->CSoC lad wn cn ln x from ih)
 have HBx:=chid hb
 have HRw:=chid hr
 have HFt:=chid hs.fit
 obtain⟨ad,cap,rfl,hc1,hc2⟩:=HL.out.shape
 have hlen:ps.length<=8192:=by
  have h1:=length_cnodesL ps
  rw[cnodes_eq] at hn
  have h2:1+cnodesL ps<=8192:=hn
  omega
 have hnp:Hid (∀ x,x∈ps->cnodes x<=8192):=fun x hx=>by
  have:=cnodes_part (t:=⟨op,tn,tm,ps⟩) hx
  omega
 obtain⟨R,hR⟩:∃ R,Hid (R=csort lad wn cn ln ⟨op,tn,tm,ps⟩):=⟨_,rfl⟩
 rw[<-hR.out]
 obtain⟨N,hN⟩:∃ N,Hid (N=ps.length):=⟨_,rfl⟩
 rw[<-hN.out] at hc1 HL hlen HS ⊢
 have s0:=hb.cell 0 _ rfl
 have sl:=hb.lt
 have hbl:=hr.lt
 clear hs ih hn
 show Calls Tryz.prog 123 #[.pointer (some ⟨sb,0,none⟩),.agg #[.int .i64 op,.int .i64 tn,.int .i64 tm,.slice ad N cap]] w _
 by_cases ho:1<=op/\op<=32
 case neg=>
  have h0:R=0:=by rw[hR.out,csort_eq];exact if_neg ho
  subst h0
  have HA:Hid (∀ o,Below w.heap.size w (w.alloc o)):=fun o=>(Below.refl _ _).alloc (Nat.le_refl _) _
  by_cases h1:op<1
  ·go_enter Tryz.func123,Tryz.ntmps123
   go_wp2_with fail
   go_ret
   exact⟨rfl,HA.out _⟩
  ·have h2:32<op:=by omega
   go_enter Tryz.func123,Tryz.ntmps123
   go_wp2_with fail
   go_ret
   exact⟨rfl,HA.out _⟩
 obtain⟨k,rfl⟩:∃ k:Nat,op=(k:Int):=⟨op.toNat,by omega⟩
 have hk1:1<=k:=by omega
 have hk2:k<=32:=by omega
 have hR1:Hid (R=if fitsB k wn cn ln ⟨k,tn,tm,ps⟩=true then (if (ps.map (csort lad wn cn ln)).contains 0=true then 0 else sortF lad k ⟨k,tn,tm,ps⟩ (ps.map (csort lad wn cn ln))) else 0):=by
  show _=_
  rw[hR.out,csort_eq]
  exact if_pos ho
 obtain⟨fs,fw,g1,g2,g3,g4,g5⟩:=hr.row k hk1 hk2
 obtain⟨f1,q1,rfl⟩:=g4.shape
 obtain⟨f2,q2,rfl⟩:=g5.shape
 have HF:=chid (fun W (hb:Box W sb (soL b wn cn ln))=>cfits_all k hk1 hk2 wn cn ln b sb ⟨k,tn,tm,ps⟩ ad N cap W h64.1 h64.2.1 h64.2.2 hb HFt.out)
 have G4:=chid g4
 have hEf:=ent_fits k hk1 hk2
 have hEs:=ent_sort hk1 hk2 G4.out
 unfold Ent at hEf hEs
 generalize fitsT.getD k 0=ff at *
 have hi1:¬(k:Int)<1:=by omega
 have hi2:¬ 32<(k:Int):=by omega
 have hi3:(k:Int)<33:=by omega
 clear g4 g5 hb
 generalize fitsB k wn cn ln ⟨k,tn,tm,ps⟩=fb at *
 clear ho hR hr
 have X0:=Box.new w (coL ⟨k,tn,tm,ps⟩ (.slice ad N cap)) 30
 have ka:=(Below.refl w.heap.size w).alloc (Nat.le_refl _) (.cells (coL ⟨k,tn,tm,ps⟩ (.slice ad N cap)).toArray 30)
 have t0:=(ka.cell (p:=⟨sb,0,none⟩) sl).trans s0
 have t1:=(ka.cell (p:=⟨b,k*3,none⟩) hbl).trans g1
 have t2:=(ka.cell (p:=⟨b,k*3+1,none⟩) hbl).trans g2
 have t3:=(ka.cell (p:=⟨b,k*3+2,none⟩) hbl).trans g3
 have c0:=X0.cell 0 _ rfl
 have x0:=X0.lt
 have k0:b<(w.alloc (.cells (coL ⟨k,tn,tm,ps⟩ (.slice ad N cap)).toArray 30)).heap.size:=Nat.lt_of_lt_of_le hbl ka.size
 have k1:sb<(w.alloc (.cells (coL ⟨k,tn,tm,ps⟩ (.slice ad N cap)).toArray 30)).heap.size:=Nat.lt_of_lt_of_le sl ka.size
 have HX0:=chid X0
 have HKa:=chid ka
 clear s0 g1 g2 g3 X0 ka
 go_enter Tryz.func123,Tryz.ntmps123
 go_wp2_with fail
 generalize hW0:w.alloc _=w0 at *
 clear hW0
 go_region_held3 (fun w'=>w'.cell? ⟨sb,0,none⟩=some (.slice (some ⟨b,0,none⟩) 33 33)/\w'.cell? ⟨w.heap.size,0,none⟩=some (.int .i64 (k:Int))/\(w'.cell? ⟨b,k*3,none⟩=some (.func (.func ff) #[] #[])/\w'.cell? ⟨b,k*3+1,none⟩=some (.func (.func f1) #[] q1)/\w'.cell? ⟨b,k*3+2,none⟩=some (.func (.func f2) #[] q2))) (simp[go_sem, *]) (fail)
 have Z0:=(Box.new w0 [.func (.func ff) #[] #[],.func (.func f1) #[] q1,.func (.func f2) #[] q2] 206).next (cdrewN (Below.refl _ _) 1)
 have b1:=cdrewN ((Below.refl w0.heap.size w0).alloc (Nat.le_refl _) (.cells [.func (.func ff) #[] #[],.func (.func f1) #[] q1,.func (.func f2) #[] q2].toArray 206)) 1
 change Box (w0.alloc (.cells #[.func (.func ff) #[] #[],.func (.func f1) #[] q1,.func (.func f2) #[] q2] 206)).drew w0.heap.size _ at Z0
 change Below w0.heap.size w0 (w0.alloc (.cells #[.func (.func ff) #[] #[],.func (.func f1) #[] q1,.func (.func f2) #[] q2] 206)).drew at b1
 generalize (w0.alloc (.cells #[.func (.func ff) #[] #[],.func (.func f1) #[] q1,.func (.func f2) #[] q2] 206)).drew=w1 at *
 have HX1:=chid (HX0.out.next b1)
 have HB1:=chid (cbelow_on HKa.out b1 HKa.out.size)
 have HZ:=chid Z0
 have z0:=Z0.cell 0 _ rfl
 have z1:=Z0.lt
 have c0:=HX1.out.cell 0 _ rfl
 have c1:=HX1.out.cell 1 _ rfl
 have c2:=HX1.out.cell 2 _ rfl
 have c3:=HX1.out.cell 3 _ rfl
 have x1:=HX1.out.lt
 obtain⟨g0,hg0⟩:∃ g0,g0=w0.heap.size:=⟨_,rfl⟩
 have hg1:Hid (w.heap.size<g0):=by rw[hg0];exact x0
 rw[<-hg0] at HZ z0 z1 ⊢
 clear t0 t1 t2 t3 x0 k0 k1 HX0 HKa Z0 b1 hg0
 have HFc:=chid (HF.out w1 (HBx.out.next HB1.out))
 clear HF
 go_wp2_with fail
 refine Calls.mono HFc.out ?_
 rintro e w2 ⟨rfl,b2⟩
 have HB2:=chid (cbelow_on HB1.out b2 HB1.out.size)
 have HX2:=chid (HX1.out.next b2)
 have HZ2:=chid (HZ.out.next b2)
 clear b2 HFc HB1 HX1 HZ c0 c1 c2 c3 x1 z0 z1 hEf
 cases fb with
 | false=>
   have h0:R=0:=hR1.out
   subst h0
   go_wp2_with fail
   go_ret
   exact⟨rfl,HB2.out⟩
 | true=>
   have hR2:Hid (R=(if (ps.map (csort lad wn cn ln)).contains 0=true then 0 else sortF lad k ⟨k,tn,tm,ps⟩ (ps.map (csort lad wn cn ln)))):=hR1.out
   obtain⟨i0,hi,hz0,hz1,hz2⟩:=info_parts info_int
   have c3:=HX2.out.cell 3 _ rfl
   have x2:=HX2.out.lt
   have hz2':(8:Int)*(N:Int)<=140737488355328:=by omega
   clear hR1
   go_wp2_with (at_make;refine wpList_make_full _ rfl _ _ 141 rfl w2.heap.size 3 i0 (.int .i64 0) 1 Tryz.underlying141 hi hz0 hz1 _ _ _ _ N rfl rfl rfl rfl (by rw[hz2];omega) (by unfold maxLen;omega) (Nat.le_refl _) ?_;intro w3 hown hgrow;have hb3:Below w2.heap.size w2 w3:=(Below.refl _ _).grown hgrow (Nat.le_refl _) (by simp);have d3:=(hb3.cell (p:=⟨w.heap.size,3,none⟩) x2).trans c3;have x3:w.heap.size<w3.heap.size:=Nat.lt_of_lt_of_le x2 hb3.size;have HB3:=chid hb3;have HO:=chid hown;clear hb3 hown hgrow)
   have HBp:Hid (Box w3 w2.heap.size (ints (List.replicate N 0))):=by
    rcases cown_box HO.out with ⟨h,_⟩ | ⟨g,c,h,_,hb⟩
    ·cases h
    ·simp only[Value.slice.injEq,Option.some.injEq,Addr.mk.injEq,and_true] at h
     obtain⟨⟨rfl,_⟩,_⟩:=h
     rw[madeCells_one _ _ (by rfl)] at hb
     refine chid ?_
     simpa[ints] using hb
   have hp1:Hid (w.heap.size<w2.heap.size):=x2
   obtain⟨pb,hpb⟩:∃ pb,Hid (pb=w2.heap.size):=⟨_,rfl⟩
   rw[<-hpb.out] at HBp hp1 ⊢
   have HB3':=chid (cbelow_on HB2.out HB3.out HB2.out.size)
   have HX3:=chid (HX2.out.next HB3.out)
   have HZ3:=chid (HZ2.out.next HB3.out)
   have hg2:Hid (g0<pb):=by rw[hpb.out];exact HZ2.out.lt
   clear HO HX2 HZ2 HB2 HB3 c3 x2 hi hz0 hz1 hz2 hz2' hpb
   go_loopw [38] (fun i wr=>∃ (j:Nat) (xs:List Int),i=.int .i64 (j:Nat)/\j<=N/\Hid (xs.length=N)/\Hid (xs.take j=(ps.take j).map (csort lad wn cn ln))/\Hid (((ps.take j).map (csort lad wn cn ln)).contains 0=false)/\Hid (Box wr pb (ints xs))/\Hid (Turn [pb] w3 wr)) (fun i _=>match i with | .int _ p=>((N:Int)-p).toNat | _=>0)
   case atStart=>exact⟨0,_,rfl,by omega,chid (by simp),chid (by simp),chid (by simp),HBp.out,Turn.refl _ _⟩
   case round=>
    obtain⟨j,xs,rfl,hj,HXl,HXs,HNo,HBx',HT⟩:=hrel
    have HBr:=chid (cbelow_turn HB3'.out HT.out (fun b hb=>by simp at hb;have:=hp1.out;omega))
    by_cases hlt:j<N
    ·have hlt':(j:Int)<(N:Int):=by omega
     have hl1:j<ps.length:=by rw[<-hN.out];exact hlt
     obtain⟨bb,off,cap',e0,hle,hcap,hbl',hx⟩:=HL.out.open (by omega)
     simp only[Value.slice.injEq] at e0
     obtain⟨rfl,-,rfl⟩:=e0
     obtain⟨u,h6,hu⟩:=hx j hl1
     have k6:=h6.keep (w':=wr) (fun q=>HBr.out.cell (p:=⟨bb,q,none⟩) hbl')
     obtain⟨p0,p1,p2,p3⟩:=k6
     have lbr:bb<wr.heap.size:=Nat.lt_of_lt_of_le hbl' HBr.out.size
     have A:∀ o,Below wr.heap.size wr (wr.alloc o):=fun o=>(Below.refl _ _).alloc (Nat.le_refl _) _
     have HC:=chid (fun o=>HI.out ps[j] (List.getElem_mem hl1) u b sb (wr.alloc o) ((hu.next HBr.out).next (A o)) (hnp.out _ (List.getElem_mem hl1)) ((HBx.out.next HBr.out).next (A o)) ((HRw.out.next HBr.out).next (A o)))
     have HA:=chid A
     have HMem:=chid (List.getElem_mem hl1)
     have HTk:Hid ((ps.take (j+1)).map (csort lad wn cn ln)=(ps.take j).map (csort lad wn cn ln)++[csort lad wn cn ln ps[j]]):=by
      show _=_
      rw[List.take_succ_eq_append_getElem hl1,List.map_append];rfl
     obtain⟨au,cu,rfl,-,-⟩:=hu.parts.shape
     clear h6 hu hx A
     generalize ps[j]=x at *
     generalize hr:csort lad wn cn ln x=r at *
     have Hr:=chid hr
     clear hl1 hr
     go_wp2_with fail
     refine Calls.mono (HC.out _) ?_
     rintro e w5 ⟨rfl,b5⟩
     have HW5:=chid (cbelow_on (HA.out _) b5 (by simp))
     have BP:=HBx'.out.next HW5.out
     obtain⟨y,hy⟩:∃ y,xs[j]? = some y:=⟨_,List.getElem?_eq_getElem (by rw[HXl.out];exact hlt)⟩
     have p4:=box_cell BP hy
     have p5:=box_free BP (i:=j) (by rw[HXl.out];exact hlt)
     have p6:=BP.lt
     have HBP:=chid BP
     clear b5 HC HA BP hy p0 p1 p2 p3
     by_cases h0:r=0
     ·have hR3:R=0:=by
       rw[hR2.out,if_pos]
       rw[List.contains_iff_mem,List.mem_map]
       exact⟨x,HMem.out,by rw[Hr.out,h0]⟩
      subst hR3
      subst h0
      have HBe:=chid (cbelow_turn (cbelow_on HBr.out HW5.out HBr.out.size) (cturn_set w5 pb j (.int .i64 0)) (fun b hb=>by simp at hb;have:=hp1.out;omega))
      clear hR2 HTk Hr HMem
      go_wp2_with fail
      go_ret
      exact⟨rfl,HBe.out⟩
     ·have hT5:=chid ((HT.out.andBelow HW5.out).andSet ⟨pb,j,none⟩ (.int .i64 r) (.inl (by simp)))
      have hB5:=chid (box_put HBP.out (i:=j) (by rw[HXl.out];exact hlt) r)
      have e1:Hid ((xs.set j r).take (j+1)=(ps.take (j+1)).map (csort lad wn cn ln)):=by
       show _=_
       have hj2:j<xs.length:=by rw[HXl.out];exact hlt
       rw[HTk.out,<-HXs.out,List.take_succ_eq_append_getElem (by simpa using hj2),List.take_set_of_le (Nat.le_refl _)]
       simp
      have e2:Hid (((ps.take (j+1)).map (csort lad wn cn ln)).contains 0=false):=by
       show _=_
       have:=HNo.out
       rw[HTk.out]
       simp only[List.contains_eq_mem,List.mem_append,List.mem_singleton,decide_eq_false_iff_not,not_or] at this ⊢
       exact⟨this,fun e=>h0 e.symm⟩
      have e3:Hid ((xs.set j r).length=N):=by show _=_;rw[List.length_set];exact HXl.out
      clear hR2 HTk Hr HMem HBP HXs HXl HNo
      go_wp2_with fail
      go_roundw
      case rel=>exact⟨j+1,xs.set j r,by go_num,by omega,e3.out,e1.out,e2.out,hB5.out,hT5.out⟩
      case measure=>simp;omega
    ·have hjN:j=N:=by omega
     have hlt':¬(j:Int)<(N:Int):=by omega
     have ex:xs=ps.map (csort lad wn cn ln):=by
      have:=HXs.out
      rw[hjN,List.take_of_length_le (by rw[HXl.out];exact Nat.le_refl _),List.take_of_length_le (by rw[hN.out];exact Nat.le_refl _)] at this
      exact this
     have hno:(ps.map (csort lad wn cn ln)).contains 0=false:=by
      have:=HNo.out
      rw[hjN,List.take_of_length_le (by rw[hN.out];exact Nat.le_refl _)] at this
      exact this
     have hR3:Hid (R=sortF lad k ⟨k,tn,tm,ps⟩ xs):=by
      show _=_
      rw[hR2.out,if_neg (by rw[hno];decide),ex]
     have BX:=HX3.out.turn HT.out (by simp;have:=hp1.out;omega)
     have BZ:=HZ3.out.turn HT.out (by simp;have:=hg2.out;omega)
     have p0:=BX.cell 0 _ rfl
     have p1:=BX.cell 1 _ rfl
     have p2:=BX.cell 2 _ rfl
     have p3:=BX.cell 3 _ rfl
     have p4:=BX.lt
     have z1:=BZ.cell 1 _ rfl
     have z2:=BZ.lt
     have HC:=csorts_all lad HLad hk1 hk2 ⟨k,tn,tm,ps⟩ xs (.slice ad N cap) (some ⟨pb,0,none⟩) N wr (G4.out.next HBr.out) (HS.out.next HBr.out) (by rw[HXl.out];exact hN.out) (by rw[HXl.out];exact hlen) (ints_box HBx'.out N) (by rw[HXl.out];exact Nat.le_refl _) (by omega)
     rw[HXl.out,<-hR3.out] at HC
     have HCc:=chid HC
     clear BX BZ HC hR3 hR2 hno ex
     go_wp2_with fail
     refine Calls.mono HCc.out ?_
     rintro e w5 ⟨rfl,b5⟩
     have HBe:=chid (cbelow_on HBr.out b5 HBr.out.size)
     clear b5
     go_wp2_with fail
     go_ret
     exact⟨rfl,HBe.out⟩
end Go.Proofs.YtepncopdjodfgaaGreatDoor
