import Derived.Test.YtepncopdjodfgaaGreatDoorMgB
import Derived.Deep.RegionHeld3
import Derived.Test.YtepncopdjodfgaaGreatDoorMfE
namespace Go.Proofs.YtepncopdjodfgaaGreatDoor
open Go.RowKit
def CSmC (fn:Nat)(t:Co):Prop:=∀ (b:Co) (v v':Value) (w:World) (R:Bool),(R=true↔t=b)->CSits w t v->CSits w b v'->Calls Tryz.prog fn #[coV t v,coV b v'] w fun e w'=>e=.returned (.bool R)/\Below w.heap.size w w'
theorem parts_ne {a b:Co}{j:Nat}(h1:j<a.parts.length)(h2:j<b.parts.length)(h:¬ a.parts[j]=b.parts[j]):¬ a=b:=fun e=>by
 subst e
 exact h rfl
theorem parts_eq {a b:Co}(ho:a.op=b.op)(hn:a.n=b.n)(hm:a.m=b.m)(hl:a.parts.length=b.parts.length)(h:∀ j (h1:j<a.parts.length) (h2:j<b.parts.length),a.parts[j]=b.parts[j]):a=b:=
 Co.same.2 ⟨ho,hn,hm,List.ext_getElem hl h⟩
set_option maxHeartbeats 4000000 in
theorem crSame_step (t:Co)(ih:∀ x,x∈t.parts->CSmC 25 x):CSmC 25 t:=by
 intro b v v' w R hR0 hs hs'
 have hR:=chid hR0
 clear hR0
 have HL:=chid hs.parts
 have HK:=chid hs'.parts
 have HI:=chid ih
 obtain⟨ad,cap,rfl,hc1,hc2⟩:=hs.parts.shape
 obtain⟨ad',cap',rfl,hc1',hc2'⟩:=hs'.parts.shape
 obtain⟨N,hN⟩:∃ N,Hid (N=t.parts.length):=⟨_,rfl⟩
 obtain⟨N',hN'⟩:∃ N,Hid (N=b.parts.length):=⟨_,rfl⟩
 rw[<-hN.out] at hc1 HL ⊢
 rw[<-hN'.out] at hc1' HK ⊢
 clear hs hs' ih
 obtain⟨X0,X1,XB⟩:=two_boxes w 30 30 (coL t (.slice ad N cap)) (coL b (.slice ad' N' cap'))
 have BX:=chid X0
 have BY:=chid X1
 have BB:=chid XB
 clear X0 X1 XB
 by_cases ho:t.op=b.op
 case neg=>
  have hr:R=false:=bfalse hR.out (fun e=>ho (by rw[e]))
  have k0:(t.op != b.op)=true:=by simpa using ho
  subst hr
  go_enter Tryz.func25,Tryz.ntmps25
  go_wp2_with fail
  go_ret
  exact⟨rfl,BB.out⟩
 have k0:(t.op != b.op)=false:=by simpa using ho
 have HO:=chid ho
 clear ho
 by_cases hn:t.n=b.n
 case neg=>
  have hr:R=false:=bfalse hR.out (fun e=>hn (by rw[e]))
  have k1:(t.n != b.n)=true:=by simpa using hn
  subst hr
  go_enter Tryz.func25,Tryz.ntmps25
  go_wp2_with fail
  go_ret
  exact⟨rfl,BB.out⟩
 have k1:(t.n != b.n)=false:=by simpa using hn
 have HN:=chid hn
 clear hn
 by_cases hm:t.m=b.m
 case neg=>
  have hr:R=false:=bfalse hR.out (fun e=>hm (by rw[e]))
  have k2:(t.m != b.m)=true:=by simpa using hm
  subst hr
  go_enter Tryz.func25,Tryz.ntmps25
  go_wp2_with fail
  go_ret
  exact⟨rfl,BB.out⟩
 have k2:(t.m != b.m)=false:=by simpa using hm
 have HM:=chid hm
 clear hm
 by_cases hl:N=N'
 case neg=>
  have hr:R=false:=bfalse hR.out (fun e=>hl (by rw[hN.out,hN'.out,e]))
  have k3:((N:Int) != (N':Int))=true:=by simp;omega
  subst hr
  go_enter Tryz.func25,Tryz.ntmps25
  go_wp2_with fail
  go_ret
  exact⟨rfl,BB.out⟩
 subst hl
 go_enter Tryz.func25,Tryz.ntmps25
 go_wp2_with fail
 go_loopw [5] (fun i wr=>∃ j:Nat,i=.int .i64 (j:Nat)/\j<=N/\Hid (∀ q (h1:q<t.parts.length) (h2:q<b.parts.length),q<j->t.parts[q]=b.parts[q])/\Hid (Below w.heap.size w wr)/\Hid (Box wr w.heap.size (coL t (.slice ad N cap)))/\Hid (Box wr (w.heap.size+1) (coL b (.slice ad' N cap')))) (fun i _=>match i with | .int _ p=>((N:Int)-p).toNat | _=>0)
 case atStart=>exact⟨0,rfl,by omega,fun q _ _ h=>absurd h (by omega),BB,BX,BY⟩
 case round=>
  obtain⟨j,rfl,hj,HQ,HB,HX,HY⟩:=hrel
  have x3:=HX.out.cell 3 _ rfl
  have y3:=HY.out.cell 3 _ rfl
  have lx:=HX.out.lt
  have ly:=HY.out.lt
  by_cases hlt:j<N
  ·have hlt':(j:Int)<(N:Int):=by omega
   have h1:j<t.parts.length:=by rw[<-hN.out];exact hlt
   have h2:j<b.parts.length:=by rw[<-hN'.out];exact hlt
   obtain⟨bb,off,c1,hv,-,-,hbl,hx⟩:=HL.out.open (by omega)
   simp only[Value.slice.injEq] at hv
   obtain⟨rfl,-,rfl⟩:=hv
   obtain⟨b',off',c1',hv',-,-,hbl',hx'⟩:=HK.out.open (by omega)
   simp only[Value.slice.injEq] at hv'
   obtain⟨rfl,-,rfl⟩:=hv'
   obtain⟨u,h6,hu⟩:=hx j h1
   obtain⟨u',h6',hu'⟩:=hx' j h2
   obtain⟨c0,c1,c2,c3⟩:=h6.keep (w':=wr) (fun q=>HB.out.cell (p:=⟨bb,q,none⟩) hbl)
   obtain⟨e0,e1,e2,e3⟩:=h6'.keep (w':=wr) (fun q=>HB.out.cell (p:=⟨b',q,none⟩) hbl')
   have lb:bb<wr.heap.size:=Nat.lt_of_lt_of_le hbl HB.out.size
   have lb':b'<wr.heap.size:=Nat.lt_of_lt_of_le hbl' HB.out.size
   obtain⟨r,hr⟩:=csame_ex t.parts[j] b.parts[j]
   have HC:Hid (∀ wx,Below wr.heap.size wr wx->Calls Tryz.prog 25 #[coV t.parts[j] u,coV b.parts[j] u'] wx fun e w'=>e=.returned (.bool r)/\Hid (Below wr.heap.size wr w')):=fun wx hb=>by
    have A:Below w.heap.size w wx:=cbelow_on HB.out hb HB.out.size
    exact(HI.out _ (List.getElem_mem h1) _ u u' _ r hr (hu.next A) (hu'.next A)).mono fun e w' h=>⟨h.1,cbelow_on hb h.2 hb.size⟩
   have HNe:Hid (r=false->R=false):=fun h=>bfalse hR.out (parts_ne h1 h2 (fun e=>by rw[hr.2 e] at h;cases h))
   have HEq:Hid (r=true->t.parts[j]=b.parts[j]):=hr.1
   clear hr
   clear h6 h6' hu hu' hx hx'
   obtain⟨x,hxx⟩:∃ x,Hid (x=t.parts[j]):=⟨_,chid rfl⟩
   obtain⟨y,hyy⟩:∃ y,Hid (y=b.parts[j]):=⟨_,chid rfl⟩
   rw[<-hxx.out] at c0 c1 c2 HC HEq
   rw[<-hyy.out] at e0 e1 e2 HC HEq
   go_wp2_with fail
   go_region_held3 (fun w'=>w'.cell? ⟨w.heap.size,3,none⟩=some (.slice (some ⟨bb,off,none⟩) N cap)/\w'.cell? ⟨w.heap.size+1,3,none⟩=some (.slice (some ⟨b',off',none⟩) N cap')/\(w'.cell? ⟨bb,off+j*4,none⟩=some (.int .i64 x.op)/\w'.cell? ⟨bb,off+j*4+1,none⟩=some (.int .i64 x.n)/\w'.cell? ⟨bb,off+j*4+2,none⟩=some (.int .i64 x.m)/\w'.cell? ⟨bb,off+j*4+3,none⟩=some u)/\w'.cell? ⟨b',off'+j*4,none⟩=some (.int .i64 y.op)/\w'.cell? ⟨b',off'+j*4+1,none⟩=some (.int .i64 y.n)/\w'.cell? ⟨b',off'+j*4+2,none⟩=some (.int .i64 y.m)/\w'.cell? ⟨b',off'+j*4+3,none⟩=some u') (simp[go_sem, *]) (first|(go_at_call 25;refine Calls.mono (HC.out _ (by exact cdrewN (Below.refl _ _) _)) ?_;rintro e w1 ⟨rfl,B1⟩;have g0:=fun p v hp hv=>(B1.out.cell (p:=p) hp).trans (hv:wr.cell? p=some v);replace x3:=g0 _ _ lx x3;replace y3:=g0 _ _ ly y3;replace c0:=g0 _ _ lb c0;replace c1:=g0 _ _ lb c1;replace c2:=g0 _ _ lb c2;replace c3:=g0 _ _ lb c3;replace e0:=g0 _ _ lb' e0;replace e1:=g0 _ _ lb' e1;replace e2:=g0 _ _ lb' e2;replace e3:=g0 _ _ lb' e3;clear g0))
   have HX1:=chid (HX.out.next B1.out)
   have HY1:=chid (HY.out.next B1.out)
   have HB1:=chid (cbelow_on HB.out B1.out HB.out.size)
   clear c0 c1 c2 c3 e0 e1 e2 e3 HC x3 y3
   cases r with
   | false=>
     obtain rfl:=HNe.out rfl
     go_wp2_with fail
     go_ret
     exact⟨rfl,HB1.out⟩
   | true=>
     go_wp2_with fail
     go_roundw
     case rel=>exact⟨j+1,by go_num,by omega,(fun q g1 g2 hq=>by
      by_cases he:q=j
      ·subst he
       have:=HEq.out rfl
       rw[hxx.out,hyy.out] at this
       exact this
      ·exact HQ.out q g1 g2 (by omega)),HB1,HX1,HY1⟩
     case measure=>simp;omega
  ·have hlt':¬(j:Int)<(N:Int):=by omega
   have hr:R=true:=by
    exact btrue hR.out (parts_eq HO.out HN.out HM.out (by rw[<-hN.out,<-hN'.out]) (fun q g1 g2=>HQ.out q g1 g2 (by have:=hN.out;omega)))
   subst hr
   go_wp2_with fail
   go_ret
   exact⟨rfl,HB.out⟩
theorem crSame_c (t:Co):CSmC 25 t:=by
 induction t using Co.ind with
 | h t ih=>exact crSame_step t ih
set_option maxHeartbeats 1000000 in
theorem num18_c (n:Int)(w:World):Calls Tryz.prog 47 #[.int .i64 n] w fun e w'=>e=.returned (coV ⟨1,n,0,[]⟩ (.slice none 0 0))/\Below w.heap.size w w':=by
 have B1:Hid (∀ o,Below w.heap.size w (w.alloc o)):=fun o=>(Below.refl _ _).alloc (Nat.le_refl _) _
 go_enter Tryz.func47,Tryz.ntmps47
 go_wp2_with fail
 refine bodyPost_ret (v:=coV ⟨1,n,0,[]⟩ (.slice none 0 0)) (by simp[results,Tryz.results47,go_sem]) rfl ?_
 exact⟨rfl,B1.out _⟩
theorem small18_c (t:Co)(v:Value)(w:World)(hs:CSits w t v):Calls Tryz.prog 22 #[coV t v] w fun e w'=>e=.returned (.bool (decide (cnodes t<=4096)))/\Below w.heap.size w w':=by
 have A:∀ o,Below w.heap.size w (w.alloc o):=fun o=>(Below.refl _ _).alloc (Nat.le_refl _) _
 have HN:=chid (fun o=>crNodes_c t v (w.alloc o) (hs.next (A o)))
 have HA:=chid A
 obtain⟨ad,cap,rfl,-,-⟩:=hs.parts.shape
 unfold cndsV at HN
 obtain⟨M,hM⟩:∃ M,Hid (M=min (cnodes t) 4097):=⟨_,chid rfl⟩
 rw[<-hM.out] at HN
 have hd:decide (cnodes t<=4096)=decide ((M:Int)<=4096):=decide_eq_decide.2 (by have:=hM.out;omega)
 rw[hd]
 clear hs A hd hM
 go_enter Tryz.func22,Tryz.ntmps22
 go_wp2_with fail
 refine Calls.mono (HN.out _) ?_
 rintro e w1 ⟨rfl,b1⟩
 have B1:=chid (cbelow_on (HA.out _) b1 (by simp))
 clear b1
 go_wp2_with fail
 go_ret
 exact⟨rfl,B1.out⟩
abbrev aw1:Co:=⟨1,1,0,[]⟩
abbrev aw2:Co:=⟨1,2,0,[]⟩
abbrev aw3:Co:=⟨14,0,0,[aw1,aw2]⟩
theorem aw_sort (wn cn ln:Int):csort ladF wn cn ln aw3=1:=by
 rw[csort_eq]
 have e:aw3.parts.map (csort ladF wn cn ln)=[1,1]:=by
  show [csort ladF wn cn ln aw1,csort ladF wn cn ln aw2]=[1,1]
  rw[csort_leaf1,csort_leaf1]
 rw[e]
 rfl
theorem aw_tel (E:EnvP):telV E aw3=(3,0):=by
 rw[telV_eq]
 have e:aw3.parts.map (telV E)=[(1,0),(2,0)]:=by
  show [telV E aw1,telV E aw2]=_
  rw[tel_cst E (x:=aw1) rfl,tel_cst E (x:=aw2) rfl]
 rw[e]
 rfl
theorem aw_fold:foldF aw3=⟨1,3,0,[]⟩:=by
 rw[foldF_eq]
 have e:aw3.parts.map foldF=[aw1,aw2]:=by
  show [foldF aw1,foldF aw2]=_
  rw[fold_leaf (t:=aw1) rfl,fold_leaf (t:=aw2) rfl]
 rw[e]
 show becF aw3=_
 have hM:sM aw3=1:=aw_sort _ _ _
 have e2:becF aw3=workedF aw3:=rfl
 rw[e2,worked_two (x:=aw1) (y:=aw2) rfl,if_neg (by decide),if_neg (by decide),aw_tel,if_neg (by decide),if_neg (by rw[hM];decide)]
theorem aw_nodes:cnodes aw3=3:=by
 rw[cnodes_eq]
 show 1+cnodesL [aw1,aw2]=3
 rw[cnodesL_cons,cnodesL_cons,cnodesL_nil,leaf_nodes (t:=aw1) rfl,leaf_nodes (t:=aw2) rfl]
theorem aw_core:coreF aw3=(⟨1,3,0,[]⟩,0):=by
 unfold coreF
 rw[if_pos ⟨by rw[aw_nodes];decide,by have h:sM aw3=1:=aw_sort _ _ _;rw[h];decide⟩,aw_fold]
theorem aw_64 (n:Int)(h:(decide (-9223372036854775808<=n/\n<=9223372036854775807))=true):C64 n:=by have:=of_decide_eq_true h;unfold C64;omega
set_option maxHeartbeats 1000000 in
set_option maxRecDepth 20000 in
theorem awake18_c (w:World)(hg:GlE w):Calls Tryz.prog 21 #[] w fun e w'=>e=.returned (.bool true)/\Below w.heap.size w w':=by
 have HN:=chid num18_c
 have HG:=chid hg
 clear hg
 go_enter Tryz.func21,Tryz.ntmps21
 go_wp2_with fail
 refine Calls.mono (HN.out _ _) ?_
 rintro e w1 ⟨rfl,b1⟩
 have B1:=chid b1
 clear b1
 go_wp2_with fail
 refine Calls.mono (HN.out _ _) ?_
 rintro e w2 ⟨rfl,b2⟩
 have B2:=chid (cbelow_on B1.out b2 B1.out.size)
 clear b2 B1
 go_wp2_with fail
 have X:=Box.new w2 [.int .i64 1,.int .i64 1,.int .i64 0,.slice none 0 0,.int .i64 1,.int .i64 2,.int .i64 0,.slice none 0 0] 30
 have hs3:CSits (w2.alloc (.cells #[.int .i64 1,.int .i64 1,.int .i64 0,.slice none 0 0,.int .i64 1,.int .i64 2,.int .i64 0,.slice none 0 0] 30)) aw3 (.slice (some ⟨w2.heap.size,0,none⟩) 2 2):=by
  refine csits_iff.2 ⟨⟨aw_64 _ rfl,aw_64 _ rfl,aw_64 _ rfl⟩,_,2,rfl,by decide,by decide,.inr ⟨w2.heap.size,0,rfl,X.lt,fun i hi=>?_⟩⟩
  have hi2:i=0\/i=1:=by simp at hi;omega
  rcases hi2 with rfl | rfl
  ·exact⟨.slice none 0 0,⟨X.cell 0 _ rfl,X.cell 1 _ rfl,X.cell 2 _ rfl,X.cell 3 _ rfl⟩,(CSP.leaf (ok:=fun _=>True) _ ⟨aw_64 _ rfl,aw_64 _ rfl,aw_64 _ rfl⟩).sits⟩
  ·exact⟨.slice none 0 0,⟨X.cell 4 _ rfl,X.cell 5 _ rfl,X.cell 6 _ rfl,X.cell 7 _ rfl⟩,(CSP.leaf (ok:=fun _=>True) _ ⟨aw_64 _ rfl,aw_64 _ rfl,aw_64 _ rfl⟩).sits⟩
 have B3:=chid (B2.out.alloc B2.out.size (.cells #[.int .i64 1,.int .i64 1,.int .i64 0,.slice none 0 0,.int .i64 1,.int .i64 2,.int .i64 0,.slice none 0 0] 30))
 have HC:=chid (fCore_c aw3 _ _ hs3 (GlE.next HG.out B3.out))
 rw[aw_core] at HC
 clear X hs3 B2
 refine Calls.mono HC.out ?_
 rintro e w4 ⟨u,rfl,hu,b4⟩
 have B4:=chid (cbelow_on B3.out b4 B3.out.size)
 have HU:=chid hu
 obtain⟨ua,uc,rfl,-,-⟩:=hu.parts.shape
 have BA:=chid (B4.out.alloc B4.out.size (.cells #[.int .i64 1,.int .i64 3,.int .i64 0,.slice ua 0 uc] 30))
 have XA:=chid (Box.new w4 [.int .i64 1,.int .i64 3,.int .i64 0,.slice ua 0 uc] 30)
 have HU5:=chid (hu.next ((Below.refl _ _).alloc (Nat.le_refl _) (.cells #[.int .i64 1,.int .i64 3,.int .i64 0,.slice ua 0 uc] 30)))
 clear b4 hu HC B3 B4
 have HSa:=chid (fun W (hW:Below (w4.alloc (.cells #[.int .i64 1,.int .i64 3,.int .i64 0,.slice ua 0 uc] 30)).heap.size (w4.alloc (.cells #[.int .i64 1,.int .i64 3,.int .i64 0,.slice ua 0 uc] 30)) W)=>crSame_c ⟨1,3,0,[]⟩ ⟨1,3,0,[]⟩ _ _ W true ⟨fun _=>rfl,fun _=>rfl⟩ (HU5.out.next hW) (CSP.leaf (ok:=fun _=>True) W (k:=1) (n:=3) (m:=0) ⟨aw_64 _ rfl,aw_64 _ rfl,aw_64 _ rfl⟩).sits)
 dsimp only[List.length_nil] at *
 obtain⟨rb,hrb⟩:∃ rb,Hid (rb=w4.heap.size):=⟨_,rfl⟩
 rw[<-hrb.out] at XA
 go_wp2_with fail
 rw[<-hrb.out]
 generalize hW5:w4.alloc _=w5 at *
 clear hW5
 have xl:=XA.out.lt
 have x0:=XA.out.cell 0 _ rfl
 have x1:=XA.out.cell 1 _ rfl
 have x2:=XA.out.cell 2 _ rfl
 have x3:=XA.out.cell 3 _ rfl
 obtain⟨f,hf1,hf2⟩:=calm w5
 have HF1:=chid hf1
 have HF2:=chid hf2
 have x0':=fun n=>((hf1 n).cell (p:=⟨rb,0,none⟩) xl).trans x0
 have x1':=fun n=>((hf1 n).cell (p:=⟨rb,1,none⟩) xl).trans x1
 have x2':=fun n=>((hf1 n).cell (p:=⟨rb,2,none⟩) xl).trans x2
 have x3':=fun n=>((hf1 n).cell (p:=⟨rb,3,none⟩) xl).trans x3
 clear hf1 hf2 x0 x1 x2 x3
 refine wp_region_calm f (by kernel_rfl) (by kernel_rfl) (HF2.out _ (Below.refl _ _).drew) ?_
 repeat (go_big_quiet_step (first|(go_at_call 47;with_reducible refine Calls.mono (HN.out _ _) ?_;rintro e W1 ⟨rfl,b5⟩;exact⟨rfl,HF2.out _ (cbelow_on (HF1.out _) b5 (HF1.out _).size)⟩)|(go_at_call 25;with_reducible refine Calls.mono (HSa.out _ (HF1.out _)) ?_;rintro e W1 ⟨rfl,b5⟩;exact⟨rfl,HF2.out _ (cbelow_on (HF1.out _) b5 (HF1.out _).size)⟩)))
 refine wpQuiet_nil ?_
 intro w6 hw6
 obtain⟨n6,rfl⟩:=hw6
 have B6:=chid (cbelow_on BA.out (HF1.out n6) BA.out.size)
 clear x0' x1' x2' x3'
 generalize f n6=w6 at *
 go_wp2_with fail
 go_ret
 exact⟨rfl,B6.out⟩
end Go.Proofs.YtepncopdjodfgaaGreatDoor
