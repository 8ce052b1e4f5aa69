import Derived.Test.YtbddbnjhmdbkbaaGreatDoorMhI
import Derived.Deep.CutRange
import Derived.Test.YtbddbnjhmdbkbaaGreatDoorMgF
import Derived.Test.YtbddbnjhmdbkbaaGreatDoorMgW
namespace Go.Proofs.YtbddbnjhmdbkbaaGreatDoor
open Go.RowKit
theorem b0k {w w2 w3 w4:World}{b r q q':Nat}{A A':List Nat}{sp mp op:Option Addr}{agg span per ck:Int}{on:Bool}{L M:List Pr}(h:a3M w b r q A sp mp op agg span per ck on L)(hring:Rq w2 r q' 4096 M)(t2:a0h [r,q] w w2)(hq:q'=q\/w.heap.size<=q')(b3:Below w2.heap.size w2 w3)
 (haux:Aux w4 (a0Z M) agg sp mp op A') (t4:a0h A w3 w4) (hA:a5Q w3 A A') (hin:∀ s,s∈M->a1n s.1/\a1n s.2) :
 a3M w4 b r q' A' sp mp op agg span per ck on M/\a0h (b::r::q::A) w w4/\a5Q w (b::r::q::A) (b::r::q'::A'):=by
 have lb:=h.box.lt
 have lr:=h.ring.lt
 have lq:=h.ring.qlt
 have lq2:=hring.qlt
 have hs2:=t2.size
 have hs3:=b3.size
 have hs4:=t4.size
 have lA:=h.aux.lt
 have hbr:=h.br
 have hbq:=h.bq
 have q'A:q'∉A:=by
  rcases hq with rfl | hq
  ·exact h.qA
  ·intro hm;have:=lA q' hm;omega
 have out:∀ i,i<w3.heap.size->i∉A->i∉A':=fun i hi hn hm=>(hA i hm).elim hn (fun e=>by omega)
 refine⟨⟨?_,?_,haux,hbr,?_,out b (by omega) h.bA,out r (by omega) h.rA,out q' (by omega) q'A,hin,h.fair,h.now⟩,?_,?_⟩
 ·exact((h.box.turn t2 (by simp;omega)).next b3).turn t4 h.bA
 ·exact(hring.next b3).turn t4 h.rA q'A
 ·rcases hq with rfl | hq
  ·exact hbq
  ·omega
 ·refine a0h.trans (S':=A) (a0h.andBelow (a0h.trans (S':=[r,q]) (a0h.refl _ w) t2 (fun i hi=>by simp at hi ⊢;omega)) b3) t4 (fun i hi=>.inl (by simp[hi]))
 ·intro i hi
  simp only[List.mem_cons] at hi ⊢
  rcases hi with rfl | rfl | rfl | hi
  ·simp
  ·simp
  ·rcases hq with rfl | hq
   ·simp
   ·exact .inr hq
  ·rcases hA i hi with h1 | h1
   ·exact .inl (by simp[h1])
   ·exact .inr (by omega)
def a9s (w:World)(r:Nat):Nat:=(intOf ((w.cell? ⟨r,2,none⟩).getD (.int .i64 0))).toNat
theorem a6f {w:World}{r q room:Nat}{L:List Pr}(h:Rq w r q room L):a9s w r=L.length:=by
 obtain⟨f,s,c,h⟩:=h
 have c2:=h.box.cell 2 _ rfl
 simp[a9s,c2,intOf]
theorem b2g (span t:Int)(s:Pr)(L:List Pr)(h:a4C span t (s::L)=true):a0F span t (s::L)=a0F span t L:=by
 simp only[a4C,decide_eq_true_eq] at h
 simp[a0F,h]
theorem b2f (span t:Int)(L:List Pr)(h:a4C span t L=false):a0F span t L=L:=by
 cases L with
 | nil=>rfl
 | cons s L=>
   simp only[a4C,decide_eq_false_iff_not] at h
   simp[a0F,h]
theorem a5f {L:List Pr}(h:∀ s,s∈L->a1n s.1/\a1n s.2):∀ x,x∈a0Z L->a1n x:=by
 intro x hx
 obtain⟨s,hs,rfl⟩:=List.mem_map.1 hx
 exact(h s hs).2
def b7H (w:World)(b:Nat)(F:List Nat)(agg span per t:Int)(L:List Pr)(w':World):Prop:=∃ F',Win w' b F' agg span per t true L/\a0h F w w'/\a5Q w F F'
set_option maxRecDepth 20000 in
set_option maxHeartbeats 4000000 in
theorem b5A (b r q:Nat)(A:List Nat)(sp mp op:Option Addr)(agg span per ck:Int)(on:Bool)(L:List Pr)(t:Int)(w:World)(h:a3M w b r q A sp mp op agg span per ck on L)(ht:a1n t)(hs:on=true->ck<=t):
 Calls Tryz.prog 183 #[.pointer (some ⟨b,0,none⟩),.int .i64 t] w fun e w'=>e=.returned (.int .i64 0)/\∃ q' A',a3M w' b r q' A' sp mp op agg span per t true (a0F span t L)/\a0h (b::r::q::A) w w'/\a5Q w (b::r::q::A) (b::r::q'::A'):=by
 have hlt:=h.box.lt
 have c0:=h.box.cell 0 _ rfl
 have c4:=h.box.cell 4 _ rfl
 have c5:=h.box.cell 5 _ rfl
 have f4:=h.box.free 4 (by simp)
 have f5:=h.box.free 5 (by simp)
 have f5':∀ u,(w.setCell ⟨b,4,none⟩ u).frozen? ⟨b,5,none⟩=false:=fun u=>(World.frozen?_setCell _ _ _ _).trans f5
 have HR:=hid (b6g r q 4096 L w h.ring)
 have hst:a3M ((w.setCell ⟨b,4,none⟩ (.int .i64 t)).setCell ⟨b,5,none⟩ (.bool true)) b r q A sp mp op agg span per t true L:=by
  have hx:=(h.box.set 4 (by simp) (.int .i64 t)).set 5 (by simp) (.bool true)
  have tt:a0h [b] w ((w.setCell ⟨b,4,none⟩ (.int .i64 t)).setCell ⟨b,5,none⟩ (.bool true)):=(a0h.set _ _ _ (by simp)).andSet _ _ (.inl (by simp))
  exact⟨by simpa using hx,h.ring.turn tt (by simpa using Ne.symm h.br) (by simpa using Ne.symm h.bq),h.aux.turn tt (fun i hi=>by simp;rintro rfl;exact h.bA hi),h.br,h.bq,h.bA,h.rA,h.qA,h.inn,h.fair,ht⟩
 have tst:a0h (b::r::q::A) w ((w.setCell ⟨b,4,none⟩ (.int .i64 t)).setCell ⟨b,5,none⟩ (.bool true)):=(a0h.set _ _ _ (by simp)).andSet _ _ (.inl (by simp))
 have HST:=hid hst
 have HTS:=hid tst
 have hrq:=h.br
 clear h hst tst
 go_enter Tryz.func183,Tryz.ntmps183
 go_wp2_with fail
 refine ZE HR.out ?_
 rintro e w1 ⟨rfl,rfl⟩
 have hs':on=false\/¬ t<ck:=by
  cases on with
  | false=>exact .inl rfl
  | true=>exact .inr (by have:=hs rfl;omega)
 clear hs
 rcases on with _ | _
 case' false=>clear hs'
 case' true=>replace hs':¬ t<ck:=by simpa using hs'
 all_goals (
  go_wp2_with fail
  go_loopw [6] (fun _ wr=>∃ q' A' M,a3M wr b r q' A' sp mp op agg span per t true M/\a0F span t M=a0F span t L/\a0h (b::r::q::A) w wr/\a5Q w (b::r::q::A) (b::r::q'::A')) (fun _ wr=>a9s wr r)
  case atStart=>exact⟨q,A,L,HST.out,rfl,HTS.out,a5Q.refl _ _⟩
  case round=>
   obtain⟨q',A',M,hW,hM,hT,hF⟩:=hrel
   have HW:=hid hW
   have HM:=hid hM
   have HT:=hid hT
   have HF:=hid hF
   clear c0 c4 c5 f4 f5 f5' hlt hW hM hT hF
   go_wp2_with fail
   refine ZE (c4g b r q' A' sp mp op agg span per t true M t wr HW.out ht) ?_
   rintro e w1 ⟨rfl,hB1⟩
   have hW1:=HW.out.turn (S:=[]) (a0h.of_below hB1) (by simp)
   have hlt:=hW1.box.lt
   have c0:=hW1.box.cell 0 _ rfl
   have H1:=hid hB1
   have HW1:=hid hW1
   clear hB1 hW1
   cases ho:a4C span t M with
   | false=>
     have HO:=hid ho
     clear ho
     go_wp2_with fail
     go_ret
     exact⟨rfl,q',A',by rw[<-HM.out,b2f _ _ _ HO.out];exact HW1.out,HT.out.andBelow H1.out,HF.out⟩
   | true=>
     cases M with
     | nil=>cases ho
     | cons s M=>
       have HO:=hid ho
       clear ho
       have HD:=hid (b3q r q' 4096 M s w1 HW1.out.ring (ZB _))
       go_wp2_with fail
       refine ZE HD.out ?_
       rintro e w2 ⟨q2,rfl,hR2,tR,hq2⟩
       have hx2:=HW1.out.box.turn tR (by have h1:=HW1.out.br;have h2:=HW1.out.bq;simp[h1,h2])
       have ha2:=HW1.out.aux.turn tR (fun i hi=>by simp;exact⟨fun e=>HW1.out.rA (e ▸ hi),fun e=>HW1.out.qA (e ▸ hi)⟩)
       have b3:Below w2.heap.size w2 (w2.alloc (.cells #[.int .i64 s.1,.int .i64 s.2] 78)):=(ZD _ _).alloc (ZB _) _
       have hN:=(Box.new w2 [.int .i64 s.1,.int .i64 s.2] 78).cell 1 _ rfl
       have hin:=HW1.out.inn
       have hL:=b7O b _ _ _ _ _ _ sp mp op A' agg s.2 (a0Z M) _ (hx2.next b3) (ha2.next b3) HW1.out.bA (hin s (by simp)).2 (a5f (fun x hx=>hin x (by simp[hx]))) (by have:=HW1.out.ring.len;simp[a0Z] at this ⊢;omega)
       have HL:=hid hL
       have HR2:=hid hR2
       have HTR:=hid tR
       have H3:=hid b3
       have HIN:=hid hin
       clear hx2 ha2 b3 hin hL hR2 tR c0 hlt
       simp only[pv]
       go_wp2_with fail
       refine ZE HL.out ?_
       rintro e w4 ⟨rfl,A2,haux,t4,hA2⟩
       obtain⟨m1,m2,m3⟩:=b0k HW1.out HR2.out HTR.out hq2 H3.out haux t4 hA2 (fun x hx=>HIN.out x (by simp[hx]))
       have M1:=hid m1
       have M2:=hid m2
       have M3:=hid m3
       clear m1 m2 m3 haux t4 hA2 hN hq2
       go_wp2_with fail
       go_roundw
       case rel=>
        refine⟨q2,A2,M,M1.out,?_,?_,?_⟩
        ·rw[<-b2g _ _ _ _ HO.out];exact HM.out
        ·exact(HT.out.andBelow H1.out).trans M2.out (fun i hi=>HF.out i hi)
        ·exact HF.out.trans M3.out (ZC HT.out.size H1.out.size)
       case measure=>
        rw[a6f M1.out.ring,a6f HW.out.ring];simp)
theorem c0V (b:Nat)(F:List Nat)(agg span per ck:Int)(on:Bool)(L:List Pr)(t:Int)(w:World)(h:Win w b F agg span per ck on L)(ht:a1n t)(hs:on=true->ck<=t):
 Calls Tryz.prog 183 #[.pointer (some ⟨b,0,none⟩),.int .i64 t] w fun e w'=>e=.returned (.int .i64 0)/\b7H w b F agg span per t (a0F span t L) w':=by
 obtain⟨r,q,A,sp,mp,op,rfl,h⟩:=h
 refine(b5A b r q A sp mp op agg span per ck on L t w h ht hs).mono ?_
 rintro e w' ⟨rfl,q',A',h1,h2,h3⟩
 exact⟨rfl,_,⟨r,q',A',sp,mp,op,rfl,h1⟩,h2,h3⟩
def a1e (L:List Pr)(s:Pr):List Pr:=if L.length=4096 then L.tail++[s] else L++[s]
def c0J (L:List Pr):Pr:=if L.length=4096 then L.headD pz else pz
theorem c2z (b q:Nat)(L:List Pr)(v:Pr)(w:World)(h:Rq w b q 4096 L):
 Calls Tryz.prog 184 #[.pointer (some ⟨b,0,none⟩),.agg #[.int .i64 v.1,.int .i64 v.2]] w (a4y w b q 4096 (a1e L v) (c0J L) (decide (L.length=4096))):=by
 have hl:=h.len
 by_cases hf:L.length=4096
 ·rw[a1e,if_pos hf,c0J,if_pos hf,decide_eq_true hf]
  cases L with
  | nil=>simp at hf
  | cons x L=>exact b1H b q 4096 x L v w h (ZB _) hf
 ·rw[a1e,if_neg hf,c0J,if_neg hf,decide_eq_false hf]
  exact b1F b q 4096 L v w h (ZB _) (by omega)
theorem b1J {L:List Pr}{s:Pr}(h:L.length<=4096):(a1e L s).length<=4096:=by
 unfold a1e
 split
 ·simp;omega
 ·simp;omega
theorem b3s {L:List Pr}{s:Pr}(h:∀ x,x∈L->a1n x.1/\a1n x.2)(hs:a1n s.1/\a1n s.2):∀ x,x∈a1e L s->a1n x.1/\a1n x.2:=by
 intro x hx
 unfold a1e at hx
 split at hx
 ·rcases List.mem_append.1 hx with hx | hx
  ·exact h x (List.mem_of_mem_tail hx)
  ·simp at hx;subst hx;exact hs
 ·rcases List.mem_append.1 hx with hx | hx
  ·exact h x hx
  ·simp at hx;subst hx;exact hs
def Mid (w wc:World)(r q n:Nat)(M:List Pr)(x:Pr):Prop:=∃ q',Rq wc r q' 4096 M/\a0h [r,q] w wc/\(q'=q\/w.heap.size<=q')/\wc.cell? ⟨n,1,none⟩=some (.int .i64 x.2)
theorem b6s {w w9:World}{r q q':Nat}{M:List Pr}{x:Pr}(hR:Rq w9 r q' 4096 M)(t:a0h [r,q] w.drew w9)(hq:q'=q\/w.drew.heap.size<=q'):Mid w (w9.alloc (.cells #[.int .i64 x.1,.int .i64 x.2] 78)) r q w9.heap.size M x:=by
 have hB:Below w9.heap.size w9 (w9.alloc (.cells #[.int .i64 x.1,.int .i64 x.2] 78)):=(ZD _ _).alloc (ZB _) _
 exact⟨q',hR.next hB,(a0h.undrew t).andBelow hB,hq,(Box.new w9 [.int .i64 x.1,.int .i64 x.2] 78).cell 1 _ rfl⟩
theorem b3E {w w9:World}{o:Obj}{r q q':Nat}{M:List Pr}{x:Pr}{u v:Value}(hR:Rq w9 r q' 4096 M)(t:a0h [r,q] (w.alloc o).drew w9)(hq:q'=q\/(w.alloc o).drew.heap.size<=q')(hr:r<w.heap.size)(hq0:q<w.heap.size)(hz:Box w9 w.heap.size [u,v]):Mid w ((w9.setCell ⟨w.heap.size,0,none⟩ (.int .i64 x.1)).setCell ⟨w.heap.size,1,none⟩ (.int .i64 x.2)) r q w.heap.size M x:=by
 have hq':q'=q\/w.heap.size+1<=q':=by simpa using hq
 refine⟨q',hR.turn (S:=[w.heap.size]) ((a0h.set _ _ _ (by simp)).andSet _ _ (.inl (by simp))) (by simp;omega) (by simp;omega),?_,by omega,?_⟩
 ·have t1:a0h [r,q] w w9:=(a0h.of_below ((ZD _ _).alloc (ZB _) o)).trans (a0h.undrew t) (fun i hi=>.inl hi)
  exact(t1.andSet _ _ (.inr (ZB _))).andSet _ _ (.inr (ZB _))
 ·have:=((hz.set 0 (by simp) (.int .i64 x.1)).set 1 (by simp) (.int .i64 x.2)).cell 1 (.int .i64 x.2) (by simp)
  exact this
theorem a4N (x:Pr)(M:List Pr)(s:Pr)(h:(x::M).length=4096):a0Z (a1e (x::M) s)=a0Z M++[s.2]:=by
 rw[a1e,if_pos h];simp[a0Z]
theorem a4M (M:List Pr)(s:Pr)(h:¬ M.length=4096):a0Z (a1e M s)=a0Z M++[s.2]:=by
 rw[a1e,if_neg h];simp[a0Z]
theorem b1q {w w1 w2:World}{A A1 A2:List Nat}(t1:a0h A w w1)(f1:a5Q w A A1)(t2:a0h A1 w1 w2)(f2:a5Q w1 A1 A2):a0h A w w2/\a5Q w A A2:=⟨t1.trans t2 f1,f1.trans f2 t1.size⟩
theorem b0y {w w0 w1 wc w5:World}{b r q q':Nat}{F A A3:List Nat}{sp mp op:Option Addr}{agg span per ck:Int}{M N:List Pr}(hB:Below w.heap.size w w0)(hT:a0h F w0 w1)(hF:a5Q w0 F (b::r::q::A))(hW:a3M w1 b r q A sp mp op agg span per ck true M)(hR:Rq wc r q' 4096 N)(tR:a0h [r,q] w1 wc)(hq:q'=q\/w1.heap.size<=q')
 (haux:Aux w5 (a0Z N) agg sp mp op A3) (t5:a0h A wc w5) (f5:a5Q wc A A3) (hin:∀ s,s∈N->a1n s.1/\a1n s.2):b7H w b F agg span per ck N w5:=by
 obtain⟨m1,m2,m3⟩:=b0k hW hR tR hq (ZD _ _) haux t5 f5 hin
 refine⟨_,⟨r,q',A3,sp,mp,op,rfl,m1⟩,(a0h.of_below hB).trans (hT.trans m2 hF) (fun i hi=>.inl hi),fun i hi=>?_⟩
 rcases hF.trans m3 hT.size i hi with h | h
 ·exact .inl h
 ·exact .inr (by have:=hB.size;omega)
set_option maxRecDepth 20000 in
set_option maxHeartbeats 4000000 in
theorem c4f (b:Nat)(F:List Nat)(agg span per ck:Int)(on:Bool)(L:List Pr)(s:Pr)(w:World)(h:Win w b F agg span per ck on L)(hs1:a1n s.1)(hs2:a1n s.2)(ht:on=true->ck<=s.1):
 Calls Tryz.prog 88 #[.pointer (some ⟨b,0,none⟩),.agg #[.int .i64 s.1,.int .i64 s.2]] w fun e w'=>e=.returned (.int .i64 0)/\b7H w b F agg span per s.1 (a1e (a0F span s.1 L) s) w':=by
 have hB:Below w.heap.size w (w.alloc (.cells #[.int .i64 s.1,.int .i64 s.2] 78)):=(ZD _ _).alloc (ZB _) _
 have HG:=hid (c0V b F agg span per ck on L s.1 _ (h.next hB) hs1 ht)
 have HB:=hid hB
 have HN:=hid (Box.new w [.int .i64 s.1,.int .i64 s.2] 78)
 have HFl:=hid h.lt
 clear h hB ht
 go_enter Tryz.func88,Tryz.ntmps88
 go_wp2_with fail
 refine ZE HG.out ?_
 rintro e w1 ⟨rfl,F1,hW,hT,hF⟩
 obtain⟨r,q,A,sp,mp,op,rfl,hW⟩:=hW
 have hsz:w.heap.size<w1.heap.size:=by have:=hT.size;simp at this;omega
 have hn1:=HN.out.turn hT (fun hm=>by have:=HFl.out _ hm;omega)
 generalize hM:a0F span s.1 L=M at *
 have HMM:=hid hM
 have hlt:=hW.box.lt
 have c0:=hW.box.cell 0 _ rfl
 have d0:=hn1.cell 0 _ rfl
 have d1:=hn1.cell 1 _ rfl
 have HW:=hid hW
 have HT:=hid hT
 have HF:=hid hF
 have HN1:=hid hn1
 have HP:=hid (fun W (hb:Below w1.heap.size w1 W)=>c2z r q M s W (hW.ring.next hb))
 have hnr:w1.heap.size∉[r,q]:=by have h1:=hW.ring.lt;have h2:=hW.ring.qlt;simp;omega
 have hr0:=hW.ring.lt
 have hq0:=hW.ring.qlt
 clear hW hT hF hn1 hM HG
 go_upto_region 4 with fail
 go_cut [6,7] from 8 (fun s6 s7 wc=>∃ n:Nat,s6=.pointer (some ⟨n,0,none⟩)/\s7=.bool (decide (M.length=4096))/\Mid w1 wc r q n (a1e M s) (c0J M))
 case first=>
  go_region_with (go_at_call 184;refine ZE (HP.out _ (by repeat (first | exact ZD _ _ | apply Below.drew | apply a3K | (refine Below.alloc ?_ (by simp) _)))) ?_;rintro e w9 ⟨q',rfl,hR9,t9,hq9⟩;(try (have hz:=((Box.new w1 [.int .i64 0,.int .i64 0] 78).alike (by rfl)).turn t9 hnr;have z0:=hz.cell 0 _ rfl;have z1:=hz.cell 1 _ rfl;have z2:=hz.free 0 (by simp);have z3:∀ u,(w9.setCell ⟨w1.heap.size,0,none⟩ u).frozen? ⟨w1.heap.size,1,none⟩=false:=(fun u=>(World.frozen?_setCell _ _ _ _).trans (hz.free 1 (by simp)));have z4:=hz.lt));simp only[pv])
  all_goals (go_wp2_with fail;go_meet)
  all_goals first
   | exact⟨_,rfl,rfl,b6s hR9 t9 hq9⟩
   | exact⟨_,rfl,rfl,b3E hR9 t9 hq9 hr0 hq0 hz⟩
 case rest=>
  obtain⟨n,rfl,rfl,q',hR,tR,hq,cn⟩:=hcut
  have hx:=HW.out.box.turn tR (by have h1:=HW.out.br;have h2:=HW.out.bq;simp[h1,h2])
  have ha:=HW.out.aux.turn tR (fun i hi=>by simp;exact⟨fun e=>HW.out.rA (e ▸ hi),fun e=>HW.out.qA (e ▸ hi)⟩)
  have hne:∀ i,i∈b::r::q::A->i≠w.heap.size:=by
   intro i hi e
   rcases HF.out i hi with h | h
   ·have:=HFl.out i h;omega
   ·simp at h;omega
  have hnc:=HN1.out.turn tR (fun hm=>hne w.heap.size (by simp at hm ⊢;omega) rfl)
  have hNA:w.heap.size∉A:=fun hm=>hne w.heap.size (by simp[hm]) rfl
  have hinM:=HW.out.inn
  have hinP:=b3s hinM ⟨hs1,hs2⟩
  have hlM:=HW.out.ring.len
  have HX:=hid hx
  have HR:=hid hR
  have HTR:=hid tR
  have HQ:=hid hq
  have HNC:=hid hnc
  have HIN:=hid hinP
  have hltc:=hx.lt
  by_cases hf:M.length=4096
  ·cases M with
   | nil=>simp at hf
   | cons x M=>
     rw[decide_eq_true hf]
     have ho:c0J (x::M)=x:=by rw[c0J,if_pos hf];rfl
     rw[ho] at cn
     have hbA:=HW.out.bA
     have HL:=hid (b7O b _ _ _ _ _ _ sp mp op A agg x.2 (a0Z M) wc hx ha hbA (hinM x (by simp)).2 (a5f (fun y hy=>hinM y (by simp[hy]))) (by simp[a0Z] at hlM ⊢;omega))
     have HV:=hid (a5f (fun y hy=>hinM y (List.mem_cons_of_mem x hy)))
     have HVP:=hid (a4N x M s hf)
     have hlv:(a0Z M).length<=4096:=by simp[a0Z] at hlM ⊢;omega
     clear hx ha hnc hinM hinP hR tR hq hf hlM ho c0 d0 d1 hlt hne
     go_wp2_with fail
     refine ZE HL.out ?_
     rintro e w4 ⟨rfl,A2,ha4,t4,f4⟩
     have hx4:=HX.out.turn t4 hbA
     have e1:=(HNC.out.turn t4 hNA).cell 1 _ rfl
     have hbA2:b∉A2:=fun hm=>(f4 b hm).elim hbA (fun e=>by omega)
     have HC:=hid (c0W b _ _ _ _ _ _ sp mp op A2 agg s.2 (a0Z M) w4 hx4 ha4 hbA2 hs2 HV.out hlv)
     have HT4:=hid t4
     have HF4:=hid f4
     have hlt4:=hx4.lt
     clear hx4 ha4 t4 f4 cn hltc
     go_wp2_with fail
     refine ZE HC.out ?_
     rintro e w5 ⟨rfl,A3,ha5,t5,f5⟩
     obtain⟨tt,ff⟩:=b1q HT4.out HF4.out t5 f5
     have HG:=hid (b0y HB.out HT.out HF.out HW.out HR.out HTR.out HQ.out (by rw[HVP.out];exact ha5) tt ff HIN.out)
     clear ha5 t5 f5 tt ff e1 hlt4
     go_wp2_with fail
     go_ret
     exact⟨rfl,by rw[HMM.out];exact HG.out⟩
  ·rw[decide_eq_false hf]
   have hbA:=HW.out.bA
   have HC:=hid (c0W b _ _ _ _ _ _ sp mp op A agg s.2 (a0Z M) wc hx ha hbA hs2 (a5f hinM) (by simp[a0Z];omega))
   have HVP:=hid (a4M M s hf)
   have e1:=hnc.cell 1 _ rfl
   clear hx ha hnc hinM hinP hR tR hq hf hlM c0 d0 d1 hlt hne cn
   go_wp2_with fail
   refine ZE HC.out ?_
   rintro e w5 ⟨rfl,A3,ha5,t5,f5⟩
   have HG:=hid (b0y HB.out HT.out HF.out HW.out HR.out HTR.out HQ.out (by rw[HVP.out];exact ha5) t5 f5 HIN.out)
   clear ha5 t5 f5 e1
   go_wp2_with fail
   go_ret
   exact⟨rfl,by rw[HMM.out];exact HG.out⟩
def a0A (agg per:Int)(V:List Int):Int×Int:=
 if agg=1 then (if -9223372036854775808<=V.sum/\V.sum<9223372036854775808 then (0,V.sum) else (3,0))
 else if agg=5 then (0,(V.length:Int)*1000000)
 else if V=[] then (1,0)
 else if agg=2 then (0,V.sum/(V.length:Int))
 else if agg=3 then (0,(kept false V).headD 0)
 else if agg=4 then (0,(kept true V).headD 0)
 else (0,((a4D V)[a1u per V.length-1]?).getD 0)
theorem a9G {V:List Int}(h:∀ x,x∈V->a1n x)(hn:V≠[]):a1n (V.sum/(V.length:Int)):=by
 obtain⟨h1,h2⟩:=a2b h
 have hp:0<(V.length:Int):=by have:=List.length_pos_iff.2 hn;omega
 refine⟨?_,?_⟩
 ·exact(Int.le_ediv_iff_mul_le hp).2 (by have:=Int.mul_comm (-9223372036854775808) (V.length:Int);omega)
 ·exact(Int.ediv_lt_iff_lt_mul hp).2 (by have:=Int.mul_comm 9223372036854775808 (V.length:Int);omega)
def rv (x:Int×Int):Value:=.agg #[.int .i64 x.1,.int .i64 x.2]
set_option maxRecDepth 20000 in
set_option maxHeartbeats 4000000 in
theorem c2t (b r q:Nat)(A:List Nat)(sp mp op:Option Addr)(agg span per ck:Int)(on:Bool)(L:List Pr)(w:World)(h:a3M w b r q A sp mp op agg span per ck on L):
 Calls Tryz.prog 187 #[.pointer (some ⟨b,0,none⟩)] w fun e w'=>e=.returned (rv (a0A agg per (a0Z L)))/\Below w.heap.size w w':=by
 have hvin:=a5f h.inn
 have hlen:=h.ring.len
 have hvl:(a0Z L).length=L.length:=by simp[a0Z]
 have hB:Below w.heap.size w (w.alloc (.cells #[.int .i64 0,.int .i64 0] 84)):=(ZD _ _).alloc (ZB _) _
 have hR:=Box.new w [.int .i64 0,.int .i64 0] 84
 have hX:=h.box.next hB
 have hRg:=h.ring.next hB
 have hA:=h.aux.next hB
 have hfair:=h.fair
 have hlt:=hX.lt
 have c0:=hX.cell 0 _ rfl
 have c1:=hX.cell 1 _ rfl
 have c3:=hX.cell 3 _ rfl
 have c6:=hX.cell 6 _ rfl
 have c7:=hX.cell 7 _ rfl
 have c8:=hX.cell 8 _ rfl
 have HB:=hid hB
 have HR:=hid hR
 clear h hX hB hR
 obtain⟨W,hW⟩:∃ W,W=w.alloc (.cells #[.int .i64 0,.int .i64 0] 84):=⟨_,rfl⟩
 rw[<-hW] at hRg hA hlt c0 c1 c3 c6 c7 c8 HB HR
 rcases hA with ⟨a,lo,hi,ha,hb,hr,rfl,rfl,rfl,rfl⟩ | ⟨a,c,h,ha,hm,rfl,rfl,rfl,rfl⟩ | ⟨ha,rfl,rfl,rfl,rfl⟩ | ⟨a,c,ha,hk,rfl,rfl,rfl,rfl⟩
 ·skip
  rcases ha with rfl | rfl
  ·have HF:=hid (b8C a lo hi _ hr W hb.lt hb.two.1 hb.two.2.1)
   by_cases hf : -9223372036854775808<=(a0Z L).sum/\(a0Z L).sum<9223372036854775808
   ·have ht:a0A 1 per (a0Z L)=(0,(a0Z L).sum):=by rw[a0A,if_pos rfl,if_pos hf]
    rw[ht]
    rw[if_pos hf,decide_eq_true hf] at HF
    clear ht hf hb hr hvin hvl hlen hfair hRg
    generalize (a0Z L).sum=S at *
    go_enter Tryz.func187,Tryz.ntmps187
    go_upto_region 1 with fail
    rw[<-hW]
    clear hW
    go_wp2_with fail
    refine ZE HF.out ?_
    rintro e w2 ⟨rfl,hb2⟩
    have hR2:=HR.out.next hb2
    have z0:=hR2.cell 0 _ rfl
    have z1:=hR2.cell 1 _ rfl
    have z2:=hR2.free 0 (by simp)
    have z3:∀ u,(w2.setCell ⟨w.heap.size,0,none⟩ u).frozen? ⟨w.heap.size,1,none⟩=false:=fun u=>(World.frozen?_setCell _ _ _ _).trans (hR2.free 1 (by simp))
    have o:=fun u v=>((hR2.set 0 (by simp) u).set 1 (by simp) v).two
    have o0:=fun u v=>(o u v).1
    have o1:=fun u v=>(o u v).2.1
    have H2:=hid hb2
    clear hR2 o hb2
    go_wp2_with fail
    refine bodyPost_ret (v:=rv _) (by simp[results,Tryz.results187,go_sem,o0,o1,rv]) rfl ⟨rfl,?_⟩
    exact((HB.out.trans (H2.out.mono HB.out.size)).setCell (ZB _) _).setCell (ZB _) _
   ·have ht:a0A 1 per (a0Z L)=(3,0):=by rw[a0A,if_pos rfl,if_neg hf]
    rw[ht]
    rw[if_neg hf,decide_eq_false hf] at HF
    clear ht hf hb hr hvin hvl hlen hfair hRg
    go_enter Tryz.func187,Tryz.ntmps187
    go_upto_region 1 with fail
    rw[<-hW]
    clear hW
    go_wp2_with fail
    refine ZE HF.out ?_
    rintro e w2 ⟨rfl,hb2⟩
    have hR2:=HR.out.next hb2
    have z0:=hR2.cell 0 _ rfl
    have z1:=hR2.cell 1 _ rfl
    have z2:=hR2.free 0 (by simp)
    have z3:∀ u,(w2.setCell ⟨w.heap.size,0,none⟩ u).frozen? ⟨w.heap.size,1,none⟩=false:=fun u=>(World.frozen?_setCell _ _ _ _).trans (hR2.free 1 (by simp))
    have o:=fun u v=>((hR2.set 0 (by simp) u).set 1 (by simp) v).two
    have o0:=fun u v=>(o u v).1
    have o1:=fun u v=>(o u v).2.1
    have H2:=hid hb2
    clear hR2 o hb2
    go_wp2_with fail
    refine bodyPost_ret (v:=rv _) (by simp[results,Tryz.results187,go_sem,o0,o1,rv]) rfl ⟨rfl,?_⟩
    exact((HB.out.trans (H2.out.mono HB.out.size)).setCell (ZB _) _).setCell (ZB _) _
  ·have HL:=hid (fun n=>c0I r q 4096 L (W.drewN n) (hRg.turn (S:=[]) (a0I [] W n) (by simp) (by simp)))
   by_cases hv:a0Z L=[]
   ·have ht:a0A 2 per (a0Z L)=(1,0):=by rw[a0A,if_neg (by decide),if_neg (by decide),if_pos hv]
    rw[ht]
    have hl0:L.length=0:=by rw[<-hvl,hv];rfl
    rw[hl0] at HL
    have HM:=hid (fun n=>b1n a 0 (by decide) (W.drewN n))
    clear ht hb hr hvin hvl hlen hfair hRg hv hl0
    go_enter Tryz.func187,Tryz.ntmps187
    go_upto_region 1 with fail
    rw[<-hW]
    clear hW
    go_wp2_with fail
    go_region_with (first|(go_at_call 247;refine ZE (HL.out 1) ?_;rintro e w9 ⟨rfl,rfl⟩)|(go_at_call 246;refine ZE (HM.out 1) ?_;rintro e w2 ⟨rfl,h9⟩;have hb2:=(a0Y W 1).trans h9;clear h9))
    all_goals (
     have hR2:=HR.out.next hb2
     have z0:=hR2.cell 0 _ rfl
     have z1:=hR2.cell 1 _ rfl
     have z2:=hR2.free 0 (by simp)
     have z3:∀ u,(w2.setCell ⟨w.heap.size,0,none⟩ u).frozen? ⟨w.heap.size,1,none⟩=false:=fun u=>(World.frozen?_setCell _ _ _ _).trans (hR2.free 1 (by simp))
     have o:=fun u v=>((hR2.set 0 (by simp) u).set 1 (by simp) v).two
     have o0:=fun u v=>(o u v).1
     have o1:=fun u v=>(o u v).2.1
     have H2:=hid hb2
     clear hR2 o hb2
     go_wp2_with fail
     refine bodyPost_ret (v:=rv _) (by simp[results,Tryz.results187,go_sem,o0,o1,rv]) rfl ⟨rfl,?_⟩
     exact((HB.out.trans (H2.out.mono HB.out.size)).setCell (ZB _) _).setCell (ZB _) _)
   ·have ht:a0A 2 per (a0Z L)=(0,(a0Z L).sum/((a0Z L).length:Int)):=by rw[a0A,if_neg (by decide),if_neg (by decide),if_neg hv,if_pos rfl]
    rw[ht]
    obtain⟨s1,s2⟩:=a2b hvin
    have hm:=a9G hvin hv
    have hl1:1<=L.length:=by rw[<-hvl];exact List.length_pos_iff.2 hv
    have HM:=hid (fun n=>b5z a lo hi (a0Z L).sum (L.length:Int) hr (by rw[hvl] at s1;omega) (by omega) (by omega) (W.drewN n) hb.lt (hb.alike (w':=W.drewN n) rfl).two.1 (hb.alike (w':=W.drewN n) rfl).two.2.1)
    rw[hvl] at hm ⊢
    obtain⟨n,hn⟩:∃ n,n=L.length:=⟨_,rfl⟩
    rw[<-hn] at HL HM hm ⊢
    generalize hS:(a0Z L).sum/(n:Int)=S at *
    have hmm:=hid hm
    clear ht hb hr hvin hvl hlen hfair hRg hv hl1 s1 s2 hn hS hm
    go_enter Tryz.func187,Tryz.ntmps187
    go_upto_region 1 with fail
    rw[<-hW]
    clear hW
    go_wp2_with fail
    go_region_with (first|(go_at_call 247;refine ZE (HL.out 1) ?_;rintro e w9 ⟨rfl,rfl⟩)|(go_at_call 246;refine ZE (HM.out 1) ?_;rintro e w2 ⟨x,tb,rfl,ht1,ht2,-,h9⟩;obtain rfl:tb=true:=ht1.2 hmm.out;obtain rfl:x=S:=ht2 rfl;have hb2:=(a0Y W 1).trans h9;clear ht1 ht2 h9))
    all_goals (
     have hR2:=HR.out.next hb2
     have z0:=hR2.cell 0 _ rfl
     have z1:=hR2.cell 1 _ rfl
     have z2:=hR2.free 0 (by simp)
     have z3:∀ u,(w2.setCell ⟨w.heap.size,0,none⟩ u).frozen? ⟨w.heap.size,1,none⟩=false:=fun u=>(World.frozen?_setCell _ _ _ _).trans (hR2.free 1 (by simp))
     have o:=fun u v=>((hR2.set 0 (by simp) u).set 1 (by simp) v).two
     have o0:=fun u v=>(o u v).1
     have o1:=fun u v=>(o u v).2.1
     have H2:=hid hb2
     clear hR2 o hb2
     go_wp2_with fail
     refine bodyPost_ret (v:=rv _) (by simp[results,Tryz.results187,go_sem,o0,o1,rv]) rfl ⟨rfl,?_⟩
     exact((HB.out.trans (H2.out.mono HB.out.size)).setCell (ZB _) _).setCell (ZB _) _)
 ·skip
  by_cases hv:a0Z L=[]
  ·have ht:a0A agg per (a0Z L)=(1,0):=by rw[a0A,if_neg (by omega),if_neg (by omega),if_pos hv]
   rw[ht]
   rw[hv] at hm
   have HM:=hid (b6v a c h W hm)
   clear ht hm hv hvin hvl hlen hfair hRg
   rcases ha with ⟨rfl,rfl⟩ | ⟨rfl,rfl⟩
   all_goals (
    go_enter Tryz.func187,Tryz.ntmps187
    go_upto_region 1 with fail
    rw[<-hW]
    clear hW
    go_wp2_with fail
    refine ZE HM.out ?_
    rintro e w2 ⟨rfl,h9⟩
    have hb2:Below W.heap.size W w2:=h9 ▸ ZD _ _
    clear h9
    have hR2:=HR.out.next hb2
    have z0:=hR2.cell 0 _ rfl
    have z1:=hR2.cell 1 _ rfl
    have z2:=hR2.free 0 (by simp)
    have z3:∀ u,(w2.setCell ⟨w.heap.size,0,none⟩ u).frozen? ⟨w.heap.size,1,none⟩=false:=fun u=>(World.frozen?_setCell _ _ _ _).trans (hR2.free 1 (by simp))
    have o:=fun u v=>((hR2.set 0 (by simp) u).set 1 (by simp) v).two
    have o0:=fun u v=>(o u v).1
    have o1:=fun u v=>(o u v).2.1
    have H2:=hid hb2
    clear hR2 o hb2
    go_wp2_with fail
    refine bodyPost_ret (v:=rv _) (by simp[results,Tryz.results187,go_sem,o0,o1,rv]) rfl ⟨rfl,?_⟩
    exact((HB.out.trans (H2.out.mono HB.out.size)).setCell (ZB _) _).setCell (ZB _) _)
  ·obtain⟨y,K,hy⟩:∃ y K,kept h (a0Z L)=y::K:=by
    cases hk:kept h (a0Z L) with
    | nil=>exact absurd hk (b3Q h hv)
    | cons y K=>exact⟨y,K,rfl⟩
   have ht:a0A agg per (a0Z L)=(0,y):=by
    rw[a0A,if_neg (by omega),if_neg (by omega),if_neg hv,if_neg (by omega)]
    rcases ha with ⟨rfl,rfl⟩ | ⟨rfl,rfl⟩
    ·rw[if_pos rfl,hy];rfl
    ·rw[if_neg (by decide),if_pos rfl,hy];rfl
   rw[ht]
   have HM:=hid (b3J a c h (a0Z L) y K W hm hy)
   clear ht hm hv hvin hvl hlen hfair hRg hy
   rcases ha with ⟨rfl,rfl⟩ | ⟨rfl,rfl⟩
   all_goals (
    go_enter Tryz.func187,Tryz.ntmps187
    go_upto_region 1 with fail
    rw[<-hW]
    clear hW
    go_wp2_with fail
    refine ZE HM.out ?_
    rintro e w2 ⟨rfl,h9⟩
    have hb2:Below W.heap.size W w2:=h9 ▸ ZD _ _
    clear h9
    have hR2:=HR.out.next hb2
    have z0:=hR2.cell 0 _ rfl
    have z1:=hR2.cell 1 _ rfl
    have z2:=hR2.free 0 (by simp)
    have z3:∀ u,(w2.setCell ⟨w.heap.size,0,none⟩ u).frozen? ⟨w.heap.size,1,none⟩=false:=fun u=>(World.frozen?_setCell _ _ _ _).trans (hR2.free 1 (by simp))
    have o:=fun u v=>((hR2.set 0 (by simp) u).set 1 (by simp) v).two
    have o0:=fun u v=>(o u v).1
    have o1:=fun u v=>(o u v).2.1
    have H2:=hid hb2
    clear hR2 o hb2
    go_wp2_with fail
    refine bodyPost_ret (v:=rv _) (by simp[results,Tryz.results187,go_sem,o0,o1,rv]) rfl ⟨rfl,?_⟩
    exact((HB.out.trans (H2.out.mono HB.out.size)).setCell (ZB _) _).setCell (ZB _) _)
 ·skip
  subst ha
  have ht:a0A 5 per (a0Z L)=(0,(L.length:Int)*1000000):=by rw[a0A,if_neg (by decide),if_pos rfl,hvl]
  rw[ht]
  have HL:=hid (c0I r q 4096 L W hRg)
  have HWh:=hid (a3g (L.length:Int) (by omega) (by omega) W)
  rw[a9Q ((L.length:Int)*1000000) (by omega) (by omega)] at HWh
  obtain⟨n,hn⟩:∃ n,n=L.length:=⟨_,rfl⟩
  rw[<-hn] at HL HWh ⊢
  clear ht hvin hvl hlen hfair hRg hn
  go_enter Tryz.func187,Tryz.ntmps187
  go_upto_region 1 with fail
  rw[<-hW]
  clear hW
  go_wp2_with fail
  refine ZE HL.out ?_
  rintro e w2 ⟨rfl,rfl⟩
  go_wp2_with fail
  refine ZE HWh.out ?_
  rintro e w2 ⟨rfl,hb2⟩
  have hR2:=HR.out.next hb2
  have z0:=hR2.cell 0 _ rfl
  have z1:=hR2.cell 1 _ rfl
  have z2:=hR2.free 0 (by simp)
  have z3:∀ u,(w2.setCell ⟨w.heap.size,0,none⟩ u).frozen? ⟨w.heap.size,1,none⟩=false:=fun u=>(World.frozen?_setCell _ _ _ _).trans (hR2.free 1 (by simp))
  have o:=fun u v=>((hR2.set 0 (by simp) u).set 1 (by simp) v).two
  have o0:=fun u v=>(o u v).1
  have o1:=fun u v=>(o u v).2.1
  have H2:=hid hb2
  clear hR2 o hb2
  go_wp2_with fail
  refine bodyPost_ret (v:=rv _) (by simp[results,Tryz.results187,go_sem,o0,o1,rv]) rfl ⟨rfl,?_⟩
  exact((HB.out.trans (H2.out.mono HB.out.size)).setCell (ZB _) _).setCell (ZB _) _
 ·skip
  subst ha
  obtain⟨-,-,hp,-⟩:=hfair
  obtain⟨p1,p2⟩:=hp rfl
  by_cases hv:a0Z L=[]
  ·have ht:a0A 6 per (a0Z L)=(1,0):=by rw[a0A,if_neg (by decide),if_neg (by decide),if_pos hv]
   rw[ht]
   rw[hv] at hk
   have HM:=hid (fun n=>c1j a c [] per (W.drewN n) (hk.turn (T:=[]) (a0I [] W n) (by simp) (by simp)) (.inl rfl))
   clear ht hk hv hvin hvl hlen hRg hp p1 p2
   go_enter Tryz.func187,Tryz.ntmps187
   go_upto_region 1 with fail
   rw[<-hW]
   clear hW
   go_wp2_with fail
   go_region_with (go_at_call 249;refine ZE (HM.out 1) ?_;rintro e w2 ⟨rfl,h9⟩;have hb2:Below W.heap.size W w2:=h9 ▸ a0Y W 1;clear h9)
   all_goals (
    have hR2:=HR.out.next hb2
    have z0:=hR2.cell 0 _ rfl
    have z1:=hR2.cell 1 _ rfl
    have z2:=hR2.free 0 (by simp)
    have z3:∀ u,(w2.setCell ⟨w.heap.size,0,none⟩ u).frozen? ⟨w.heap.size,1,none⟩=false:=fun u=>(World.frozen?_setCell _ _ _ _).trans (hR2.free 1 (by simp))
    have o:=fun u v=>((hR2.set 0 (by simp) u).set 1 (by simp) v).two
    have o0:=fun u v=>(o u v).1
    have o1:=fun u v=>(o u v).2.1
    have H2:=hid hb2
    clear hR2 o hb2
    go_wp2_with fail
    refine bodyPost_ret (v:=rv _) (by simp[results,Tryz.results187,go_sem,o0,o1,rv]) rfl ⟨rfl,?_⟩
    exact((HB.out.trans (H2.out.mono HB.out.size)).setCell (ZB _) _).setCell (ZB _) _)
  ·have hl1:0<(a0Z L).length:=List.length_pos_iff.2 hv
   obtain⟨n1,n2,-⟩:=a1N p1 p2 hl1
   obtain⟨y,hy⟩:∃ y,(a4D (a0Z L))[a1u per (a0Z L).length-1]? = some y:=⟨_,List.getElem?_eq_getElem (by rw[a1z];omega)⟩
   have ht:a0A 6 per (a0Z L)=(0,y):=by
    rw[a0A,if_neg (by decide),if_neg (by decide),if_neg hv,if_neg (by decide),if_neg (by decide),if_neg (by decide),hy];rfl
   rw[ht]
   have HM:=hid (fun n=>b9b a c (a4D (a0Z L)) per y (W.drewN n) (hk.turn (T:=[]) (a0I [] W n) (by simp) (by simp)) p1 p2 (by rw[a1z,hvl];omega) (by rw[a1z];exact hy))
   clear ht hk hv hvin hvl hlen hRg hp p1 p2 hl1 n1 n2 hy
   go_enter Tryz.func187,Tryz.ntmps187
   go_upto_region 1 with fail
   rw[<-hW]
   clear hW
   go_wp2_with fail
   go_region_with (go_at_call 249;refine ZE (HM.out 1) ?_;rintro e w2 ⟨rfl,h9⟩;have hb2:Below W.heap.size W w2:=h9 ▸ a0Y W 1;clear h9)
   all_goals (
    have hR2:=HR.out.next hb2
    have z0:=hR2.cell 0 _ rfl
    have z1:=hR2.cell 1 _ rfl
    have z2:=hR2.free 0 (by simp)
    have z3:∀ u,(w2.setCell ⟨w.heap.size,0,none⟩ u).frozen? ⟨w.heap.size,1,none⟩=false:=fun u=>(World.frozen?_setCell _ _ _ _).trans (hR2.free 1 (by simp))
    have o:=fun u v=>((hR2.set 0 (by simp) u).set 1 (by simp) v).two
    have o0:=fun u v=>(o u v).1
    have o1:=fun u v=>(o u v).2.1
    have H2:=hid hb2
    clear hR2 o hb2
    go_wp2_with fail
    refine bodyPost_ret (v:=rv _) (by simp[results,Tryz.results187,go_sem,o0,o1,rv]) rfl ⟨rfl,?_⟩
    exact((HB.out.trans (H2.out.mono HB.out.size)).setCell (ZB _) _).setCell (ZB _) _)
def r0:Int×Int:=(0,0)
theorem b7H.and {w w0 w1 w2:World}{b:Nat}{F:List Nat}{agg span per t:Int}{L:List Pr}{S:List Nat}(hB:Below w.heap.size w w0)(h:b7H w0 b F agg span per t L w1)(t2:a0h S w1 w2)(hS:∀ i,i∈S->i<w0.heap.size/\w.heap.size<=i)(hF:∀ i,i∈F->i<w.heap.size):b7H w b F agg span per t L w2:=by
 obtain⟨F',h1,h2,h3⟩:=h
 have hs:=hB.size
 refine⟨F',h1.turn t2 (fun i hi hm=>?_),((a0h.of_below hB).trans h2 (fun i hi=>.inl hi)).trans t2 (fun i hi=>.inr (hS i hi).2),fun i hi=>(h3 i hi).imp_right (fun e=>by omega)⟩
 ·obtain⟨s1,s2⟩:=hS i hm
  rcases h3 i hi with h | h
  ·have:=hF i h;omega
  ·omega
set_option maxRecDepth 20000 in
set_option maxHeartbeats 1000000 in
theorem c2u (b:Nat)(F:List Nat)(agg span per ck:Int)(on:Bool)(L:List Pr)(t:Int)(w:World)(h:Win w b F agg span per ck on L)(ht:a1n t)(hs:on=true->ck<=t):
 Calls Tryz.prog 89 #[.pointer (some ⟨b,0,none⟩),.int .i64 t] w fun e w'=>e=.returned (.tuple #[rv (a0A agg per (a0Z (a0F span t L))),.int .i64 0])/\b7H w b F agg span per t (a0F span t L) w':=by
 obtain⟨hR,hB⟩:=a1c w 84 [.int .i64 0,.int .i64 0]
 have HG:=hid (c0V b F agg span per ck on L t _ (h.next hB) ht hs)
 have HB:=hid hB
 have HR:=hid hR
 have HFl:=hid h.lt
 generalize hM:a0F span t L=M at *
 generalize hx:a0A agg per (a0Z M)=x
 have HXX:=hid hx
 clear h hB hR hs hM hx
 go_enter Tryz.func89,Tryz.ntmps89
 go_wp2_with fail
 refine ZE HG.out ?_
 rintro e w1 ⟨rfl,hG⟩
 have hT:Calls Tryz.prog 187 #[.pointer (some ⟨b,0,none⟩)] w1 fun e w'=>e=.returned (rv x)/\Below w1.heap.size w1 w':=by
  rw[<-HXX.out]
  obtain⟨F',⟨r,q,A,sp,mp,op,rfl,h1⟩,_,_⟩:=hG
  exact c2t b r q A sp mp op agg span per t true M w1 h1
 have hR1:Box w1 w.heap.size [.int .i64 0,.int .i64 0]:=by
  obtain⟨F',_,h2,_⟩:=hG
  exact HR.out.turn h2 (fun hm=>by have:=HFl.out _ hm;omega)
 have HT:=hid hT
 have HG1:=hid hG
 have HR1:=hid hR1
 clear hT hG hR1 HG
 go_wp2_with fail
 refine ZE HT.out ?_
 rintro e w2 ⟨rfl,hb2⟩
 have hR2:=HR1.out.next hb2
 have z0:=hR2.cell 0 _ rfl
 have z1:=hR2.cell 1 _ rfl
 have z2:=hR2.free 0 (by simp)
 have z3:∀ u,(w2.setCell ⟨w.heap.size,0,none⟩ u).frozen? ⟨w.heap.size,1,none⟩=false:=fun u=>(World.frozen?_setCell _ _ _ _).trans (hR2.free 1 (by simp))
 have o:=fun u v=>((hR2.set 0 (by simp) u).set 1 (by simp) v).two
 have o0:=fun u v=>(o u v).1
 have o1:=fun u v=>(o u v).2.1
 have H2:=hid hb2
 clear hR2 o hb2
 simp only[rv]
 go_wp2_with fail
 refine bodyPost_ret (v:=.tuple #[.agg #[.int .i64 x.1,.int .i64 x.2],.int .i64 0]) (by simp[results,Tryz.results89,go_sem,o0,o1]) rfl ⟨rfl,?_⟩
 exact b7H.and HB.out HG1.out (S:=[w.heap.size]) (((a0h.of_below H2.out).andSet _ _ (.inl (by simp))).andSet _ _ (.inl (by simp))) (fun i hi=>by simp at hi;subst hi;simp) HFl.out
def b8q (w:World)(a s p:Int)(e:Ending)(w':World):Prop:=∃ b F,e=.returned (.tuple #[.pointer (some ⟨b,0,none⟩),.int .i64 0])/\Win w' b F a s p 0 false []/\(∀ i,i∈F->w.heap.size<=i)/\Below w.heap.size w w'
theorem a3P {w4 w5:World}{b r:Nat}{A:List Nat}{sp mp op:Option Addr}{a s p:Int}(hx5:Box w5 b [.pointer (some ⟨r,0,none⟩),.int .i64 a,.int .i64 s,.int .i64 p,.int .i64 0,.bool false,.pointer sp,.pointer mp,.pointer op])(t:a0h [b] w4 w5)(hr:Rq w4 r r 4096 [])(ha:Aux w4 [] a sp mp op A)(hrb:r<b)(hA:∀ i,i∈A->b<i)(hf:c2o a s p):Win w5 b (b::r::r::A) a s p 0 false []:=by
 have n1:b∉A:=fun hm=>by have:=hA b hm;omega
 have n2:r∉A:=fun hm=>by have:=hA r hm;omega
 exact⟨r,r,A,sp,mp,op,rfl,hx5,hr.turn t (by simp;omega) (by simp;omega),ha.turn t (fun i hi=>by have:=hA i hi;simp;omega),by omega,by omega,n1,n2,n2,by simp,hf,⟨by decide,by decide⟩⟩
theorem b0s {w w3:World}{b r:Nat}{a s p:Int}(ha:a=1\/a=2)(hx:Box w3 b [.pointer (some ⟨r,0,none⟩),.int .i64 a,.int .i64 s,.int .i64 p,.int .i64 0,.bool false,.pointer none,.pointer none,.pointer none])(hr:Rq w3 r r 4096 [])(hB:Below w.heap.size w w3)(hrb:r<b)(hb:b<w3.heap.size)(hw:w.heap.size<=r)(hf:c2o a s p):
 b8q w a s p (.returned (.tuple #[.pointer (some ⟨b,0,none⟩),.int .i64 0])) ((w3.setCell ⟨b,6,none⟩ (.pointer (some ⟨w3.heap.size,0,none⟩))).alloc (.cells #[.int .u64 0,.int .u64 0] 218)):=by
 have hs:(w3.setCell ⟨b,6,none⟩ (.pointer (some ⟨w3.heap.size,0,none⟩))).heap.size=w3.heap.size:=by simp[World.setCell]
 have hx4:Box (w3.setCell ⟨b,6,none⟩ (.pointer (some ⟨w3.heap.size,0,none⟩))) b [.pointer (some ⟨r,0,none⟩),.int .i64 a,.int .i64 s,.int .i64 p,.int .i64 0,.bool false,.pointer (some ⟨w3.heap.size,0,none⟩),.pointer none,.pointer none]:=by simpa using hx.set 6 (by simp) (.pointer (some ⟨w3.heap.size,0,none⟩))
 have hr4:Rq (w3.setCell ⟨b,6,none⟩ (.pointer (some ⟨w3.heap.size,0,none⟩))) r r 4096 []:=hr.turn (S:=[b]) (a0h.set _ _ _ (by simp)) (by simp;omega) (by simp;omega)
 have hB4:Below w.heap.size w (w3.setCell ⟨b,6,none⟩ (.pointer (some ⟨w3.heap.size,0,none⟩))):=hB.setCell (by show w.heap.size<=b;omega) _
 generalize w3.setCell ⟨b,6,none⟩ (.pointer (some ⟨w3.heap.size,0,none⟩))=W at *
 rw[<-hs] at hx4 hb
 clear hs hr hx
 have hn:=Box.new W [.int .u64 0,.int .u64 0] 218
 have hb4:Below W.heap.size W (W.alloc (.cells #[.int .u64 0,.int .u64 0] 218)):=(ZD _ _).alloc (ZB _) _
 refine⟨b,_,rfl,a3P (sp:=some ⟨W.heap.size,0,none⟩) (mp:=none) (op:=none) (A:=[W.heap.size]) (hx4.next hb4) (a0h.refl _ _) (hr4.next hb4) (.sum W.heap.size 0 0 ha hn a4V) hrb (by simp;omega) hf,?_,?_⟩
 ·intro i hi;simp at hi;omega
 ·exact hB4.trans (hb4.mono hB4.size)
set_option maxRecDepth 20000 in
set_option maxHeartbeats 4000000 in
theorem c4h (m a s p:Int)(w:World)(h:a6F m a s p)(hp:a1n p):
 Calls Tryz.prog 87 #[tv m a s p] w (b8q w a s p):=by
 obtain⟨hR,hB⟩:=a1c w 63 [.int .i64 m,.int .i64 a,.int .i64 s,.int .i64 p]
 have HB:=hid hB
 have HR:=hid hR
 obtain⟨d0,d1,d2,d3,-,-,-,-⟩:=hR.four
 have hd:a2B m a s p=true:=a2A h
 obtain⟨W,hW⟩:∃ W,W=w.alloc (.cells #[.int .i64 m,.int .i64 a,.int .i64 s,.int .i64 p] 63):=⟨_,rfl⟩
 have HC:=hid (b7N m a s p W)
 rw[hd] at HC
 simp only[tv] at HC ⊢
 rw[<-hW] at d0 d1 d2 d3 HB HR
 obtain⟨-,a1,a2,s1,s2,q1,-⟩:=h
 have hfair:c2o a s p:=⟨s1,s2,q1,hp⟩
 have HFa:=hid hfair
 have hsz:W.heap.size=w.heap.size+1:=by rw[hW];simp
 clear hB hR hd s1 s2 q1 hfair hp
 go_enter Tryz.func87,Tryz.ntmps87
 go_upto_region 1 with fail
 rw[<-hW]
 clear hW
 go_wp2_with fail
 refine ZE HC.out ?_
 rintro e w1 ⟨rfl,hb1⟩
 have H1:=hid hb1
 have hs1:=hb1.size
 clear hb1
 go_wp2_with fail
 refine ZE (b6h 4096 w1 (by decide) (ZB _)) ?_
 rintro e w2 ⟨rfl,hr2,hb2⟩
 have hRR:=(HR.out.next H1.out).next (w':=w2) (hb2.mono (ZB _))
 have hrl:=hr2.lt
 clear d0 d1 d2 d3
 obtain⟨d0,d1,d2,d3,-,-,-,-⟩:=hRR.four
 have H2:=hid hb2
 have HRg:=hid hr2
 have hlt2:=hRR.lt
 clear hb2 hr2 hRR
 have hx3:=Box.new w2 [.pointer (some ⟨w1.heap.size,0,none⟩),.int .i64 a,.int .i64 s,.int .i64 p,.int .i64 0,.bool false,.pointer none,.pointer none,.pointer none] 214
 have hb3:Below w2.heap.size w2 (w2.alloc (.cells #[.pointer (some ⟨w1.heap.size,0,none⟩),.int .i64 a,.int .i64 s,.int .i64 p,.int .i64 0,.bool false,.pointer none,.pointer none,.pointer none] 214)):=(ZD _ _).alloc (ZB _) _
 obtain⟨w3,hw3⟩:∃ w3,w3=w2.alloc (.cells #[.pointer (some ⟨w1.heap.size,0,none⟩),.int .i64 a,.int .i64 s,.int .i64 p,.int .i64 0,.bool false,.pointer none,.pointer none,.pointer none] 214):=⟨_,rfl⟩
 have hs3:w3.heap.size=w2.heap.size+1:=by rw[hw3];simp
 go_upto_region 7 with fail
 rw[<-hw3] at hx3 hb3 ⊢
 have hr3:=HRg.out.next hb3
 have e1:=(hb3.cell (p:=⟨w.heap.size,1,none⟩) hlt2).trans d1
 have hlt3:=hx3.lt
 have hlt4:w.heap.size<w3.heap.size:=by omega
 have x6:=hx3.cell 6 _ rfl
 have x7:=hx3.cell 7 _ rfl
 have x8:=hx3.cell 8 _ rfl
 have y6:=hx3.free 6 (by simp)
 have y7:=hx3.free 7 (by simp)
 have y8:=hx3.free 8 (by simp)
 have HX3:=hid hx3
 have HR3:=hid hr3
 have hB3:Below w.heap.size w w3:=((HB.out.trans (H1.out.mono HB.out.size)).trans (H2.out.mono (by omega))).trans (hb3.mono (by omega))
 have HB3:=hid hB3
 have HS3:=hid hs3
 clear hb3 hx3 hr3 d0 d1 d2 d3 hw3 H2 HRg hB3 hs3
 obtain rfl | rfl | rfl | rfl | rfl | rfl:a=1\/a=2\/a=3\/a=4\/a=5\/a=6:=by omega
 ·have hb4:Below w3.heap.size w3 (w3.alloc (.cells #[.int .u64 0,.int .u64 0] 218)):=(ZD _ _).alloc (ZB _) _
  have u6:=(hb4.cell (p:=⟨w2.heap.size,6,none⟩) hlt3).trans x6
  have v6:=(hb4.frozen (p:=⟨w2.heap.size,6,none⟩) hlt3).trans y6
  clear hb4
  go_wp2_with fail
  go_ret2
  have hs3:=HS3.out
  exact b0s (by decide) HX3.out HR3.out HB3.out (by omega) (by omega) (by omega) HFa.out
 ·have hb4:Below w3.heap.size w3 (w3.alloc (.cells #[.int .u64 0,.int .u64 0] 218)):=(ZD _ _).alloc (ZB _) _
  have u6:=(hb4.cell (p:=⟨w2.heap.size,6,none⟩) hlt3).trans x6
  have v6:=(hb4.frozen (p:=⟨w2.heap.size,6,none⟩) hlt3).trans y6
  clear hb4
  go_wp2_with fail
  go_ret2
  have hs3:=HS3.out
  exact b0s (by decide) HX3.out HR3.out HB3.out (by omega) (by omega) (by omega) HFa.out
 ·go_wp2_with fail
  refine ZE (c3V false w3) ?_
  rintro e w4 ⟨rfl,hm4,hb4⟩
  have u7:=(hb4.cell (p:=⟨w2.heap.size,7,none⟩) hlt3).trans x7
  have v7:=(hb4.frozen (p:=⟨w2.heap.size,7,none⟩) hlt3).trans y7
  have hlt5:=ZA hlt3 hb4.size
  have HN:=hid hm4
  have HB4:=hid hb4
  clear hm4 hb4
  go_wp2_with fail
  go_ret2
  refine⟨w2.heap.size,_,rfl,a3P (w4:=w4) (sp:=none) (mp:=some ⟨w3.heap.size,0,none⟩) (op:=none) (A:=[w3.heap.size,w3.heap.size]) (by simpa using (HX3.out.next HB4.out).set 7 (by simp) (.pointer (some ⟨w3.heap.size,0,none⟩))) (a0h.set _ _ _ (by simp)) (HR3.out.next HB4.out) (.best w3.heap.size w3.heap.size false (by decide) HN.out) (by omega) (by have hs3:=HS3.out;simp;omega) HFa.out,?_,?_⟩
  ·intro i hi;have hs3:=HS3.out;simp at hi;omega
  ·exact(HB3.out.trans (HB4.out.mono HB3.out.size)).setCell (by simp;omega) _
 ·go_wp2_with fail
  refine ZE (c3V true w3) ?_
  rintro e w4 ⟨rfl,hm4,hb4⟩
  have u7:=(hb4.cell (p:=⟨w2.heap.size,7,none⟩) hlt3).trans x7
  have v7:=(hb4.frozen (p:=⟨w2.heap.size,7,none⟩) hlt3).trans y7
  have hlt5:=ZA hlt3 hb4.size
  have HN:=hid hm4
  have HB4:=hid hb4
  clear hm4 hb4
  go_wp2_with fail
  go_ret2
  refine⟨w2.heap.size,_,rfl,a3P (w4:=w4) (sp:=none) (mp:=some ⟨w3.heap.size,0,none⟩) (op:=none) (A:=[w3.heap.size,w3.heap.size]) (by simpa using (HX3.out.next HB4.out).set 7 (by simp) (.pointer (some ⟨w3.heap.size,0,none⟩))) (a0h.set _ _ _ (by simp)) (HR3.out.next HB4.out) (.best w3.heap.size w3.heap.size true (by decide) HN.out) (by omega) (by have hs3:=HS3.out;simp;omega) HFa.out,?_,?_⟩
  ·intro i hi;have hs3:=HS3.out;simp at hi;omega
  ·exact(HB3.out.trans (HB4.out.mono HB3.out.size)).setCell (by simp;omega) _
 ·go_wp2_with fail
  go_ret2
  refine⟨w2.heap.size,_,rfl,a3P (w4:=w3) (sp:=none) (mp:=none) (op:=none) (A:=[]) HX3.out (a0h.refl _ _) HR3.out (.count rfl) (by omega) (by simp) HFa.out,?_,?_⟩
  ·intro i hi;have hs3:=HS3.out;simp at hi;omega
  ·exact HB3.out
 ·go_wp2_with fail
  refine ZE (c4m w3) ?_
  rintro e w4 ⟨rfl,hm4,hb4⟩
  have u8:=(hb4.cell (p:=⟨w2.heap.size,8,none⟩) hlt3).trans x8
  have v8:=(hb4.frozen (p:=⟨w2.heap.size,8,none⟩) hlt3).trans y8
  have hlt5:=ZA hlt3 hb4.size
  have HN:=hid hm4
  have HB4:=hid hb4
  clear hm4 hb4
  go_wp2_with fail
  go_ret2
  refine⟨w2.heap.size,_,rfl,a3P (w4:=w4) (sp:=none) (mp:=none) (op:=some ⟨w3.heap.size,0,none⟩) (A:=[w3.heap.size,w3.heap.size]) (by simpa using (HX3.out.next HB4.out).set 8 (by simp) (.pointer (some ⟨w3.heap.size,0,none⟩))) (a0h.set _ _ _ (by simp)) (HR3.out.next HB4.out) (.rank w3.heap.size w3.heap.size rfl HN.out) (by omega) (by have hs3:=HS3.out;simp;omega) HFa.out,?_,?_⟩
  ·intro i hi;have hs3:=HS3.out;simp at hi;omega
  ·exact(HB3.out.trans (HB4.out.mono HB3.out.size)).setCell (by simp;omega) _
end Go.Proofs.YtbddbnjhmdbkbaaGreatDoor
