import Derived.Test.YtepncopdjodfgaaGreatDoorMhI
import Derived.Deep.CutRange
namespace Go.Proofs.YtepncopdjodfgaaGreatDoor
open Go.RowKit
theorem win_mend {w w2 w3 w4:World}{b r q q':Nat}{A A':List Nat}{sp mp op:Option Addr}{agg span per ck:Int}{on:Bool}{L M:List Pr}(h:WinIs w b r q A sp mp op agg span per ck on L)(hring:Rq w2 r q' 4096 M)(t2:Turn [r,q] w w2)(hq:q'=q\/w.heap.size<=q')(b3:Below w2.heap.size w2 w3)
 (haux:Aux w4 (vals M) agg sp mp op A') (t4:Turn A w3 w4) (hA:From w3 A A') (hin:∀ s,s∈M->In64 s.1/\In64 s.2) :
 WinIs w4 b r q' A' sp mp op agg span per ck on M/\Turn (b::r::q::A) w w4/\From w (b::r::q::A) (b::r::q'::A'):=by
 have lb:=h.box.lt
 have lr:=h.ring.lt
 have lq:=h.ring.qlt
 have lq2:=hring.qlt
 have hs2:=t2.size
 have hs3:=b3.size
 have hs4:=t4.size
 have lA:=h.aux.lt
 have hbr:=h.br
 have hbq:=h.bq
 have q'A:q'∉A:=by
  rcases hq with rfl | hq
  ·exact h.qA
  ·intro hm;have:=lA q' hm;omega
 have out:∀ i,i<w3.heap.size->i∉A->i∉A':=fun i hi hn hm=>(hA i hm).elim hn (fun e=>by omega)
 refine⟨⟨?_,?_,haux,hbr,?_,out b (by omega) h.bA,out r (by omega) h.rA,out q' (by omega) q'A,hin,h.fair,h.now⟩,?_,?_⟩
 ·exact((h.box.turn t2 (by simp;omega)).next b3).turn t4 h.bA
 ·exact(hring.next b3).turn t4 h.rA q'A
 ·rcases hq with rfl | hq
  ·exact hbq
  ·omega
 ·refine Turn.trans (S':=A) (Turn.andBelow (Turn.trans (S':=[r,q]) (Turn.refl _ w) t2 (fun i hi=>by simp at hi ⊢;omega)) b3) t4 (fun i hi=>.inl (by simp[hi]))
 ·intro i hi
  simp only[List.mem_cons] at hi ⊢
  rcases hi with rfl | rfl | rfl | hi
  ·simp
  ·simp
  ·rcases hq with rfl | hq
   ·simp
   ·exact .inr hq
  ·rcases hA i hi with h1 | h1
   ·exact .inl (by simp[h1])
   ·exact .inr (by omega)
def ringLen (w:World)(r:Nat):Nat:=(intOf ((w.cell? ⟨r,2,none⟩).getD (.int .i64 0))).toNat
theorem ringLen_eq {w:World}{r q room:Nat}{L:List Pr}(h:Rq w r q room L):ringLen w r=L.length:=by
 obtain⟨f,s,c,h⟩:=h
 have c2:=h.box.cell 2 _ rfl
 simp[ringLen,c2,intOf]
theorem fresh_cons (span t:Int)(s:Pr)(L:List Pr)(h:tooOld span t (s::L)=true):fresh span t (s::L)=fresh span t L:=by
 simp only[tooOld,decide_eq_true_eq] at h
 simp[fresh,h]
theorem fresh_stop (span t:Int)(L:List Pr)(h:tooOld span t L=false):fresh span t L=L:=by
 cases L with
 | nil=>rfl
 | cons s L=>
   simp only[tooOld,decide_eq_false_iff_not] at h
   simp[fresh,h]
theorem vals_cons (s:Pr)(L:List Pr):vals (s::L)=s.2::vals L:=rfl
theorem vals_append (L M:List Pr):vals (L++M)=vals L++vals M:=by simp[vals]
theorem vals_in {L:List Pr}(h:∀ s,s∈L->In64 s.1/\In64 s.2):∀ x,x∈vals L->In64 x:=by
 intro x hx
 obtain⟨s,hs,rfl⟩:=List.mem_map.1 hx
 exact(h s hs).2
def Gone (w:World)(b:Nat)(F:List Nat)(agg span per t:Int)(L:List Pr)(w':World):Prop:=∃ F',Win w' b F' agg span per t true L/\Turn F w w'/\From w F F'
set_option maxRecDepth 20000 in
set_option maxHeartbeats 1000000 in
theorem wGoOn_stale (b:Nat)(F:List Nat)(agg span per ck:Int)(L:List Pr)(t:Int)(w:World)(h:Win w b F agg span per ck true L)(ht:t<ck):
 Calls Tryz.prog 218 #[.pointer (some ⟨b,0,none⟩),.int .i64 t] w fun e w'=>e=.returned (.int .i64 32)/\w=w':=by
 obtain⟨r,q,A,sp,mp,op,rfl,h⟩:=h
 have hlt:=h.box.lt
 have c0:=h.box.cell 0 _ rfl
 have c4:=h.box.cell 4 _ rfl
 have c5:=h.box.cell 5 _ rfl
 have HR:=hid (qRoom r q 4096 L w h.ring)
 clear h
 go_enter Tryz.func218,Tryz.ntmps218
 go_wp2_with fail
 refine Calls.mono HR.out ?_
 rintro e w1 ⟨rfl,rfl⟩
 go_wp2_with fail
 go_ret
 exact⟨rfl,rfl⟩
set_option maxRecDepth 20000 in
set_option maxHeartbeats 1000000 in
theorem wGoOn_nil (t:Int)(w:World):Calls Tryz.prog 218 #[.pointer none,.int .i64 t] w fun e w'=>e=.returned (.int .i64 4)/\w=w':=by
 go_enter Tryz.func218,Tryz.ntmps218
 go_wp2_with fail
 go_ret
 exact⟨rfl,rfl⟩
set_option maxRecDepth 20000 in
set_option maxHeartbeats 1000000 in
theorem wGoOn_zero (b:Nat)(vs:List Value)(t:Int)(w:World)(h:Box w b (.pointer none::vs)):Calls Tryz.prog 218 #[.pointer (some ⟨b,0,none⟩),.int .i64 t] w fun e w'=>e=.returned (.int .i64 4)/\w=w':=by
 have hlt:=h.lt
 have c0:=h.cell 0 _ rfl
 clear h
 go_enter Tryz.func218,Tryz.ntmps218
 go_wp2_with fail
 refine Calls.mono (qRoom_nil w) ?_
 rintro e w1 ⟨rfl,rfl⟩
 go_wp2_with fail
 go_ret
 exact⟨rfl,rfl⟩
set_option maxRecDepth 20000 in
set_option maxHeartbeats 4000000 in
theorem wGoOn_is (b r q:Nat)(A:List Nat)(sp mp op:Option Addr)(agg span per ck:Int)(on:Bool)(L:List Pr)(t:Int)(w:World)(h:WinIs w b r q A sp mp op agg span per ck on L)(ht:In64 t)(hs:on=true->ck<=t):
 Calls Tryz.prog 218 #[.pointer (some ⟨b,0,none⟩),.int .i64 t] w fun e w'=>e=.returned (.int .i64 0)/\∃ q' A',WinIs w' b r q' A' sp mp op agg span per t true (fresh span t L)/\Turn (b::r::q::A) w w'/\From w (b::r::q::A) (b::r::q'::A'):=by
 have hlt:=h.box.lt
 have c0:=h.box.cell 0 _ rfl
 have c4:=h.box.cell 4 _ rfl
 have c5:=h.box.cell 5 _ rfl
 have f4:=h.box.free 4 (by simp)
 have f5:=h.box.free 5 (by simp)
 have f5':∀ u,(w.setCell ⟨b,4,none⟩ u).frozen? ⟨b,5,none⟩=false:=fun u=>(World.frozen?_setCell _ _ _ _).trans f5
 have HR:=hid (qRoom r q 4096 L w h.ring)
 have hst:WinIs ((w.setCell ⟨b,4,none⟩ (.int .i64 t)).setCell ⟨b,5,none⟩ (.bool true)) b r q A sp mp op agg span per t true L:=by
  have hx:=(h.box.set 4 (by simp) (.int .i64 t)).set 5 (by simp) (.bool true)
  have tt:Turn [b] w ((w.setCell ⟨b,4,none⟩ (.int .i64 t)).setCell ⟨b,5,none⟩ (.bool true)):=(Turn.set _ _ _ (by simp)).andSet _ _ (.inl (by simp))
  exact⟨by simpa using hx,h.ring.turn tt (by simpa using Ne.symm h.br) (by simpa using Ne.symm h.bq),h.aux.turn tt (fun i hi=>by simp;rintro rfl;exact h.bA hi),h.br,h.bq,h.bA,h.rA,h.qA,h.inn,h.fair,ht⟩
 have tst:Turn (b::r::q::A) w ((w.setCell ⟨b,4,none⟩ (.int .i64 t)).setCell ⟨b,5,none⟩ (.bool true)):=(Turn.set _ _ _ (by simp)).andSet _ _ (.inl (by simp))
 have HST:=hid hst
 have HTS:=hid tst
 have hrq:=h.br
 clear h hst tst
 go_enter Tryz.func218,Tryz.ntmps218
 go_wp2_with fail
 refine Calls.mono HR.out ?_
 rintro e w1 ⟨rfl,rfl⟩
 have hs':on=false\/¬ t<ck:=by
  cases on with
  | false=>exact .inl rfl
  | true=>exact .inr (by have:=hs rfl;omega)
 clear hs
 rcases on with _ | _
 case' false=>clear hs'
 case' true=>replace hs':¬ t<ck:=by simpa using hs'
 all_goals (
  go_wp2_with fail
  go_loopw [6] (fun _ wr=>∃ q' A' M,WinIs wr b r q' A' sp mp op agg span per t true M/\fresh span t M=fresh span t L/\Turn (b::r::q::A) w wr/\From w (b::r::q::A) (b::r::q'::A')) (fun _ wr=>ringLen wr r)
  case atStart=>exact⟨q,A,L,HST.out,rfl,HTS.out,From.refl _ _⟩
  case round=>
   obtain⟨q',A',M,hW,hM,hT,hF⟩:=hrel
   have HW:=hid hW
   have HM:=hid hM
   have HT:=hid hT
   have HF:=hid hF
   clear c0 c4 c5 f4 f5 f5' hlt hW hM hT hF
   go_wp2_with fail
   refine Calls.mono (wOld b r q' A' sp mp op agg span per t true M t wr HW.out ht) ?_
   rintro e w1 ⟨rfl,hB1⟩
   have hW1:=HW.out.turn (S:=[]) (Turn.of_below hB1) (by simp)
   have hlt:=hW1.box.lt
   have c0:=hW1.box.cell 0 _ rfl
   have H1:=hid hB1
   have HW1:=hid hW1
   clear hB1 hW1
   cases ho:tooOld span t M with
   | false=>
     have HO:=hid ho
     clear ho
     go_wp2_with fail
     go_ret
     exact⟨rfl,q',A',by rw[<-HM.out,fresh_stop _ _ _ HO.out];exact HW1.out,HT.out.andBelow H1.out,HF.out⟩
   | true=>
     cases M with
     | nil=>cases ho
     | cons s M=>
       have HO:=hid ho
       clear ho
       have HD:=hid (qDrop_yes r q' 4096 M s w1 HW1.out.ring (Nat.le_refl _))
       go_wp2_with fail
       refine Calls.mono HD.out ?_
       rintro e w2 ⟨q2,rfl,hR2,tR,hq2⟩
       have hx2:=HW1.out.box.turn tR (by have h1:=HW1.out.br;have h2:=HW1.out.bq;simp[h1,h2])
       have ha2:=HW1.out.aux.turn tR (fun i hi=>by simp;exact⟨fun e=>HW1.out.rA (e ▸ hi),fun e=>HW1.out.qA (e ▸ hi)⟩)
       have b3:Below w2.heap.size w2 (w2.alloc (.cells #[.int .i64 s.1,.int .i64 s.2] 84)):=(Below.refl _ _).alloc (Nat.le_refl _) _
       have hN:=(Box.new w2 [.int .i64 s.1,.int .i64 s.2] 84).cell 1 _ rfl
       have hin:=HW1.out.inn
       have hL:=wLeave b _ _ _ _ _ _ sp mp op A' agg s.2 (vals M) _ (hx2.next b3) (ha2.next b3) HW1.out.bA (hin s (by simp)).2 (vals_in (fun x hx=>hin x (by simp[hx]))) (by have:=HW1.out.ring.len;simp[vals] at this ⊢;omega)
       have HL:=hid hL
       have HR2:=hid hR2
       have HTR:=hid tR
       have H3:=hid b3
       have HIN:=hid hin
       clear hx2 ha2 b3 hin hL hR2 tR c0 hlt
       simp only[pv]
       go_wp2_with fail
       refine Calls.mono HL.out ?_
       rintro e w4 ⟨rfl,A2,haux,t4,hA2⟩
       obtain⟨m1,m2,m3⟩:=win_mend HW1.out HR2.out HTR.out hq2 H3.out haux t4 hA2 (fun x hx=>HIN.out x (by simp[hx]))
       have M1:=hid m1
       have M2:=hid m2
       have M3:=hid m3
       clear m1 m2 m3 haux t4 hA2 hN hq2
       go_wp2_with fail
       go_roundw
       case rel=>
        refine⟨q2,A2,M,M1.out,?_,?_,?_⟩
        ·rw[<-fresh_cons _ _ _ _ HO.out];exact HM.out
        ·exact(HT.out.andBelow H1.out).trans M2.out (fun i hi=>HF.out i hi)
        ·exact HF.out.trans M3.out (Nat.le_trans HT.out.size H1.out.size)
       case measure=>
        rw[ringLen_eq M1.out.ring,ringLen_eq HW.out.ring];simp)
theorem wGoOn (b:Nat)(F:List Nat)(agg span per ck:Int)(on:Bool)(L:List Pr)(t:Int)(w:World)(h:Win w b F agg span per ck on L)(ht:In64 t)(hs:on=true->ck<=t):
 Calls Tryz.prog 218 #[.pointer (some ⟨b,0,none⟩),.int .i64 t] w fun e w'=>e=.returned (.int .i64 0)/\Gone w b F agg span per t (fresh span t L) w':=by
 obtain⟨r,q,A,sp,mp,op,rfl,h⟩:=h
 refine(wGoOn_is b r q A sp mp op agg span per ck on L t w h ht hs).mono ?_
 rintro e w' ⟨rfl,q',A',h1,h2,h3⟩
 exact⟨rfl,_,⟨r,q',A',sp,mp,op,rfl,h1⟩,h2,h3⟩
def pushed (L:List Pr)(s:Pr):List Pr:=if L.length=4096 then L.tail++[s] else L++[s]
def outs (L:List Pr):Pr:=if L.length=4096 then L.headD pz else pz
theorem qPush (b q:Nat)(L:List Pr)(v:Pr)(w:World)(h:Rq w b q 4096 L):
 Calls Tryz.prog 219 #[.pointer (some ⟨b,0,none⟩),.agg #[.int .i64 v.1,.int .i64 v.2]] w (QLeaves w b q 4096 (pushed L v) (outs L) (decide (L.length=4096))):=by
 have hl:=h.len
 by_cases hf:L.length=4096
 ·rw[pushed,if_pos hf,outs,if_pos hf,decide_eq_true hf]
  cases L with
  | nil=>simp at hf
  | cons x L=>exact qPush_full b q 4096 x L v w h (Nat.le_refl _) hf
 ·rw[pushed,if_neg hf,outs,if_neg hf,decide_eq_false hf]
  exact qPush_room b q 4096 L v w h (Nat.le_refl _) (by omega)
theorem pushed_len {L:List Pr}{s:Pr}(h:L.length<=4096):(pushed L s).length<=4096:=by
 unfold pushed
 split
 ·simp;omega
 ·simp;omega
theorem pushed_in {L:List Pr}{s:Pr}(h:∀ x,x∈L->In64 x.1/\In64 x.2)(hs:In64 s.1/\In64 s.2):∀ x,x∈pushed L s->In64 x.1/\In64 x.2:=by
 intro x hx
 unfold pushed at hx
 split at hx
 ·rcases List.mem_append.1 hx with hx | hx
  ·exact h x (List.mem_of_mem_tail hx)
  ·simp at hx;subst hx;exact hs
 ·rcases List.mem_append.1 hx with hx | hx
  ·exact h x hx
  ·simp at hx;subst hx;exact hs
set_option maxRecDepth 20000 in
set_option maxHeartbeats 1000000 in
theorem wPut_stale (b:Nat)(F:List Nat)(agg span per ck:Int)(L:List Pr)(s:Pr)(w:World)(h:Win w b F agg span per ck true L)(ht:s.1<ck):
 Calls Tryz.prog 130 #[.pointer (some ⟨b,0,none⟩),.agg #[.int .i64 s.1,.int .i64 s.2]] w fun e w'=>e=.returned (.int .i64 32)/\Below w.heap.size w w':=by
 have hB:Below w.heap.size w (w.alloc (.cells #[.int .i64 s.1,.int .i64 s.2] 84)):=(Below.refl _ _).alloc (Nat.le_refl _) _
 have HG:=hid (wGoOn_stale b F agg span per ck L s.1 _ (h.next hB) ht)
 have HB:=hid hB
 clear h hB ht
 go_enter Tryz.func130,Tryz.ntmps130
 go_wp2_with fail
 refine Calls.mono HG.out ?_
 rintro e w1 ⟨rfl,rfl⟩
 go_wp2_with fail
 go_ret
 exact⟨rfl,HB.out⟩
set_option maxRecDepth 20000 in
set_option maxHeartbeats 1000000 in
theorem wPut_nil (s:Pr)(w:World):
 Calls Tryz.prog 130 #[.pointer none,.agg #[.int .i64 s.1,.int .i64 s.2]] w fun e w'=>e=.returned (.int .i64 4)/\Below w.heap.size w w':=by
 have HB:=hid (show Below w.heap.size w (w.alloc (.cells #[.int .i64 s.1,.int .i64 s.2] 84)) from (Below.refl _ _).alloc (Nat.le_refl _) _)
 go_enter Tryz.func130,Tryz.ntmps130
 go_wp2_with fail
 refine Calls.mono (wGoOn_nil _ _) ?_
 rintro e w1 ⟨rfl,rfl⟩
 go_wp2_with fail
 go_ret
 exact⟨rfl,HB.out⟩
set_option maxRecDepth 20000 in
set_option maxHeartbeats 1000000 in
theorem wPut_zero (b:Nat)(vs:List Value)(s:Pr)(w:World)(h:Box w b (.pointer none::vs)):
 Calls Tryz.prog 130 #[.pointer (some ⟨b,0,none⟩),.agg #[.int .i64 s.1,.int .i64 s.2]] w fun e w'=>e=.returned (.int .i64 4)/\Below w.heap.size w w':=by
 have hB:Below w.heap.size w (w.alloc (.cells #[.int .i64 s.1,.int .i64 s.2] 84)):=(Below.refl _ _).alloc (Nat.le_refl _) _
 have HG:=hid (wGoOn_zero b vs s.1 _ (h.next hB))
 have HB:=hid hB
 clear h hB
 go_enter Tryz.func130,Tryz.ntmps130
 go_wp2_with fail
 refine Calls.mono HG.out ?_
 rintro e w1 ⟨rfl,rfl⟩
 go_wp2_with fail
 go_ret
 exact⟨rfl,HB.out⟩
def Mid (w wc:World)(r q n:Nat)(M:List Pr)(x:Pr):Prop:=∃ q',Rq wc r q' 4096 M/\Turn [r,q] w wc/\(q'=q\/w.heap.size<=q')/\wc.cell? ⟨n,1,none⟩=some (.int .i64 x.2)
theorem mid_late {w w9:World}{r q q':Nat}{M:List Pr}{x:Pr}(hR:Rq w9 r q' 4096 M)(t:Turn [r,q] w.drew w9)(hq:q'=q\/w.drew.heap.size<=q'):Mid w (w9.alloc (.cells #[.int .i64 x.1,.int .i64 x.2] 84)) r q w9.heap.size M x:=by
 have hB:Below w9.heap.size w9 (w9.alloc (.cells #[.int .i64 x.1,.int .i64 x.2] 84)):=(Below.refl _ _).alloc (Nat.le_refl _) _
 exact⟨q',hR.next hB,(Turn.undrew t).andBelow hB,hq,(Box.new w9 [.int .i64 x.1,.int .i64 x.2] 84).cell 1 _ rfl⟩
theorem mid_early {w w9:World}{o:Obj}{r q q':Nat}{M:List Pr}{x:Pr}{u v:Value}(hR:Rq w9 r q' 4096 M)(t:Turn [r,q] (w.alloc o).drew w9)(hq:q'=q\/(w.alloc o).drew.heap.size<=q')(hr:r<w.heap.size)(hq0:q<w.heap.size)(hz:Box w9 w.heap.size [u,v]):Mid w ((w9.setCell ⟨w.heap.size,0,none⟩ (.int .i64 x.1)).setCell ⟨w.heap.size,1,none⟩ (.int .i64 x.2)) r q w.heap.size M x:=by
 have hq':q'=q\/w.heap.size+1<=q':=by simpa using hq
 refine⟨q',hR.turn (S:=[w.heap.size]) ((Turn.set _ _ _ (by simp)).andSet _ _ (.inl (by simp))) (by simp;omega) (by simp;omega),?_,by omega,?_⟩
 ·have t1:Turn [r,q] w w9:=(Turn.of_below ((Below.refl _ _).alloc (Nat.le_refl _) o)).trans (Turn.undrew t) (fun i hi=>.inl hi)
  exact(t1.andSet _ _ (.inr (Nat.le_refl _))).andSet _ _ (.inr (Nat.le_refl _))
 ·have:=((hz.set 0 (by simp) (.int .i64 x.1)).set 1 (by simp) (.int .i64 x.2)).cell 1 (.int .i64 x.2) (by simp)
  exact this
theorem vals_pushed_full (x:Pr)(M:List Pr)(s:Pr)(h:(x::M).length=4096):vals (pushed (x::M) s)=vals M++[s.2]:=by
 rw[pushed,if_pos h];simp[vals]
theorem vals_pushed_room (M:List Pr)(s:Pr)(h:¬ M.length=4096):vals (pushed M s)=vals M++[s.2]:=by
 rw[pushed,if_neg h];simp[vals]
theorem told_twice {w w1 w2:World}{A A1 A2:List Nat}(t1:Turn A w w1)(f1:From w A A1)(t2:Turn A1 w1 w2)(f2:From w1 A1 A2):Turn A w w2/\From w A A2:=⟨t1.trans t2 f1,f1.trans f2 t1.size⟩
theorem putw_end {w w0 w1 wc w5:World}{b r q q':Nat}{F A A3:List Nat}{sp mp op:Option Addr}{agg span per ck:Int}{M N:List Pr}(hB:Below w.heap.size w w0)(hT:Turn F w0 w1)(hF:From w0 F (b::r::q::A))(hW:WinIs w1 b r q A sp mp op agg span per ck true M)(hR:Rq wc r q' 4096 N)(tR:Turn [r,q] w1 wc)(hq:q'=q\/w1.heap.size<=q')
 (haux:Aux w5 (vals N) agg sp mp op A3) (t5:Turn A wc w5) (f5:From wc A A3) (hin:∀ s,s∈N->In64 s.1/\In64 s.2):Gone w b F agg span per ck N w5:=by
 obtain⟨m1,m2,m3⟩:=win_mend hW hR tR hq (Below.refl _ _) haux t5 f5 hin
 refine⟨_,⟨r,q',A3,sp,mp,op,rfl,m1⟩,(Turn.of_below hB).trans (hT.trans m2 hF) (fun i hi=>.inl hi),fun i hi=>?_⟩
 rcases hF.trans m3 hT.size i hi with h | h
 ·exact .inl h
 ·exact .inr (by have:=hB.size;omega)
set_option maxRecDepth 20000 in
set_option maxHeartbeats 4000000 in
theorem wPut (b:Nat)(F:List Nat)(agg span per ck:Int)(on:Bool)(L:List Pr)(s:Pr)(w:World)(h:Win w b F agg span per ck on L)(hs1:In64 s.1)(hs2:In64 s.2)(ht:on=true->ck<=s.1):
 Calls Tryz.prog 130 #[.pointer (some ⟨b,0,none⟩),.agg #[.int .i64 s.1,.int .i64 s.2]] w fun e w'=>e=.returned (.int .i64 0)/\Gone w b F agg span per s.1 (pushed (fresh span s.1 L) s) w':=by
 have hB:Below w.heap.size w (w.alloc (.cells #[.int .i64 s.1,.int .i64 s.2] 84)):=(Below.refl _ _).alloc (Nat.le_refl _) _
 have HG:=hid (wGoOn b F agg span per ck on L s.1 _ (h.next hB) hs1 ht)
 have HB:=hid hB
 have HN:=hid (Box.new w [.int .i64 s.1,.int .i64 s.2] 84)
 have HFl:=hid h.lt
 clear h hB ht
 go_enter Tryz.func130,Tryz.ntmps130
 go_wp2_with fail
 refine Calls.mono HG.out ?_
 rintro e w1 ⟨rfl,F1,hW,hT,hF⟩
 obtain⟨r,q,A,sp,mp,op,rfl,hW⟩:=hW
 have hsz:w.heap.size<w1.heap.size:=by have:=hT.size;simp at this;omega
 have hn1:=HN.out.turn hT (fun hm=>by have:=HFl.out _ hm;omega)
 generalize hM:fresh span s.1 L=M at *
 have HMM:=hid hM
 have hlt:=hW.box.lt
 have c0:=hW.box.cell 0 _ rfl
 have d0:=hn1.cell 0 _ rfl
 have d1:=hn1.cell 1 _ rfl
 have HW:=hid hW
 have HT:=hid hT
 have HF:=hid hF
 have HN1:=hid hn1
 have HP:=hid (fun W (hb:Below w1.heap.size w1 W)=>qPush r q M s W (hW.ring.next hb))
 have hnr:w1.heap.size∉[r,q]:=by have h1:=hW.ring.lt;have h2:=hW.ring.qlt;simp;omega
 have hr0:=hW.ring.lt
 have hq0:=hW.ring.qlt
 clear hW hT hF hn1 hM HG
 go_upto_region 4 with fail
 go_cut [6,7] from 8 (fun s6 s7 wc=>∃ n:Nat,s6=.pointer (some ⟨n,0,none⟩)/\s7=.bool (decide (M.length=4096))/\Mid w1 wc r q n (pushed M s) (outs M))
 case first=>
  go_region_with (go_at_call 219;refine Calls.mono (HP.out _ (by repeat (first | exact Below.refl _ _ | apply Below.drew | apply below_drewQ | (refine Below.alloc ?_ (by simp) _)))) ?_;rintro e w9 ⟨q',rfl,hR9,t9,hq9⟩;(try (have hz:=((Box.new w1 [.int .i64 0,.int .i64 0] 84).alike (by rfl)).turn t9 hnr;have z0:=hz.cell 0 _ rfl;have z1:=hz.cell 1 _ rfl;have z2:=hz.free 0 (by simp);have z3:∀ u,(w9.setCell ⟨w1.heap.size,0,none⟩ u).frozen? ⟨w1.heap.size,1,none⟩=false:=(fun u=>(World.frozen?_setCell _ _ _ _).trans (hz.free 1 (by simp)));have z4:=hz.lt));simp only[pv])
  all_goals (go_wp2_with fail;go_meet)
  all_goals first
   | exact⟨_,rfl,rfl,mid_late hR9 t9 hq9⟩
   | exact⟨_,rfl,rfl,mid_early hR9 t9 hq9 hr0 hq0 hz⟩
 case rest=>
  obtain⟨n,rfl,rfl,q',hR,tR,hq,cn⟩:=hcut
  have hx:=HW.out.box.turn tR (by have h1:=HW.out.br;have h2:=HW.out.bq;simp[h1,h2])
  have ha:=HW.out.aux.turn tR (fun i hi=>by simp;exact⟨fun e=>HW.out.rA (e ▸ hi),fun e=>HW.out.qA (e ▸ hi)⟩)
  have hne:∀ i,i∈b::r::q::A->i≠w.heap.size:=by
   intro i hi e
   rcases HF.out i hi with h | h
   ·have:=HFl.out i h;omega
   ·simp at h;omega
  have hnc:=HN1.out.turn tR (fun hm=>hne w.heap.size (by simp at hm ⊢;omega) rfl)
  have hNA:w.heap.size∉A:=fun hm=>hne w.heap.size (by simp[hm]) rfl
  have hinM:=HW.out.inn
  have hinP:=pushed_in hinM ⟨hs1,hs2⟩
  have hlM:=HW.out.ring.len
  have HX:=hid hx
  have HR:=hid hR
  have HTR:=hid tR
  have HQ:=hid hq
  have HNC:=hid hnc
  have HIN:=hid hinP
  have hltc:=hx.lt
  by_cases hf:M.length=4096
  ·cases M with
   | nil=>simp at hf
   | cons x M=>
     rw[decide_eq_true hf]
     have ho:outs (x::M)=x:=by rw[outs,if_pos hf];rfl
     rw[ho] at cn
     have hbA:=HW.out.bA
     have HL:=hid (wLeave b _ _ _ _ _ _ sp mp op A agg x.2 (vals M) wc hx ha hbA (hinM x (by simp)).2 (vals_in (fun y hy=>hinM y (by simp[hy]))) (by simp[vals] at hlM ⊢;omega))
     have HV:=hid (vals_in (fun y hy=>hinM y (List.mem_cons_of_mem x hy)))
     have HVP:=hid (vals_pushed_full x M s hf)
     have hlv:(vals M).length<=4096:=by simp[vals] at hlM ⊢;omega
     clear hx ha hnc hinM hinP hR tR hq hf hlM ho c0 d0 d1 hlt hne
     go_wp2_with fail
     refine Calls.mono HL.out ?_
     rintro e w4 ⟨rfl,A2,ha4,t4,f4⟩
     have hx4:=HX.out.turn t4 hbA
     have e1:=(HNC.out.turn t4 hNA).cell 1 _ rfl
     have hbA2:b∉A2:=fun hm=>(f4 b hm).elim hbA (fun e=>by omega)
     have HC:=hid (wCome b _ _ _ _ _ _ sp mp op A2 agg s.2 (vals M) w4 hx4 ha4 hbA2 hs2 HV.out hlv)
     have HT4:=hid t4
     have HF4:=hid f4
     have hlt4:=hx4.lt
     clear hx4 ha4 t4 f4 cn hltc
     go_wp2_with fail
     refine Calls.mono HC.out ?_
     rintro e w5 ⟨rfl,A3,ha5,t5,f5⟩
     obtain⟨tt,ff⟩:=told_twice HT4.out HF4.out t5 f5
     have HG:=hid (putw_end HB.out HT.out HF.out HW.out HR.out HTR.out HQ.out (by rw[HVP.out];exact ha5) tt ff HIN.out)
     clear ha5 t5 f5 tt ff e1 hlt4
     go_wp2_with fail
     go_ret
     exact⟨rfl,by rw[HMM.out];exact HG.out⟩
  ·rw[decide_eq_false hf]
   have hbA:=HW.out.bA
   have HC:=hid (wCome b _ _ _ _ _ _ sp mp op A agg s.2 (vals M) wc hx ha hbA hs2 (vals_in hinM) (by simp[vals];omega))
   have HVP:=hid (vals_pushed_room M s hf)
   have e1:=hnc.cell 1 _ rfl
   clear hx ha hnc hinM hinP hR tR hq hf hlM c0 d0 d1 hlt hne cn
   go_wp2_with fail
   refine Calls.mono HC.out ?_
   rintro e w5 ⟨rfl,A3,ha5,t5,f5⟩
   have HG:=hid (putw_end HB.out HT.out HF.out HW.out HR.out HTR.out HQ.out (by rw[HVP.out];exact ha5) t5 f5 HIN.out)
   clear ha5 t5 f5 e1
   go_wp2_with fail
   go_ret
   exact⟨rfl,by rw[HMM.out];exact HG.out⟩
end Go.Proofs.YtepncopdjodfgaaGreatDoor
