import Derived.Test.YtecdfnpbcabdnaaGreatDoorPsA
import Derived.Test.YtecdfnpbcabdnaaGreatDoorMhI
import Derived.Test.YtecdfnpbcabdnaaGreatDoorMiC
namespace Go.Proofs.YtecdfnpbcabdnaaGreatDoor
open Go.RowKit Go.Lib
def IqP (z:Nat)(w:World)(rb tb:Nat)(LL:List Tk)(c:Int)(o:Nat)(y:It×Sr)(e:Ending)(w':World):Prop:=Turn [rb] w w'/\(∃ vx vy,e=.returned (itA y.1 vx vy)/\ItB w.heap.size z w' y.1 vx vy)/\Rr z w' rb tb LL c y.2 o
structure ImS (z:Nat)(w W:World)(rb tb:Nat)(LL:List Tk)(c:Int)(o g:Nat)(S:Sr)(i:It)(vx vy:Value):Prop where
 re:Rr z W rb tb LL c S o
 tn:Turn [rb] w W
 rs:Box W w.heap.size zs19
 lt:Box W g (itC i vx vy)
 sx:SitQ (fun b=>w.heap.size<b/\b≠g) z W i.x vx
 sy:SitQ (fun b=>w.heap.size<b/\b≠g) z W i.y vy
 nm:i.name.size<=z
 un:i.unit.size<=z
 gg:w.heap.size<g
 rl:rb<w.heap.size/\tb<w.heap.size
theorem ImS.turn {z:Nat}{w W W':World}{rb tb:Nat}{LL:List Tk}{c:Int}{o g:Nat}{S S':Sr}{i:It}{vx vy:Value}(h:ImS z w W rb tb LL c o g S i vx vy)(k:Turn [rb] W W')(r:Rr z W' rb tb LL c S' o):ImS z w W' rb tb LL c o g S' i vx vy:=by
 have h1:=h.gg
 have h2:=h.rl
 exact⟨r,turn_one h.tn k,h.rs.turn k (by simp;omega),h.lt.turn k (by simp;omega),SitQ.keep k.size (fun b hb hq=>⟨hq,fun j=>turn_cell k hb (by simp;omega)⟩) _ _ h.sx,SitQ.keep k.size (fun b hb hq=>⟨hq,fun j=>turn_cell k hb (by simp;omega)⟩) _ _ h.sy,h.nm,h.un,h1,h2⟩
theorem ImS.next {z:Nat}{w W W':World}{rb tb:Nat}{LL:List Tk}{c:Int}{o g:Nat}{S:Sr}{i:It}{vx vy:Value}(h:ImS z w W rb tb LL c o g S i vx vy)(k:Below W.heap.size W W'):ImS z w W' rb tb LL c o g S i vx vy:=h.turn (Turn.of_below k) (h.re.next k)
theorem ImS.set {z:Nat}{w W:World}{rb tb:Nat}{LL:List Tk}{c:Int}{o g:Nat}{S:Sr}{i:It}{vx vy:Value}(h:ImS z w W rb tb LL c o g S i vx vy)(j:Nat)(v:Value)(i':It)(hj:j<19)(he:(itC i vx vy).set j v=itC i' vx vy)(hx:i'.x=i.x)(hy:i'.y=i.y)(hn:i'.name.size<=z)(hu:i'.unit.size<=z):
 ImS z w (W.setCell ⟨g,j,none⟩ v) rb tb LL c o g S i' vx vy:=by
 have h1:=h.gg
 have h2:=h.rl
 have k:=turn_set W g j v
 have L:=h.lt.set j (by simpa using hj) v
 rw[he] at L
 exact⟨h.re.turn k (by simp;omega) (by simp;omega),h.tn.andSet _ _ (.inr (by show w.heap.size<=g;omega)),h.rs.turn k (by simp;omega),L,by rw[hx];exact SitQ.keep k.size (fun b hb hq=>⟨hq,fun j=>turn_cell k hb (by simp;exact hq.2)⟩) _ _ h.sx,by rw[hy];exact SitQ.keep k.size (fun b hb hq=>⟨hq,fun j=>turn_cell k hb (by simp;exact hq.2)⟩) _ _ h.sy,hn,hu,h1,h2⟩
theorem ImS.setX {z:Nat}{w W:World}{rb tb:Nat}{LL:List Tk}{c:Int}{o g:Nat}{S:Sr}{i:It}{vx vy:Value}(h:ImS z w W rb tb LL c o g S i vx vy){t:Tm}{u:Value}(s:SitQ (fun b=>w.heap.size<b/\b≠g) z W t u):
 ImS z w ((((((W.setCell ⟨g,6,none⟩ (.int .i64 t.kind)).setCell ⟨g,7,none⟩ (.string t.text)).setCell ⟨g,8,none⟩ (.int .i64 t.n)).setCell ⟨g,9,none⟩ (.int .i64 t.m)).setCell ⟨g,10,none⟩ (.int .i64 t.pl)).setCell ⟨g,11,none⟩ u) rb tb LL c o g S ⟨i.kind,i.name,i.unit,i.a,i.b,i.c,t,i.y,i.pl⟩ u vy:=by
 have h1:=h.gg
 have h2:=h.rl
 have k:=turn_six_at W g 6 (.int .i64 t.kind) (.string t.text) (.int .i64 t.n) (.int .i64 t.m) (.int .i64 t.pl) u
 have L:=h.lt.six_at 6 (by simp) (.int .i64 t.kind) (.string t.text) (.int .i64 t.n) (.int .i64 t.m) (.int .i64 t.pl) u
 exact⟨h.re.turn k (by simp;omega) (by simp;omega),h.tn.trans k (fun i hi=>.inr (by simp at hi;omega)),h.rs.turn k (by simp;omega),L,SitQ.keep k.size (fun b hb hq=>⟨hq,fun j=>turn_cell k hb (by simp;exact hq.2)⟩) _ _ s,SitQ.keep k.size (fun b hb hq=>⟨hq,fun j=>turn_cell k hb (by simp;exact hq.2)⟩) _ _ h.sy,h.nm,h.un,h1,h2⟩
theorem ImS.setY {z:Nat}{w W:World}{rb tb:Nat}{LL:List Tk}{c:Int}{o g:Nat}{S:Sr}{i:It}{vx vy:Value}(h:ImS z w W rb tb LL c o g S i vx vy){t:Tm}{u:Value}(s:SitQ (fun b=>w.heap.size<b/\b≠g) z W t u):
 ImS z w ((((((W.setCell ⟨g,12,none⟩ (.int .i64 t.kind)).setCell ⟨g,13,none⟩ (.string t.text)).setCell ⟨g,14,none⟩ (.int .i64 t.n)).setCell ⟨g,15,none⟩ (.int .i64 t.m)).setCell ⟨g,16,none⟩ (.int .i64 t.pl)).setCell ⟨g,17,none⟩ u) rb tb LL c o g S ⟨i.kind,i.name,i.unit,i.a,i.b,i.c,i.x,t,i.pl⟩ vx u:=by
 have h1:=h.gg
 have h2:=h.rl
 have k:=turn_six_at W g 12 (.int .i64 t.kind) (.string t.text) (.int .i64 t.n) (.int .i64 t.m) (.int .i64 t.pl) u
 have L:=h.lt.six_at 12 (by simp) (.int .i64 t.kind) (.string t.text) (.int .i64 t.n) (.int .i64 t.m) (.int .i64 t.pl) u
 exact⟨h.re.turn k (by simp;omega) (by simp;omega),h.tn.trans k (fun i hi=>.inr (by simp at hi;omega)),h.rs.turn k (by simp;omega),L,SitQ.keep k.size (fun b hb hq=>⟨hq,fun j=>turn_cell k hb (by simp;exact hq.2)⟩) _ _ h.sx,SitQ.keep k.size (fun b hb hq=>⟨hq,fun j=>turn_cell k hb (by simp;exact hq.2)⟩) _ _ s,h.nm,h.un,h1,h2⟩
theorem ImS.made {z:Nat}{w w1:World}{rb tb:Nat}{LL:List Tk}{c:Int}{o:Nat}{S:Sr}(h:Rr z w rb tb LL c S o)(b1:Below (w.alloc (.cells zs19.toArray 53)).heap.size (w.alloc (.cells zs19.toArray 53)) w1)(a:Int):
 ImS z w (w1.alloc (.cells (itC (it0 0 a) (.slice none 0 0) (.slice none 0 0)).toArray 53)) rb tb LL c o w1.heap.size S (it0 0 a) (.slice none 0 0) (.slice none 0 0):=by
 have k0:=(Below.refl w.heap.size w).alloc (Nat.le_refl _) (.cells zs19.toArray 53)
 have k2:=(Below.refl w1.heap.size w1).alloc (Nat.le_refl _) (.cells (itC (it0 0 a) (.slice none 0 0) (.slice none 0 0)).toArray 53)
 have hs:=b1.size
 simp only[World.size_alloc] at hs
 exact⟨((h.next k0).next b1).next k2,((Turn.of_below k0).andBelow b1).andBelow k2,((Box.new w zs19 53).next b1).next k2,Box.new w1 _ _,nil_sits _ _,nil_sits _ _,Nat.zero_le _,Nat.zero_le _,by omega,h.lts⟩
theorem ImS.itb {z:Nat}{w W W':World}{rb tb:Nat}{LL:List Tk}{c:Int}{o g:Nat}{S:Sr}{i:It}{vx vy:Value}(h:ImS z w W rb tb LL c o g S i vx vy)(k:Turn [w.heap.size] W W'):ItB w.heap.size z W' i vx vy:=
 ⟨SitQ.keep k.size (fun b hb hq=>⟨by show w.heap.size<=b;omega,fun j=>turn_cell k hb (by simp;omega)⟩) _ _ h.sx,SitQ.keep k.size (fun b hb hq=>⟨by show w.heap.size<=b;omega,fun j=>turn_cell k hb (by simp;omega)⟩) _ _ h.sy,h.nm,h.un⟩
theorem ImS.one {z:Nat}{w W:World}{rb tb:Nat}{LL:List Tk}{c:Int}{o g:Nat}{S:Sr}{i:It}{vx vy:Value}(h:ImS z w W rb tb LL c o g S i vx vy):(itC i vx vy).toArray.all (·.oneCell')=true:=(h.itb (Turn.refl _ _)).one
theorem build_it8 (a:Int)(w:World):(Instr.build 53 #[(8,.int .i64 a)]).run Tryz.prog w=.ok (.agg (itC (it0 0 a) (.slice none 0 0) (.slice none 0 0)).toArray) w:=
 run_build w _ _ _ (by kernel_rfl)
theorem wpList_it8 {ops:Array Oper}{rest:List Oper}{o:Oper}{a:Act}{Q:Exit->Act->World->Prop}{w:World}(hgd:o.guard=none)(y:Operand)(ho:o.op=.build 53 #[(8,y)])(p:Int)(hy:a.eval y=.int .i64 p)
 (X:Array Value) (hX:X=(itC (it0 0 p) (.slice none 0 0) (.slice none 0 0)).toArray) (h:wpList Tryz.prog ops Q rest (a.put o.dst (.agg X)) w):wpList Tryz.prog ops Q (o::rest) a w:=by
 refine wpList_plain hgd fun K hK=>?_
 subst hX
 unfold Oper.wp execOp
 have hb:=build_it8 p w
 simp only[ho,Sem.run_bind,List.map_toArray,List.map_cons,List.map_nil,hy,hb,Result.andThen_ok]
 exact hK _ _ h
set_option maxHeartbeats 16000000 in
set_option maxRecDepth 20000 in
theorem qItem_coolU {z rb tb:Nat}{LL:List Tk}{c:Int}{o:Nat}(hz:z<=9223372036854775807){S:Sr}(n0:isR k_metric S=false)(n1:isR k_reps S=false)(y:isR k_cooldown S=true)(u:isR k_up (adv S)=true)(w:World)(hr:Rr z w rb tb LL c S o):
 Calls Tryz.prog 18 #[.pointer (some ⟨rb,0,none⟩)] w (IqP z w rb tb LL c o ((coolR c (hdT S.L).at_ (adv S)).1,mustR c k_sem (coolR c (hdT S.L).at_ (adv S)).2)):=by
 obtain⟨R,hR⟩:∃ R,Hid (R=((coolR c (hdT S.L).at_ (adv S)).1,mustR c k_sem (coolR c (hdT S.L).at_ (adv S)).2)):=⟨_,rfl⟩
 rw[<-hR.out]
 have hP:Hid (∀ w' Y i vx vy S',Y=(itC i vx vy).toArray->Turn [rb] w w'->Rr z w' rb tb LL c S' o->ItB w.heap.size z w' i vx vy->R=(i,S')->IqP z w rb tb LL c o R (.returned (.agg Y)) w'):=fun w' Y i vx vy S' h0 h1 h2 h3 h4=>⟨h1,⟨vx,vy,by rw[h4,h0],by rw[h4];exact h3⟩,by rw[h4];exact h2⟩
 generalize IqP z w rb tb LL c o R=Post at *
 have hl0:=hr.lts
 have hat:=hr.tl.ok.a
 have hz0:=hid2 hz
 have fl1:=fld1
 have fl2:=fld2
 obtain⟨m,hm19⟩:∃ m:Nat,Hid (m=19):=⟨_,rfl⟩
 have zs:∀ w,(sizeOf 53).run Tryz.prog w=.ok m w:=by rw[hm19.out];exact Tryz.sizeOf53
 have zm:(19=m)=True:=eq_true hm19.out.symm
 have R0:=hid2 (hr.next ((Below.refl _ _).alloc (Nat.le_refl _) (.cells zs19.toArray 53)))
 have R1:=hid2 hr
 obtain⟨X,hX⟩:∃ X:Array Value,Hid (X=(itC (it0 0 ((hdT S.L).at_:Int)) (.slice none 0 0) (.slice none 0 0)).toArray):=⟨_,rfl⟩
 have stX:=fun W=>st_it W (X:=X) (by rw[hX.out];rfl) (by rw[hX.out];kernel_rfl)
 unfold zeroI at stX
 have sX:X.size=19:=by rw[hX.out];rfl
 clear hr hz
 go_enter Tryz.func18,Tryz.ntmps18
 go_wp2_with fail
 refine Calls.mono (qAt_c _ R0.out) ?_
 rintro e w1 ⟨rfl,b1⟩
 have HC0:=hid2 (ImS.made R1.out b1 ((hdT S.L).at_:Int))
 rw[<-hX.out] at HC0
 clear b1 R0 R1
 go_wp2_with (refine wpList_it8 rfl _ rfl ((hdT S.L).at_:Int) rfl X hX.out ?_)
 clear stX sX
 obtain⟨g,hgg⟩:∃ g:Nat,Hid (g=w1.heap.size):=⟨_,rfl⟩
 rw[<-hgg.out] at HC0 ⊢
 generalize hW1:w1.alloc _=W1 at *
 clear hW1 hX hgg
 refine Calls.mono (qMay_c k_metric ⟨ba_neL [40] (by decide),ba_neL [123] (by decide),ba_neL [41] (by decide),ba_neL [125] (by decide)⟩ _ HC0.out.re) ?_
 rintro e w11 ⟨rfl,t2,r2⟩
 have HC1:=hid2 (HC0.out.turn t2 r2)
 clear t2 r2 HC0
 rw[n0]
 rw[may_not n0] at HC1
 go_wp2_with fail
 refine Calls.mono (qMay_c k_reps ⟨ba_neL [40] (by decide),ba_neL [123] (by decide),ba_neL [41] (by decide),ba_neL [125] (by decide)⟩ _ HC1.out.re) ?_
 rintro e w12 ⟨rfl,t2,r2⟩
 have HC2:=hid2 (HC1.out.turn t2 r2)
 clear t2 r2 HC1
 rw[n1]
 rw[may_not n1] at HC2
 go_wp2_with fail
 refine Calls.mono (qMay_c k_cooldown ⟨ba_neL [40] (by decide),ba_neL [123] (by decide),ba_neL [41] (by decide),ba_neL [125] (by decide)⟩ _ HC2.out.re) ?_
 rintro e w13 ⟨rfl,t2,r2⟩
 have HC3:=hid2 (HC2.out.turn t2 r2)
 clear t2 r2 HC2
 rw[y]
 rw[may_adv y] at HC3
 have c0:=HC3.out.lt.cell 0 _ rfl
 have f0:=HC3.out.lt.free 0 (by simp)
 have cl:=HC3.out.lt.lt
 have HC4:=hid2 (HC3.out.set 0 (.int .i64 4) ⟨4,⟨#[]⟩,⟨#[]⟩,0,0,0,nilM,nilM,((hdT S.L).at_:Int)⟩ (by decide) rfl rfl rfl HC3.out.nm HC3.out.un)
 go_wp2_with fail
 clear cl c0 f0 HC3
 refine Calls.mono (qMay_c k_up ⟨ba_neL [40] (by decide),ba_neL [123] (by decide),ba_neL [41] (by decide),ba_neL [125] (by decide)⟩ _ HC4.out.re) ?_
 rintro e w15 ⟨rfl,t2,r2⟩
 have HC5:=hid2 (HC4.out.turn t2 r2)
 clear t2 r2 HC4
 rw[u]
 rw[may_adv u] at HC5
 have c0:=HC5.out.lt.cell 0 _ rfl
 have f0:=HC5.out.lt.free 0 (by simp)
 have cl:=HC5.out.lt.lt
 have HC6:=hid2 (HC5.out.set 0 (.int .i64 3) ⟨3,⟨#[]⟩,⟨#[]⟩,0,0,0,nilM,nilM,((hdT S.L).at_:Int)⟩ (by decide) rfl rfl rfl HC5.out.nm HC5.out.un)
 go_wp2_with fail
 clear cl c0 f0 HC5
 refine Calls.mono (qTake_c 3 (by decide) _ HC6.out.re) ?_
 rintro e w17 ⟨rfl,t2,r2⟩
 have Hk7:=hid2 (take_tk (c:=c) (k:=3) HC6.out.re.tl)
 have HC7:=hid2 (HC6.out.turn t2 r2)
 clear t2 r2 HC6
 simp only[tkW]
 obtain⟨tk7,htk7⟩:∃ tk,Hid (tk=(takeR c 3 (adv (adv S))).1):=⟨_,rfl⟩
 rw[<-htk7.out] at Hk7 ⊢
 have c3:=HC7.out.lt.cell 3 _ rfl
 have f3:=HC7.out.lt.free 3 (by simp)
 have cl:=HC7.out.lt.lt
 have HC8:=hid2 (HC7.out.set 3 (.int .i64 tk7.n) ⟨3,⟨#[]⟩,⟨#[]⟩,tk7.n,0,0,nilM,nilM,((hdT S.L).at_:Int)⟩ (by decide) rfl rfl rfl HC7.out.nm HC7.out.un)
 go_wp2_with fail
 clear cl c3 f3 HC7
 refine Calls.mono (qMust_c k_sem ⟨ba_neL [40] (by decide),ba_neL [123] (by decide),ba_neL [41] (by decide),ba_neL [125] (by decide)⟩ _ HC8.out.re) ?_
 rintro e w19 ⟨rfl,t2,r2⟩
 have HC9:=hid2 (HC8.out.turn t2 r2)
 clear t2 r2 HC8
 obtain⟨Y,hY⟩:∃ Y:Array Value,Hid (Y=(itC ⟨3,⟨#[]⟩,⟨#[]⟩,tk7.n,0,0,nilM,nilM,((hdT S.L).at_:Int)⟩ (.slice none 0 0) (.slice none 0 0)).toArray):=⟨_,rfl⟩
 have sY:Y.size=19:=by rw[hY.out];rfl
 have ldY:=ld_row (X:=Y) HC9.out.lt (by rw[hY.out]) (n:=m) hm19.out
 have one0:Y.all (·.oneCell')=true:=by rw[hY.out];exact HC9.out.one
 have one:∀ v∈Y.toList,v.oneCell'=true:=fun v hv=>Array.all_eq_true_iff_forall_mem.1 one0 v (by simpa using hv)
 have stY:=st_at w.heap.size Y.toList 0 w19 _ HC9.out.rs (by simp[sY]) one
 have TF:=hid2 (putRow_turn w.heap.size Y.toList 0 w19)
 have BF:=putRow_whole HC9.out.rs (X:=Y.toList) (by simp[sY])
 have ldF:=ld_row (X:=Y) BF rfl (n:=m) (by simp[sY,hm19.out])
 have xl:=HC9.out.lt.lt
 have pl:=HC9.out.rs.lt
 have hgx:=HC9.out.gg
 clear BF one one0
 generalize hWF:putRow w19 w.heap.size 0 Y.toList=WF at *
 clear hWF
 go_wp2_with fail
 refine bodyPost_ret (v:=.agg Y) (by simp[results,Tryz.results18,go_sem, *]) rfl (hP.out _ Y ⟨3,⟨#[]⟩,⟨#[]⟩,tk7.n,0,0,nilM,nilM,((hdT S.L).at_:Int)⟩ (.slice none 0 0) (.slice none 0 0) (mustR c k_sem (takeR c 3 (adv (adv S))).2) hY.out ?_ ?_ (HC9.out.itb TF.out) (by rw[hR.out,htk7.out];unfold coolR;rw[if_pos u];rfl))
 ·exact HC9.out.tn.trans TF.out (fun i hi=>.inr (by simp at hi;omega))
 ·exact HC9.out.re.turn TF.out (by simp;omega) (by simp;omega)
set_option maxHeartbeats 16000000 in
set_option maxRecDepth 20000 in
theorem qItem_coolD {z rb tb:Nat}{LL:List Tk}{c:Int}{o:Nat}(hz:z<=9223372036854775807){S:Sr}(n0:isR k_metric S=false)(n1:isR k_reps S=false)(y:isR k_cooldown S=true)(u:isR k_up (adv S)=false)(w:World)(hr:Rr z w rb tb LL c S o):
 Calls Tryz.prog 18 #[.pointer (some ⟨rb,0,none⟩)] w (IqP z w rb tb LL c o ((coolR c (hdT S.L).at_ (adv S)).1,mustR c k_sem (coolR c (hdT S.L).at_ (adv S)).2)):=by
 obtain⟨R,hR⟩:∃ R,Hid (R=((coolR c (hdT S.L).at_ (adv S)).1,mustR c k_sem (coolR c (hdT S.L).at_ (adv S)).2)):=⟨_,rfl⟩
 rw[<-hR.out]
 have hP:Hid (∀ w' Y i vx vy S',Y=(itC i vx vy).toArray->Turn [rb] w w'->Rr z w' rb tb LL c S' o->ItB w.heap.size z w' i vx vy->R=(i,S')->IqP z w rb tb LL c o R (.returned (.agg Y)) w'):=fun w' Y i vx vy S' h0 h1 h2 h3 h4=>⟨h1,⟨vx,vy,by rw[h4,h0],by rw[h4];exact h3⟩,by rw[h4];exact h2⟩
 generalize IqP z w rb tb LL c o R=Post at *
 have hl0:=hr.lts
 have hat:=hr.tl.ok.a
 have hz0:=hid2 hz
 have fl1:=fld1
 have fl2:=fld2
 obtain⟨m,hm19⟩:∃ m:Nat,Hid (m=19):=⟨_,rfl⟩
 have zs:∀ w,(sizeOf 53).run Tryz.prog w=.ok m w:=by rw[hm19.out];exact Tryz.sizeOf53
 have zm:(19=m)=True:=eq_true hm19.out.symm
 have R0:=hid2 (hr.next ((Below.refl _ _).alloc (Nat.le_refl _) (.cells zs19.toArray 53)))
 have R1:=hid2 hr
 obtain⟨X,hX⟩:∃ X:Array Value,Hid (X=(itC (it0 0 ((hdT S.L).at_:Int)) (.slice none 0 0) (.slice none 0 0)).toArray):=⟨_,rfl⟩
 have stX:=fun W=>st_it W (X:=X) (by rw[hX.out];rfl) (by rw[hX.out];kernel_rfl)
 unfold zeroI at stX
 have sX:X.size=19:=by rw[hX.out];rfl
 clear hr hz
 go_enter Tryz.func18,Tryz.ntmps18
 go_wp2_with fail
 refine Calls.mono (qAt_c _ R0.out) ?_
 rintro e w1 ⟨rfl,b1⟩
 have HC0:=hid2 (ImS.made R1.out b1 ((hdT S.L).at_:Int))
 rw[<-hX.out] at HC0
 clear b1 R0 R1
 go_wp2_with (refine wpList_it8 rfl _ rfl ((hdT S.L).at_:Int) rfl X hX.out ?_)
 clear stX sX
 obtain⟨g,hgg⟩:∃ g:Nat,Hid (g=w1.heap.size):=⟨_,rfl⟩
 rw[<-hgg.out] at HC0 ⊢
 generalize hW1:w1.alloc _=W1 at *
 clear hW1 hX hgg
 refine Calls.mono (qMay_c k_metric ⟨ba_neL [40] (by decide),ba_neL [123] (by decide),ba_neL [41] (by decide),ba_neL [125] (by decide)⟩ _ HC0.out.re) ?_
 rintro e w11 ⟨rfl,t2,r2⟩
 have HC1:=hid2 (HC0.out.turn t2 r2)
 clear t2 r2 HC0
 rw[n0]
 rw[may_not n0] at HC1
 go_wp2_with fail
 refine Calls.mono (qMay_c k_reps ⟨ba_neL [40] (by decide),ba_neL [123] (by decide),ba_neL [41] (by decide),ba_neL [125] (by decide)⟩ _ HC1.out.re) ?_
 rintro e w12 ⟨rfl,t2,r2⟩
 have HC2:=hid2 (HC1.out.turn t2 r2)
 clear t2 r2 HC1
 rw[n1]
 rw[may_not n1] at HC2
 go_wp2_with fail
 refine Calls.mono (qMay_c k_cooldown ⟨ba_neL [40] (by decide),ba_neL [123] (by decide),ba_neL [41] (by decide),ba_neL [125] (by decide)⟩ _ HC2.out.re) ?_
 rintro e w13 ⟨rfl,t2,r2⟩
 have HC3:=hid2 (HC2.out.turn t2 r2)
 clear t2 r2 HC2
 rw[y]
 rw[may_adv y] at HC3
 have c0:=HC3.out.lt.cell 0 _ rfl
 have f0:=HC3.out.lt.free 0 (by simp)
 have cl:=HC3.out.lt.lt
 have HC4:=hid2 (HC3.out.set 0 (.int .i64 4) ⟨4,⟨#[]⟩,⟨#[]⟩,0,0,0,nilM,nilM,((hdT S.L).at_:Int)⟩ (by decide) rfl rfl rfl HC3.out.nm HC3.out.un)
 go_wp2_with fail
 clear cl c0 f0 HC3
 refine Calls.mono (qMay_c k_up ⟨ba_neL [40] (by decide),ba_neL [123] (by decide),ba_neL [41] (by decide),ba_neL [125] (by decide)⟩ _ HC4.out.re) ?_
 rintro e w15 ⟨rfl,t2,r2⟩
 have HC5:=hid2 (HC4.out.turn t2 r2)
 clear t2 r2 HC4
 rw[u]
 rw[may_not u] at HC5
 go_wp2_with fail
 refine Calls.mono (qMust_c k_down ⟨ba_neL [40] (by decide),ba_neL [123] (by decide),ba_neL [41] (by decide),ba_neL [125] (by decide)⟩ _ HC5.out.re) ?_
 rintro e w16 ⟨rfl,t2,r2⟩
 have HC6:=hid2 (HC5.out.turn t2 r2)
 clear t2 r2 HC5
 go_wp2_with fail
 refine Calls.mono (qTake_c 3 (by decide) _ HC6.out.re) ?_
 rintro e w17 ⟨rfl,t2,r2⟩
 have Hk7:=hid2 (take_tk (c:=c) (k:=3) HC6.out.re.tl)
 have HC7:=hid2 (HC6.out.turn t2 r2)
 clear t2 r2 HC6
 simp only[tkW]
 obtain⟨tk7,htk7⟩:∃ tk,Hid (tk=(takeR c 3 (mustR c k_down (adv S))).1):=⟨_,rfl⟩
 rw[<-htk7.out] at Hk7 ⊢
 have c3:=HC7.out.lt.cell 3 _ rfl
 have f3:=HC7.out.lt.free 3 (by simp)
 have cl:=HC7.out.lt.lt
 have HC8:=hid2 (HC7.out.set 3 (.int .i64 tk7.n) ⟨4,⟨#[]⟩,⟨#[]⟩,tk7.n,0,0,nilM,nilM,((hdT S.L).at_:Int)⟩ (by decide) rfl rfl rfl HC7.out.nm HC7.out.un)
 go_wp2_with fail
 clear cl c3 f3 HC7
 refine Calls.mono (qMust_c k_sem ⟨ba_neL [40] (by decide),ba_neL [123] (by decide),ba_neL [41] (by decide),ba_neL [125] (by decide)⟩ _ HC8.out.re) ?_
 rintro e w19 ⟨rfl,t2,r2⟩
 have HC9:=hid2 (HC8.out.turn t2 r2)
 clear t2 r2 HC8
 obtain⟨Y,hY⟩:∃ Y:Array Value,Hid (Y=(itC ⟨4,⟨#[]⟩,⟨#[]⟩,tk7.n,0,0,nilM,nilM,((hdT S.L).at_:Int)⟩ (.slice none 0 0) (.slice none 0 0)).toArray):=⟨_,rfl⟩
 have sY:Y.size=19:=by rw[hY.out];rfl
 have ldY:=ld_row (X:=Y) HC9.out.lt (by rw[hY.out]) (n:=m) hm19.out
 have one0:Y.all (·.oneCell')=true:=by rw[hY.out];exact HC9.out.one
 have one:∀ v∈Y.toList,v.oneCell'=true:=fun v hv=>Array.all_eq_true_iff_forall_mem.1 one0 v (by simpa using hv)
 have stY:=st_at w.heap.size Y.toList 0 w19 _ HC9.out.rs (by simp[sY]) one
 have TF:=hid2 (putRow_turn w.heap.size Y.toList 0 w19)
 have BF:=putRow_whole HC9.out.rs (X:=Y.toList) (by simp[sY])
 have ldF:=ld_row (X:=Y) BF rfl (n:=m) (by simp[sY,hm19.out])
 have xl:=HC9.out.lt.lt
 have pl:=HC9.out.rs.lt
 have hgx:=HC9.out.gg
 clear BF one one0
 generalize hWF:putRow w19 w.heap.size 0 Y.toList=WF at *
 clear hWF
 go_wp2_with fail
 refine bodyPost_ret (v:=.agg Y) (by simp[results,Tryz.results18,go_sem, *]) rfl (hP.out _ Y ⟨4,⟨#[]⟩,⟨#[]⟩,tk7.n,0,0,nilM,nilM,((hdT S.L).at_:Int)⟩ (.slice none 0 0) (.slice none 0 0) (mustR c k_sem (takeR c 3 (mustR c k_down (adv S))).2) hY.out ?_ ?_ (HC9.out.itb TF.out) (by rw[hR.out,htk7.out];unfold coolR;rw[if_neg (by rw[u];simp)];rfl))
 ·exact HC9.out.tn.trans TF.out (fun i hi=>.inr (by simp at hi;omega))
 ·exact HC9.out.re.turn TF.out (by simp;omega) (by simp;omega)
set_option maxHeartbeats 16000000 in
set_option maxRecDepth 20000 in
theorem qItem_repsY {z rb tb:Nat}{LL:List Tk}{c:Int}{o:Nat}(hz:z<=9223372036854775807){S:Sr}(n0:isR k_metric S=false)(y:isR k_reps S=true)(u:isR k_step (takeR c 2 (mustR c k_dots (takeR c 2 (adv S)).2)).2=true)(w:World)(hr:Rr z w rb tb LL c S o):
 Calls Tryz.prog 18 #[.pointer (some ⟨rb,0,none⟩)] w (IqP z w rb tb LL c o ((repsR c (hdT S.L).at_ (adv S)).1,mustR c k_sem (repsR c (hdT S.L).at_ (adv S)).2)):=by
 obtain⟨R,hR⟩:∃ R,Hid (R=((repsR c (hdT S.L).at_ (adv S)).1,mustR c k_sem (repsR c (hdT S.L).at_ (adv S)).2)):=⟨_,rfl⟩
 rw[<-hR.out]
 have hP:Hid (∀ w' Y i vx vy S',Y=(itC i vx vy).toArray->Turn [rb] w w'->Rr z w' rb tb LL c S' o->ItB w.heap.size z w' i vx vy->R=(i,S')->IqP z w rb tb LL c o R (.returned (.agg Y)) w'):=fun w' Y i vx vy S' h0 h1 h2 h3 h4=>⟨h1,⟨vx,vy,by rw[h4,h0],by rw[h4];exact h3⟩,by rw[h4];exact h2⟩
 generalize IqP z w rb tb LL c o R=Post at *
 have hl0:=hr.lts
 have hat:=hr.tl.ok.a
 have hz0:=hid2 hz
 have fl1:=fld1
 have fl2:=fld2
 obtain⟨m,hm19⟩:∃ m:Nat,Hid (m=19):=⟨_,rfl⟩
 have zs:∀ w,(sizeOf 53).run Tryz.prog w=.ok m w:=by rw[hm19.out];exact Tryz.sizeOf53
 have zm:(19=m)=True:=eq_true hm19.out.symm
 have R0:=hid2 (hr.next ((Below.refl _ _).alloc (Nat.le_refl _) (.cells zs19.toArray 53)))
 have R1:=hid2 hr
 obtain⟨X,hX⟩:∃ X:Array Value,Hid (X=(itC (it0 0 ((hdT S.L).at_:Int)) (.slice none 0 0) (.slice none 0 0)).toArray):=⟨_,rfl⟩
 have stX:=fun W=>st_it W (X:=X) (by rw[hX.out];rfl) (by rw[hX.out];kernel_rfl)
 unfold zeroI at stX
 have sX:X.size=19:=by rw[hX.out];rfl
 clear hr hz
 go_enter Tryz.func18,Tryz.ntmps18
 go_wp2_with fail
 refine Calls.mono (qAt_c _ R0.out) ?_
 rintro e w1 ⟨rfl,b1⟩
 have HC0:=hid2 (ImS.made R1.out b1 ((hdT S.L).at_:Int))
 rw[<-hX.out] at HC0
 clear b1 R0 R1
 go_wp2_with (refine wpList_it8 rfl _ rfl ((hdT S.L).at_:Int) rfl X hX.out ?_)
 clear stX sX
 obtain⟨g,hgg⟩:∃ g:Nat,Hid (g=w1.heap.size):=⟨_,rfl⟩
 rw[<-hgg.out] at HC0 ⊢
 generalize hW1:w1.alloc _=W1 at *
 clear hW1 hX hgg
 refine Calls.mono (qMay_c k_metric ⟨ba_neL [40] (by decide),ba_neL [123] (by decide),ba_neL [41] (by decide),ba_neL [125] (by decide)⟩ _ HC0.out.re) ?_
 rintro e w11 ⟨rfl,t2,r2⟩
 have HC1:=hid2 (HC0.out.turn t2 r2)
 clear t2 r2 HC0
 rw[n0]
 rw[may_not n0] at HC1
 go_wp2_with fail
 refine Calls.mono (qMay_c k_reps ⟨ba_neL [40] (by decide),ba_neL [123] (by decide),ba_neL [41] (by decide),ba_neL [125] (by decide)⟩ _ HC1.out.re) ?_
 rintro e w12 ⟨rfl,t2,r2⟩
 have HC2:=hid2 (HC1.out.turn t2 r2)
 clear t2 r2 HC1
 rw[y]
 rw[may_adv y] at HC2
 have c0:=HC2.out.lt.cell 0 _ rfl
 have f0:=HC2.out.lt.free 0 (by simp)
 have cl:=HC2.out.lt.lt
 have HC3:=hid2 (HC2.out.set 0 (.int .i64 2) ⟨2,⟨#[]⟩,⟨#[]⟩,0,0,0,nilM,nilM,((hdT S.L).at_:Int)⟩ (by decide) rfl rfl rfl HC2.out.nm HC2.out.un)
 go_wp2_with fail
 clear cl c0 f0 HC2
 refine Calls.mono (qTake_c 2 (by decide) _ HC3.out.re) ?_
 rintro e w14 ⟨rfl,t2,r2⟩
 have Hk4:=hid2 (take_tk (c:=c) (k:=2) HC3.out.re.tl)
 have HC4:=hid2 (HC3.out.turn t2 r2)
 clear t2 r2 HC3
 simp only[tkW]
 obtain⟨tk4,htk4⟩:∃ tk,Hid (tk=(takeR c 2 (adv S)).1):=⟨_,rfl⟩
 rw[<-htk4.out] at Hk4 ⊢
 have c3:=HC4.out.lt.cell 3 _ rfl
 have f3:=HC4.out.lt.free 3 (by simp)
 have cl:=HC4.out.lt.lt
 have HC5:=hid2 (HC4.out.set 3 (.int .i64 tk4.n) ⟨2,⟨#[]⟩,⟨#[]⟩,tk4.n,0,0,nilM,nilM,((hdT S.L).at_:Int)⟩ (by decide) rfl rfl rfl HC4.out.nm HC4.out.un)
 go_wp2_with fail
 clear cl c3 f3 HC4
 refine Calls.mono (qMust_c k_dots ⟨ba_neL [40] (by decide),ba_neL [123] (by decide),ba_neL [41] (by decide),ba_neL [125] (by decide)⟩ _ HC5.out.re) ?_
 rintro e w16 ⟨rfl,t2,r2⟩
 have HC6:=hid2 (HC5.out.turn t2 r2)
 clear t2 r2 HC5
 go_wp2_with fail
 refine Calls.mono (qTake_c 2 (by decide) _ HC6.out.re) ?_
 rintro e w17 ⟨rfl,t2,r2⟩
 have Hk7:=hid2 (take_tk (c:=c) (k:=2) HC6.out.re.tl)
 have HC7:=hid2 (HC6.out.turn t2 r2)
 clear t2 r2 HC6
 simp only[tkW]
 obtain⟨tk7,htk7⟩:∃ tk,Hid (tk=(takeR c 2 (mustR c k_dots (takeR c 2 (adv S)).2)).1):=⟨_,rfl⟩
 rw[<-htk7.out] at Hk7 ⊢
 have c4:=HC7.out.lt.cell 4 _ rfl
 have f4:=HC7.out.lt.free 4 (by simp)
 have cl:=HC7.out.lt.lt
 have HC8:=hid2 (HC7.out.set 4 (.int .i64 tk7.n) ⟨2,⟨#[]⟩,⟨#[]⟩,tk4.n,tk7.n,0,nilM,nilM,((hdT S.L).at_:Int)⟩ (by decide) rfl rfl rfl HC7.out.nm HC7.out.un)
 go_wp2_with fail
 clear cl c4 f4 HC7
 refine Calls.mono (qMay_c k_step ⟨ba_neL [40] (by decide),ba_neL [123] (by decide),ba_neL [41] (by decide),ba_neL [125] (by decide)⟩ _ HC8.out.re) ?_
 rintro e w19 ⟨rfl,t2,r2⟩
 have HC9:=hid2 (HC8.out.turn t2 r2)
 clear t2 r2 HC8
 rw[u]
 rw[may_adv u] at HC9
 go_wp2_with fail
 refine Calls.mono (qTake_c 2 (by decide) _ HC9.out.re) ?_
 rintro e w20 ⟨rfl,t2,r2⟩
 have Hk10:=hid2 (take_tk (c:=c) (k:=2) HC9.out.re.tl)
 have HC10:=hid2 (HC9.out.turn t2 r2)
 clear t2 r2 HC9
 simp only[tkW]
 obtain⟨tk10,htk10⟩:∃ tk,Hid (tk=(takeR c 2 (adv (takeR c 2 (mustR c k_dots (takeR c 2 (adv S)).2)).2)).1):=⟨_,rfl⟩
 rw[<-htk10.out] at Hk10 ⊢
 have c5:=HC10.out.lt.cell 5 _ rfl
 have f5:=HC10.out.lt.free 5 (by simp)
 have cl:=HC10.out.lt.lt
 have HC11:=hid2 (HC10.out.set 5 (.int .i64 tk10.n) ⟨2,⟨#[]⟩,⟨#[]⟩,tk4.n,tk7.n,tk10.n,nilM,nilM,((hdT S.L).at_:Int)⟩ (by decide) rfl rfl rfl HC10.out.nm HC10.out.un)
 go_wp2_with fail
 clear cl c5 f5 HC10
 refine Calls.mono (qMust_c k_sem ⟨ba_neL [40] (by decide),ba_neL [123] (by decide),ba_neL [41] (by decide),ba_neL [125] (by decide)⟩ _ HC11.out.re) ?_
 rintro e w22 ⟨rfl,t2,r2⟩
 have HC12:=hid2 (HC11.out.turn t2 r2)
 clear t2 r2 HC11
 obtain⟨Y,hY⟩:∃ Y:Array Value,Hid (Y=(itC ⟨2,⟨#[]⟩,⟨#[]⟩,tk4.n,tk7.n,tk10.n,nilM,nilM,((hdT S.L).at_:Int)⟩ (.slice none 0 0) (.slice none 0 0)).toArray):=⟨_,rfl⟩
 have sY:Y.size=19:=by rw[hY.out];rfl
 have ldY:=ld_row (X:=Y) HC12.out.lt (by rw[hY.out]) (n:=m) hm19.out
 have one0:Y.all (·.oneCell')=true:=by rw[hY.out];exact HC12.out.one
 have one:∀ v∈Y.toList,v.oneCell'=true:=fun v hv=>Array.all_eq_true_iff_forall_mem.1 one0 v (by simpa using hv)
 have stY:=st_at w.heap.size Y.toList 0 w22 _ HC12.out.rs (by simp[sY]) one
 have TF:=hid2 (putRow_turn w.heap.size Y.toList 0 w22)
 have BF:=putRow_whole HC12.out.rs (X:=Y.toList) (by simp[sY])
 have ldF:=ld_row (X:=Y) BF rfl (n:=m) (by simp[sY,hm19.out])
 have xl:=HC12.out.lt.lt
 have pl:=HC12.out.rs.lt
 have hgx:=HC12.out.gg
 clear BF one one0
 generalize hWF:putRow w22 w.heap.size 0 Y.toList=WF at *
 clear hWF
 go_wp2_with fail
 refine bodyPost_ret (v:=.agg Y) (by simp[results,Tryz.results18,go_sem, *]) rfl (hP.out _ Y ⟨2,⟨#[]⟩,⟨#[]⟩,tk4.n,tk7.n,tk10.n,nilM,nilM,((hdT S.L).at_:Int)⟩ (.slice none 0 0) (.slice none 0 0) (mustR c k_sem (takeR c 2 (adv (takeR c 2 (mustR c k_dots (takeR c 2 (adv S)).2)).2)).2) hY.out ?_ ?_ (HC12.out.itb TF.out) (by rw[hR.out,htk4.out,htk7.out,htk10.out];unfold repsR stepR;rw[if_pos u];rfl))
 ·exact HC12.out.tn.trans TF.out (fun i hi=>.inr (by simp at hi;omega))
 ·exact HC12.out.re.turn TF.out (by simp;omega) (by simp;omega)
set_option maxHeartbeats 16000000 in
set_option maxRecDepth 20000 in
theorem qItem_repsN {z rb tb:Nat}{LL:List Tk}{c:Int}{o:Nat}(hz:z<=9223372036854775807){S:Sr}(n0:isR k_metric S=false)(y:isR k_reps S=true)(u:isR k_step (takeR c 2 (mustR c k_dots (takeR c 2 (adv S)).2)).2=false)(w:World)(hr:Rr z w rb tb LL c S o):
 Calls Tryz.prog 18 #[.pointer (some ⟨rb,0,none⟩)] w (IqP z w rb tb LL c o ((repsR c (hdT S.L).at_ (adv S)).1,mustR c k_sem (repsR c (hdT S.L).at_ (adv S)).2)):=by
 obtain⟨R,hR⟩:∃ R,Hid (R=((repsR c (hdT S.L).at_ (adv S)).1,mustR c k_sem (repsR c (hdT S.L).at_ (adv S)).2)):=⟨_,rfl⟩
 rw[<-hR.out]
 have hP:Hid (∀ w' Y i vx vy S',Y=(itC i vx vy).toArray->Turn [rb] w w'->Rr z w' rb tb LL c S' o->ItB w.heap.size z w' i vx vy->R=(i,S')->IqP z w rb tb LL c o R (.returned (.agg Y)) w'):=fun w' Y i vx vy S' h0 h1 h2 h3 h4=>⟨h1,⟨vx,vy,by rw[h4,h0],by rw[h4];exact h3⟩,by rw[h4];exact h2⟩
 generalize IqP z w rb tb LL c o R=Post at *
 have hl0:=hr.lts
 have hat:=hr.tl.ok.a
 have hz0:=hid2 hz
 have fl1:=fld1
 have fl2:=fld2
 obtain⟨m,hm19⟩:∃ m:Nat,Hid (m=19):=⟨_,rfl⟩
 have zs:∀ w,(sizeOf 53).run Tryz.prog w=.ok m w:=by rw[hm19.out];exact Tryz.sizeOf53
 have zm:(19=m)=True:=eq_true hm19.out.symm
 have R0:=hid2 (hr.next ((Below.refl _ _).alloc (Nat.le_refl _) (.cells zs19.toArray 53)))
 have R1:=hid2 hr
 obtain⟨X,hX⟩:∃ X:Array Value,Hid (X=(itC (it0 0 ((hdT S.L).at_:Int)) (.slice none 0 0) (.slice none 0 0)).toArray):=⟨_,rfl⟩
 have stX:=fun W=>st_it W (X:=X) (by rw[hX.out];rfl) (by rw[hX.out];kernel_rfl)
 unfold zeroI at stX
 have sX:X.size=19:=by rw[hX.out];rfl
 clear hr hz
 go_enter Tryz.func18,Tryz.ntmps18
 go_wp2_with fail
 refine Calls.mono (qAt_c _ R0.out) ?_
 rintro e w1 ⟨rfl,b1⟩
 have HC0:=hid2 (ImS.made R1.out b1 ((hdT S.L).at_:Int))
 rw[<-hX.out] at HC0
 clear b1 R0 R1
 go_wp2_with (refine wpList_it8 rfl _ rfl ((hdT S.L).at_:Int) rfl X hX.out ?_)
 clear stX sX
 obtain⟨g,hgg⟩:∃ g:Nat,Hid (g=w1.heap.size):=⟨_,rfl⟩
 rw[<-hgg.out] at HC0 ⊢
 generalize hW1:w1.alloc _=W1 at *
 clear hW1 hX hgg
 refine Calls.mono (qMay_c k_metric ⟨ba_neL [40] (by decide),ba_neL [123] (by decide),ba_neL [41] (by decide),ba_neL [125] (by decide)⟩ _ HC0.out.re) ?_
 rintro e w11 ⟨rfl,t2,r2⟩
 have HC1:=hid2 (HC0.out.turn t2 r2)
 clear t2 r2 HC0
 rw[n0]
 rw[may_not n0] at HC1
 go_wp2_with fail
 refine Calls.mono (qMay_c k_reps ⟨ba_neL [40] (by decide),ba_neL [123] (by decide),ba_neL [41] (by decide),ba_neL [125] (by decide)⟩ _ HC1.out.re) ?_
 rintro e w12 ⟨rfl,t2,r2⟩
 have HC2:=hid2 (HC1.out.turn t2 r2)
 clear t2 r2 HC1
 rw[y]
 rw[may_adv y] at HC2
 have c0:=HC2.out.lt.cell 0 _ rfl
 have f0:=HC2.out.lt.free 0 (by simp)
 have cl:=HC2.out.lt.lt
 have HC3:=hid2 (HC2.out.set 0 (.int .i64 2) ⟨2,⟨#[]⟩,⟨#[]⟩,0,0,0,nilM,nilM,((hdT S.L).at_:Int)⟩ (by decide) rfl rfl rfl HC2.out.nm HC2.out.un)
 go_wp2_with fail
 clear cl c0 f0 HC2
 refine Calls.mono (qTake_c 2 (by decide) _ HC3.out.re) ?_
 rintro e w14 ⟨rfl,t2,r2⟩
 have Hk4:=hid2 (take_tk (c:=c) (k:=2) HC3.out.re.tl)
 have HC4:=hid2 (HC3.out.turn t2 r2)
 clear t2 r2 HC3
 simp only[tkW]
 obtain⟨tk4,htk4⟩:∃ tk,Hid (tk=(takeR c 2 (adv S)).1):=⟨_,rfl⟩
 rw[<-htk4.out] at Hk4 ⊢
 have c3:=HC4.out.lt.cell 3 _ rfl
 have f3:=HC4.out.lt.free 3 (by simp)
 have cl:=HC4.out.lt.lt
 have HC5:=hid2 (HC4.out.set 3 (.int .i64 tk4.n) ⟨2,⟨#[]⟩,⟨#[]⟩,tk4.n,0,0,nilM,nilM,((hdT S.L).at_:Int)⟩ (by decide) rfl rfl rfl HC4.out.nm HC4.out.un)
 go_wp2_with fail
 clear cl c3 f3 HC4
 refine Calls.mono (qMust_c k_dots ⟨ba_neL [40] (by decide),ba_neL [123] (by decide),ba_neL [41] (by decide),ba_neL [125] (by decide)⟩ _ HC5.out.re) ?_
 rintro e w16 ⟨rfl,t2,r2⟩
 have HC6:=hid2 (HC5.out.turn t2 r2)
 clear t2 r2 HC5
 go_wp2_with fail
 refine Calls.mono (qTake_c 2 (by decide) _ HC6.out.re) ?_
 rintro e w17 ⟨rfl,t2,r2⟩
 have Hk7:=hid2 (take_tk (c:=c) (k:=2) HC6.out.re.tl)
 have HC7:=hid2 (HC6.out.turn t2 r2)
 clear t2 r2 HC6
 simp only[tkW]
 obtain⟨tk7,htk7⟩:∃ tk,Hid (tk=(takeR c 2 (mustR c k_dots (takeR c 2 (adv S)).2)).1):=⟨_,rfl⟩
 rw[<-htk7.out] at Hk7 ⊢
 have c4:=HC7.out.lt.cell 4 _ rfl
 have f4:=HC7.out.lt.free 4 (by simp)
 have cl:=HC7.out.lt.lt
 have HC8:=hid2 (HC7.out.set 4 (.int .i64 tk7.n) ⟨2,⟨#[]⟩,⟨#[]⟩,tk4.n,tk7.n,0,nilM,nilM,((hdT S.L).at_:Int)⟩ (by decide) rfl rfl rfl HC7.out.nm HC7.out.un)
 go_wp2_with fail
 clear cl c4 f4 HC7
 refine Calls.mono (qMay_c k_step ⟨ba_neL [40] (by decide),ba_neL [123] (by decide),ba_neL [41] (by decide),ba_neL [125] (by decide)⟩ _ HC8.out.re) ?_
 rintro e w19 ⟨rfl,t2,r2⟩
 have HC9:=hid2 (HC8.out.turn t2 r2)
 clear t2 r2 HC8
 rw[u]
 rw[may_not u] at HC9
 go_wp2_with fail
 refine Calls.mono (qMust_c k_sem ⟨ba_neL [40] (by decide),ba_neL [123] (by decide),ba_neL [41] (by decide),ba_neL [125] (by decide)⟩ _ HC9.out.re) ?_
 rintro e w20 ⟨rfl,t2,r2⟩
 have HC10:=hid2 (HC9.out.turn t2 r2)
 clear t2 r2 HC9
 obtain⟨Y,hY⟩:∃ Y:Array Value,Hid (Y=(itC ⟨2,⟨#[]⟩,⟨#[]⟩,tk4.n,tk7.n,0,nilM,nilM,((hdT S.L).at_:Int)⟩ (.slice none 0 0) (.slice none 0 0)).toArray):=⟨_,rfl⟩
 have sY:Y.size=19:=by rw[hY.out];rfl
 have ldY:=ld_row (X:=Y) HC10.out.lt (by rw[hY.out]) (n:=m) hm19.out
 have one0:Y.all (·.oneCell')=true:=by rw[hY.out];exact HC10.out.one
 have one:∀ v∈Y.toList,v.oneCell'=true:=fun v hv=>Array.all_eq_true_iff_forall_mem.1 one0 v (by simpa using hv)
 have stY:=st_at w.heap.size Y.toList 0 w20 _ HC10.out.rs (by simp[sY]) one
 have TF:=hid2 (putRow_turn w.heap.size Y.toList 0 w20)
 have BF:=putRow_whole HC10.out.rs (X:=Y.toList) (by simp[sY])
 have ldF:=ld_row (X:=Y) BF rfl (n:=m) (by simp[sY,hm19.out])
 have xl:=HC10.out.lt.lt
 have pl:=HC10.out.rs.lt
 have hgx:=HC10.out.gg
 clear BF one one0
 generalize hWF:putRow w20 w.heap.size 0 Y.toList=WF at *
 clear hWF
 go_wp2_with fail
 refine bodyPost_ret (v:=.agg Y) (by simp[results,Tryz.results18,go_sem, *]) rfl (hP.out _ Y ⟨2,⟨#[]⟩,⟨#[]⟩,tk4.n,tk7.n,0,nilM,nilM,((hdT S.L).at_:Int)⟩ (.slice none 0 0) (.slice none 0 0) (mustR c k_sem (takeR c 2 (mustR c k_dots (takeR c 2 (adv S)).2)).2) hY.out ?_ ?_ (HC10.out.itb TF.out) (by rw[hR.out,htk4.out,htk7.out];unfold repsR stepR;rw[if_neg (by rw[u];simp)];rfl))
 ·exact HC10.out.tn.trans TF.out (fun i hi=>.inr (by simp at hi;omega))
 ·exact HC10.out.re.turn TF.out (by simp;omega) (by simp;omega)
set_option maxHeartbeats 16000000 in
set_option maxRecDepth 20000 in
theorem qItem_letY {z rb tb:Nat}{LL:List Tk}{c:Int}{o:Nat}(hz:z<=9223372036854775807){E:Rdf}(HE:RdC z rb tb LL c o 22 E){S:Sr}(n0:isR k_metric S=false)(n1:isR k_reps S=false)(n2:isR k_cooldown S=false)(y:isR k_let S=true)(u:(mustR c k_eq (takeR c 1 (adv S)).2).good=true)(w:World)(hr:Rr z w rb tb LL c S o):
 Calls Tryz.prog 18 #[.pointer (some ⟨rb,0,none⟩)] w (IqP z w rb tb LL c o ((letR c E (hdT S.L).at_ (adv S)).1,mustR c k_sem (letR c E (hdT S.L).at_ (adv S)).2)):=by
 obtain⟨R,hR⟩:∃ R,Hid (R=((letR c E (hdT S.L).at_ (adv S)).1,mustR c k_sem (letR c E (hdT S.L).at_ (adv S)).2)):=⟨_,rfl⟩
 rw[<-hR.out]
 have hP:Hid (∀ w' Y i vx vy S',Y=(itC i vx vy).toArray->Turn [rb] w w'->Rr z w' rb tb LL c S' o->ItB w.heap.size z w' i vx vy->R=(i,S')->IqP z w rb tb LL c o R (.returned (.agg Y)) w'):=fun w' Y i vx vy S' h0 h1 h2 h3 h4=>⟨h1,⟨vx,vy,by rw[h4,h0],by rw[h4];exact h3⟩,by rw[h4];exact h2⟩
 generalize IqP z w rb tb LL c o R=Post at *
 have hl0:=hr.lts
 have hat:=hr.tl.ok.a
 have hz0:=hid2 hz
 have fl1:=fld1
 have fl2:=fld2
 obtain⟨m,hm19⟩:∃ m:Nat,Hid (m=19):=⟨_,rfl⟩
 have zs:∀ w,(sizeOf 53).run Tryz.prog w=.ok m w:=by rw[hm19.out];exact Tryz.sizeOf53
 have zm:(19=m)=True:=eq_true hm19.out.symm
 have R0:=hid2 (hr.next ((Below.refl _ _).alloc (Nat.le_refl _) (.cells zs19.toArray 53)))
 have R1:=hid2 hr
 obtain⟨X,hX⟩:∃ X:Array Value,Hid (X=(itC (it0 0 ((hdT S.L).at_:Int)) (.slice none 0 0) (.slice none 0 0)).toArray):=⟨_,rfl⟩
 have stX:=fun W=>st_it W (X:=X) (by rw[hX.out];rfl) (by rw[hX.out];kernel_rfl)
 unfold zeroI at stX
 have sX:X.size=19:=by rw[hX.out];rfl
 clear hr hz
 go_enter Tryz.func18,Tryz.ntmps18
 go_wp2_with fail
 refine Calls.mono (qAt_c _ R0.out) ?_
 rintro e w1 ⟨rfl,b1⟩
 have HC0:=hid2 (ImS.made R1.out b1 ((hdT S.L).at_:Int))
 rw[<-hX.out] at HC0
 clear b1 R0 R1
 go_wp2_with (refine wpList_it8 rfl _ rfl ((hdT S.L).at_:Int) rfl X hX.out ?_)
 clear stX sX
 obtain⟨g,hgg⟩:∃ g:Nat,Hid (g=w1.heap.size):=⟨_,rfl⟩
 rw[<-hgg.out] at HC0 ⊢
 generalize hW1:w1.alloc _=W1 at *
 clear hW1 hX hgg
 refine Calls.mono (qMay_c k_metric ⟨ba_neL [40] (by decide),ba_neL [123] (by decide),ba_neL [41] (by decide),ba_neL [125] (by decide)⟩ _ HC0.out.re) ?_
 rintro e w11 ⟨rfl,t2,r2⟩
 have HC1:=hid2 (HC0.out.turn t2 r2)
 clear t2 r2 HC0
 rw[n0]
 rw[may_not n0] at HC1
 go_wp2_with fail
 refine Calls.mono (qMay_c k_reps ⟨ba_neL [40] (by decide),ba_neL [123] (by decide),ba_neL [41] (by decide),ba_neL [125] (by decide)⟩ _ HC1.out.re) ?_
 rintro e w12 ⟨rfl,t2,r2⟩
 have HC2:=hid2 (HC1.out.turn t2 r2)
 clear t2 r2 HC1
 rw[n1]
 rw[may_not n1] at HC2
 go_wp2_with fail
 refine Calls.mono (qMay_c k_cooldown ⟨ba_neL [40] (by decide),ba_neL [123] (by decide),ba_neL [41] (by decide),ba_neL [125] (by decide)⟩ _ HC2.out.re) ?_
 rintro e w13 ⟨rfl,t2,r2⟩
 have HC3:=hid2 (HC2.out.turn t2 r2)
 clear t2 r2 HC2
 rw[n2]
 rw[may_not n2] at HC3
 go_wp2_with fail
 refine Calls.mono (qMay_c k_let ⟨ba_neL [40] (by decide),ba_neL [123] (by decide),ba_neL [41] (by decide),ba_neL [125] (by decide)⟩ _ HC3.out.re) ?_
 rintro e w14 ⟨rfl,t2,r2⟩
 have HC4:=hid2 (HC3.out.turn t2 r2)
 clear t2 r2 HC3
 rw[y]
 rw[may_adv y] at HC4
 have c0:=HC4.out.lt.cell 0 _ rfl
 have f0:=HC4.out.lt.free 0 (by simp)
 have cl:=HC4.out.lt.lt
 have HC5:=hid2 (HC4.out.set 0 (.int .i64 5) ⟨5,⟨#[]⟩,⟨#[]⟩,0,0,0,nilM,nilM,((hdT S.L).at_:Int)⟩ (by decide) rfl rfl rfl HC4.out.nm HC4.out.un)
 go_wp2_with fail
 clear cl c0 f0 HC4
 refine Calls.mono (qTake_c 1 (by decide) _ HC5.out.re) ?_
 rintro e w16 ⟨rfl,t2,r2⟩
 have Hk6:=hid2 (take_tk (c:=c) (k:=1) HC5.out.re.tl)
 have HC6:=hid2 (HC5.out.turn t2 r2)
 clear t2 r2 HC5
 simp only[tkW]
 obtain⟨tk6,htk6⟩:∃ tk,Hid (tk=(takeR c 1 (adv S)).1):=⟨_,rfl⟩
 rw[<-htk6.out] at Hk6 ⊢
 have c1:=HC6.out.lt.cell 1 _ rfl
 have f1:=HC6.out.lt.free 1 (by simp)
 have cl:=HC6.out.lt.lt
 have HC7:=hid2 (HC6.out.set 1 (.string tk6.text) ⟨5,tk6.text,⟨#[]⟩,0,0,0,nilM,nilM,((hdT S.L).at_:Int)⟩ (by decide) rfl rfl rfl Hk6.out.1 HC6.out.un)
 go_wp2_with fail
 clear cl c1 f1 HC6
 refine Calls.mono (qMust_c k_eq ⟨ba_neL [40] (by decide),ba_neL [123] (by decide),ba_neL [41] (by decide),ba_neL [125] (by decide)⟩ _ HC7.out.re) ?_
 rintro e w18 ⟨rfl,t2,r2⟩
 have HC8:=hid2 (HC7.out.turn t2 r2)
 clear t2 r2 HC7
 obtain⟨er,e4,el,eg⟩:=HC8.out.re.errc
 rw[u] at eg
 obtain rfl:er=0:=by simpa using eg.symm
 clear eg
 go_wp2_with fail
 clear e4 el
 refine Calls.mono (HE (mustR c k_eq (takeR c 1 (adv S)).2) _ HC8.out.re) ?_
 rintro e w19 ⟨t4,⟨v,rfl,u9,rfl,s4⟩,r4⟩
 have HC9:=hid2 (HC8.out.turn t4 r4)
 have hsz9:=HC8.out.lt.lt
 have hgg9:=HC8.out.gg
 have S9x:Hid (SitQ (fun b=>w.heap.size<b/\b≠g) z w19 (E (mustR c k_eq (takeR c 1 (adv S)).2)).1 u9):=s4.weak (fun b _ hb=>by have hb':_<=b:=hb;omega)
 clear HC8
 obtain⟨ad9,cp9,rfl,-,-⟩:=s4.parts.shape
 simp only[tmV]
 clear t4 r4 s4
 obtain⟨x0,x1,x2,x3,x4,x5,y0,y1,y2,y3,y4,y5⟩:=HC9.out.lt.cells_at 6 _ _ _ _ _ _ rfl rfl rfl rfl rfl rfl
 have xl:=HC9.out.lt.lt
 have HC10:=hid2 (HC9.out.setX S9x.out)
 go_wp2_with fail
 clear HC9 S9x hsz9 hgg9 xl x0 x1 x2 x3 x4 x5 y0 y1 y2 y3 y4 y5
 refine Calls.mono (qMust_c k_sem ⟨ba_neL [40] (by decide),ba_neL [123] (by decide),ba_neL [41] (by decide),ba_neL [125] (by decide)⟩ _ HC10.out.re) ?_
 rintro e w21 ⟨rfl,t2,r2⟩
 have HC11:=hid2 (HC10.out.turn t2 r2)
 clear t2 r2 HC10
 obtain⟨Y,hY⟩:∃ Y:Array Value,Hid (Y=(itC ⟨5,tk6.text,⟨#[]⟩,0,0,0,(E (mustR c k_eq (takeR c 1 (adv S)).2)).1,nilM,((hdT S.L).at_:Int)⟩ (.slice ad9 (E (mustR c k_eq (takeR c 1 (adv S)).2)).1.parts.length cp9) (.slice none 0 0)).toArray):=⟨_,rfl⟩
 have sY:Y.size=19:=by rw[hY.out];rfl
 have ldY:=ld_row (X:=Y) HC11.out.lt (by rw[hY.out]) (n:=m) hm19.out
 have one0:Y.all (·.oneCell')=true:=by rw[hY.out];exact HC11.out.one
 have one:∀ v∈Y.toList,v.oneCell'=true:=fun v hv=>Array.all_eq_true_iff_forall_mem.1 one0 v (by simpa using hv)
 have stY:=st_at w.heap.size Y.toList 0 w21 _ HC11.out.rs (by simp[sY]) one
 have TF:=hid2 (putRow_turn w.heap.size Y.toList 0 w21)
 have BF:=putRow_whole HC11.out.rs (X:=Y.toList) (by simp[sY])
 have ldF:=ld_row (X:=Y) BF rfl (n:=m) (by simp[sY,hm19.out])
 have xl:=HC11.out.lt.lt
 have pl:=HC11.out.rs.lt
 have hgx:=HC11.out.gg
 clear BF one one0
 generalize hWF:putRow w21 w.heap.size 0 Y.toList=WF at *
 clear hWF
 go_wp2_with fail
 refine bodyPost_ret (v:=.agg Y) (by simp[results,Tryz.results18,go_sem, *]) rfl (hP.out _ Y ⟨5,tk6.text,⟨#[]⟩,0,0,0,(E (mustR c k_eq (takeR c 1 (adv S)).2)).1,nilM,((hdT S.L).at_:Int)⟩ (.slice ad9 (E (mustR c k_eq (takeR c 1 (adv S)).2)).1.parts.length cp9) (.slice none 0 0) (mustR c k_sem (E (mustR c k_eq (takeR c 1 (adv S)).2)).2) hY.out ?_ ?_ (HC11.out.itb TF.out) (by rw[hR.out,htk6.out];unfold letR okR;rw[if_pos u];rfl))
 ·exact HC11.out.tn.trans TF.out (fun i hi=>.inr (by simp at hi;omega))
 ·exact HC11.out.re.turn TF.out (by simp;omega) (by simp;omega)
set_option maxHeartbeats 16000000 in
set_option maxRecDepth 20000 in
theorem qItem_letN {z rb tb:Nat}{LL:List Tk}{c:Int}{o:Nat}(hz:z<=9223372036854775807){E:Rdf}{S:Sr}(n0:isR k_metric S=false)(n1:isR k_reps S=false)(n2:isR k_cooldown S=false)(y:isR k_let S=true)(u:(mustR c k_eq (takeR c 1 (adv S)).2).good=false)(w:World)(hr:Rr z w rb tb LL c S o):
 Calls Tryz.prog 18 #[.pointer (some ⟨rb,0,none⟩)] w (IqP z w rb tb LL c o ((letR c E (hdT S.L).at_ (adv S)).1,mustR c k_sem (letR c E (hdT S.L).at_ (adv S)).2)):=by
 obtain⟨R,hR⟩:∃ R,Hid (R=((letR c E (hdT S.L).at_ (adv S)).1,mustR c k_sem (letR c E (hdT S.L).at_ (adv S)).2)):=⟨_,rfl⟩
 rw[<-hR.out]
 have hP:Hid (∀ w' Y i vx vy S',Y=(itC i vx vy).toArray->Turn [rb] w w'->Rr z w' rb tb LL c S' o->ItB w.heap.size z w' i vx vy->R=(i,S')->IqP z w rb tb LL c o R (.returned (.agg Y)) w'):=fun w' Y i vx vy S' h0 h1 h2 h3 h4=>⟨h1,⟨vx,vy,by rw[h4,h0],by rw[h4];exact h3⟩,by rw[h4];exact h2⟩
 generalize IqP z w rb tb LL c o R=Post at *
 have hl0:=hr.lts
 have hat:=hr.tl.ok.a
 have hz0:=hid2 hz
 have fl1:=fld1
 have fl2:=fld2
 obtain⟨m,hm19⟩:∃ m:Nat,Hid (m=19):=⟨_,rfl⟩
 have zs:∀ w,(sizeOf 53).run Tryz.prog w=.ok m w:=by rw[hm19.out];exact Tryz.sizeOf53
 have zm:(19=m)=True:=eq_true hm19.out.symm
 have R0:=hid2 (hr.next ((Below.refl _ _).alloc (Nat.le_refl _) (.cells zs19.toArray 53)))
 have R1:=hid2 hr
 obtain⟨X,hX⟩:∃ X:Array Value,Hid (X=(itC (it0 0 ((hdT S.L).at_:Int)) (.slice none 0 0) (.slice none 0 0)).toArray):=⟨_,rfl⟩
 have stX:=fun W=>st_it W (X:=X) (by rw[hX.out];rfl) (by rw[hX.out];kernel_rfl)
 unfold zeroI at stX
 have sX:X.size=19:=by rw[hX.out];rfl
 clear hr hz
 go_enter Tryz.func18,Tryz.ntmps18
 go_wp2_with fail
 refine Calls.mono (qAt_c _ R0.out) ?_
 rintro e w1 ⟨rfl,b1⟩
 have HC0:=hid2 (ImS.made R1.out b1 ((hdT S.L).at_:Int))
 rw[<-hX.out] at HC0
 clear b1 R0 R1
 go_wp2_with (refine wpList_it8 rfl _ rfl ((hdT S.L).at_:Int) rfl X hX.out ?_)
 clear stX sX
 obtain⟨g,hgg⟩:∃ g:Nat,Hid (g=w1.heap.size):=⟨_,rfl⟩
 rw[<-hgg.out] at HC0 ⊢
 generalize hW1:w1.alloc _=W1 at *
 clear hW1 hX hgg
 refine Calls.mono (qMay_c k_metric ⟨ba_neL [40] (by decide),ba_neL [123] (by decide),ba_neL [41] (by decide),ba_neL [125] (by decide)⟩ _ HC0.out.re) ?_
 rintro e w11 ⟨rfl,t2,r2⟩
 have HC1:=hid2 (HC0.out.turn t2 r2)
 clear t2 r2 HC0
 rw[n0]
 rw[may_not n0] at HC1
 go_wp2_with fail
 refine Calls.mono (qMay_c k_reps ⟨ba_neL [40] (by decide),ba_neL [123] (by decide),ba_neL [41] (by decide),ba_neL [125] (by decide)⟩ _ HC1.out.re) ?_
 rintro e w12 ⟨rfl,t2,r2⟩
 have HC2:=hid2 (HC1.out.turn t2 r2)
 clear t2 r2 HC1
 rw[n1]
 rw[may_not n1] at HC2
 go_wp2_with fail
 refine Calls.mono (qMay_c k_cooldown ⟨ba_neL [40] (by decide),ba_neL [123] (by decide),ba_neL [41] (by decide),ba_neL [125] (by decide)⟩ _ HC2.out.re) ?_
 rintro e w13 ⟨rfl,t2,r2⟩
 have HC3:=hid2 (HC2.out.turn t2 r2)
 clear t2 r2 HC2
 rw[n2]
 rw[may_not n2] at HC3
 go_wp2_with fail
 refine Calls.mono (qMay_c k_let ⟨ba_neL [40] (by decide),ba_neL [123] (by decide),ba_neL [41] (by decide),ba_neL [125] (by decide)⟩ _ HC3.out.re) ?_
 rintro e w14 ⟨rfl,t2,r2⟩
 have HC4:=hid2 (HC3.out.turn t2 r2)
 clear t2 r2 HC3
 rw[y]
 rw[may_adv y] at HC4
 have c0:=HC4.out.lt.cell 0 _ rfl
 have f0:=HC4.out.lt.free 0 (by simp)
 have cl:=HC4.out.lt.lt
 have HC5:=hid2 (HC4.out.set 0 (.int .i64 5) ⟨5,⟨#[]⟩,⟨#[]⟩,0,0,0,nilM,nilM,((hdT S.L).at_:Int)⟩ (by decide) rfl rfl rfl HC4.out.nm HC4.out.un)
 go_wp2_with fail
 clear cl c0 f0 HC4
 refine Calls.mono (qTake_c 1 (by decide) _ HC5.out.re) ?_
 rintro e w16 ⟨rfl,t2,r2⟩
 have Hk6:=hid2 (take_tk (c:=c) (k:=1) HC5.out.re.tl)
 have HC6:=hid2 (HC5.out.turn t2 r2)
 clear t2 r2 HC5
 simp only[tkW]
 obtain⟨tk6,htk6⟩:∃ tk,Hid (tk=(takeR c 1 (adv S)).1):=⟨_,rfl⟩
 rw[<-htk6.out] at Hk6 ⊢
 have c1:=HC6.out.lt.cell 1 _ rfl
 have f1:=HC6.out.lt.free 1 (by simp)
 have cl:=HC6.out.lt.lt
 have HC7:=hid2 (HC6.out.set 1 (.string tk6.text) ⟨5,tk6.text,⟨#[]⟩,0,0,0,nilM,nilM,((hdT S.L).at_:Int)⟩ (by decide) rfl rfl rfl Hk6.out.1 HC6.out.un)
 go_wp2_with fail
 clear cl c1 f1 HC6
 refine Calls.mono (qMust_c k_eq ⟨ba_neL [40] (by decide),ba_neL [123] (by decide),ba_neL [41] (by decide),ba_neL [125] (by decide)⟩ _ HC7.out.re) ?_
 rintro e w18 ⟨rfl,t2,r2⟩
 have HC8:=hid2 (HC7.out.turn t2 r2)
 clear t2 r2 HC7
 obtain⟨er,e4,el,eg⟩:=HC8.out.re.errc
 rw[u] at eg
 have er0:¬ er=0:=by intro h;rw[h] at eg;simp at eg
 have k0:(er==0)=false:=by simpa using er0
 clear eg
 go_wp2_with fail
 clear e4 el
 refine Calls.mono (qMust_c k_sem ⟨ba_neL [40] (by decide),ba_neL [123] (by decide),ba_neL [41] (by decide),ba_neL [125] (by decide)⟩ _ HC8.out.re) ?_
 rintro e w19 ⟨rfl,t2,r2⟩
 have HC9:=hid2 (HC8.out.turn t2 r2)
 clear t2 r2 HC8
 obtain⟨Y,hY⟩:∃ Y:Array Value,Hid (Y=(itC ⟨5,tk6.text,⟨#[]⟩,0,0,0,nilM,nilM,((hdT S.L).at_:Int)⟩ (.slice none 0 0) (.slice none 0 0)).toArray):=⟨_,rfl⟩
 have sY:Y.size=19:=by rw[hY.out];rfl
 have ldY:=ld_row (X:=Y) HC9.out.lt (by rw[hY.out]) (n:=m) hm19.out
 have one0:Y.all (·.oneCell')=true:=by rw[hY.out];exact HC9.out.one
 have one:∀ v∈Y.toList,v.oneCell'=true:=fun v hv=>Array.all_eq_true_iff_forall_mem.1 one0 v (by simpa using hv)
 have stY:=st_at w.heap.size Y.toList 0 w19 _ HC9.out.rs (by simp[sY]) one
 have TF:=hid2 (putRow_turn w.heap.size Y.toList 0 w19)
 have BF:=putRow_whole HC9.out.rs (X:=Y.toList) (by simp[sY])
 have ldF:=ld_row (X:=Y) BF rfl (n:=m) (by simp[sY,hm19.out])
 have xl:=HC9.out.lt.lt
 have pl:=HC9.out.rs.lt
 have hgx:=HC9.out.gg
 clear BF one one0
 generalize hWF:putRow w19 w.heap.size 0 Y.toList=WF at *
 clear hWF
 go_wp2_with fail
 refine bodyPost_ret (v:=.agg Y) (by simp[results,Tryz.results18,go_sem, *]) rfl (hP.out _ Y ⟨5,tk6.text,⟨#[]⟩,0,0,0,nilM,nilM,((hdT S.L).at_:Int)⟩ (.slice none 0 0) (.slice none 0 0) (mustR c k_sem (mustR c k_eq (takeR c 1 (adv S)).2)) hY.out ?_ ?_ (HC9.out.itb TF.out) (by rw[hR.out,htk6.out];unfold letR okR;rw[if_neg (by rw[u];simp)];rfl))
 ·exact HC9.out.tn.trans TF.out (fun i hi=>.inr (by simp at hi;omega))
 ·exact HC9.out.re.turn TF.out (by simp;omega) (by simp;omega)
set_option maxHeartbeats 16000000 in
set_option maxRecDepth 20000 in
theorem qItem_guardY {z rb tb:Nat}{LL:List Tk}{c:Int}{o:Nat}(hz:z<=9223372036854775807){E A:Rdf}(HE:RdC z rb tb LL c o 22 E)(HA:RdC z rb tb LL c o 34 A){S:Sr}(n0:isR k_metric S=false)(n1:isR k_reps S=false)(n2:isR k_cooldown S=false)(n3:isR k_let S=false)(y:isR k_guard S=true)(u:(mustR c k_then (E (adv S)).2).good=true)(w:World)(hr:Rr z w rb tb LL c S o):
 Calls Tryz.prog 18 #[.pointer (some ⟨rb,0,none⟩)] w (IqP z w rb tb LL c o ((guardR c E A (hdT S.L).at_ (adv S)).1,mustR c k_sem (guardR c E A (hdT S.L).at_ (adv S)).2)):=by
 obtain⟨R,hR⟩:∃ R,Hid (R=((guardR c E A (hdT S.L).at_ (adv S)).1,mustR c k_sem (guardR c E A (hdT S.L).at_ (adv S)).2)):=⟨_,rfl⟩
 rw[<-hR.out]
 have hP:Hid (∀ w' Y i vx vy S',Y=(itC i vx vy).toArray->Turn [rb] w w'->Rr z w' rb tb LL c S' o->ItB w.heap.size z w' i vx vy->R=(i,S')->IqP z w rb tb LL c o R (.returned (.agg Y)) w'):=fun w' Y i vx vy S' h0 h1 h2 h3 h4=>⟨h1,⟨vx,vy,by rw[h4,h0],by rw[h4];exact h3⟩,by rw[h4];exact h2⟩
 generalize IqP z w rb tb LL c o R=Post at *
 have hl0:=hr.lts
 have hat:=hr.tl.ok.a
 have hz0:=hid2 hz
 have fl1:=fld1
 have fl2:=fld2
 obtain⟨m,hm19⟩:∃ m:Nat,Hid (m=19):=⟨_,rfl⟩
 have zs:∀ w,(sizeOf 53).run Tryz.prog w=.ok m w:=by rw[hm19.out];exact Tryz.sizeOf53
 have zm:(19=m)=True:=eq_true hm19.out.symm
 have R0:=hid2 (hr.next ((Below.refl _ _).alloc (Nat.le_refl _) (.cells zs19.toArray 53)))
 have R1:=hid2 hr
 obtain⟨X,hX⟩:∃ X:Array Value,Hid (X=(itC (it0 0 ((hdT S.L).at_:Int)) (.slice none 0 0) (.slice none 0 0)).toArray):=⟨_,rfl⟩
 have stX:=fun W=>st_it W (X:=X) (by rw[hX.out];rfl) (by rw[hX.out];kernel_rfl)
 unfold zeroI at stX
 have sX:X.size=19:=by rw[hX.out];rfl
 clear hr hz
 go_enter Tryz.func18,Tryz.ntmps18
 go_wp2_with fail
 refine Calls.mono (qAt_c _ R0.out) ?_
 rintro e w1 ⟨rfl,b1⟩
 have HC0:=hid2 (ImS.made R1.out b1 ((hdT S.L).at_:Int))
 rw[<-hX.out] at HC0
 clear b1 R0 R1
 go_wp2_with (refine wpList_it8 rfl _ rfl ((hdT S.L).at_:Int) rfl X hX.out ?_)
 clear stX sX
 obtain⟨g,hgg⟩:∃ g:Nat,Hid (g=w1.heap.size):=⟨_,rfl⟩
 rw[<-hgg.out] at HC0 ⊢
 generalize hW1:w1.alloc _=W1 at *
 clear hW1 hX hgg
 refine Calls.mono (qMay_c k_metric ⟨ba_neL [40] (by decide),ba_neL [123] (by decide),ba_neL [41] (by decide),ba_neL [125] (by decide)⟩ _ HC0.out.re) ?_
 rintro e w11 ⟨rfl,t2,r2⟩
 have HC1:=hid2 (HC0.out.turn t2 r2)
 clear t2 r2 HC0
 rw[n0]
 rw[may_not n0] at HC1
 go_wp2_with fail
 refine Calls.mono (qMay_c k_reps ⟨ba_neL [40] (by decide),ba_neL [123] (by decide),ba_neL [41] (by decide),ba_neL [125] (by decide)⟩ _ HC1.out.re) ?_
 rintro e w12 ⟨rfl,t2,r2⟩
 have HC2:=hid2 (HC1.out.turn t2 r2)
 clear t2 r2 HC1
 rw[n1]
 rw[may_not n1] at HC2
 go_wp2_with fail
 refine Calls.mono (qMay_c k_cooldown ⟨ba_neL [40] (by decide),ba_neL [123] (by decide),ba_neL [41] (by decide),ba_neL [125] (by decide)⟩ _ HC2.out.re) ?_
 rintro e w13 ⟨rfl,t2,r2⟩
 have HC3:=hid2 (HC2.out.turn t2 r2)
 clear t2 r2 HC2
 rw[n2]
 rw[may_not n2] at HC3
 go_wp2_with fail
 refine Calls.mono (qMay_c k_let ⟨ba_neL [40] (by decide),ba_neL [123] (by decide),ba_neL [41] (by decide),ba_neL [125] (by decide)⟩ _ HC3.out.re) ?_
 rintro e w14 ⟨rfl,t2,r2⟩
 have HC4:=hid2 (HC3.out.turn t2 r2)
 clear t2 r2 HC3
 rw[n3]
 rw[may_not n3] at HC4
 go_wp2_with fail
 refine Calls.mono (qMay_c k_guard ⟨ba_neL [40] (by decide),ba_neL [123] (by decide),ba_neL [41] (by decide),ba_neL [125] (by decide)⟩ _ HC4.out.re) ?_
 rintro e w15 ⟨rfl,t2,r2⟩
 have HC5:=hid2 (HC4.out.turn t2 r2)
 clear t2 r2 HC4
 rw[y]
 rw[may_adv y] at HC5
 have c0:=HC5.out.lt.cell 0 _ rfl
 have f0:=HC5.out.lt.free 0 (by simp)
 have cl:=HC5.out.lt.lt
 have HC6:=hid2 (HC5.out.set 0 (.int .i64 6) ⟨6,⟨#[]⟩,⟨#[]⟩,0,0,0,nilM,nilM,((hdT S.L).at_:Int)⟩ (by decide) rfl rfl rfl HC5.out.nm HC5.out.un)
 go_wp2_with fail
 clear cl c0 f0 HC5
 refine Calls.mono (HE (adv S) _ HC6.out.re) ?_
 rintro e w17 ⟨t4,⟨v,rfl,u7,rfl,s4⟩,r4⟩
 have HC7:=hid2 (HC6.out.turn t4 r4)
 have hsz7:=HC6.out.lt.lt
 have hgg7:=HC6.out.gg
 have S7x:Hid (SitQ (fun b=>w.heap.size<b/\b≠g) z w17 (E (adv S)).1 u7):=s4.weak (fun b _ hb=>by have hb':_<=b:=hb;omega)
 clear HC6
 obtain⟨ad7,cp7,rfl,-,-⟩:=s4.parts.shape
 simp only[tmV]
 clear t4 r4 s4
 obtain⟨x0,x1,x2,x3,x4,x5,y0,y1,y2,y3,y4,y5⟩:=HC7.out.lt.cells_at 6 _ _ _ _ _ _ rfl rfl rfl rfl rfl rfl
 have xl:=HC7.out.lt.lt
 have HC8:=hid2 (HC7.out.setX S7x.out)
 go_wp2_with fail
 clear HC7 S7x hsz7 hgg7 xl x0 x1 x2 x3 x4 x5 y0 y1 y2 y3 y4 y5
 refine Calls.mono (qMust_c k_then ⟨ba_neL [40] (by decide),ba_neL [123] (by decide),ba_neL [41] (by decide),ba_neL [125] (by decide)⟩ _ HC8.out.re) ?_
 rintro e w19 ⟨rfl,t2,r2⟩
 have HC9:=hid2 (HC8.out.turn t2 r2)
 clear t2 r2 HC8
 obtain⟨er,e4,el,eg⟩:=HC9.out.re.errc
 rw[u] at eg
 obtain rfl:er=0:=by simpa using eg.symm
 clear eg
 go_wp2_with fail
 clear e4 el
 refine Calls.mono (HA (mustR c k_then (E (adv S)).2) _ HC9.out.re) ?_
 rintro e w20 ⟨t4,⟨v,rfl,u10,rfl,s4⟩,r4⟩
 have HC10:=hid2 (HC9.out.turn t4 r4)
 have hsz10:=HC9.out.lt.lt
 have hgg10:=HC9.out.gg
 have S10x:Hid (SitQ (fun b=>w.heap.size<b/\b≠g) z w20 (A (mustR c k_then (E (adv S)).2)).1 u10):=s4.weak (fun b _ hb=>by have hb':_<=b:=hb;omega)
 clear HC9
 obtain⟨ad10,cp10,rfl,-,-⟩:=s4.parts.shape
 simp only[tmV]
 clear t4 r4 s4
 obtain⟨x0,x1,x2,x3,x4,x5,y0,y1,y2,y3,y4,y5⟩:=HC10.out.lt.cells_at 12 _ _ _ _ _ _ rfl rfl rfl rfl rfl rfl
 have xl:=HC10.out.lt.lt
 have HC11:=hid2 (HC10.out.setY S10x.out)
 go_wp2_with fail
 clear HC10 S10x hsz10 hgg10 xl x0 x1 x2 x3 x4 x5 y0 y1 y2 y3 y4 y5
 refine Calls.mono (qMust_c k_sem ⟨ba_neL [40] (by decide),ba_neL [123] (by decide),ba_neL [41] (by decide),ba_neL [125] (by decide)⟩ _ HC11.out.re) ?_
 rintro e w22 ⟨rfl,t2,r2⟩
 have HC12:=hid2 (HC11.out.turn t2 r2)
 clear t2 r2 HC11
 obtain⟨Y,hY⟩:∃ Y:Array Value,Hid (Y=(itC ⟨6,⟨#[]⟩,⟨#[]⟩,0,0,0,(E (adv S)).1,(A (mustR c k_then (E (adv S)).2)).1,((hdT S.L).at_:Int)⟩ (.slice ad7 (E (adv S)).1.parts.length cp7) (.slice ad10 (A (mustR c k_then (E (adv S)).2)).1.parts.length cp10)).toArray):=⟨_,rfl⟩
 have sY:Y.size=19:=by rw[hY.out];rfl
 have ldY:=ld_row (X:=Y) HC12.out.lt (by rw[hY.out]) (n:=m) hm19.out
 have one0:Y.all (·.oneCell')=true:=by rw[hY.out];exact HC12.out.one
 have one:∀ v∈Y.toList,v.oneCell'=true:=fun v hv=>Array.all_eq_true_iff_forall_mem.1 one0 v (by simpa using hv)
 have stY:=st_at w.heap.size Y.toList 0 w22 _ HC12.out.rs (by simp[sY]) one
 have TF:=hid2 (putRow_turn w.heap.size Y.toList 0 w22)
 have BF:=putRow_whole HC12.out.rs (X:=Y.toList) (by simp[sY])
 have ldF:=ld_row (X:=Y) BF rfl (n:=m) (by simp[sY,hm19.out])
 have xl:=HC12.out.lt.lt
 have pl:=HC12.out.rs.lt
 have hgx:=HC12.out.gg
 clear BF one one0
 generalize hWF:putRow w22 w.heap.size 0 Y.toList=WF at *
 clear hWF
 go_wp2_with fail
 refine bodyPost_ret (v:=.agg Y) (by simp[results,Tryz.results18,go_sem, *]) rfl (hP.out _ Y ⟨6,⟨#[]⟩,⟨#[]⟩,0,0,0,(E (adv S)).1,(A (mustR c k_then (E (adv S)).2)).1,((hdT S.L).at_:Int)⟩ (.slice ad7 (E (adv S)).1.parts.length cp7) (.slice ad10 (A (mustR c k_then (E (adv S)).2)).1.parts.length cp10) (mustR c k_sem (A (mustR c k_then (E (adv S)).2)).2) hY.out ?_ ?_ (HC12.out.itb TF.out) (by rw[hR.out];unfold guardR okR;rw[if_pos u];rfl))
 ·exact HC12.out.tn.trans TF.out (fun i hi=>.inr (by simp at hi;omega))
 ·exact HC12.out.re.turn TF.out (by simp;omega) (by simp;omega)
set_option maxHeartbeats 16000000 in
set_option maxRecDepth 20000 in
theorem qItem_guardN {z rb tb:Nat}{LL:List Tk}{c:Int}{o:Nat}(hz:z<=9223372036854775807){E A:Rdf}(HE:RdC z rb tb LL c o 22 E){S:Sr}(n0:isR k_metric S=false)(n1:isR k_reps S=false)(n2:isR k_cooldown S=false)(n3:isR k_let S=false)(y:isR k_guard S=true)(u:(mustR c k_then (E (adv S)).2).good=false)(w:World)(hr:Rr z w rb tb LL c S o):
 Calls Tryz.prog 18 #[.pointer (some ⟨rb,0,none⟩)] w (IqP z w rb tb LL c o ((guardR c E A (hdT S.L).at_ (adv S)).1,mustR c k_sem (guardR c E A (hdT S.L).at_ (adv S)).2)):=by
 obtain⟨R,hR⟩:∃ R,Hid (R=((guardR c E A (hdT S.L).at_ (adv S)).1,mustR c k_sem (guardR c E A (hdT S.L).at_ (adv S)).2)):=⟨_,rfl⟩
 rw[<-hR.out]
 have hP:Hid (∀ w' Y i vx vy S',Y=(itC i vx vy).toArray->Turn [rb] w w'->Rr z w' rb tb LL c S' o->ItB w.heap.size z w' i vx vy->R=(i,S')->IqP z w rb tb LL c o R (.returned (.agg Y)) w'):=fun w' Y i vx vy S' h0 h1 h2 h3 h4=>⟨h1,⟨vx,vy,by rw[h4,h0],by rw[h4];exact h3⟩,by rw[h4];exact h2⟩
 generalize IqP z w rb tb LL c o R=Post at *
 have hl0:=hr.lts
 have hat:=hr.tl.ok.a
 have hz0:=hid2 hz
 have fl1:=fld1
 have fl2:=fld2
 obtain⟨m,hm19⟩:∃ m:Nat,Hid (m=19):=⟨_,rfl⟩
 have zs:∀ w,(sizeOf 53).run Tryz.prog w=.ok m w:=by rw[hm19.out];exact Tryz.sizeOf53
 have zm:(19=m)=True:=eq_true hm19.out.symm
 have R0:=hid2 (hr.next ((Below.refl _ _).alloc (Nat.le_refl _) (.cells zs19.toArray 53)))
 have R1:=hid2 hr
 obtain⟨X,hX⟩:∃ X:Array Value,Hid (X=(itC (it0 0 ((hdT S.L).at_:Int)) (.slice none 0 0) (.slice none 0 0)).toArray):=⟨_,rfl⟩
 have stX:=fun W=>st_it W (X:=X) (by rw[hX.out];rfl) (by rw[hX.out];kernel_rfl)
 unfold zeroI at stX
 have sX:X.size=19:=by rw[hX.out];rfl
 clear hr hz
 go_enter Tryz.func18,Tryz.ntmps18
 go_wp2_with fail
 refine Calls.mono (qAt_c _ R0.out) ?_
 rintro e w1 ⟨rfl,b1⟩
 have HC0:=hid2 (ImS.made R1.out b1 ((hdT S.L).at_:Int))
 rw[<-hX.out] at HC0
 clear b1 R0 R1
 go_wp2_with (refine wpList_it8 rfl _ rfl ((hdT S.L).at_:Int) rfl X hX.out ?_)
 clear stX sX
 obtain⟨g,hgg⟩:∃ g:Nat,Hid (g=w1.heap.size):=⟨_,rfl⟩
 rw[<-hgg.out] at HC0 ⊢
 generalize hW1:w1.alloc _=W1 at *
 clear hW1 hX hgg
 refine Calls.mono (qMay_c k_metric ⟨ba_neL [40] (by decide),ba_neL [123] (by decide),ba_neL [41] (by decide),ba_neL [125] (by decide)⟩ _ HC0.out.re) ?_
 rintro e w11 ⟨rfl,t2,r2⟩
 have HC1:=hid2 (HC0.out.turn t2 r2)
 clear t2 r2 HC0
 rw[n0]
 rw[may_not n0] at HC1
 go_wp2_with fail
 refine Calls.mono (qMay_c k_reps ⟨ba_neL [40] (by decide),ba_neL [123] (by decide),ba_neL [41] (by decide),ba_neL [125] (by decide)⟩ _ HC1.out.re) ?_
 rintro e w12 ⟨rfl,t2,r2⟩
 have HC2:=hid2 (HC1.out.turn t2 r2)
 clear t2 r2 HC1
 rw[n1]
 rw[may_not n1] at HC2
 go_wp2_with fail
 refine Calls.mono (qMay_c k_cooldown ⟨ba_neL [40] (by decide),ba_neL [123] (by decide),ba_neL [41] (by decide),ba_neL [125] (by decide)⟩ _ HC2.out.re) ?_
 rintro e w13 ⟨rfl,t2,r2⟩
 have HC3:=hid2 (HC2.out.turn t2 r2)
 clear t2 r2 HC2
 rw[n2]
 rw[may_not n2] at HC3
 go_wp2_with fail
 refine Calls.mono (qMay_c k_let ⟨ba_neL [40] (by decide),ba_neL [123] (by decide),ba_neL [41] (by decide),ba_neL [125] (by decide)⟩ _ HC3.out.re) ?_
 rintro e w14 ⟨rfl,t2,r2⟩
 have HC4:=hid2 (HC3.out.turn t2 r2)
 clear t2 r2 HC3
 rw[n3]
 rw[may_not n3] at HC4
 go_wp2_with fail
 refine Calls.mono (qMay_c k_guard ⟨ba_neL [40] (by decide),ba_neL [123] (by decide),ba_neL [41] (by decide),ba_neL [125] (by decide)⟩ _ HC4.out.re) ?_
 rintro e w15 ⟨rfl,t2,r2⟩
 have HC5:=hid2 (HC4.out.turn t2 r2)
 clear t2 r2 HC4
 rw[y]
 rw[may_adv y] at HC5
 have c0:=HC5.out.lt.cell 0 _ rfl
 have f0:=HC5.out.lt.free 0 (by simp)
 have cl:=HC5.out.lt.lt
 have HC6:=hid2 (HC5.out.set 0 (.int .i64 6) ⟨6,⟨#[]⟩,⟨#[]⟩,0,0,0,nilM,nilM,((hdT S.L).at_:Int)⟩ (by decide) rfl rfl rfl HC5.out.nm HC5.out.un)
 go_wp2_with fail
 clear cl c0 f0 HC5
 refine Calls.mono (HE (adv S) _ HC6.out.re) ?_
 rintro e w17 ⟨t4,⟨v,rfl,u7,rfl,s4⟩,r4⟩
 have HC7:=hid2 (HC6.out.turn t4 r4)
 have hsz7:=HC6.out.lt.lt
 have hgg7:=HC6.out.gg
 have S7x:Hid (SitQ (fun b=>w.heap.size<b/\b≠g) z w17 (E (adv S)).1 u7):=s4.weak (fun b _ hb=>by have hb':_<=b:=hb;omega)
 clear HC6
 obtain⟨ad7,cp7,rfl,-,-⟩:=s4.parts.shape
 simp only[tmV]
 clear t4 r4 s4
 obtain⟨x0,x1,x2,x3,x4,x5,y0,y1,y2,y3,y4,y5⟩:=HC7.out.lt.cells_at 6 _ _ _ _ _ _ rfl rfl rfl rfl rfl rfl
 have xl:=HC7.out.lt.lt
 have HC8:=hid2 (HC7.out.setX S7x.out)
 go_wp2_with fail
 clear HC7 S7x hsz7 hgg7 xl x0 x1 x2 x3 x4 x5 y0 y1 y2 y3 y4 y5
 refine Calls.mono (qMust_c k_then ⟨ba_neL [40] (by decide),ba_neL [123] (by decide),ba_neL [41] (by decide),ba_neL [125] (by decide)⟩ _ HC8.out.re) ?_
 rintro e w19 ⟨rfl,t2,r2⟩
 have HC9:=hid2 (HC8.out.turn t2 r2)
 clear t2 r2 HC8
 obtain⟨er,e4,el,eg⟩:=HC9.out.re.errc
 rw[u] at eg
 have er0:¬ er=0:=by intro h;rw[h] at eg;simp at eg
 have k0:(er==0)=false:=by simpa using er0
 clear eg
 go_wp2_with fail
 clear e4 el
 refine Calls.mono (qMust_c k_sem ⟨ba_neL [40] (by decide),ba_neL [123] (by decide),ba_neL [41] (by decide),ba_neL [125] (by decide)⟩ _ HC9.out.re) ?_
 rintro e w20 ⟨rfl,t2,r2⟩
 have HC10:=hid2 (HC9.out.turn t2 r2)
 clear t2 r2 HC9
 obtain⟨Y,hY⟩:∃ Y:Array Value,Hid (Y=(itC ⟨6,⟨#[]⟩,⟨#[]⟩,0,0,0,(E (adv S)).1,nilM,((hdT S.L).at_:Int)⟩ (.slice ad7 (E (adv S)).1.parts.length cp7) (.slice none 0 0)).toArray):=⟨_,rfl⟩
 have sY:Y.size=19:=by rw[hY.out];rfl
 have ldY:=ld_row (X:=Y) HC10.out.lt (by rw[hY.out]) (n:=m) hm19.out
 have one0:Y.all (·.oneCell')=true:=by rw[hY.out];exact HC10.out.one
 have one:∀ v∈Y.toList,v.oneCell'=true:=fun v hv=>Array.all_eq_true_iff_forall_mem.1 one0 v (by simpa using hv)
 have stY:=st_at w.heap.size Y.toList 0 w20 _ HC10.out.rs (by simp[sY]) one
 have TF:=hid2 (putRow_turn w.heap.size Y.toList 0 w20)
 have BF:=putRow_whole HC10.out.rs (X:=Y.toList) (by simp[sY])
 have ldF:=ld_row (X:=Y) BF rfl (n:=m) (by simp[sY,hm19.out])
 have xl:=HC10.out.lt.lt
 have pl:=HC10.out.rs.lt
 have hgx:=HC10.out.gg
 clear BF one one0
 generalize hWF:putRow w20 w.heap.size 0 Y.toList=WF at *
 clear hWF
 go_wp2_with fail
 refine bodyPost_ret (v:=.agg Y) (by simp[results,Tryz.results18,go_sem, *]) rfl (hP.out _ Y ⟨6,⟨#[]⟩,⟨#[]⟩,0,0,0,(E (adv S)).1,nilM,((hdT S.L).at_:Int)⟩ (.slice ad7 (E (adv S)).1.parts.length cp7) (.slice none 0 0) (mustR c k_sem (mustR c k_then (E (adv S)).2)) hY.out ?_ ?_ (HC10.out.itb TF.out) (by rw[hR.out];unfold guardR okR;rw[if_neg (by rw[u];simp)];rfl))
 ·exact HC10.out.tn.trans TF.out (fun i hi=>.inr (by simp at hi;omega))
 ·exact HC10.out.re.turn TF.out (by simp;omega) (by simp;omega)
set_option maxHeartbeats 16000000 in
set_option maxRecDepth 20000 in
theorem qItem_decideY {z rb tb:Nat}{LL:List Tk}{c:Int}{o:Nat}(hz:z<=9223372036854775807){A:Rdf}(HA:RdC z rb tb LL c o 34 A){S:Sr}(n0:isR k_metric S=false)(n1:isR k_reps S=false)(n2:isR k_cooldown S=false)(n3:isR k_let S=false)(n4:isR k_guard S=false)(u:(mustR c k_decide S).good=true)(w:World)(hr:Rr z w rb tb LL c S o):
 Calls Tryz.prog 18 #[.pointer (some ⟨rb,0,none⟩)] w (IqP z w rb tb LL c o ((decideR c A (hdT S.L).at_ S).1,mustR c k_sem (decideR c A (hdT S.L).at_ S).2)):=by
 obtain⟨R,hR⟩:∃ R,Hid (R=((decideR c A (hdT S.L).at_ S).1,mustR c k_sem (decideR c A (hdT S.L).at_ S).2)):=⟨_,rfl⟩
 rw[<-hR.out]
 have hP:Hid (∀ w' Y i vx vy S',Y=(itC i vx vy).toArray->Turn [rb] w w'->Rr z w' rb tb LL c S' o->ItB w.heap.size z w' i vx vy->R=(i,S')->IqP z w rb tb LL c o R (.returned (.agg Y)) w'):=fun w' Y i vx vy S' h0 h1 h2 h3 h4=>⟨h1,⟨vx,vy,by rw[h4,h0],by rw[h4];exact h3⟩,by rw[h4];exact h2⟩
 generalize IqP z w rb tb LL c o R=Post at *
 have hl0:=hr.lts
 have hat:=hr.tl.ok.a
 have hz0:=hid2 hz
 have fl1:=fld1
 have fl2:=fld2
 obtain⟨m,hm19⟩:∃ m:Nat,Hid (m=19):=⟨_,rfl⟩
 have zs:∀ w,(sizeOf 53).run Tryz.prog w=.ok m w:=by rw[hm19.out];exact Tryz.sizeOf53
 have zm:(19=m)=True:=eq_true hm19.out.symm
 have R0:=hid2 (hr.next ((Below.refl _ _).alloc (Nat.le_refl _) (.cells zs19.toArray 53)))
 have R1:=hid2 hr
 obtain⟨X,hX⟩:∃ X:Array Value,Hid (X=(itC (it0 0 ((hdT S.L).at_:Int)) (.slice none 0 0) (.slice none 0 0)).toArray):=⟨_,rfl⟩
 have stX:=fun W=>st_it W (X:=X) (by rw[hX.out];rfl) (by rw[hX.out];kernel_rfl)
 unfold zeroI at stX
 have sX:X.size=19:=by rw[hX.out];rfl
 clear hr hz
 go_enter Tryz.func18,Tryz.ntmps18
 go_wp2_with fail
 refine Calls.mono (qAt_c _ R0.out) ?_
 rintro e w1 ⟨rfl,b1⟩
 have HC0:=hid2 (ImS.made R1.out b1 ((hdT S.L).at_:Int))
 rw[<-hX.out] at HC0
 clear b1 R0 R1
 go_wp2_with (refine wpList_it8 rfl _ rfl ((hdT S.L).at_:Int) rfl X hX.out ?_)
 clear stX sX
 obtain⟨g,hgg⟩:∃ g:Nat,Hid (g=w1.heap.size):=⟨_,rfl⟩
 rw[<-hgg.out] at HC0 ⊢
 generalize hW1:w1.alloc _=W1 at *
 clear hW1 hX hgg
 refine Calls.mono (qMay_c k_metric ⟨ba_neL [40] (by decide),ba_neL [123] (by decide),ba_neL [41] (by decide),ba_neL [125] (by decide)⟩ _ HC0.out.re) ?_
 rintro e w11 ⟨rfl,t2,r2⟩
 have HC1:=hid2 (HC0.out.turn t2 r2)
 clear t2 r2 HC0
 rw[n0]
 rw[may_not n0] at HC1
 go_wp2_with fail
 refine Calls.mono (qMay_c k_reps ⟨ba_neL [40] (by decide),ba_neL [123] (by decide),ba_neL [41] (by decide),ba_neL [125] (by decide)⟩ _ HC1.out.re) ?_
 rintro e w12 ⟨rfl,t2,r2⟩
 have HC2:=hid2 (HC1.out.turn t2 r2)
 clear t2 r2 HC1
 rw[n1]
 rw[may_not n1] at HC2
 go_wp2_with fail
 refine Calls.mono (qMay_c k_cooldown ⟨ba_neL [40] (by decide),ba_neL [123] (by decide),ba_neL [41] (by decide),ba_neL [125] (by decide)⟩ _ HC2.out.re) ?_
 rintro e w13 ⟨rfl,t2,r2⟩
 have HC3:=hid2 (HC2.out.turn t2 r2)
 clear t2 r2 HC2
 rw[n2]
 rw[may_not n2] at HC3
 go_wp2_with fail
 refine Calls.mono (qMay_c k_let ⟨ba_neL [40] (by decide),ba_neL [123] (by decide),ba_neL [41] (by decide),ba_neL [125] (by decide)⟩ _ HC3.out.re) ?_
 rintro e w14 ⟨rfl,t2,r2⟩
 have HC4:=hid2 (HC3.out.turn t2 r2)
 clear t2 r2 HC3
 rw[n3]
 rw[may_not n3] at HC4
 go_wp2_with fail
 refine Calls.mono (qMay_c k_guard ⟨ba_neL [40] (by decide),ba_neL [123] (by decide),ba_neL [41] (by decide),ba_neL [125] (by decide)⟩ _ HC4.out.re) ?_
 rintro e w15 ⟨rfl,t2,r2⟩
 have HC5:=hid2 (HC4.out.turn t2 r2)
 clear t2 r2 HC4
 rw[n4]
 rw[may_not n4] at HC5
 have c0:=HC5.out.lt.cell 0 _ rfl
 have f0:=HC5.out.lt.free 0 (by simp)
 have cl:=HC5.out.lt.lt
 have HC6:=hid2 (HC5.out.set 0 (.int .i64 7) ⟨7,⟨#[]⟩,⟨#[]⟩,0,0,0,nilM,nilM,((hdT S.L).at_:Int)⟩ (by decide) rfl rfl rfl HC5.out.nm HC5.out.un)
 go_wp2_with fail
 clear cl c0 f0 HC5
 refine Calls.mono (qMust_c k_decide ⟨ba_neL [40] (by decide),ba_neL [123] (by decide),ba_neL [41] (by decide),ba_neL [125] (by decide)⟩ _ HC6.out.re) ?_
 rintro e w17 ⟨rfl,t2,r2⟩
 have HC7:=hid2 (HC6.out.turn t2 r2)
 clear t2 r2 HC6
 obtain⟨er,e4,el,eg⟩:=HC7.out.re.errc
 rw[u] at eg
 obtain rfl:er=0:=by simpa using eg.symm
 clear eg
 go_wp2_with fail
 clear e4 el
 refine Calls.mono (HA (mustR c k_decide S) _ HC7.out.re) ?_
 rintro e w18 ⟨t4,⟨v,rfl,u8,rfl,s4⟩,r4⟩
 have HC8:=hid2 (HC7.out.turn t4 r4)
 have hsz8:=HC7.out.lt.lt
 have hgg8:=HC7.out.gg
 have S8x:Hid (SitQ (fun b=>w.heap.size<b/\b≠g) z w18 (A (mustR c k_decide S)).1 u8):=s4.weak (fun b _ hb=>by have hb':_<=b:=hb;omega)
 clear HC7
 obtain⟨ad8,cp8,rfl,-,-⟩:=s4.parts.shape
 simp only[tmV]
 clear t4 r4 s4
 obtain⟨x0,x1,x2,x3,x4,x5,y0,y1,y2,y3,y4,y5⟩:=HC8.out.lt.cells_at 12 _ _ _ _ _ _ rfl rfl rfl rfl rfl rfl
 have xl:=HC8.out.lt.lt
 have HC9:=hid2 (HC8.out.setY S8x.out)
 go_wp2_with fail
 clear HC8 S8x hsz8 hgg8 xl x0 x1 x2 x3 x4 x5 y0 y1 y2 y3 y4 y5
 refine Calls.mono (qMust_c k_sem ⟨ba_neL [40] (by decide),ba_neL [123] (by decide),ba_neL [41] (by decide),ba_neL [125] (by decide)⟩ _ HC9.out.re) ?_
 rintro e w20 ⟨rfl,t2,r2⟩
 have HC10:=hid2 (HC9.out.turn t2 r2)
 clear t2 r2 HC9
 obtain⟨Y,hY⟩:∃ Y:Array Value,Hid (Y=(itC ⟨7,⟨#[]⟩,⟨#[]⟩,0,0,0,nilM,(A (mustR c k_decide S)).1,((hdT S.L).at_:Int)⟩ (.slice none 0 0) (.slice ad8 (A (mustR c k_decide S)).1.parts.length cp8)).toArray):=⟨_,rfl⟩
 have sY:Y.size=19:=by rw[hY.out];rfl
 have ldY:=ld_row (X:=Y) HC10.out.lt (by rw[hY.out]) (n:=m) hm19.out
 have one0:Y.all (·.oneCell')=true:=by rw[hY.out];exact HC10.out.one
 have one:∀ v∈Y.toList,v.oneCell'=true:=fun v hv=>Array.all_eq_true_iff_forall_mem.1 one0 v (by simpa using hv)
 have stY:=st_at w.heap.size Y.toList 0 w20 _ HC10.out.rs (by simp[sY]) one
 have TF:=hid2 (putRow_turn w.heap.size Y.toList 0 w20)
 have BF:=putRow_whole HC10.out.rs (X:=Y.toList) (by simp[sY])
 have ldF:=ld_row (X:=Y) BF rfl (n:=m) (by simp[sY,hm19.out])
 have xl:=HC10.out.lt.lt
 have pl:=HC10.out.rs.lt
 have hgx:=HC10.out.gg
 clear BF one one0
 generalize hWF:putRow w20 w.heap.size 0 Y.toList=WF at *
 clear hWF
 go_wp2_with fail
 refine bodyPost_ret (v:=.agg Y) (by simp[results,Tryz.results18,go_sem, *]) rfl (hP.out _ Y ⟨7,⟨#[]⟩,⟨#[]⟩,0,0,0,nilM,(A (mustR c k_decide S)).1,((hdT S.L).at_:Int)⟩ (.slice none 0 0) (.slice ad8 (A (mustR c k_decide S)).1.parts.length cp8) (mustR c k_sem (A (mustR c k_decide S)).2) hY.out ?_ ?_ (HC10.out.itb TF.out) (by rw[hR.out];unfold decideR okR;rw[if_pos u];rfl))
 ·exact HC10.out.tn.trans TF.out (fun i hi=>.inr (by simp at hi;omega))
 ·exact HC10.out.re.turn TF.out (by simp;omega) (by simp;omega)
set_option maxHeartbeats 16000000 in
set_option maxRecDepth 20000 in
theorem qItem_decideN {z rb tb:Nat}{LL:List Tk}{c:Int}{o:Nat}(hz:z<=9223372036854775807){A:Rdf}{S:Sr}(n0:isR k_metric S=false)(n1:isR k_reps S=false)(n2:isR k_cooldown S=false)(n3:isR k_let S=false)(n4:isR k_guard S=false)(u:(mustR c k_decide S).good=false)(w:World)(hr:Rr z w rb tb LL c S o):
 Calls Tryz.prog 18 #[.pointer (some ⟨rb,0,none⟩)] w (IqP z w rb tb LL c o ((decideR c A (hdT S.L).at_ S).1,mustR c k_sem (decideR c A (hdT S.L).at_ S).2)):=by
 obtain⟨R,hR⟩:∃ R,Hid (R=((decideR c A (hdT S.L).at_ S).1,mustR c k_sem (decideR c A (hdT S.L).at_ S).2)):=⟨_,rfl⟩
 rw[<-hR.out]
 have hP:Hid (∀ w' Y i vx vy S',Y=(itC i vx vy).toArray->Turn [rb] w w'->Rr z w' rb tb LL c S' o->ItB w.heap.size z w' i vx vy->R=(i,S')->IqP z w rb tb LL c o R (.returned (.agg Y)) w'):=fun w' Y i vx vy S' h0 h1 h2 h3 h4=>⟨h1,⟨vx,vy,by rw[h4,h0],by rw[h4];exact h3⟩,by rw[h4];exact h2⟩
 generalize IqP z w rb tb LL c o R=Post at *
 have hl0:=hr.lts
 have hat:=hr.tl.ok.a
 have hz0:=hid2 hz
 have fl1:=fld1
 have fl2:=fld2
 obtain⟨m,hm19⟩:∃ m:Nat,Hid (m=19):=⟨_,rfl⟩
 have zs:∀ w,(sizeOf 53).run Tryz.prog w=.ok m w:=by rw[hm19.out];exact Tryz.sizeOf53
 have zm:(19=m)=True:=eq_true hm19.out.symm
 have R0:=hid2 (hr.next ((Below.refl _ _).alloc (Nat.le_refl _) (.cells zs19.toArray 53)))
 have R1:=hid2 hr
 obtain⟨X,hX⟩:∃ X:Array Value,Hid (X=(itC (it0 0 ((hdT S.L).at_:Int)) (.slice none 0 0) (.slice none 0 0)).toArray):=⟨_,rfl⟩
 have stX:=fun W=>st_it W (X:=X) (by rw[hX.out];rfl) (by rw[hX.out];kernel_rfl)
 unfold zeroI at stX
 have sX:X.size=19:=by rw[hX.out];rfl
 clear hr hz
 go_enter Tryz.func18,Tryz.ntmps18
 go_wp2_with fail
 refine Calls.mono (qAt_c _ R0.out) ?_
 rintro e w1 ⟨rfl,b1⟩
 have HC0:=hid2 (ImS.made R1.out b1 ((hdT S.L).at_:Int))
 rw[<-hX.out] at HC0
 clear b1 R0 R1
 go_wp2_with (refine wpList_it8 rfl _ rfl ((hdT S.L).at_:Int) rfl X hX.out ?_)
 clear stX sX
 obtain⟨g,hgg⟩:∃ g:Nat,Hid (g=w1.heap.size):=⟨_,rfl⟩
 rw[<-hgg.out] at HC0 ⊢
 generalize hW1:w1.alloc _=W1 at *
 clear hW1 hX hgg
 refine Calls.mono (qMay_c k_metric ⟨ba_neL [40] (by decide),ba_neL [123] (by decide),ba_neL [41] (by decide),ba_neL [125] (by decide)⟩ _ HC0.out.re) ?_
 rintro e w11 ⟨rfl,t2,r2⟩
 have HC1:=hid2 (HC0.out.turn t2 r2)
 clear t2 r2 HC0
 rw[n0]
 rw[may_not n0] at HC1
 go_wp2_with fail
 refine Calls.mono (qMay_c k_reps ⟨ba_neL [40] (by decide),ba_neL [123] (by decide),ba_neL [41] (by decide),ba_neL [125] (by decide)⟩ _ HC1.out.re) ?_
 rintro e w12 ⟨rfl,t2,r2⟩
 have HC2:=hid2 (HC1.out.turn t2 r2)
 clear t2 r2 HC1
 rw[n1]
 rw[may_not n1] at HC2
 go_wp2_with fail
 refine Calls.mono (qMay_c k_cooldown ⟨ba_neL [40] (by decide),ba_neL [123] (by decide),ba_neL [41] (by decide),ba_neL [125] (by decide)⟩ _ HC2.out.re) ?_
 rintro e w13 ⟨rfl,t2,r2⟩
 have HC3:=hid2 (HC2.out.turn t2 r2)
 clear t2 r2 HC2
 rw[n2]
 rw[may_not n2] at HC3
 go_wp2_with fail
 refine Calls.mono (qMay_c k_let ⟨ba_neL [40] (by decide),ba_neL [123] (by decide),ba_neL [41] (by decide),ba_neL [125] (by decide)⟩ _ HC3.out.re) ?_
 rintro e w14 ⟨rfl,t2,r2⟩
 have HC4:=hid2 (HC3.out.turn t2 r2)
 clear t2 r2 HC3
 rw[n3]
 rw[may_not n3] at HC4
 go_wp2_with fail
 refine Calls.mono (qMay_c k_guard ⟨ba_neL [40] (by decide),ba_neL [123] (by decide),ba_neL [41] (by decide),ba_neL [125] (by decide)⟩ _ HC4.out.re) ?_
 rintro e w15 ⟨rfl,t2,r2⟩
 have HC5:=hid2 (HC4.out.turn t2 r2)
 clear t2 r2 HC4
 rw[n4]
 rw[may_not n4] at HC5
 have c0:=HC5.out.lt.cell 0 _ rfl
 have f0:=HC5.out.lt.free 0 (by simp)
 have cl:=HC5.out.lt.lt
 have HC6:=hid2 (HC5.out.set 0 (.int .i64 7) ⟨7,⟨#[]⟩,⟨#[]⟩,0,0,0,nilM,nilM,((hdT S.L).at_:Int)⟩ (by decide) rfl rfl rfl HC5.out.nm HC5.out.un)
 go_wp2_with fail
 clear cl c0 f0 HC5
 refine Calls.mono (qMust_c k_decide ⟨ba_neL [40] (by decide),ba_neL [123] (by decide),ba_neL [41] (by decide),ba_neL [125] (by decide)⟩ _ HC6.out.re) ?_
 rintro e w17 ⟨rfl,t2,r2⟩
 have HC7:=hid2 (HC6.out.turn t2 r2)
 clear t2 r2 HC6
 obtain⟨er,e4,el,eg⟩:=HC7.out.re.errc
 rw[u] at eg
 have er0:¬ er=0:=by intro h;rw[h] at eg;simp at eg
 have k0:(er==0)=false:=by simpa using er0
 clear eg
 go_wp2_with fail
 clear e4 el
 refine Calls.mono (qMust_c k_sem ⟨ba_neL [40] (by decide),ba_neL [123] (by decide),ba_neL [41] (by decide),ba_neL [125] (by decide)⟩ _ HC7.out.re) ?_
 rintro e w18 ⟨rfl,t2,r2⟩
 have HC8:=hid2 (HC7.out.turn t2 r2)
 clear t2 r2 HC7
 obtain⟨Y,hY⟩:∃ Y:Array Value,Hid (Y=(itC ⟨7,⟨#[]⟩,⟨#[]⟩,0,0,0,nilM,nilM,((hdT S.L).at_:Int)⟩ (.slice none 0 0) (.slice none 0 0)).toArray):=⟨_,rfl⟩
 have sY:Y.size=19:=by rw[hY.out];rfl
 have ldY:=ld_row (X:=Y) HC8.out.lt (by rw[hY.out]) (n:=m) hm19.out
 have one0:Y.all (·.oneCell')=true:=by rw[hY.out];exact HC8.out.one
 have one:∀ v∈Y.toList,v.oneCell'=true:=fun v hv=>Array.all_eq_true_iff_forall_mem.1 one0 v (by simpa using hv)
 have stY:=st_at w.heap.size Y.toList 0 w18 _ HC8.out.rs (by simp[sY]) one
 have TF:=hid2 (putRow_turn w.heap.size Y.toList 0 w18)
 have BF:=putRow_whole HC8.out.rs (X:=Y.toList) (by simp[sY])
 have ldF:=ld_row (X:=Y) BF rfl (n:=m) (by simp[sY,hm19.out])
 have xl:=HC8.out.lt.lt
 have pl:=HC8.out.rs.lt
 have hgx:=HC8.out.gg
 clear BF one one0
 generalize hWF:putRow w18 w.heap.size 0 Y.toList=WF at *
 clear hWF
 go_wp2_with fail
 refine bodyPost_ret (v:=.agg Y) (by simp[results,Tryz.results18,go_sem, *]) rfl (hP.out _ Y ⟨7,⟨#[]⟩,⟨#[]⟩,0,0,0,nilM,nilM,((hdT S.L).at_:Int)⟩ (.slice none 0 0) (.slice none 0 0) (mustR c k_sem (mustR c k_decide S)) hY.out ?_ ?_ (HC8.out.itb TF.out) (by rw[hR.out];unfold decideR okR;rw[if_neg (by rw[u];simp)];rfl))
 ·exact HC8.out.tn.trans TF.out (fun i hi=>.inr (by simp at hi;omega))
 ·exact HC8.out.re.turn TF.out (by simp;omega) (by simp;omega)
set_option maxHeartbeats 16000000 in
set_option maxRecDepth 20000 in
theorem qItem_metricU {z rb tb:Nat}{LL:List Tk}{c:Int}{o:Nat}(hz:z<=9223372036854775807){S:Sr}(y:isR k_metric S=true)(u:(takeR c 1 (adv S)).2.good=true)(k8:(hdT (takeR c 1 (adv S)).2.L).kind=8)(w:World)(hr:Rr z w rb tb LL c S o):
 Calls Tryz.prog 18 #[.pointer (some ⟨rb,0,none⟩)] w (IqP z w rb tb LL c o ((metricR c (hdT S.L).at_ (adv S)).1,mustR c k_sem (metricR c (hdT S.L).at_ (adv S)).2)):=by
 obtain⟨R,hR⟩:∃ R,Hid (R=((metricR c (hdT S.L).at_ (adv S)).1,mustR c k_sem (metricR c (hdT S.L).at_ (adv S)).2)):=⟨_,rfl⟩
 rw[<-hR.out]
 have hP:Hid (∀ w' Y i vx vy S',Y=(itC i vx vy).toArray->Turn [rb] w w'->Rr z w' rb tb LL c S' o->ItB w.heap.size z w' i vx vy->R=(i,S')->IqP z w rb tb LL c o R (.returned (.agg Y)) w'):=fun w' Y i vx vy S' h0 h1 h2 h3 h4=>⟨h1,⟨vx,vy,by rw[h4,h0],by rw[h4];exact h3⟩,by rw[h4];exact h2⟩
 generalize IqP z w rb tb LL c o R=Post at *
 have hl0:=hr.lts
 have hat:=hr.tl.ok.a
 have hz0:=hid2 hz
 have fl1:=fld1
 have fl2:=fld2
 obtain⟨m,hm19⟩:∃ m:Nat,Hid (m=19):=⟨_,rfl⟩
 have zs:∀ w,(sizeOf 53).run Tryz.prog w=.ok m w:=by rw[hm19.out];exact Tryz.sizeOf53
 have zm:(19=m)=True:=eq_true hm19.out.symm
 have R0:=hid2 (hr.next ((Below.refl _ _).alloc (Nat.le_refl _) (.cells zs19.toArray 53)))
 have R1:=hid2 hr
 obtain⟨X,hX⟩:∃ X:Array Value,Hid (X=(itC (it0 0 ((hdT S.L).at_:Int)) (.slice none 0 0) (.slice none 0 0)).toArray):=⟨_,rfl⟩
 have stX:=fun W=>st_it W (X:=X) (by rw[hX.out];rfl) (by rw[hX.out];kernel_rfl)
 unfold zeroI at stX
 have sX:X.size=19:=by rw[hX.out];rfl
 clear hr hz
 go_enter Tryz.func18,Tryz.ntmps18
 go_wp2_with fail
 refine Calls.mono (qAt_c _ R0.out) ?_
 rintro e w1 ⟨rfl,b1⟩
 have HC0:=hid2 (ImS.made R1.out b1 ((hdT S.L).at_:Int))
 rw[<-hX.out] at HC0
 clear b1 R0 R1
 go_wp2_with (refine wpList_it8 rfl _ rfl ((hdT S.L).at_:Int) rfl X hX.out ?_)
 clear stX sX
 obtain⟨g,hgg⟩:∃ g:Nat,Hid (g=w1.heap.size):=⟨_,rfl⟩
 rw[<-hgg.out] at HC0 ⊢
 generalize hW1:w1.alloc _=W1 at *
 clear hW1 hX hgg
 refine Calls.mono (qMay_c k_metric ⟨ba_neL [40] (by decide),ba_neL [123] (by decide),ba_neL [41] (by decide),ba_neL [125] (by decide)⟩ _ HC0.out.re) ?_
 rintro e w11 ⟨rfl,t2,r2⟩
 have HC1:=hid2 (HC0.out.turn t2 r2)
 clear t2 r2 HC0
 rw[y]
 rw[may_adv y] at HC1
 have c0:=HC1.out.lt.cell 0 _ rfl
 have f0:=HC1.out.lt.free 0 (by simp)
 have cl:=HC1.out.lt.lt
 have HC2:=hid2 (HC1.out.set 0 (.int .i64 1) ⟨1,⟨#[]⟩,⟨#[]⟩,0,0,0,nilM,nilM,((hdT S.L).at_:Int)⟩ (by decide) rfl rfl rfl HC1.out.nm HC1.out.un)
 go_wp2_with fail
 clear cl c0 f0 HC1
 refine Calls.mono (qTake_c 1 (by decide) _ HC2.out.re) ?_
 rintro e w13 ⟨rfl,t2,r2⟩
 have Hk3:=hid2 (take_tk (c:=c) (k:=1) HC2.out.re.tl)
 have HC3:=hid2 (HC2.out.turn t2 r2)
 clear t2 r2 HC2
 simp only[tkW]
 obtain⟨tk3,htk3⟩:∃ tk,Hid (tk=(takeR c 1 (adv S)).1):=⟨_,rfl⟩
 rw[<-htk3.out] at Hk3 ⊢
 have c1:=HC3.out.lt.cell 1 _ rfl
 have f1:=HC3.out.lt.free 1 (by simp)
 have cl:=HC3.out.lt.lt
 have HC4:=hid2 (HC3.out.set 1 (.string tk3.text) ⟨1,tk3.text,⟨#[]⟩,0,0,0,nilM,nilM,((hdT S.L).at_:Int)⟩ (by decide) rfl rfl rfl Hk3.out.1 HC3.out.un)
 have hgr:g≠rb/\g≠tb:=by have:=HC3.out.gg;have:=HC3.out.rl;omega
 obtain⟨hg1,hg2⟩:=hgr
 have hg3:¬ rb=g:=fun h=>hg1 h.symm
 have hg4:¬ tb=g:=fun h=>hg2 h.symm
 have hgood:=HC3.out.re.good
 rw[u] at hgood
 have hRp:=HC3.out.re
 obtain⟨off,cap,i,ov,h⟩:=hRp
 obtain⟨u0,u1,u2,u3⟩:=h.hd
 obtain⟨r0,r1,r2,r3,r4,r5,q0,q1,q2,q3,q4,q5⟩:=h.box.six
 have hl:=h.box.lt
 have htl:=h.lt
 have hil:(i:Int)<(LL.length:Int):=by have:=h.il;omega
 have hmx:=h.mx
 have hle:=h.le
 generalize hS9e:(takeR c 1 (adv S)).2=S9 at *
 have hS9:Hid (S9=(takeR c 1 (adv S)).2):=hS9e.symm
 clear hS9e
 generalize ht9:hdT S9.L=t9 at *
 generalize hn9:LL.length=n9 at *
 generalize erW S9.er=wh at *
 have e0:erI S9.er=0:=by simpa using hgood.symm
 rw[e0] at r4
 clear hgood e0
 rw[k8] at u0
 go_wp2_with fail
 go_quiet (fail)
 have k1:Below (w13.setCell ⟨g,1,none⟩ (.string tk3.text)).heap.size (w13.setCell ⟨g,1,none⟩ (.string tk3.text)) ((w13.setCell ⟨g,1,none⟩ (.string tk3.text)).drewN nq):=below_drewN (Below.refl _ _) nq
 have HC5:=hid2 (HC4.out.next k1)
 clear u0 u1 u2 u3 r0 r1 r2 r3 r4 r5 q0 q1 q2 q3 q4 q5 hl htl hil hmx hle h k1 HC4 HC3 c1 f1 cl
 generalize hWW:(w13.setCell ⟨g,1,none⟩ (.string tk3.text)).drewN nq=W5 at *
 clear hWW
 have hRp:=HC5.out.re
 obtain⟨off,cap,i,ov,h⟩:=hRp
 obtain⟨u0,u1,u2,u3⟩:=h.hd
 obtain⟨r0,r1,r2,r3,r4,r5,q0,q1,q2,q3,q4,q5⟩:=h.box.six
 have hl:=h.box.lt
 have htl:=h.lt
 have hil:(i:Int)<(n9:Int):=by have:=h.il;omega
 have hmx:=h.mx
 have hle:=h.le
 have hux:=h.tl.ok.x
 have HXs:=hid2 h
 rw[ht9] at u0 u1 u2 u3 hux
 rw[hn9] at r0 hle
 have c2:=HC5.out.lt.cell 2 _ rfl
 have f2:=HC5.out.lt.free 2 (by simp)
 have cl:=HC5.out.lt.lt
 generalize erI S9.er=er9 at *
 generalize erW S9.er=wh at *
 clear h
 go_wp2_with fail
 go_region_held3 (fun w'=>w'.cell? ⟨rb,0,none⟩=some (.slice (some ⟨tb,off,none⟩) n9 cap)/\w'.cell? ⟨rb,1,none⟩=some (.int .i64 (i:Nat))/\w'.cell? ⟨tb,off+i*4+1,none⟩=some (.string t9.text)) (simp[go_sem, *]) (fail)
 rename_i hh
 clear hh
 have hX2:=HXs.out.turn (turn_set W5 g 2 (.string t9.text)) (by simp;omega) (by simp;omega)
 have r6:Rr z ((W5.setCell ⟨g,2,none⟩ (.string t9.text)).setCell ⟨rb,1,none⟩ (.int .i64 ((i:Int)+1))) rb tb LL c (adv S9) o:=⟨off,cap,i+1,ov,hX2.step (hX2.box.set 1 (by simp) _) (turn_set _ _ _ _) (by rw[ht9,k8];decide) hX2.op hX2.oi hX2.dp⟩
 have HC6:=hid2 (((HC5.out.set 2 (.string t9.text) ⟨1,tk3.text,t9.text,0,0,0,nilM,nilM,((hdT S.L).at_:Int)⟩ (by decide) rfl rfl rfl HC5.out.nm hux).turn (turn_set _ _ _ _) r6).next (Below.refl _ _).drew)
 clear hX2 r6
 go_wp2_with fail
 clear u0 u1 u2 u3 r0 r1 r2 r3 r4 r5 q0 q1 q2 q3 q4 q5 hl htl hil hmx hle c2 f2 cl HC5 HXs
 refine Calls.mono (qMust_c k_sem ⟨ba_neL [40] (by decide),ba_neL [123] (by decide),ba_neL [41] (by decide),ba_neL [125] (by decide)⟩ _ HC6.out.re) ?_
 rintro e w17 ⟨rfl,t2,r2⟩
 have HC7:=hid2 (HC6.out.turn t2 r2)
 clear t2 r2 HC6
 obtain⟨Y,hY⟩:∃ Y:Array Value,Hid (Y=(itC ⟨1,tk3.text,t9.text,0,0,0,nilM,nilM,((hdT S.L).at_:Int)⟩ (.slice none 0 0) (.slice none 0 0)).toArray):=⟨_,rfl⟩
 have sY:Y.size=19:=by rw[hY.out];rfl
 have ldY:=ld_row (X:=Y) HC7.out.lt (by rw[hY.out]) (n:=m) hm19.out
 have one0:Y.all (·.oneCell')=true:=by rw[hY.out];exact HC7.out.one
 have one:∀ v∈Y.toList,v.oneCell'=true:=fun v hv=>Array.all_eq_true_iff_forall_mem.1 one0 v (by simpa using hv)
 have stY:=st_at w.heap.size Y.toList 0 w17 _ HC7.out.rs (by simp[sY]) one
 have TF:=hid2 (putRow_turn w.heap.size Y.toList 0 w17)
 have BF:=putRow_whole HC7.out.rs (X:=Y.toList) (by simp[sY])
 have ldF:=ld_row (X:=Y) BF rfl (n:=m) (by simp[sY,hm19.out])
 have xl:=HC7.out.lt.lt
 have pl:=HC7.out.rs.lt
 have hgx:=HC7.out.gg
 clear BF one one0
 generalize hWF:putRow w17 w.heap.size 0 Y.toList=WF at *
 clear hWF
 go_wp2_with fail
 refine bodyPost_ret (v:=.agg Y) (by simp[results,Tryz.results18,go_sem, *]) rfl (hP.out _ Y ⟨1,tk3.text,t9.text,0,0,0,nilM,nilM,((hdT S.L).at_:Int)⟩ (.slice none 0 0) (.slice none 0 0) (mustR c k_sem (adv S9)) hY.out ?_ ?_ (HC7.out.itb TF.out) (by rw[hR.out,htk3.out];unfold metricR unitR;rw[<-hS9.out,if_pos ⟨u,by rw[ht9];exact k8⟩,ht9]))
 ·exact HC7.out.tn.trans TF.out (fun i hi=>.inr (by simp at hi;omega))
 ·exact HC7.out.re.turn TF.out (by simp;omega) (by simp;omega)
set_option maxHeartbeats 16000000 in
set_option maxRecDepth 20000 in
theorem qItem_metricN {z rb tb:Nat}{LL:List Tk}{c:Int}{o:Nat}(hz:z<=9223372036854775807){S:Sr}(y:isR k_metric S=true)(u:(takeR c 1 (adv S)).2.good=true)(k8:¬(hdT (takeR c 1 (adv S)).2.L).kind=8)(w:World)(hr:Rr z w rb tb LL c S o):
 Calls Tryz.prog 18 #[.pointer (some ⟨rb,0,none⟩)] w (IqP z w rb tb LL c o ((metricR c (hdT S.L).at_ (adv S)).1,mustR c k_sem (metricR c (hdT S.L).at_ (adv S)).2)):=by
 obtain⟨R,hR⟩:∃ R,Hid (R=((metricR c (hdT S.L).at_ (adv S)).1,mustR c k_sem (metricR c (hdT S.L).at_ (adv S)).2)):=⟨_,rfl⟩
 rw[<-hR.out]
 have hP:Hid (∀ w' Y i vx vy S',Y=(itC i vx vy).toArray->Turn [rb] w w'->Rr z w' rb tb LL c S' o->ItB w.heap.size z w' i vx vy->R=(i,S')->IqP z w rb tb LL c o R (.returned (.agg Y)) w'):=fun w' Y i vx vy S' h0 h1 h2 h3 h4=>⟨h1,⟨vx,vy,by rw[h4,h0],by rw[h4];exact h3⟩,by rw[h4];exact h2⟩
 generalize IqP z w rb tb LL c o R=Post at *
 have hl0:=hr.lts
 have hat:=hr.tl.ok.a
 have hz0:=hid2 hz
 have fl1:=fld1
 have fl2:=fld2
 obtain⟨m,hm19⟩:∃ m:Nat,Hid (m=19):=⟨_,rfl⟩
 have zs:∀ w,(sizeOf 53).run Tryz.prog w=.ok m w:=by rw[hm19.out];exact Tryz.sizeOf53
 have zm:(19=m)=True:=eq_true hm19.out.symm
 have R0:=hid2 (hr.next ((Below.refl _ _).alloc (Nat.le_refl _) (.cells zs19.toArray 53)))
 have R1:=hid2 hr
 obtain⟨X,hX⟩:∃ X:Array Value,Hid (X=(itC (it0 0 ((hdT S.L).at_:Int)) (.slice none 0 0) (.slice none 0 0)).toArray):=⟨_,rfl⟩
 have stX:=fun W=>st_it W (X:=X) (by rw[hX.out];rfl) (by rw[hX.out];kernel_rfl)
 unfold zeroI at stX
 have sX:X.size=19:=by rw[hX.out];rfl
 clear hr hz
 go_enter Tryz.func18,Tryz.ntmps18
 go_wp2_with fail
 refine Calls.mono (qAt_c _ R0.out) ?_
 rintro e w1 ⟨rfl,b1⟩
 have HC0:=hid2 (ImS.made R1.out b1 ((hdT S.L).at_:Int))
 rw[<-hX.out] at HC0
 clear b1 R0 R1
 go_wp2_with (refine wpList_it8 rfl _ rfl ((hdT S.L).at_:Int) rfl X hX.out ?_)
 clear stX sX
 obtain⟨g,hgg⟩:∃ g:Nat,Hid (g=w1.heap.size):=⟨_,rfl⟩
 rw[<-hgg.out] at HC0 ⊢
 generalize hW1:w1.alloc _=W1 at *
 clear hW1 hX hgg
 refine Calls.mono (qMay_c k_metric ⟨ba_neL [40] (by decide),ba_neL [123] (by decide),ba_neL [41] (by decide),ba_neL [125] (by decide)⟩ _ HC0.out.re) ?_
 rintro e w11 ⟨rfl,t2,r2⟩
 have HC1:=hid2 (HC0.out.turn t2 r2)
 clear t2 r2 HC0
 rw[y]
 rw[may_adv y] at HC1
 have c0:=HC1.out.lt.cell 0 _ rfl
 have f0:=HC1.out.lt.free 0 (by simp)
 have cl:=HC1.out.lt.lt
 have HC2:=hid2 (HC1.out.set 0 (.int .i64 1) ⟨1,⟨#[]⟩,⟨#[]⟩,0,0,0,nilM,nilM,((hdT S.L).at_:Int)⟩ (by decide) rfl rfl rfl HC1.out.nm HC1.out.un)
 go_wp2_with fail
 clear cl c0 f0 HC1
 refine Calls.mono (qTake_c 1 (by decide) _ HC2.out.re) ?_
 rintro e w13 ⟨rfl,t2,r2⟩
 have Hk3:=hid2 (take_tk (c:=c) (k:=1) HC2.out.re.tl)
 have HC3:=hid2 (HC2.out.turn t2 r2)
 clear t2 r2 HC2
 simp only[tkW]
 obtain⟨tk3,htk3⟩:∃ tk,Hid (tk=(takeR c 1 (adv S)).1):=⟨_,rfl⟩
 rw[<-htk3.out] at Hk3 ⊢
 have c1:=HC3.out.lt.cell 1 _ rfl
 have f1:=HC3.out.lt.free 1 (by simp)
 have cl:=HC3.out.lt.lt
 have HC4:=hid2 (HC3.out.set 1 (.string tk3.text) ⟨1,tk3.text,⟨#[]⟩,0,0,0,nilM,nilM,((hdT S.L).at_:Int)⟩ (by decide) rfl rfl rfl Hk3.out.1 HC3.out.un)
 have hgr:g≠rb/\g≠tb:=by have:=HC3.out.gg;have:=HC3.out.rl;omega
 obtain⟨hg1,hg2⟩:=hgr
 have hg3:¬ rb=g:=fun h=>hg1 h.symm
 have hg4:¬ tb=g:=fun h=>hg2 h.symm
 have hgood:=HC3.out.re.good
 rw[u] at hgood
 have hRp:=HC3.out.re
 obtain⟨off,cap,i,ov,h⟩:=hRp
 obtain⟨u0,u1,u2,u3⟩:=h.hd
 obtain⟨r0,r1,r2,r3,r4,r5,q0,q1,q2,q3,q4,q5⟩:=h.box.six
 have hl:=h.box.lt
 have htl:=h.lt
 have hil:(i:Int)<(LL.length:Int):=by have:=h.il;omega
 have hmx:=h.mx
 have hle:=h.le
 clear h
 generalize hS9e:(takeR c 1 (adv S)).2=S9 at *
 have hS9:Hid (S9=(takeR c 1 (adv S)).2):=hS9e.symm
 clear hS9e
 generalize ht9:hdT S9.L=t9 at *
 generalize hn9:LL.length=n9 at *
 generalize erW S9.er=wh at *
 have e0:erI S9.er=0:=by simpa using hgood.symm
 rw[e0] at r4
 clear hgood e0
 have k8b:(t9.kind==8)=false:=by simpa using k8
 go_wp2_with fail
 go_quiet (fail)
 have HC5:=hid2 (HC4.out.next (below_drewN (Below.refl _ _) nq))
 clear u0 u1 u2 u3 r0 r1 r2 r3 r4 r5 q0 q1 q2 q3 q4 q5 hl htl hil hmx hle
 go_wp2_with fail
 refine Calls.mono (qMust_c k_sem ⟨ba_neL [40] (by decide),ba_neL [123] (by decide),ba_neL [41] (by decide),ba_neL [125] (by decide)⟩ _ HC5.out.re) ?_
 rintro e w16 ⟨rfl,t2,r2⟩
 have HC6:=hid2 (HC5.out.turn t2 r2)
 clear t2 r2 HC5
 obtain⟨Y,hY⟩:∃ Y:Array Value,Hid (Y=(itC ⟨1,tk3.text,⟨#[]⟩,0,0,0,nilM,nilM,((hdT S.L).at_:Int)⟩ (.slice none 0 0) (.slice none 0 0)).toArray):=⟨_,rfl⟩
 have sY:Y.size=19:=by rw[hY.out];rfl
 have ldY:=ld_row (X:=Y) HC6.out.lt (by rw[hY.out]) (n:=m) hm19.out
 have one0:Y.all (·.oneCell')=true:=by rw[hY.out];exact HC6.out.one
 have one:∀ v∈Y.toList,v.oneCell'=true:=fun v hv=>Array.all_eq_true_iff_forall_mem.1 one0 v (by simpa using hv)
 have stY:=st_at w.heap.size Y.toList 0 w16 _ HC6.out.rs (by simp[sY]) one
 have TF:=hid2 (putRow_turn w.heap.size Y.toList 0 w16)
 have BF:=putRow_whole HC6.out.rs (X:=Y.toList) (by simp[sY])
 have ldF:=ld_row (X:=Y) BF rfl (n:=m) (by simp[sY,hm19.out])
 have xl:=HC6.out.lt.lt
 have pl:=HC6.out.rs.lt
 have hgx:=HC6.out.gg
 clear BF one one0
 generalize hWF:putRow w16 w.heap.size 0 Y.toList=WF at *
 clear hWF
 go_wp2_with fail
 refine bodyPost_ret (v:=.agg Y) (by simp[results,Tryz.results18,go_sem, *]) rfl (hP.out _ Y ⟨1,tk3.text,⟨#[]⟩,0,0,0,nilM,nilM,((hdT S.L).at_:Int)⟩ (.slice none 0 0) (.slice none 0 0) (mustR c k_sem S9) hY.out ?_ ?_ (HC6.out.itb TF.out) (by rw[hR.out,htk3.out];unfold metricR unitR;rw[<-hS9.out,if_neg (fun hh=>k8 (by rw[<-ht9];exact hh.2))]))
 ·exact HC6.out.tn.trans TF.out (fun i hi=>.inr (by simp at hi;omega))
 ·exact HC6.out.re.turn TF.out (by simp;omega) (by simp;omega)
set_option maxHeartbeats 16000000 in
set_option maxRecDepth 20000 in
theorem qItem_metricB {z rb tb:Nat}{LL:List Tk}{c:Int}{o:Nat}(hz:z<=9223372036854775807){S:Sr}(y:isR k_metric S=true)(u:(takeR c 1 (adv S)).2.good=false)(w:World)(hr:Rr z w rb tb LL c S o):
 Calls Tryz.prog 18 #[.pointer (some ⟨rb,0,none⟩)] w (IqP z w rb tb LL c o ((metricR c (hdT S.L).at_ (adv S)).1,mustR c k_sem (metricR c (hdT S.L).at_ (adv S)).2)):=by
 obtain⟨R,hR⟩:∃ R,Hid (R=((metricR c (hdT S.L).at_ (adv S)).1,mustR c k_sem (metricR c (hdT S.L).at_ (adv S)).2)):=⟨_,rfl⟩
 rw[<-hR.out]
 have hP:Hid (∀ w' Y i vx vy S',Y=(itC i vx vy).toArray->Turn [rb] w w'->Rr z w' rb tb LL c S' o->ItB w.heap.size z w' i vx vy->R=(i,S')->IqP z w rb tb LL c o R (.returned (.agg Y)) w'):=fun w' Y i vx vy S' h0 h1 h2 h3 h4=>⟨h1,⟨vx,vy,by rw[h4,h0],by rw[h4];exact h3⟩,by rw[h4];exact h2⟩
 generalize IqP z w rb tb LL c o R=Post at *
 have hl0:=hr.lts
 have hat:=hr.tl.ok.a
 have hz0:=hid2 hz
 have fl1:=fld1
 have fl2:=fld2
 obtain⟨m,hm19⟩:∃ m:Nat,Hid (m=19):=⟨_,rfl⟩
 have zs:∀ w,(sizeOf 53).run Tryz.prog w=.ok m w:=by rw[hm19.out];exact Tryz.sizeOf53
 have zm:(19=m)=True:=eq_true hm19.out.symm
 have R0:=hid2 (hr.next ((Below.refl _ _).alloc (Nat.le_refl _) (.cells zs19.toArray 53)))
 have R1:=hid2 hr
 obtain⟨X,hX⟩:∃ X:Array Value,Hid (X=(itC (it0 0 ((hdT S.L).at_:Int)) (.slice none 0 0) (.slice none 0 0)).toArray):=⟨_,rfl⟩
 have stX:=fun W=>st_it W (X:=X) (by rw[hX.out];rfl) (by rw[hX.out];kernel_rfl)
 unfold zeroI at stX
 have sX:X.size=19:=by rw[hX.out];rfl
 clear hr hz
 go_enter Tryz.func18,Tryz.ntmps18
 go_wp2_with fail
 refine Calls.mono (qAt_c _ R0.out) ?_
 rintro e w1 ⟨rfl,b1⟩
 have HC0:=hid2 (ImS.made R1.out b1 ((hdT S.L).at_:Int))
 rw[<-hX.out] at HC0
 clear b1 R0 R1
 go_wp2_with (refine wpList_it8 rfl _ rfl ((hdT S.L).at_:Int) rfl X hX.out ?_)
 clear stX sX
 obtain⟨g,hgg⟩:∃ g:Nat,Hid (g=w1.heap.size):=⟨_,rfl⟩
 rw[<-hgg.out] at HC0 ⊢
 generalize hW1:w1.alloc _=W1 at *
 clear hW1 hX hgg
 refine Calls.mono (qMay_c k_metric ⟨ba_neL [40] (by decide),ba_neL [123] (by decide),ba_neL [41] (by decide),ba_neL [125] (by decide)⟩ _ HC0.out.re) ?_
 rintro e w11 ⟨rfl,t2,r2⟩
 have HC1:=hid2 (HC0.out.turn t2 r2)
 clear t2 r2 HC0
 rw[y]
 rw[may_adv y] at HC1
 have c0:=HC1.out.lt.cell 0 _ rfl
 have f0:=HC1.out.lt.free 0 (by simp)
 have cl:=HC1.out.lt.lt
 have HC2:=hid2 (HC1.out.set 0 (.int .i64 1) ⟨1,⟨#[]⟩,⟨#[]⟩,0,0,0,nilM,nilM,((hdT S.L).at_:Int)⟩ (by decide) rfl rfl rfl HC1.out.nm HC1.out.un)
 go_wp2_with fail
 clear cl c0 f0 HC1
 refine Calls.mono (qTake_c 1 (by decide) _ HC2.out.re) ?_
 rintro e w13 ⟨rfl,t2,r2⟩
 have Hk3:=hid2 (take_tk (c:=c) (k:=1) HC2.out.re.tl)
 have HC3:=hid2 (HC2.out.turn t2 r2)
 clear t2 r2 HC2
 simp only[tkW]
 obtain⟨tk3,htk3⟩:∃ tk,Hid (tk=(takeR c 1 (adv S)).1):=⟨_,rfl⟩
 rw[<-htk3.out] at Hk3 ⊢
 have c1:=HC3.out.lt.cell 1 _ rfl
 have f1:=HC3.out.lt.free 1 (by simp)
 have cl:=HC3.out.lt.lt
 have HC4:=hid2 (HC3.out.set 1 (.string tk3.text) ⟨1,tk3.text,⟨#[]⟩,0,0,0,nilM,nilM,((hdT S.L).at_:Int)⟩ (by decide) rfl rfl rfl Hk3.out.1 HC3.out.un)
 have hgr:g≠rb/\g≠tb:=by have:=HC3.out.gg;have:=HC3.out.rl;omega
 obtain⟨hg1,hg2⟩:=hgr
 have hg3:¬ rb=g:=fun h=>hg1 h.symm
 have hg4:¬ tb=g:=fun h=>hg2 h.symm
 have hgood:=HC3.out.re.good
 rw[u] at hgood
 have hRp:=HC3.out.re
 obtain⟨off,cap,i,ov,h⟩:=hRp
 obtain⟨u0,u1,u2,u3⟩:=h.hd
 obtain⟨r0,r1,r2,r3,r4,r5,q0,q1,q2,q3,q4,q5⟩:=h.box.six
 have hl:=h.box.lt
 have htl:=h.lt
 have hil:(i:Int)<(LL.length:Int):=by have:=h.il;omega
 have hmx:=h.mx
 have hle:=h.le
 clear h
 generalize hS9e:(takeR c 1 (adv S)).2=S9 at *
 have hS9:Hid (S9=(takeR c 1 (adv S)).2):=hS9e.symm
 clear hS9e
 generalize ht9:hdT S9.L=t9 at *
 generalize hn9:LL.length=n9 at *
 generalize erW S9.er=wh at *
 generalize erI S9.er=er at *
 have er0:¬ er=0:=by intro hh;rw[hh] at hgood;simp at hgood
 have k0:(er==0)=false:=by simpa using er0
 clear hgood
 go_wp2_with fail
 go_quiet (fail)
 have HC5:=hid2 (HC4.out.next (below_drewN (Below.refl _ _) nq))
 clear u0 u1 u2 u3 r0 r1 r2 r3 r4 r5 q0 q1 q2 q3 q4 q5 hl htl hil hmx hle
 go_wp2_with fail
 refine Calls.mono (qMust_c k_sem ⟨ba_neL [40] (by decide),ba_neL [123] (by decide),ba_neL [41] (by decide),ba_neL [125] (by decide)⟩ _ HC5.out.re) ?_
 rintro e w16 ⟨rfl,t2,r2⟩
 have HC6:=hid2 (HC5.out.turn t2 r2)
 clear t2 r2 HC5
 obtain⟨Y,hY⟩:∃ Y:Array Value,Hid (Y=(itC ⟨1,tk3.text,⟨#[]⟩,0,0,0,nilM,nilM,((hdT S.L).at_:Int)⟩ (.slice none 0 0) (.slice none 0 0)).toArray):=⟨_,rfl⟩
 have sY:Y.size=19:=by rw[hY.out];rfl
 have ldY:=ld_row (X:=Y) HC6.out.lt (by rw[hY.out]) (n:=m) hm19.out
 have one0:Y.all (·.oneCell')=true:=by rw[hY.out];exact HC6.out.one
 have one:∀ v∈Y.toList,v.oneCell'=true:=fun v hv=>Array.all_eq_true_iff_forall_mem.1 one0 v (by simpa using hv)
 have stY:=st_at w.heap.size Y.toList 0 w16 _ HC6.out.rs (by simp[sY]) one
 have TF:=hid2 (putRow_turn w.heap.size Y.toList 0 w16)
 have BF:=putRow_whole HC6.out.rs (X:=Y.toList) (by simp[sY])
 have ldF:=ld_row (X:=Y) BF rfl (n:=m) (by simp[sY,hm19.out])
 have xl:=HC6.out.lt.lt
 have pl:=HC6.out.rs.lt
 have hgx:=HC6.out.gg
 clear BF one one0
 generalize hWF:putRow w16 w.heap.size 0 Y.toList=WF at *
 clear hWF
 go_wp2_with fail
 refine bodyPost_ret (v:=.agg Y) (by simp[results,Tryz.results18,go_sem, *]) rfl (hP.out _ Y ⟨1,tk3.text,⟨#[]⟩,0,0,0,nilM,nilM,((hdT S.L).at_:Int)⟩ (.slice none 0 0) (.slice none 0 0) (mustR c k_sem S9) hY.out ?_ ?_ (HC6.out.itb TF.out) (by rw[hR.out,htk3.out];unfold metricR unitR;rw[<-hS9.out,if_neg (fun hh=>by rw[u] at hh;cases hh.1)]))
 ·exact HC6.out.tn.trans TF.out (fun i hi=>.inr (by simp at hi;omega))
 ·exact HC6.out.re.turn TF.out (by simp;omega) (by simp;omega)
theorem qItem_c {z rb tb:Nat}{LL:List Tk}{c:Int}{o:Nat}(hz:z<=9223372036854775807){E A:Rdf}(HE:RdC z rb tb LL c o 22 E)(HA:RdC z rb tb LL c o 34 A)(S:Sr)(w:World)(hr:Rr z w rb tb LL c S o):
 Calls Tryz.prog 18 #[.pointer (some ⟨rb,0,none⟩)] w (IqP z w rb tb LL c o (itemE c E A S)):=by
 unfold itemE itemR
 cases h0:isR k_metric S with
 | true=>
   rw[if_pos rfl]
   cases u:(takeR c 1 (adv S)).2.good with
   | false=>exact qItem_metricB hz h0 u w hr
   | true=>
     by_cases k8:(hdT (takeR c 1 (adv S)).2.L).kind=8
     ·exact qItem_metricU hz h0 u k8 w hr
     ·exact qItem_metricN hz h0 u k8 w hr
 | false=>
   rw[if_neg (by simp)]
   cases h1:isR k_reps S with
   | true=>
     rw[if_pos rfl]
     cases u:isR k_step (takeR c 2 (mustR c k_dots (takeR c 2 (adv S)).2)).2 with
     | true=>exact qItem_repsY hz h0 h1 u w hr
     | false=>exact qItem_repsN hz h0 h1 u w hr
   | false=>
     rw[if_neg (by simp)]
     cases h2:isR k_cooldown S with
     | true=>
       rw[if_pos rfl]
       cases u:isR k_up (adv S) with
       | true=>exact qItem_coolU hz h0 h1 h2 u w hr
       | false=>exact qItem_coolD hz h0 h1 h2 u w hr
     | false=>
       rw[if_neg (by simp)]
       cases h3:isR k_let S with
       | true=>
         rw[if_pos rfl]
         cases u:(mustR c k_eq (takeR c 1 (adv S)).2).good with
         | true=>exact qItem_letY hz HE h0 h1 h2 h3 u w hr
         | false=>exact qItem_letN hz h0 h1 h2 h3 u w hr
       | false=>
         rw[if_neg (by simp)]
         cases h4:isR k_guard S with
         | true=>
           rw[if_pos rfl]
           cases u:(mustR c k_then (E (adv S)).2).good with
           | true=>exact qItem_guardY hz HE HA h0 h1 h2 h3 h4 u w hr
           | false=>exact qItem_guardN hz HE h0 h1 h2 h3 h4 u w hr
         | false=>
           rw[if_neg (by simp)]
           cases u:(mustR c k_decide S).good with
           | true=>exact qItem_decideY hz HA h0 h1 h2 h3 h4 u w hr
           | false=>exact qItem_decideN hz h0 h1 h2 h3 h4 u w hr
theorem step_iq {ops:Array Oper}{op:Oper}{a:Act}{w:World}{K:Act->World->Prop}{Q:Exit->Act->World->Prop}{Ee:Prop}{z rb tb:Nat}{LL:List Tk}{c:Int}{o:Nat}{y:It×Sr}(hgd:op.guard=none){f:FuncId}{args:Array Value}
 (C:Calls Tryz.prog f args w (IqP z w rb tb LL c o y)) (he:(execOp a.eval op).run Tryz.prog w=.ok (.enter f args) w)
 (hK:∀ Y vx vy w',Y=(itC y.1 vx vy).toArray->Turn [rb] w w'->ItB w.heap.size z w' y.1 vx vy->Rr z w' rb tb LL c y.2 o->K (a.put op.dst (.agg Y)) w') :
 if Region.wanted op (yielded ops a.tmps)=true then Oper.wp Tryz.prog op a w K Q else Ee:=by
 have hwd:Region.wanted op (yielded ops a.tmps)=true:=by simp[Region.wanted,hgd]
 rw[if_pos hwd]
 unfold Oper.wp
 rw[he,Oper.upon_enter]
 refine C.mono fun e w' h=>?_
 obtain⟨ht,⟨vx,vy,rfl,hv⟩,hr'⟩:=h
 exact hK _ vx vy w' rfl ht hv hr'
theorem step_append_it {ops:Array Oper}{o:Oper}{a:Act}{w:World}{K:Act->World->Prop}{Q:Exit->Act->World->Prop}{E:Prop}{z:Nat}(w0:World)(B:Nat)(hgd:o.guard=none)(s x:Operand)
 (hop:o.op=Op.call {callee:=Callee.builtin Builtin.append,args:=#[s,x],argTypes:=#[23,23]}) (v:Value) (l:List It3) (i:It) (vx vy:Value) (Y:Array Value) (hY:Y=(itC i vx vy).toArray) (hw:w=w0.alloc (.cells Y 53)) (hs:a.eval s=v) (h:IaO B z w0 v l)
 (hq:ItQ (fun b=>B<=b/\v.ownBlock≠some b) z w0 i vx vy) (hl:l.length+1<=1000000) (hB:B<=w0.heap.size)
 (hx:a.eval x=.slice (some ⟨w0.heap.size,0,none⟩) 1 1)
 (hK:∀ a' c' w' k,IaO B z w' (.slice a' (l.length+1) c') (l++[(i,vx,vy)])->B<=k->Turn [k] w0 w'->K (a.put o.dst (.slice a' (l.length+1) c')) w') :
 if Region.wanted o (yielded ops a.tmps)=true then Oper.wp Tryz.prog o a w K Q else E:=by
 have hwd:Region.wanted o (yielded ops a.tmps)=true:=by simp[Region.wanted,hgd]
 rw[if_pos hwd]
 have hYf:Y=(flI [(i,vx,vy)]).toArray:=by rw[hY];simp[flI]
 rw[hYf] at hw
 subst hw
 have h1:∀ u∈flI [(i,vx,vy)],u.oneCell'=true:=by
  have ho:(itC i vx vy).toArray.all (·.oneCell')=true:=by
   obtain⟨a1,c1,rfl,-,-⟩:=hq.sx.parts.shape
   obtain⟨a2,c2,rfl,-,-⟩:=hq.sy.parts.shape
   kernel_rfl
  exact fun u hu=>Array.all_eq_true_iff_forall_mem.1 ho u (by simpa[flI] using hu)
 obtain⟨i0,hi,hz0,hz1,hz2⟩:=info_parts info_it2
 obtain⟨v',w',hrun,ho,hg,_,hb⟩:=run_append_own_at (P:=Tryz.prog) (w0.alloc (.cells (flI [(i,vx,vy)]).toArray 53)) B 23 o.type 53 i0 _ 19 216 Tryz.underlying23 hi hz0 hz1 hz2 rfl (by decide) v l.length (flI l) (h.own.alloc _) ⟨w0.heap.size,0,none⟩ 1 1 (flI [(i,vx,vy)]) (flI_len _)
  (fun j u hj=>by
    have hadd:(⟨w0.heap.size,0,none⟩:Addr).add j=⟨w0.heap.size,j,none⟩:=by unfold Addr.add;split<;>simp_all
    rw[hadd]
    exact(Box.new w0 (flI [(i,vx,vy)]) 53).cell j u hj)
  h1 (by unfold maxLen;omega) (by omega) (by simp;omega)
 obtain⟨a',c',rfl⟩:=own_val ho
 unfold Oper.wp
 simp[execOp,hop,resolve,invoke,builtin,hs,hx,hrun,Result.andThen]
 obtain⟨k,hk1,hk3⟩:∃ k,B<=k/\∀ q,v.ownBlock=some q->q∈[k]:=by
  rcases hv:v.ownBlock with _ | q
  ·exact⟨w0.heap.size,hB,fun q hq=>by cases hq⟩
  ·exact⟨q,(h.own.lt q hv).1,fun q' hq'=>by cases hq';simp⟩
 exact hK a' c' w' k (h.grows (qs:=[(i,vx,vy)]) (fun p hp=>by obtain rfl:=List.mem_singleton.1 hp;exact hq) _ ho hg hb) hk1 (own_turnG rfl hg [k] hk3)
theorem IaO.last {B z:Nat}{w:World}{a:Option Addr}{n c:Nat}{l:List It3}{p:It3}(h:IaO B z w (.slice a n c) (l++[p])):n=l.length+1/\n<=c/\c<=9223372036854775807/\∃ q,a=some ⟨q,0,none⟩/\q<w.heap.size/\B<=q/\w.cell? ⟨q,l.length*19,none⟩=some (.int .i64 p.1.kind):=by
 obtain⟨h1,h2⟩:=h.own
 rcases h2 with ⟨h2,h3⟩ | ⟨g,cap,cur,h2,h3,h4,h5,h6,h7,h8⟩
 ·simp at h3
 ·cases h2
  have hg:=(Array.getElem?_eq_some_iff.1 h4).1
  refine⟨by simp,h5,by unfold maxLen at h6;omega,g,rfl,hg,h3,?_⟩
  have h9:(flI (l++[p]))[l.length*19+0]? = some (.int .i64 p.1.kind):=(flI_get (l++[p]) l.length 0 (by omega) (by simp)).trans (by simp)
  rw[<-h8,List.getElem?_take] at h9
  split at h9
  ·rw[Array.getElem?_toList] at h9
   unfold World.cell?
   simp only[h4]
   simpa using h9
  ·cases h9
end Go.Proofs.YtecdfnpbcabdnaaGreatDoor
