import Derived.Test.YtecdfnpbcabdnaaGreatDoorMhK
import Derived.Test.YtecdfnpbcabdnaaGreatDoorMgW
namespace Go.Proofs.YtecdfnpbcabdnaaGreatDoor
open Go.Lib
def boundR (c:Int):Rdf:=fun S=>if isR k_sub S=true then (tm 13 (hdT S.L).at_ [(numberR c (adv S)).1],(numberR c (adv S)).2) else numberR c S
def behindR (A:Rdf)(ps:List Tm)(S:Sr):List Tm×Sr:=if S.good=true then (ps++[(A S).1],(A S).2) else (ps,S)
def rungB (c:Int)(A:Rdf)(ps:List Tm)(S:Sr):List Tm×Sr:=((behindR A ps (mustR c k_col S)).1,mustR c k_com (behindR A ps (mustR c k_col S)).2)
def rungR (c:Int)(A:Rdf)(ps:List Tm)(S:Sr):List Tm×Sr:=rungB c A (ps++[(boundR c S).1]) (boundR c S).2
def rungsR (c:Int)(A:Rdf):Nat->List Tm->Sr->List Tm×Sr
 | 0,ps,S=>(ps,S)
 | f+1,ps,S=>if S.good=true then (if isR k_else S=true then (ps,adv S) else rungsR c A f (rungR c A ps S).1 (rungR c A ps S).2) else (ps,S)
def lastR (c:Int)(A:Rdf)(y:List Tm×Sr):List Tm×Sr:=((behindR A y.1 (mustR c k_col y.2)).1,mustR c k_rb (behindR A y.1 (mustR c k_col y.2)).2)
def ladI (c:Int)(A:Rdf)(a:Nat)(x:Tm)(S:Sr):Tm×Sr:=(tm 36 a (lastR c A (rungsR c A S.L.length [x] S)).1,(lastR c A (rungsR c A S.L.length [x] S)).2)
def ladR (c:Int)(X:Option Rdf)(a:Nat)(x:Tm)(S:Sr):Tm×Sr:=
 match X with
 | none=>(tm 36 a [x],openR c k_lb true S)
 | some A=>ladI c A a x (openR c k_lb false S)
def actR (c:Int)(E:Rdf)(X:Option Rdf):Rdf:=fun S=>
 if isR k_hold S=true then (tm 33 (hdT S.L).at_ [],adv S)
 else if isR k_to S=true then (tm 34 (hdT S.L).at_ [(E (adv S)).1],(E (adv S)).2)
 else if isR k_by S=true then (tm 35 (hdT S.L).at_ [(E (adv S)).1],(E (adv S)).2)
 else if isR k_ladder S=true then ladR c X (hdT S.L).at_ (E (adv S)).1 (E (adv S)).2
 else (nilM,wrR c 16 S)
def actRD (c:Int):Nat->Rdf
 | 0=>actR c (exprR c 0) none
 | d+1=>actR c (exprR c (d+1)) (some (actRD c d))
def metricR (c:Int)(p:Nat)(S:Sr):It×Sr:=(itm 1 (takeR c 1 S).1.text (unitR (takeR c 1 S).2).1 0 0 0 nilM nilM p,(unitR (takeR c 1 S).2).2)
def stepR (c:Int)(p:Nat)(a b:Int)(S:Sr):It×Sr:=if isR k_step S=true then (itm 2 noB noB a b (takeR c 2 (adv S)).1.n nilM nilM p,(takeR c 2 (adv S)).2) else (itm 2 noB noB a b 0 nilM nilM p,S)
def repsR (c:Int)(p:Nat)(S:Sr):It×Sr:=stepR c p (takeR c 2 S).1.n (takeR c 2 (mustR c k_dots (takeR c 2 S).2)).1.n (takeR c 2 (mustR c k_dots (takeR c 2 S).2)).2
def coolR (c:Int)(p:Nat)(S:Sr):It×Sr:=
 if isR k_up S=true then (itm 3 noB noB (takeR c 3 (adv S)).1.n 0 0 nilM nilM p,(takeR c 3 (adv S)).2)
 else (itm 4 noB noB (takeR c 3 (mustR c k_down S)).1.n 0 0 nilM nilM p,(takeR c 3 (mustR c k_down S)).2)
def okR (A:Rdf)(S:Sr):Tm×Sr:=if S.good=true then A S else (nilM,S)
def letR (c:Int)(E:Rdf)(p:Nat)(S:Sr):It×Sr:=(itm 5 (takeR c 1 S).1.text noB 0 0 0 (okR E (mustR c k_eq (takeR c 1 S).2)).1 nilM p,(okR E (mustR c k_eq (takeR c 1 S).2)).2)
def guardR (c:Int)(E A:Rdf)(p:Nat)(S:Sr):It×Sr:=(itm 6 noB noB 0 0 0 (E S).1 (okR A (mustR c k_then (E S).2)).1 p,(okR A (mustR c k_then (E S).2)).2)
def decideR (c:Int)(A:Rdf)(p:Nat)(S:Sr):It×Sr:=(itm 7 noB noB 0 0 0 nilM (okR A (mustR c k_decide S)).1 p,(okR A (mustR c k_decide S)).2)
def itemR (c:Int)(E A:Rdf)(S:Sr):It×Sr:=
 if isR k_metric S=true then metricR c (hdT S.L).at_ (adv S)
 else if isR k_reps S=true then repsR c (hdT S.L).at_ (adv S)
 else if isR k_cooldown S=true then coolR c (hdT S.L).at_ (adv S)
 else if isR k_let S=true then letR c E (hdT S.L).at_ (adv S)
 else if isR k_guard S=true then guardR c E A (hdT S.L).at_ (adv S)
 else decideR c A (hdT S.L).at_ S
def itemE (c:Int)(E A:Rdf)(S:Sr):It×Sr:=((itemR c E A S).1,mustR c k_sem (itemR c E A S).2)
def itemsR (c:Int)(E A:Rdf):Nat->List It->Sr->List It×Sr
 | 0,l,S=>(l,S)
 | f+1,l,S=>if S.good=true then (if (itemE c E A S).1.kind=7 then (l++[(itemE c E A S).1],(itemE c E A S).2) else itemsR c E A f (l++[(itemE c E A S).1]) (itemE c E A S).2) else (l,S)
def polR (c:Int)(E A:Rdf)(S:Sr):(ByteArray×List It)×Sr:=
 (((takeR c 1 (mustR c k_policy S)).1.text,(itemsR c E A (mustR c k_sem (takeR c 1 (mustR c k_policy S)).2).L.length [] (mustR c k_sem (takeR c 1 (mustR c k_policy S)).2)).1),(itemsR c E A (mustR c k_sem (takeR c 1 (mustR c k_policy S)).2).L.length [] (mustR c k_sem (takeR c 1 (mustR c k_policy S)).2)).2)
theorem bad_bound (c:Int):BadE c (boundR c):=fun f S h=>by
 unfold boundR
 rw[if_neg (by rw[h.is];simp)]
 exact h.number
theorem bad_behind {c:Int}{A:Rdf}(hA:BadE c A){f:Flt}{S:Sr}(h:Bad c f S)(ps:List Tm):Bad c f (behindR A ps S).2:=by
 unfold behindR
 split
 ·exact hA f S h
 ·exact h
theorem bad_rungB {c:Int}{A:Rdf}(hA:BadE c A){f:Flt}{S:Sr}(h:Bad c f S)(ps:List Tm):Bad c f (rungB c A ps S).2:=(bad_behind hA (h.must _) _).must _
theorem bad_rung {c:Int}{A:Rdf}(hA:BadE c A){f:Flt}{S:Sr}(h:Bad c f S)(ps:List Tm):Bad c f (rungR c A ps S).2:=bad_rungB hA (bad_bound c f S h) _
theorem bad_rungs {c:Int}{A:Rdf}(hA:BadE c A){f:Flt}:∀ (n:Nat) (ps:List Tm) (S:Sr),Bad c f S->Bad c f (rungsR c A n ps S).2
 | 0,_,_,h=>h
 | n+1,ps,S,h=>by
   rw[rungsR]
   split
   ·rw[if_neg (by rw[h.is];simp)]
    exact bad_rungs hA n _ _ (bad_rung hA h ps)
   ·exact h
theorem bad_last {c:Int}{A:Rdf}(hA:BadE c A){f:Flt}{y:List Tm×Sr}(h:Bad c f y.2):Bad c f (lastR c A y).2:=(bad_behind hA (h.must _) _).must _
theorem bad_lad {c:Int}{X:Option Rdf}(hX:BadO c X){f:Flt}{S:Sr}(a:Nat)(x:Tm)(h:Bad c f S):Bad c f (ladR c X a x S).2:=by
 unfold ladR
 cases X with
 | none=>exact h.open _ _
 | some A=>exact bad_last (hX A rfl) (bad_rungs (hX A rfl) _ _ _ (h.open _ _))
theorem bad_act {c:Int}{E:Rdf}{X:Option Rdf}:BadE c (actR c E X):=fun f S h=>by
 unfold actR
 rw[if_neg (by rw[h.is];simp),if_neg (by rw[h.is];simp),if_neg (by rw[h.is];simp),if_neg (by rw[h.is];simp)]
 exact h.wr _
theorem bad_actRD (c:Int):∀ d,BadE c (actRD c d)
 | 0=>bad_act
 | _+1=>bad_act
theorem bad_ok {c:Int}{A:Rdf}(hA:BadE c A){f:Flt}{S:Sr}(h:Bad c f S):Bad c f (okR A S).2:=by
 unfold okR
 split
 ·exact hA f S h
 ·exact h
theorem bad_step {c:Int}{f:Flt}{S:Sr}(p:Nat)(a b:Int)(h:Bad c f S):Bad c f (stepR c p a b S).2:=by
 unfold stepR
 rw[if_neg (by rw[h.is];simp)]
 exact h
theorem bad_cool {c:Int}{f:Flt}{S:Sr}(p:Nat)(h:Bad c f S):Bad c f (coolR c p S).2:=by
 unfold coolR
 rw[if_neg (by rw[h.is];simp)]
 exact(h.must _).take (by decide)
theorem bad_decide {c:Int}{A:Rdf}(hA:BadE c A){f:Flt}{S:Sr}(p:Nat)(h:Bad c f S):Bad c f (decideR c A p S).2:=bad_ok hA (h.must _)
theorem bad_item {c:Int}{E A:Rdf}(hA:BadE c A){f:Flt}{S:Sr}(h:Bad c f S):Bad c f (itemR c E A S).2:=by
 unfold itemR
 rw[if_neg (by rw[h.is];simp),if_neg (by rw[h.is];simp),if_neg (by rw[h.is];simp),if_neg (by rw[h.is];simp),if_neg (by rw[h.is];simp)]
 exact bad_decide hA _ h
theorem bad_itemE {c:Int}{E A:Rdf}(hA:BadE c A){f:Flt}{S:Sr}(h:Bad c f S):Bad c f (itemE c E A S).2:=(bad_item hA h).must _
theorem bad_items {c:Int}{E A:Rdf}(hA:BadE c A){f:Flt}:∀ (n:Nat) (l:List It) (S:Sr),Bad c f S->Bad c f (itemsR c E A n l S).2
 | 0,_,_,h=>h
 | n+1,l,S,h=>by
   rw[itemsR]
   split
   ·split
    ·exact bad_itemE hA h
    ·exact bad_items hA n _ _ (bad_itemE hA h)
   ·exact h
theorem eqg_bnd {α β : Type}{z:Nat}{c:Int}{F : α -> Nat->Prop}{r:Rs α}{y : α × Sr}{k : α × List Tk->Rs β}{K : α × Sr -> β × Sr}(h:Eqv c r y)(hz:Rsz z F r)(hB:∀ f a S,Bad c f S->Bad c f (K (a,S)).2)(hK:∀ a L,TS L->TG z L->F a L.length->Eqv c (k (a,L)) (K (a,⟨none,L⟩))):Eqv c (bnd r k) (K y):=by
 cases r with
 | error f=>exact hB f y.1 y.2 h
 | ok q=>
   have h1:y=(q.1,⟨none,q.2⟩):=h.1
   rw[h1]
   exact hK q.1 q.2 h.2 hz.2 hz.1
def EqG (z:Nat)(c:Int)(p:Ps)(P:Rdf):Prop:=∀ L,TS L->TG z L->Eqv c (p L) (P ⟨none,L⟩)
theorem behind_none (A:Rdf)(ps:List Tm)(L:List Tk):behindR A ps ⟨none,L⟩=(ps++[(A ⟨none,L⟩).1],(A ⟨none,L⟩).2):=by
 unfold behindR
 rw[if_pos (good_none L)]
theorem ok_none (A:Rdf)(L:List Tk):okR A ⟨none,L⟩=A ⟨none,L⟩:=by
 unfold okR
 rw[if_pos (good_none L)]
theorem eqv_bound (c:Int):EqE c (boundP c) (boundR c):=fun L hL=>by
 unfold boundP
 rcases hx:nxt c L with f | t
 ·exact bad_bound c f _ (nxt_er hx)
 ·obtain⟨rfl,hn⟩:=nxt_no hx
  rw[bnd_ok]
  unfold boundR
  rw[is_none]
  split
  ·exact eqv_bnd (K:=fun y=>(tm 13 (hdT L).at_ [y.1],y.2)) (eqv_number c L.tail hL.tail) (fun _ _ _ h=>h) fun _ _ h=>eqv_ok h
  ·exact eqv_number c L hL
set_option maxHeartbeats 1000000 in
theorem eqv_rungs {z:Nat}{c:Int}{A:Ps}{P:Rdf}(hE:EqG z c A P)(hB:BadE c P)(hA:AcE z A):∀ f ps L,TS L->TG z L->L.length<=f->Eqv c (rungs c A f ps L) (lastR c P (rungsR c P f ps ⟨none,L⟩))
 | 0,_,L,_,hG,hf=>by have:=hG.ne;omega
 | f+1,ps,L,hL,hG,hf=>by
   rw[rungs,rungsR,if_pos (good_none L)]
   have e:lastR c P (if isR k_else ⟨none,L⟩=true then (ps,adv ⟨none,L⟩) else rungsR c P f (rungR c P ps ⟨none,L⟩).1 (rungR c P ps ⟨none,L⟩).2)=(fun b:Bool×Sr=>if b.1=true then lastR c P (ps,b.2) else lastR c P (rungsR c P f (rungR c P ps b.2).1 (rungR c P ps b.2).2)) (isR k_else ⟨none,L⟩,mayR k_else ⟨none,L⟩):=by
    simp only
    unfold mayR
    split<;>rfl
   rw[e]
   refine eqg_bnd (K:=fun b:Bool×Sr=>if b.1=true then lastR c P (ps,b.2) else lastR c P (rungsR c P f (rungR c P ps b.2).1 (rungR c P ps b.2).2)) (eqv_may c k_else L hL) (rz_may hG) (fun e a S h=>?_) fun b L1 hL1 hG1 hb=>?_
   ·simp only
    split
    ·exact bad_last hB h
    ·exact bad_last hB (bad_rungs hB _ _ _ (bad_rung hB h _))
   ·simp only
    split
    ·unfold lastR
     refine eqg_bnd (K:=fun m=>((behindR P ps m.2).1,mustR c k_rb (behindR P ps m.2).2)) (eqv_must c k_col L1 hL1) (rz_must hG1) (fun e a S h=>(bad_behind hB h _).must _) fun a L2 hL2 hG2 _=>?_
     simp only[behind_none]
     refine eqg_bnd (K:=fun y=>(ps++[y.1],mustR c k_rb y.2)) (hE L2 hL2 hG2) (hA L2 hG2) (fun e a S h=>h.must _) fun y L3 hL3 hG3 _=>?_
     exact eqv_close c k_rb _ _ hL3
    ·show Eqv c _ ((fun x:Tm×Sr=>lastR c P (rungsR c P f (rungB c P (ps++[x.1]) x.2).1 (rungB c P (ps++[x.1]) x.2).2)) (boundR c ⟨none,L1⟩))
     refine eqg_bnd (K:=fun x:Tm×Sr=>lastR c P (rungsR c P f (rungB c P (ps++[x.1]) x.2).1 (rungB c P (ps++[x.1]) x.2).2)) (eqv_bound c L1 hL1) (rz_bound hG1) (fun e a S h=>bad_last hB (bad_rungs hB _ _ _ (bad_rungB hB h _))) fun x L2 hL2 hG2 hx=>?_
     show Eqv c _ ((fun m:Nat×Sr=>lastR c P (rungsR c P f (behindR P (ps++[x]) m.2).1 (mustR c k_com (behindR P (ps++[x]) m.2).2))) ((hdT L2).at_,mustR c k_col ⟨none,L2⟩))
     refine eqg_bnd (K:=fun m:Nat×Sr=>lastR c P (rungsR c P f (behindR P (ps++[x]) m.2).1 (mustR c k_com (behindR P (ps++[x]) m.2).2))) (eqv_must c k_col L2 hL2) (rz_must hG2) (fun e a S h=>bad_last hB (bad_rungs hB _ _ _ ((bad_behind hB h _).must _))) fun a L3 hL3 hG3 ha=>?_
     simp only[behind_none]
     show Eqv c _ ((fun y:Tm×Sr=>lastR c P (rungsR c P f (ps++[x]++[y.1]) (mustR c k_com y.2))) (P ⟨none,L3⟩))
     refine eqg_bnd (K:=fun y:Tm×Sr=>lastR c P (rungsR c P f (ps++[x]++[y.1]) (mustR c k_com y.2))) (hE L3 hL3 hG3) (hA L3 hG3) (fun e a S h=>bad_last hB (bad_rungs hB _ _ _ (h.must _))) fun y L4 hL4 hG4 hy=>?_
     show Eqv c _ ((fun d:Nat×Sr=>lastR c P (rungsR c P f (ps++[x]++[y]) d.2)) ((hdT L4).at_,mustR c k_com ⟨none,L4⟩))
     refine eqg_bnd (K:=fun d:Nat×Sr=>lastR c P (rungsR c P f (ps++[x]++[y]) d.2)) (eqv_must c k_com L4 hL4) (rz_must hG4) (fun e a S h=>bad_last hB (bad_rungs hB _ _ _ h)) fun d L5 hL5 hG5 hd=>?_
     have e2:ps++[x]++[y]=ps++[x,y]:=by simp
     simp only[e2]
     have k1:=hb.1
     have k2:=hx.2
     have k3:=ha.2
     have k4:=hy.2
     have k5:=hd.2
     have k6:=nodes_pos x
     simp only at k3 k4 k5
     exact eqv_rungs hE hB hA f _ L5 hL5 hG5 (by omega)
def EqA (z:Nat)(c:Int)(X:Option Ps)(Y:Option Rdf):Prop:=(X=none/\Y=none)\/∃ E P,X=some E/\Y=some P/\EqG z c E P/\BadE c P/\AcE z E
theorem EqA.bad {z:Nat}{c:Int}{X:Option Ps}{Y:Option Rdf}(hX:EqA z c X Y):BadO c Y:=fun E hE=>by
 rcases hX with ⟨_,h⟩ | ⟨_,P,_,h,_,h3,_⟩
 ·rw[h] at hE;cases hE
 ·rw[h] at hE;cases hE;exact h3
theorem eqv_act {z:Nat}{c:Int}{E:Ps}{P:Rdf}{X:Option Ps}{Y:Option Rdf}(hE:EqE c E P)(hF:FoE z E)(hX:EqA z c X Y):EqG z c (actP c E X) (actR c P Y):=fun L hL hG=>by
 unfold actP
 rcases hx:nxt c L with f | t
 ·exact bad_act f _ (nxt_er hx)
 ·obtain⟨rfl,hn⟩:=nxt_no hx
  rw[bnd_ok]
  unfold actR
  simp only[is_none]
  split
  ·exact eqv_ok hL.tail
  ·split
   ·exact eqv_bnd (K:=fun y=>(tm 34 (hdT L).at_ [y.1],y.2)) (hE L.tail hL.tail) (fun _ _ _ h=>h) fun _ _ h=>eqv_ok h
   ·split
    ·exact eqv_bnd (K:=fun y=>(tm 35 (hdT L).at_ [y.1],y.2)) (hE L.tail hL.tail) (fun _ _ _ h=>h) fun _ _ h=>eqv_ok h
    ·split
     ·rename_i hk
      refine eqg_bnd (K:=fun y=>ladR c Y (hdT L).at_ y.1 y.2) (hE L.tail hL.tail) (hF L.tail (hG.tail (isT_kind hk))) (fun _ _ _ h=>bad_lad hX.bad _ _ h) fun x L1 hL1 hG1 _=>?_
      unfold beginP mustS
      rcases hx1:nxt c L1 with e | t
      ·exact bad_lad hX.bad _ _ (nxt_er hx1)
      ·obtain⟨rfl,hn1⟩:=nxt_no hx1
       rw[bnd_ok]
       unfold ladR openR
       simp only[is_none]
       by_cases h1:isT k_lb (hdT L1)=true
       ·rw[if_pos h1,bnd_ok]
        rcases hX with ⟨rfl,rfl⟩ | ⟨B,Q,rfl,rfl,h2,h3,h4⟩
        ·simp only[if_pos h1,if_true]
         exact wr_err hn1
        ·simp only[if_pos h1,Bool.false_eq_true,if_false]
         exact eqv_bnd (K:=fun z=>(tm 36 (hdT L).at_ z.1,z.2)) (eqv_rungs h2 h3 h4 L1.tail.length [x] L1.tail hL1.tail (hG1.tail (isT_kind h1)) (Nat.le_refl _)) (fun _ _ _ h=>h) fun _ _ h=>eqv_ok h
       ·rw[if_neg h1]
        rcases hX with ⟨rfl,rfl⟩ | ⟨B,Q,rfl,rfl,h2,h3,h4⟩
        ·simp only[if_neg h1]
         exact wr_err hn1
        ·simp only[if_neg h1]
         exact bad_last h3 (bad_rungs h3 _ _ _ (wr_err hn1))
     ·exact wr_err hn
theorem eqv_actD (z:Nat)(c:Int):∀ d,EqG z c (actD c d) (actRD c d)
 | 0=>eqv_act (eqv_expr c 0) (rz_expr z c 0) (.inl ⟨rfl,rfl⟩)
 | d+1=>eqv_act (eqv_expr c (d+1)) (rz_expr z c (d+1)) (.inr ⟨_,_,rfl,rfl,eqv_actD z c d,bad_actRD c d,rz_actD z c d⟩)
theorem eqv_metric (c:Int)(p:Nat)(L:List Tk)(hL:TS L):Eqv c (metricP c p L) (metricR c p ⟨none,L⟩):=by
 refine eqv_bnd (K:=fun t=>(itm 1 t.1.text (unitR t.2).1 0 0 0 nilM nilM p,(unitR t.2).2)) (eqv_take c 1 (by decide) L hL) (fun f a S h=>h.unit) fun t L1 hL1=>?_
 exact eqv_bnd (K:=fun u=>(itm 1 t.text u.1 0 0 0 nilM nilM p,u.2)) (eqv_unit c L1 hL1) (fun f a S h=>h) fun u L2 hL2=>eqv_ok hL2
theorem eqv_reps (c:Int)(p:Nat)(L:List Tk)(hL:TS L):Eqv c (repsP c p L) (repsR c p ⟨none,L⟩):=by
 refine eqv_bnd (K:=fun t=>stepR c p t.1.n (takeR c 2 (mustR c k_dots t.2)).1.n (takeR c 2 (mustR c k_dots t.2)).2) (eqv_take c 2 (by decide) L hL) (fun f a S h=>bad_step _ _ _ ((h.must _).take (by decide))) fun t L1 hL1=>?_
 refine eqv_bnd (K:=fun b=>stepR c p t.n (takeR c 2 b.2).1.n (takeR c 2 b.2).2) (eqv_must c k_dots L1 hL1) (fun f a S h=>bad_step _ _ _ (h.take (by decide))) fun b L2 hL2=>?_
 refine eqv_bnd (K:=fun d=>stepR c p t.n d.1.n d.2) (eqv_take c 2 (by decide) L2 hL2) (fun f a S h=>bad_step _ _ _ h) fun d L3 hL3=>?_
 unfold mayS stepR
 simp only[is_none]
 rcases hx:nxt c L3 with f | t1
 ·rw[if_neg (by have:=(nxt_er hx).is k_step;rw[is_none] at this;rw[this];simp)]
  exact nxt_er hx
 ·obtain⟨rfl,hn⟩:=nxt_no hx
  rw[bnd_ok]
  by_cases h1:isT k_step (hdT L3)=true
  ·rw[if_pos h1,if_pos h1,bnd_ok]
   show Eqv c (bnd (takeK c 2 L3.tail) fun e=>.ok (itm 2 noB noB t.n d.n e.1.n nilM nilM p,e.2)) _
   refine eqv_bnd (K:=fun e=>(itm 2 noB noB t.n d.n e.1.n nilM nilM p,e.2)) (eqv_take c 2 (by decide) L3.tail hL3.tail) (fun f a S h=>h) fun e L4 hL4=>?_
   exact eqv_ok hL4
  ·rw[if_neg h1,if_neg h1,bnd_ok]
   exact eqv_ok hL3
theorem eqv_cool (c:Int)(p:Nat)(L:List Tk)(hL:TS L):Eqv c (coolP c p L) (coolR c p ⟨none,L⟩):=by
 unfold coolP mayS
 rcases hx:nxt c L with f | t1
 ·exact bad_cool p (nxt_er hx)
 ·obtain⟨rfl,hn⟩:=nxt_no hx
  rw[bnd_ok]
  unfold coolR
  simp only[is_none]
  by_cases h1:isT k_up (hdT L)=true
  ·rw[if_pos h1,if_pos h1,bnd_ok]
   show Eqv c (bnd (takeK c 3 L.tail) fun e=>.ok (itm 3 noB noB e.1.n 0 0 nilM nilM p,e.2)) _
   refine eqv_bnd (K:=fun e=>(itm 3 noB noB e.1.n 0 0 nilM nilM p,e.2)) (eqv_take c 3 (by decide) L.tail hL.tail) (fun f a S h=>h) fun e L4 hL4=>?_
   exact eqv_ok hL4
  ·rw[if_neg h1,if_neg h1,bnd_ok]
   show Eqv c (bnd (mustS c k_down L) fun b=>bnd (takeK c 3 b.2) fun e=>.ok (itm 4 noB noB e.1.n 0 0 nilM nilM p,e.2)) _
   refine eqv_bnd (K:=fun b=>(itm 4 noB noB (takeR c 3 b.2).1.n 0 0 nilM nilM p,(takeR c 3 b.2).2)) (eqv_must c k_down L hL) (fun f a S h=>h.take (by decide)) fun b L2 hL2=>?_
   refine eqv_bnd (K:=fun e=>(itm 4 noB noB e.1.n 0 0 nilM nilM p,e.2)) (eqv_take c 3 (by decide) L2 hL2) (fun f a S h=>h) fun e L4 hL4=>?_
   exact eqv_ok hL4
theorem eqv_let {c:Int}{E:Ps}{P:Rdf}(hE:EqE c E P)(hB:BadE c P)(p:Nat)(L:List Tk)(hL:TS L):Eqv c (letP c E p L) (letR c P p ⟨none,L⟩):=by
 refine eqv_bnd (K:=fun t=>(itm 5 t.1.text noB 0 0 0 (okR P (mustR c k_eq t.2)).1 nilM p,(okR P (mustR c k_eq t.2)).2)) (eqv_take c 1 (by decide) L hL) (fun f a S h=>bad_ok hB (h.must _)) fun t L1 hL1=>?_
 refine eqv_bnd (K:=fun b=>(itm 5 t.text noB 0 0 0 (okR P b.2).1 nilM p,(okR P b.2).2)) (eqv_must c k_eq L1 hL1) (fun f a S h=>bad_ok hB h) fun b L2 hL2=>?_
 simp only[ok_none]
 exact eqv_bnd (K:=fun y=>(itm 5 t.text noB 0 0 0 y.1 nilM p,y.2)) (hE L2 hL2) (fun f a S h=>h) fun e L4 hL4=>eqv_ok hL4
theorem eqv_guard {z:Nat}{c:Int}{E A:Ps}{P Q:Rdf}(hE:EqE c E P)(hF:FoE z E)(hA:EqG z c A Q)(hC:BadE c Q)(p:Nat)(L:List Tk)(hL:TS L)(hG:TG z L):Eqv c (guardP c E A p L) (guardR c P Q p ⟨none,L⟩):=by
 refine eqg_bnd (K:=fun y=>(itm 6 noB noB 0 0 0 y.1 (okR Q (mustR c k_then y.2)).1 p,(okR Q (mustR c k_then y.2)).2)) (hE L hL) (hF L hG) (fun f a S h=>bad_ok hC (h.must _)) fun y L1 hL1 hG1 _=>?_
 refine eqg_bnd (K:=fun b=>(itm 6 noB noB 0 0 0 y (okR Q b.2).1 p,(okR Q b.2).2)) (eqv_must c k_then L1 hL1) (rz_must hG1) (fun f a S h=>bad_ok hC h) fun b L2 hL2 hG2 _=>?_
 simp only[ok_none]
 exact eqv_bnd (K:=fun q=>(itm 6 noB noB 0 0 0 y q.1 p,q.2)) (hA L2 hL2 hG2) (fun f a S h=>h) fun e L4 hL4=>eqv_ok hL4
theorem eqv_item {z:Nat}{c:Int}{E A:Ps}{P Q:Rdf}(hE:EqE c E P)(hB:BadE c P)(hF:FoE z E)(hA:EqG z c A Q)(hC:BadE c Q)(L:List Tk)(hL:TS L)(hG:TG z L):Eqv c (itemP c E A L) (itemR c P Q ⟨none,L⟩):=by
 unfold itemP
 rcases hx:nxt c L with f | t
 ·exact bad_item hC (nxt_er hx)
 ·obtain⟨rfl,hn⟩:=nxt_no hx
  rw[bnd_ok]
  unfold itemR
  simp only[is_none]
  split
  ·exact eqv_metric c _ _ hL.tail
  split
  ·exact eqv_reps c _ _ hL.tail
  split
  ·exact eqv_cool c _ _ hL.tail
  split
  ·exact eqv_let hE hB _ _ hL.tail
  split
  ·rename_i hk
   exact eqv_guard hE hF hA hC _ _ hL.tail (hG.tail (isT_kind hk))
  unfold decideR mustR
  simp only[is_none]
  split
  ·rename_i hk
   have e:okR Q (adv ⟨none,L⟩)=Q ⟨none,L.tail⟩:=ok_none Q L.tail
   rw[e]
   exact eqv_bnd (K:=fun q=>(itm 7 noB noB 0 0 0 nilM q.1 (hdT L).at_,q.2)) (hA L.tail hL.tail (hG.tail (isT_kind hk))) (fun f a S h=>h) fun e L4 hL4=>eqv_ok hL4
  ·exact bad_ok hC (wr_err hn)
theorem eqv_items {z:Nat}{c:Int}{E A:Ps}{P Q:Rdf}(hE:EqE c E P)(hB:BadE c P)(hF:FoE z E)(hA:EqG z c A Q)(hC:BadE c Q)(hAc:AcE z A):∀ f l L,TS L->TG z L->L.length<=f->Eqv c (itemsP c E A f l L) (itemsR c P Q f l ⟨none,L⟩)
 | 0,_,L,_,hG,hf=>by have:=hG.ne;omega
 | f+1,l,L,hL,hG,hf=>by
   rw[itemsP_succ,itemsR,if_pos (good_none L)]
   unfold itemE
   have htl:=hG.tlen
   refine eqg_bnd (K:=fun x=>if x.1.kind=7 then (l++[x.1],mustR c k_sem x.2) else itemsR c P Q f (l++[x.1]) (mustR c k_sem x.2)) (eqv_item hE hB hF hA hC L hL hG) (rz_item hF hAc hG) (fun e a S h=>?_) fun x L1 hL1 hG1 hx=>?_
   ·simp only
    split
    ·exact h.must _
    ·exact bad_items hC f _ _ (h.must _)
   ·have k1:=hx.2
    refine eqg_bnd (K:=fun b=>if x.kind=7 then (l++[x],b.2) else itemsR c P Q f (l++[x]) b.2) (eqv_must c k_sem L1 hL1) (rz_must hG1) (fun e a S h=>?_) fun b L2 hL2 hG2 hb=>?_
    ·simp only
     split
     ·exact h
     ·exact bad_items hC f _ _ h
    ·simp only
     have k2:=hb.2
     split
     ·exact eqv_ok hL2
     ·exact eqv_items hE hB hF hA hC hAc f _ L2 hL2 hG2 (by omega)
theorem eqv_pol {z:Nat}{c:Int}{E A:Ps}{P Q:Rdf}(hE:EqE c E P)(hB:BadE c P)(hF:FoE z E)(hA:EqG z c A Q)(hC:BadE c Q)(hAc:AcE z A)(L:List Tk)(hL:TS L)(hG:TG z L):Eqv c (polP c E A L) (polR c P Q ⟨none,L⟩):=by
 have hbi:∀ (n:Nat) (f:Flt) (S:Sr),Bad c f S->Bad c f (itemsR c P Q n [] S).2:=fun n f S h=>bad_items hC n _ _ h
 refine eqg_bnd (K:=fun a=>(((takeR c 1 a.2).1.text,(itemsR c P Q (mustR c k_sem (takeR c 1 a.2).2).L.length [] (mustR c k_sem (takeR c 1 a.2).2)).1),(itemsR c P Q (mustR c k_sem (takeR c 1 a.2).2).L.length [] (mustR c k_sem (takeR c 1 a.2).2)).2)) (eqv_must c k_policy L hL) (rz_must hG) (fun f a S h=>hbi _ _ _ ((h.take (by decide)).must _)) fun a L1 hL1 hG1 _=>?_
 refine eqg_bnd (K:=fun t=>((t.1.text,(itemsR c P Q (mustR c k_sem t.2).L.length [] (mustR c k_sem t.2)).1),(itemsR c P Q (mustR c k_sem t.2).L.length [] (mustR c k_sem t.2)).2)) (eqv_take c 1 (by decide) L1 hL1) (rz_take (by decide) hG1) (fun f a S h=>hbi _ _ _ (h.must _)) fun t L2 hL2 hG2 _=>?_
 refine eqg_bnd (K:=fun b=>((t.text,(itemsR c P Q b.2.L.length [] b.2).1),(itemsR c P Q b.2.L.length [] b.2).2)) (eqv_must c k_sem L2 hL2) (rz_must hG2) (fun f a S h=>hbi _ _ _ h) fun b L3 hL3 hG3 _=>?_
 exact eqv_bnd (K:=fun y=>((t.text,y.1),y.2)) (eqv_items hE hB hF hA hC hAc L3.length [] L3 hL3 hG3 (Nat.le_refl _)) (fun f a S h=>h) fun _ _ h=>eqv_ok h
theorem len_bound (c:Int):LenE (boundR c):=fun S=>by
 unfold boundR
 split
 ·exact Nat.le_trans (len_number c _) (adv_len S)
 ·exact len_number c S
theorem len_behind {A:Rdf}(hA:LenE A)(ps:List Tm)(S:Sr):(behindR A ps S).2.L.length<=S.L.length:=by
 unfold behindR
 split
 ·exact hA S
 ·exact Nat.le_refl _
theorem len_rungB {c:Int}{A:Rdf}(hA:LenE A)(ps:List Tm)(S:Sr):(rungB c A ps S).2.L.length<=S.L.length:=Nat.le_trans (len_must _ _ _) (Nat.le_trans (len_behind hA _ _) (len_must _ _ _))
theorem len_rung {c:Int}{A:Rdf}(hA:LenE A)(ps:List Tm)(S:Sr):(rungR c A ps S).2.L.length<=S.L.length:=Nat.le_trans (len_rungB hA _ _) (len_bound c S)
theorem len_rungs {c:Int}{A:Rdf}(hA:LenE A):∀ (n:Nat) (ps:List Tm) (S:Sr),(rungsR c A n ps S).2.L.length<=S.L.length
 | 0,_,_=>Nat.le_refl _
 | n+1,ps,S=>by
   rw[rungsR]
   split
   ·split
    ·exact adv_len S
    ·exact Nat.le_trans (len_rungs hA n _ _) (len_rung hA ps S)
   ·exact Nat.le_refl _
theorem len_last {c:Int}{A:Rdf}(hA:LenE A)(y:List Tm×Sr):(lastR c A y).2.L.length<=y.2.L.length:=Nat.le_trans (len_must _ _ _) (Nat.le_trans (len_behind hA _ _) (len_must _ _ _))
theorem len_lad {c:Int}{X:Option Rdf}(hX:LenO X)(a:Nat)(x:Tm)(S:Sr):(ladR c X a x S).2.L.length<=S.L.length:=by
 unfold ladR
 cases X with
 | none=>exact len_open _ _ _ _
 | some A=>exact Nat.le_trans (len_last (hX A rfl) _) (Nat.le_trans (len_rungs (hX A rfl) _ _ _) (len_open _ _ _ _))
theorem len_act {c:Int}{E:Rdf}{X:Option Rdf}(hE:LenE E)(hX:LenO X):LenE (actR c E X):=fun S=>by
 unfold actR
 split
 ·exact adv_len S
 split
 ·exact Nat.le_trans (hE _) (adv_len S)
 split
 ·exact Nat.le_trans (hE _) (adv_len S)
 split
 ·exact Nat.le_trans (len_lad hX _ _ _) (Nat.le_trans (hE _) (adv_len S))
 ·exact len_wr _ _ _
theorem len_actRD (c:Int):∀ d,LenE (actRD c d)
 | 0=>len_act (len_expr c 0) (fun E h=>by cases h)
 | d+1=>len_act (len_expr c (d+1)) (fun E h=>by cases h;exact len_actRD c d)
theorem number_less (c:Int)(S:Sr):(numberR c S).2.L.length<S.L.length\/(numberR c S).2.good=false\/S.L=[]:=by
 unfold numberR
 have hu:=len_unit (takeR c 2 S).2
 have ug:(takeR c 2 S).2.good=false->(unitR (takeR c 2 S).2).2.good=false:=fun h=>by
  unfold unitR
  rw[if_neg (by rw[h];simp)]
  exact h
 by_cases hl:S.L=[]
 ·exact .inr (.inr hl)
 have hp:0<S.L.length:=List.length_pos_iff.2 hl
 by_cases hg:S.good=true
 ·by_cases hk:(hdT S.L).kind=2
  ·left
   have e:(takeR c 2 S).2=adv S:=by unfold takeR;rw[if_pos hg,if_pos hk]
   rw[e] at hu ⊢
   have:(adv S).L.length+1=S.L.length:=by show S.L.tail.length+1=_;rw[List.length_tail];omega
   show (unitR (adv S)).2.L.length<_
   omega
  ·right;left
   have e:(takeR c 2 S).2=wrR c 16 S:=by unfold takeR;rw[if_pos hg,if_neg hk]
   refine ug ?_
   rw[e]
   unfold wrR
   rw[if_pos hg]
   rfl
 ·right;left
  have e:(takeR c 2 S).2=S:=by unfold takeR;rw[if_neg hg]
  refine ug ?_
  rw[e]
  simpa using hg
theorem bound_less (c:Int)(S:Sr):(boundR c S).2.L.length<S.L.length\/(boundR c S).2.good=false\/S.L=[]:=by
 by_cases hl:S.L=[]
 ·exact .inr (.inr hl)
 have hp:0<S.L.length:=List.length_pos_iff.2 hl
 unfold boundR
 split
 ·left
  have h1:=len_number c (adv S)
  have:(adv S).L.length+1=S.L.length:=by show S.L.tail.length+1=_;rw[List.length_tail];omega
  show (numberR c (adv S)).2.L.length<_
  omega
 ·exact number_less c S
theorem item_less {c:Int}{E A:Rdf}(hE:LenE E)(hA:LenE A){S:Sr}(hl:S.L≠[]):(itemR c E A S).2.L.length<S.L.length\/(itemR c E A S).1.kind=7:=by
 have hp:0<S.L.length:=List.length_pos_iff.2 hl
 have ha:(adv S).L.length+1=S.L.length:=by show S.L.tail.length+1=_;rw[List.length_tail];omega
 have hok:∀ (A:Rdf),LenE A->∀ S,(okR A S).2.L.length<=S.L.length:=fun A hA S=>by
  unfold okR
  split
  ·exact hA S
  ·exact Nat.le_refl _
 have key:∀ n,n<=(adv S).L.length->n<S.L.length:=fun n h=>by omega
 unfold itemR
 split
 ·exact .inl (key _ (Nat.le_trans (len_unit _) (len_take _ _ _)))
 split
 ·left
  unfold repsR stepR
  split
  ·exact key _ (Nat.le_trans (len_take _ _ _) (Nat.le_trans (adv_len _) (Nat.le_trans (len_take _ _ _) (Nat.le_trans (len_must _ _ _) (len_take _ _ _)))))
  ·exact key _ (Nat.le_trans (len_take _ _ _) (Nat.le_trans (len_must _ _ _) (len_take _ _ _)))
 split
 ·left
  unfold coolR
  split
  ·exact key _ (Nat.le_trans (len_take _ _ _) (adv_len _))
  ·exact key _ (Nat.le_trans (len_take _ _ _) (len_must _ _ _))
 split
 ·exact .inl (key _ (Nat.le_trans (hok E hE _) (Nat.le_trans (len_must _ _ _) (len_take _ _ _))))
 split
 ·exact .inl (key _ (Nat.le_trans (hok A hA _) (Nat.le_trans (len_must _ _ _) (hE _))))
 ·exact .inr rfl
end Go.Proofs.YtecdfnpbcabdnaaGreatDoor
