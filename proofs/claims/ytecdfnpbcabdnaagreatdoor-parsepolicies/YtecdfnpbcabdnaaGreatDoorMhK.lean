import Derived.Test.YtecdfnpbcabdnaaGreatDoorMgW
namespace Go.Proofs.YtecdfnpbcabdnaaGreatDoor
open Go.Lib
structure Sr where
 er:Option Flt
 L:List Tk
def Sr.good (S:Sr):Bool:=S.er.isNone
def wrR (c e:Int)(S:Sr):Sr:=if S.good=true then ⟨some ((hdT S.L).at_,if (hdT S.L).kind=7/\c≠0 then c else e),S.L⟩ else S
def isR (x:ByteArray)(S:Sr):Bool:=S.good&&isT x (hdT S.L)
def adv (S:Sr):Sr:=⟨S.er,S.L.tail⟩
def mustR (c:Int)(x:ByteArray)(S:Sr):Sr:=if isR x S=true then adv S else wrR c 16 S
def mayR (x:ByteArray)(S:Sr):Sr:=if isR x S=true then adv S else S
def openR (c:Int)(x:ByteArray)(full:Bool)(S:Sr):Sr:=if isR x S=true then (if full=true then wrR c 15 S else adv S) else wrR c 16 S
abbrev tk0:Tk:=⟨0,⟨#[]⟩,0,0⟩
def takeR (c k:Int)(S:Sr):Tk×Sr:=if S.good=true then (if (hdT S.L).kind=k then (hdT S.L,adv S) else (tk0,wrR c 16 S)) else (tk0,S)
def unitR (S:Sr):ByteArray×Sr:=if S.good=true/\(hdT S.L).kind=8 then ((hdT S.L).text,adv S) else (⟨#[]⟩,S)
abbrev Rdf:=Sr->Tm×Sr
def numberR (c:Int):Rdf:=fun S=>(⟨1,(unitR (takeR c 2 S).2).1,(takeR c 2 S).1.n,0,((takeR c 2 S).1.at_:Int),[]⟩,(unitR (takeR c 2 S).2).2)
def sgR (sg:Sg)(S:Sr):Option Int:=if S.good=true then sgT sg (hdT S.L) else none
def loopR (sg:Sg)(P:Rdf):Nat->Tm->Sr->Tm×Sr
 | 0,t,S=>(t,S)
 | f+1,t,S=>match sgR sg S with
   | some k=>loopR sg P f (tm k (hdT S.L).at_ [t,(P (adv S)).1]) (P (adv S)).2
   | none=>(t,S)
def leftR (sg:Sg)(P:Rdf):Rdf:=fun S=>loopR sg P (P S).2.L.length (P S).1 (P S).2
def relR (sg:Sg)(P:Rdf):Rdf:=fun S=>match sgR sg (P S).2 with
 | some k=>(tm k (hdT (P S).2.L).at_ [(P S).1,(P (adv (P S).2)).1],(P (adv (P S).2)).2)
 | none=>P S
def facR (A:Rdf):Rdf:=fun S=>
 if isR k_sub S=true then (tm 13 (hdT S.L).at_ [(A (adv S)).1],(A (adv S)).2)
 else if isR k_not S=true then (tm 14 (hdT S.L).at_ [(A (adv S)).1],(A (adv S)).2)
 else A S
def partsR (c:Int)(E:Rdf):Nat->List Tm->Sr->List Tm×Sr
 | 0,ps,S=>(ps,S)
 | n+1,ps,S=>if (mustR c k_com S).good=true then partsR c E n (ps++[(E (mustR c k_com S)).1]) (E (mustR c k_com S)).2 else partsR c E n ps (mustR c k_com S)
def callR (c:Int)(X:Option Rdf)(k:Int)(n a:Nat)(S:Sr):Tm×Sr:=
 match X with
 | none=>(tm k a [],openR c k_lp true S)
 | some E=>if (openR c k_lp false S).good=true then
    (tm k a (partsR c E n [(E (openR c k_lp false S)).1] (E (openR c k_lp false S)).2).1,mustR c k_rp (partsR c E n [(E (openR c k_lp false S)).1] (E (openR c k_lp false S)).2).2)
   else (tm k a [],openR c k_lp false S)
def cronR (c:Int)(full:Bool)(a:Nat)(S:Sr):Tm×Sr:=
 (⟨6,(takeR c 4 (openR c k_lp full S)).1.text,0,0,(a:Int),[]⟩,mustR c k_rp (takeR c 4 (openR c k_lp full S)).2)
def winR (c:Int)(full:Bool)(k:Int)(a:Nat)(S:Sr):Tm×Sr:=
 let t:=takeR c 1 (openR c k_lp full S)
 let d:=takeR c 3 (mustR c k_com t.2)
 if k=12 then
  let m:=takeR c 2 (mustR c k_com d.2)
  (⟨k,t.1.text,d.1.n,m.1.n,(a:Int),[]⟩,mustR c k_rp m.2)
 else (⟨k,t.1.text,d.1.n,0,(a:Int),[]⟩,mustR c k_rp d.2)
def wordR (c:Int)(X:Option Rdf)(t:Tk)(S:Sr):Tm×Sr:=
 if t.text=k_if then callR c X 32 2 t.at_ S
 else if t.text=k_min then callR c X 29 1 t.at_ S
 else if t.text=k_max then callR c X 30 1 t.at_ S
 else if t.text=k_either then callR c X 31 1 t.at_ S
 else if t.text=k_abs then callR c X 15 0 t.at_ S
 else if t.text=k_ceil then callR c X 16 0 t.at_ S
 else if t.text=k_floor then callR c X 17 0 t.at_ S
 else if winK t.text=0 then cronR c X.isNone t.at_ S
 else winR c X.isNone (winK t.text) t.at_ S
def isCall (x:ByteArray):Bool:=decide (x=k_if)||(decide (x=k_min)||(decide (x=k_max)||(decide (x=k_either)||(decide (x=k_abs)||(decide (x=k_ceil)||(decide (x=k_floor)||(decide (x=k_sum)||(decide (x=k_avg)||(decide (x=k_low)||(decide (x=k_high)||(decide (x=k_count)||(decide (x=k_rank)||(decide (x=k_cron))))))))))))))
def atomR (c:Int)(X:Option Rdf):Rdf:=fun S=>
 if S.good=true then
  if (hdT S.L).kind=2 then numberR c S
  else if (hdT S.L).kind=1 then (⟨2,(hdT S.L).text,0,0,((hdT S.L).at_:Int),[]⟩,adv S)
  else if isT k_true (hdT S.L)=true then (tm 3 (hdT S.L).at_ [],adv S)
  else if isT k_false (hdT S.L)=true then (tm 4 (hdT S.L).at_ [],adv S)
  else if isT k_reps (hdT S.L)=true then (tm 5 (hdT S.L).at_ [],adv S)
  else if isT k_lp (hdT S.L)=true then
   match X with
   | none=>(nilM,wrR c 15 S)
   | some E=>((E (adv S)).1,mustR c k_rp (E (adv S)).2)
  else if isT (hdT S.L).text (hdT S.L)=true/\isCall (hdT S.L).text=true then wordR c X (hdT S.L) (adv S)
  else (nilM,wrR c 16 S)
 else (nilM,S)
def rv5 (c:Int)(X:Option Rdf):Rdf:=facR (atomR c X)
def rv4 (c:Int)(X:Option Rdf):Rdf:=leftR sgMul (rv5 c X)
def rv3 (c:Int)(X:Option Rdf):Rdf:=leftR sgSum (rv4 c X)
def rv2 (c:Int)(X:Option Rdf):Rdf:=relR sgCmp (rv3 c X)
def rv1 (c:Int)(X:Option Rdf):Rdf:=leftR sgAnd (rv2 c X)
def rv0 (c:Int)(X:Option Rdf):Rdf:=leftR sgOr (rv1 c X)
def exprR (c:Int):Nat->Rdf
 | 0=>rv0 c none
 | d+1=>rv0 c (some (exprR c d))
def innerR (f:Nat->Rdf):Nat->Option Rdf
 | 0=>none
 | d+1=>some (f d)
theorem exprR_eq (c:Int)(d:Nat):exprR c d=rv0 c (innerR (exprR c) d):=by cases d<;>rfl
structure Bad (c:Int)(f:Flt)(S:Sr):Prop where
 h:S.er=some f\/(S.er=none/\(hdT S.L).kind=7/\c≠0/\f=((hdT S.L).at_,c))
theorem isT_eof {x:ByteArray}{t:Tk}(h:t.kind=7):isT x t=false:=by
 unfold isT
 rw[h]
 simp
theorem Bad.is {c:Int}{f:Flt}{S:Sr}(h:Bad c f S)(x:ByteArray):isR x S=false:=by
 unfold isR Sr.good
 rcases h.h with h | ⟨h,hk,_⟩
 ·rw[h];rfl
 ·rw[isT_eof hk,Bool.and_false]
theorem Bad.wr {c:Int}{f:Flt}{S:Sr}(h:Bad c f S)(e:Int):Bad c f (wrR c e S):=by
 unfold wrR
 split
 ·rename_i hg
  unfold Sr.good at hg
  rcases h.h with h | ⟨h,hk,hc,hf⟩
  ·rw[h] at hg;cases hg
  ·exact⟨.inl (by rw[if_pos ⟨hk,hc⟩,hf])⟩
 ·exact h
theorem Bad.must {c:Int}{f:Flt}{S:Sr}(h:Bad c f S)(x:ByteArray):Bad c f (mustR c x S):=by
 unfold mustR
 rw[if_neg (by rw[h.is];simp)]
 exact h.wr _
theorem Bad.may {c:Int}{f:Flt}{S:Sr}(h:Bad c f S)(x:ByteArray):Bad c f (mayR x S):=by
 unfold mayR
 rw[if_neg (by rw[h.is];simp)]
 exact h
theorem Bad.open {c:Int}{f:Flt}{S:Sr}(h:Bad c f S)(x:ByteArray)(b:Bool):Bad c f (openR c x b S):=by
 unfold openR
 rw[if_neg (by rw[h.is];simp)]
 exact h.wr _
theorem Bad.kind {c:Int}{f:Flt}{S:Sr}(h:Bad c f S)(hg:S.good=true):(hdT S.L).kind=7:=by
 unfold Sr.good at hg
 rcases h.h with h | ⟨_,hk,_⟩
 ·rw[h] at hg;cases hg
 ·exact hk
theorem Bad.take {c:Int}{f:Flt}{S:Sr}(h:Bad c f S){k:Int}(hk:k≠7):Bad c f (takeR c k S).2:=by
 unfold takeR
 split
 ·rename_i hg
  rw[if_neg (by rw[h.kind hg];exact fun h=>hk h.symm)]
  exact h.wr _
 ·exact h
theorem Bad.unit {c:Int}{f:Flt}{S:Sr}(h:Bad c f S):Bad c f (unitR S).2:=by
 unfold unitR
 rw[if_neg]
 ·exact h
 ·rintro⟨hg,hk⟩
  rw[h.kind hg] at hk
  revert hk
  decide
theorem Bad.number {c:Int}{f:Flt}{S:Sr}(h:Bad c f S):Bad c f (numberR c S).2:=(h.take (by decide)).unit
theorem sgT_eof {sg:Sg}{t:Tk}(h:t.kind=7):sgT sg t=none:=by
 unfold sgT
 have:sg.find? (fun s=>isT s.1 t)=none:=List.find?_eq_none.2 (fun s _=>by rw[isT_eof h];simp)
 rw[this]
 rfl
theorem Bad.sg {c:Int}{f:Flt}{S:Sr}(h:Bad c f S)(sg:Sg):sgR sg S=none:=by
 unfold sgR
 split
 ·rename_i hg
  exact sgT_eof (h.kind hg)
 ·rfl
def BadE (c:Int)(P:Rdf):Prop:=∀ f S,Bad c f S->Bad c f (P S).2
def BadO (c:Int)(X:Option Rdf):Prop:=∀ E,X=some E->BadE c E
theorem Bad.loop {c:Int}{f:Flt}{S:Sr}(h:Bad c f S)(sg:Sg)(P:Rdf)(n:Nat)(t:Tm):loopR sg P n t S=(t,S):=by
 cases n with
 | zero=>rfl
 | succ n=>
   rw[loopR,h.sg]
theorem bad_left {c:Int}{sg:Sg}{P:Rdf}(hP:BadE c P):BadE c (leftR sg P):=fun f S h=>by
 unfold leftR
 rw[(hP f S h).loop]
 exact hP f S h
theorem bad_rel {c:Int}{sg:Sg}{P:Rdf}(hP:BadE c P):BadE c (relR sg P):=fun f S h=>by
 unfold relR
 rw[(hP f S h).sg]
 exact hP f S h
theorem bad_fac {c:Int}{A:Rdf}(hA:BadE c A):BadE c (facR A):=fun f S h=>by
 unfold facR
 rw[if_neg (by rw[h.is];simp),if_neg (by rw[h.is];simp)]
 exact hA f S h
theorem bad_parts {c:Int}{E:Rdf}(hE:BadE c E):∀ n ps f S,Bad c f S->Bad c f (partsR c E n ps S).2
 | 0,_,_,_,h=>h
 | n+1,ps,f,S,h=>by
   rw[partsR]
   split
   ·exact bad_parts hE n _ f _ (hE f _ (h.must _))
   ·exact bad_parts hE n _ f _ (h.must _)
theorem bad_call {c:Int}{X:Option Rdf}(hX:BadO c X)(k:Int)(n a:Nat):BadE c (callR c X k n a):=fun f S h=>by
 unfold callR
 cases X with
 | none=>exact h.open _ _
 | some E=>
   simp only
   split
   ·exact(bad_parts (hX E rfl) n _ f _ (hX E rfl f _ (h.open _ _))).must _
   ·exact h.open _ _
theorem bad_atom {c:Int}{X:Option Rdf}:BadE c (atomR c X):=fun f S h=>by
 unfold atomR
 split
 ·rename_i hg
  have hk:=h.kind hg
  rw[if_neg (by rw[hk];decide),if_neg (by rw[hk];decide),if_neg (by rw[isT_eof hk];simp),if_neg (by rw[isT_eof hk];simp),if_neg (by rw[isT_eof hk];simp),if_neg (by rw[isT_eof hk];simp),if_neg (by rw[isT_eof hk];simp)]
  exact h.wr _
 ·exact h
theorem bad_rv5 {c:Int}{X:Option Rdf}:BadE c (rv5 c X):=bad_fac bad_atom
theorem bad_rv4 {c:Int}{X:Option Rdf}:BadE c (rv4 c X):=bad_left bad_rv5
theorem bad_rv3 {c:Int}{X:Option Rdf}:BadE c (rv3 c X):=bad_left bad_rv4
theorem bad_rv2 {c:Int}{X:Option Rdf}:BadE c (rv2 c X):=bad_rel bad_rv3
theorem bad_rv1 {c:Int}{X:Option Rdf}:BadE c (rv1 c X):=bad_left bad_rv2
theorem bad_rv0 {c:Int}{X:Option Rdf}:BadE c (rv0 c X):=bad_left bad_rv1
theorem bad_expr (c:Int)(d:Nat):BadE c (exprR c d):=by
 rw[exprR_eq]
 exact bad_rv0
def signL:List (List UInt8):=[[46,46],[60,61],[62,61],[59],[58],[44],[61],[40],[41],[123],[125],[43],[45],[42],[47],[60],[62]]
structure TkS (t:Tk):Prop where
 wd:t.kind=6->resv t.text.data.toList=true
 sg:t.kind=5->signL.contains t.text.data.toList=true
def TS (L:List Tk):Prop:=∀ t,t∈L->TkS t
theorem TS.hd {L:List Tk}(h:TS L):TkS (hdT L):=by
 cases L with
 | nil=>exact⟨fun h=>absurd h (by decide),fun h=>absurd h (by decide)⟩
 | cons t L=>exact h t (by simp)
theorem TS.tail {L:List Tk}(h:TS L):TS L.tail:=fun t ht=>h t (List.mem_of_mem_tail ht)
def Eqv {α : Type}(c:Int)(r:Rs α)(y : α × Sr):Prop:=
 match r with
 | .ok q=>y=(q.1,⟨none,q.2⟩)/\TS q.2
 | .error f=>Bad c f y.2
def EqE (c:Int)(p:Ps)(P:Rdf):Prop:=∀ L,TS L->Eqv c (p L) (P ⟨none,L⟩)
theorem eqv_ok {α : Type}{c:Int}{a : α}{L:List Tk}(h:TS L):Eqv c (.ok (a,L)) (a,⟨none,L⟩):=⟨rfl,h⟩
theorem eqv_bnd {α β : Type}{c:Int}{r:Rs α}{y : α × Sr}{k : α × List Tk->Rs β}{K : α × Sr -> β × Sr}(h:Eqv c r y)(hB:∀ f a S,Bad c f S->Bad c f (K (a,S)).2)(hK:∀ a L,TS L->Eqv c (k (a,L)) (K (a,⟨none,L⟩))):Eqv c (bnd r k) (K y):=by
 cases r with
 | error f=>exact hB f y.1 y.2 h
 | ok q=>
   have h1:y=(q.1,⟨none,q.2⟩):=h.1
   rw[h1]
   exact hK q.1 q.2 h.2
theorem bad_next {c:Int}{L:List Tk}(h1:(hdT L).kind=7)(h2:c≠0):Bad c ((hdT L).at_,c) ⟨none,L⟩:=⟨.inr ⟨rfl,h1,h2,rfl⟩⟩
theorem good_none (L:List Tk):Sr.good ⟨none,L⟩=true:=rfl
theorem is_none (x:ByteArray)(L:List Tk):isR x ⟨none,L⟩=isT x (hdT L):=by unfold isR;rw[good_none];rfl
theorem wr_none (c e:Int)(L:List Tk)(h:¬((hdT L).kind=7/\c≠0)):wrR c e ⟨none,L⟩=⟨some ((hdT L).at_,e),L⟩:=by
 unfold wrR
 rw[if_pos (good_none L),if_neg h]
theorem wr_err {c e:Int}{L:List Tk}(h:¬((hdT L).kind=7/\c≠0)):Bad c ((hdT L).at_,e) (wrR c e ⟨none,L⟩):=by
 rw[wr_none c e L h]
 exact⟨.inl rfl⟩
theorem nxt_no {c:Int}{L:List Tk}{t:Tk}(h:nxt c L=.ok t):t=hdT L/\¬((hdT L).kind=7/\c≠0):=by
 unfold nxt at h
 split at h
 ·cases h
 ·rename_i hh
  cases h
  exact⟨rfl,hh⟩
theorem nxt_er {c:Int}{L:List Tk}{f:Flt}(h:nxt c L=.error f):Bad c f ⟨none,L⟩:=by
 unfold nxt at h
 split at h
 ·rename_i hh
  cases h
  exact bad_next hh.1 hh.2
 ·cases h
theorem eqv_must (c:Int)(x:ByteArray)(L:List Tk)(hL:TS L):Eqv c (mustS c x L) ((hdT L).at_,mustR c x ⟨none,L⟩):=by
 unfold mustS
 rcases hx:nxt c L with f | t
 ·exact(nxt_er hx).must x
 ·obtain⟨rfl,hn⟩:=nxt_no hx
  rw[bnd_ok]
  unfold mustR
  rw[is_none]
  split
  ·exact eqv_ok hL.tail
  ·exact wr_err hn
theorem eqv_may (c:Int)(x:ByteArray)(L:List Tk)(hL:TS L):Eqv c (mayS c x L) (isR x ⟨none,L⟩,mayR x ⟨none,L⟩):=by
 unfold mayS
 rcases hx:nxt c L with f | t
 ·exact(nxt_er hx).may x
 ·obtain⟨rfl,hn⟩:=nxt_no hx
  rw[bnd_ok]
  unfold mayR
  rw[is_none]
  cases isT x (hdT L) with
  | true=>exact eqv_ok hL.tail
  | false=>exact eqv_ok hL
theorem eqv_take (c k:Int)(hk:k≠7)(L:List Tk)(hL:TS L):Eqv c (takeK c k L) (takeR c k ⟨none,L⟩):=by
 unfold takeK
 rcases hx:nxt c L with f | t
 ·exact(nxt_er hx).take hk
 ·obtain⟨rfl,hn⟩:=nxt_no hx
  rw[bnd_ok]
  unfold takeR
  rw[if_pos (good_none L)]
  split
  ·exact eqv_ok hL.tail
  ·exact wr_err hn
theorem eqv_unit (c:Int)(L:List Tk)(hL:TS L):Eqv c (unitP c L) (unitR ⟨none,L⟩):=by
 unfold unitP
 rcases hx:nxt c L with f | t
 ·exact(nxt_er hx).unit
 ·obtain⟨rfl,hn⟩:=nxt_no hx
  rw[bnd_ok]
  unfold unitR
  by_cases h8:(hdT L).kind=8
  ·rw[if_pos h8,if_pos ⟨good_none L,h8⟩];exact eqv_ok hL.tail
  ·rw[if_neg h8,if_neg (fun h=>h8 h.2)];exact eqv_ok hL
theorem eqv_number (c:Int):EqE c (numberP c) (numberR c):=fun L hL=>by
 refine eqv_bnd (K:=fun t=>((⟨1,(unitR t.2).1,t.1.n,0,(t.1.at_:Int),[]⟩:Tm),(unitR t.2).2)) (eqv_take c 2 (by decide) L hL) (fun f a S h=>h.unit) fun t L1 hL1=>?_
 exact eqv_bnd (K:=fun u=>((⟨1,u.1,t.n,0,(t.at_:Int),[]⟩:Tm),u.2)) (eqv_unit c L1 hL1) (fun f a S h=>h) fun u L2 hL2=>eqv_ok hL2
theorem eqv_close {α : Type}(c:Int)(x:ByteArray)(a : α)(L:List Tk)(hL:TS L):Eqv c (closeP c x (a,L)) (a,mustR c x ⟨none,L⟩):=
 eqv_bnd (K:=fun y=>(a,y.2)) (eqv_must c x L hL) (fun _ _ _ h=>h) fun _ _ hL1=>eqv_ok hL1
theorem eqv_loop {c:Int}{sg:Sg}{S:Ps}{P:Rdf}(hD:Dec S)(hE:EqE c S P):∀ (n:Nat) (x:Tm) (L:List Tk),TS L->L.length<=n->Eqv c (leftL c sg S n x L) (loopR sg P n x ⟨none,L⟩)
 | 0,x,L,hL,_=>eqv_ok hL
 | n+1,x,L,hL,hn1=>by
   rw[leftL,loopR]
   unfold joinP
   rcases hx:nxt c L with f | t
   ·rw[(nxt_er hx).sg]
    exact nxt_er hx
   ·obtain⟨rfl,hn⟩:=nxt_no hx
    rw[bnd_ok]
    unfold sgR
    rw[if_pos (good_none L)]
    cases hs:sgT sg (hdT L) with
    | none=>exact eqv_ok hL
    | some k=>
      simp only
      have h7:L≠[]:=fun h0=>by
       subst h0
       rw[sgT_eof (show (hdT []).kind=7 from rfl)] at hs
       cases hs
      have hpos:0<L.length:=List.length_pos_iff.2 h7
      have he:=hE L.tail hL.tail
      show Eqv c (bnd (bnd (S L.tail) _) _) (loopR sg P n (tm k (hdT L).at_ [x,(P ⟨none,L.tail⟩).1]) (P ⟨none,L.tail⟩).2)
      rcases hy:S L.tail with f | y
      ·rw[hy] at he
       have hb:Bad c f (P ⟨none,L.tail⟩).2:=he
       rw[hb.loop]
       exact hb
      ·rw[hy] at he
       have h1:P ⟨none,L.tail⟩=(y.1,⟨none,y.2⟩):=he.1
       rw[h1]
       simp only[bnd_ok,if_true]
       have:=hD _ _ hy
       rw[List.length_tail] at this
       exact eqv_loop hD hE n _ _ he.2 (by omega)
theorem eqv_left {c:Int}{sg:Sg}{S:Ps}{P:Rdf}(hD:Dec S)(hE:EqE c S P):EqE c (leftP c sg S) (leftR sg P):=fun L hL=>
 eqv_bnd (K:=fun y=>loopR sg P y.2.L.length y.1 y.2) (hE L hL) (fun f a S h=>by rw[h.loop];exact h) fun t L1 hL1=>eqv_loop hD hE _ _ _ hL1 (Nat.le_refl _)
theorem eqv_rel {c:Int}{sg:Sg}{S:Ps}{P:Rdf}(hE:EqE c S P):EqE c (cmpP c sg S) (relR sg P):=fun L hL=>by
 have key:∀ x L1,TS L1->Eqv c (bnd (joinP c sg S x L1) fun z=>.ok (z.1.1,z.2)) (match sgR sg ⟨none,L1⟩ with
  | some k=>(tm k (hdT L1).at_ [x,(P (adv ⟨none,L1⟩)).1],(P (adv ⟨none,L1⟩)).2)
  | none=>(x,⟨none,L1⟩)):=fun x L1 hL1=>by
  unfold joinP
  rcases hx:nxt c L1 with f | t
  ·rw[(nxt_er hx).sg]
   exact nxt_er hx
  ·obtain⟨rfl,hn⟩:=nxt_no hx
   rw[bnd_ok]
   unfold sgR
   rw[if_pos (good_none L1)]
   cases hs:sgT sg (hdT L1) with
   | none=>exact eqv_ok hL1
   | some k=>
     simp only
     have he:=hE L1.tail hL1.tail
     show Eqv c (bnd (bnd (S L1.tail) _) _) (tm k (hdT L1).at_ [x,(P ⟨none,L1.tail⟩).1],(P ⟨none,L1.tail⟩).2)
     rcases hy:S L1.tail with f | y
     ·rw[hy] at he
      exact he
     ·rw[hy] at he
      have h1:P ⟨none,L1.tail⟩=(y.1,⟨none,y.2⟩):=he.1
      rw[h1]
      exact eqv_ok he.2
 unfold cmpP relR
 have he:=hE L hL
 rcases hy:S L with f | y
 ·rw[hy] at he
  have hb:Bad c f (P ⟨none,L⟩).2:=he
  rw[hb.sg]
  exact hb
 ·rw[hy] at he
  have h1:P ⟨none,L⟩=(y.1,⟨none,y.2⟩):=he.1
  rw[h1,bnd_ok]
  exact key y.1 y.2 he.2
theorem eqv_fac {c:Int}{A:Ps}{P:Rdf}(hE:EqE c A P)(hB:BadE c P):EqE c (facP c A) (facR P):=fun L hL=>by
 unfold facP
 rcases hx:nxt c L with f | t
 ·exact bad_fac hB f _ (nxt_er hx)
 ·obtain⟨rfl,hn⟩:=nxt_no hx
  rw[bnd_ok]
  unfold facR
  rw[is_none,is_none]
  split
  ·exact eqv_bnd (K:=fun y=>(tm 13 (hdT L).at_ [y.1],y.2)) (hE L.tail hL.tail) (fun _ _ _ h=>h) fun _ _ h=>eqv_ok h
  ·split
   ·exact eqv_bnd (K:=fun y=>(tm 14 (hdT L).at_ [y.1],y.2)) (hE L.tail hL.tail) (fun _ _ _ h=>h) fun _ _ h=>eqv_ok h
   ·exact hE L hL
def EqO (c:Int)(X:Option Ps)(Y:Option Rdf):Prop:=(X=none/\Y=none)\/∃ E P,X=some E/\Y=some P/\EqE c E P/\BadE c P
theorem EqO.bad {c:Int}{X:Option Ps}{Y:Option Rdf}(hX:EqO c X Y):BadO c Y:=fun E hE=>by
 rcases hX with ⟨_,h⟩ | ⟨_,P,_,h,_,h3⟩
 ·rw[h] at hE;cases hE
 ·rw[h] at hE;cases hE;exact h3
theorem eqv_begin {β : Type}{c:Int}{x:ByteArray}{X:Option Ps}{Y:Option Rdf}(hX:EqO c X Y){L:List Tk}(hL:TS L){f:Ps->List Tk->Rs β}{K:Sr -> β × Sr}(hB:∀ e S,Bad c e S->Bad c e (K S).2)(hK:∀ E P L1,TS L1->X=some E->Y=some P->EqE c E P->BadE c P->Eqv c (f E L1) (K ⟨none,L1⟩)):Eqv c (beginP c x X L f) (K (openR c x Y.isNone ⟨none,L⟩)):=by
 unfold beginP mustS
 rcases hx:nxt c L with e | t
 ·exact hB _ _ ((nxt_er hx).open _ _)
 ·obtain⟨rfl,hn⟩:=nxt_no hx
  rw[bnd_ok]
  unfold openR
  rw[is_none]
  by_cases h1:isT x (hdT L)=true
  ·rw[if_pos h1,if_pos h1,bnd_ok]
   rcases hX with ⟨rfl,rfl⟩ | ⟨E,P,rfl,rfl,h2,h3⟩
   ·exact hB _ _ (wr_err hn)
   ·exact hK E P _ hL.tail rfl rfl h2 h3
  ·rw[if_neg h1,if_neg h1]
   exact hB _ _ (wr_err hn)
theorem eqv_more {c:Int}{E:Ps}{P:Rdf}(hE:EqE c E P)(hB:BadE c P):∀ n ps L,TS L->Eqv c (moreP c E n ps L) (partsR c P n ps ⟨none,L⟩)
 | 0,_,_,hL=>eqv_ok hL
 | n+1,ps,L,hL=>by
   rw[moreP,partsR]
   have hm:=eqv_must c k_com L hL
   rcases hy:mustS c k_com L with f | a
   ·rw[hy] at hm
    have hb:Bad c f (mustR c k_com ⟨none,L⟩):=hm
    split
    ·exact bad_parts hB n _ f _ (hB f _ hb)
    ·exact bad_parts hB n _ f _ hb
   ·rw[hy] at hm
    have h1:mustR c k_com ⟨none,L⟩=⟨none,a.2⟩:=congrArg Prod.snd hm.1
    rw[h1,if_pos (good_none _),bnd_ok]
    have he:=hE a.2 hm.2
    rcases hq:E a.2 with f | q
    ·rw[hq] at he
     exact bad_parts hB n _ f _ he
    ·rw[hq] at he
     have h2:P ⟨none,a.2⟩=(q.1,⟨none,q.2⟩):=he.1
     rw[h2,bnd_ok]
     exact eqv_more hE hB n _ _ he.2
theorem eqv_call {c:Int}{X:Option Ps}{Y:Option Rdf}(hX:EqO c X Y)(k:Int)(n a:Nat)(L:List Tk)(hL:TS L):Eqv c (callP c X k n a L) (callR c Y k n a ⟨none,L⟩):=by
 have hb:=bad_call hX.bad k n a
 unfold callP beginP mustS
 rcases hx:nxt c L with e | t
 ·exact hb _ _ (nxt_er hx)
 ·obtain⟨rfl,hn⟩:=nxt_no hx
  rw[bnd_ok]
  unfold callR openR
  simp only[is_none]
  by_cases h1:isT k_lp (hdT L)=true
  ·rw[if_pos h1,bnd_ok]
   rcases hX with ⟨rfl,rfl⟩ | ⟨E,P,rfl,rfl,h2,h3⟩
   ·simp only[if_pos h1,if_true]
    exact wr_err hn
   ·simp only[if_pos h1,Bool.false_eq_true,if_false]
    have hg:(adv ⟨none,L⟩).good=true:=rfl
    rw[if_pos hg]
    have he:=h2 L.tail hL.tail
    rcases hq:E L.tail with f | q
    ·rw[hq] at he
     exact(bad_parts h3 n _ f _ he).must _
    ·rw[hq] at he
     have h4:P (adv ⟨none,L⟩)=(q.1,⟨none,q.2⟩):=he.1
     rw[h4,bnd_ok]
     refine eqv_bnd (K:=fun z=>(tm k a z.1,mustR c k_rp z.2)) (eqv_more h2 h3 n [q.1] q.2 he.2) (fun _ _ _ h=>h.must _) fun ps L1 hL1=>?_
     exact eqv_close c k_rp _ _ hL1
  ·rw[if_neg h1]
   have hbd:Bad c ((hdT L).at_,16) (wrR c 16 ⟨none,L⟩):=wr_err hn
   have hng:(wrR c 16 ⟨none,L⟩).good=false:=by rw[wr_none c 16 L hn];rfl
   rcases hX with ⟨rfl,rfl⟩ | ⟨E,P,rfl,rfl,h2,h3⟩
   ·simp only[if_neg h1]
    exact hbd
   ·simp only[if_neg h1]
    rw[if_neg (by rw[hng];simp)]
    exact hbd
theorem eqv_cron {c:Int}{X:Option Ps}{Y:Option Rdf}(hX:EqO c X Y)(a:Nat)(L:List Tk)(hL:TS L):Eqv c (cronP c X a L) (cronR c Y.isNone a ⟨none,L⟩):=by
 refine eqv_begin (K:=fun S=>((⟨6,(takeR c 4 S).1.text,0,0,(a:Int),[]⟩:Tm),mustR c k_rp (takeR c 4 S).2)) hX hL (fun _ _ h=>(h.take (by decide)).must _) fun E P L1 hL1 _ _ _ _=>?_
 refine eqv_bnd (K:=fun t=>((⟨6,t.1.text,0,0,(a:Int),[]⟩:Tm),mustR c k_rp t.2)) (eqv_take c 4 (by decide) L1 hL1) (fun _ _ _ h=>h.must _) fun t L2 hL2=>?_
 exact eqv_close c k_rp _ _ hL2
theorem eqv_win {c:Int}{X:Option Ps}{Y:Option Rdf}(hX:EqO c X Y)(k:Int)(a:Nat)(L:List Tk)(hL:TS L):Eqv c (winP c X k a L) (winR c Y.isNone k a ⟨none,L⟩):=by
 unfold winR
 by_cases h12:k=12
 ·subst h12
  simp only[if_true]
  refine eqv_begin (K:=fun S=>((⟨12,(takeR c 1 S).1.text,(takeR c 3 (mustR c k_com (takeR c 1 S).2)).1.n,(takeR c 2 (mustR c k_com (takeR c 3 (mustR c k_com (takeR c 1 S).2)).2)).1.n,(a:Int),[]⟩:Tm),mustR c k_rp (takeR c 2 (mustR c k_com (takeR c 3 (mustR c k_com (takeR c 1 S).2)).2)).2)) hX hL (fun _ _ h=>(((((h.take (by decide)).must _).take (by decide)).must _).take (by decide)).must _) fun E P L1 hL1 _ _ _ _=>?_
  refine eqv_bnd (K:=fun t=>((⟨12,t.1.text,(takeR c 3 (mustR c k_com t.2)).1.n,(takeR c 2 (mustR c k_com (takeR c 3 (mustR c k_com t.2)).2)).1.n,(a:Int),[]⟩:Tm),mustR c k_rp (takeR c 2 (mustR c k_com (takeR c 3 (mustR c k_com t.2)).2)).2)) (eqv_take c 1 (by decide) L1 hL1) (fun _ _ _ h=>((((h.must _).take (by decide)).must _).take (by decide)).must _) fun t L2 hL2=>?_
  refine eqv_bnd (K:=fun b=>((⟨12,t.text,(takeR c 3 b.2).1.n,(takeR c 2 (mustR c k_com (takeR c 3 b.2).2)).1.n,(a:Int),[]⟩:Tm),mustR c k_rp (takeR c 2 (mustR c k_com (takeR c 3 b.2).2)).2)) (eqv_must c k_com L2 hL2) (fun _ _ _ h=>(((h.take (by decide)).must _).take (by decide)).must _) fun b L3 hL3=>?_
  refine eqv_bnd (K:=fun d=>((⟨12,t.text,d.1.n,(takeR c 2 (mustR c k_com d.2)).1.n,(a:Int),[]⟩:Tm),mustR c k_rp (takeR c 2 (mustR c k_com d.2)).2)) (eqv_take c 3 (by decide) L3 hL3) (fun _ _ _ h=>((h.must _).take (by decide)).must _) fun d L4 hL4=>?_
  simp only[if_true]
  refine eqv_bnd (K:=fun e=>((⟨12,t.text,d.n,(takeR c 2 e.2).1.n,(a:Int),[]⟩:Tm),mustR c k_rp (takeR c 2 e.2).2)) (eqv_must c k_com L4 hL4) (fun _ _ _ h=>(h.take (by decide)).must _) fun e L5 hL5=>?_
  refine eqv_bnd (K:=fun m=>((⟨12,t.text,d.n,m.1.n,(a:Int),[]⟩:Tm),mustR c k_rp m.2)) (eqv_take c 2 (by decide) L5 hL5) (fun _ _ _ h=>h.must _) fun m L6 hL6=>?_
  exact eqv_close c k_rp _ _ hL6
 ·simp only[if_neg h12]
  refine eqv_begin (K:=fun S=>((⟨k,(takeR c 1 S).1.text,(takeR c 3 (mustR c k_com (takeR c 1 S).2)).1.n,0,(a:Int),[]⟩:Tm),mustR c k_rp (takeR c 3 (mustR c k_com (takeR c 1 S).2)).2)) hX hL (fun _ _ h=>(((h.take (by decide)).must _).take (by decide)).must _) fun E P L1 hL1 _ _ _ _=>?_
  refine eqv_bnd (K:=fun t=>((⟨k,t.1.text,(takeR c 3 (mustR c k_com t.2)).1.n,0,(a:Int),[]⟩:Tm),mustR c k_rp (takeR c 3 (mustR c k_com t.2)).2)) (eqv_take c 1 (by decide) L1 hL1) (fun _ _ _ h=>((h.must _).take (by decide)).must _) fun t L2 hL2=>?_
  refine eqv_bnd (K:=fun b=>((⟨k,t.text,(takeR c 3 b.2).1.n,0,(a:Int),[]⟩:Tm),mustR c k_rp (takeR c 3 b.2).2)) (eqv_must c k_com L2 hL2) (fun _ _ _ h=>(h.take (by decide)).must _) fun b L3 hL3=>?_
  refine eqv_bnd (K:=fun d=>((⟨k,t.text,d.1.n,0,(a:Int),[]⟩:Tm),mustR c k_rp d.2)) (eqv_take c 3 (by decide) L3 hL3) (fun _ _ _ h=>h.must _) fun d L4 hL4=>?_
  simp only[if_neg h12]
  exact eqv_close c k_rp _ _ hL4
theorem call_or {x:ByteArray}(h:isCall x=true):x=k_if\/x=k_min\/x=k_max\/x=k_either\/x=k_abs\/x=k_ceil\/x=k_floor\/x=k_sum\/x=k_avg\/x=k_low\/x=k_high\/x=k_count\/x=k_rank\/x=k_cron:=by
 unfold isCall at h
 simp only[Bool.or_eq_true,decide_eq_true_eq] at h
 exact h
theorem no_call {x:ByteArray}(h:¬ isCall x=true):x≠k_if/\x≠k_min/\x≠k_max/\x≠k_either/\x≠k_abs/\x≠k_ceil/\x≠k_floor/\x≠k_cron/\winK x=0:=by
 unfold isCall at h
 simp only[Bool.or_eq_true,decide_eq_true_eq,not_or] at h
 obtain⟨h1,h2,h3,h4,h5,h6,h7,h8,h9,h10,h11,h12,h13,h14⟩:=h
 refine⟨h1,h2,h3,h4,h5,h6,h7,h14,?_⟩
 unfold winK
 rw[if_neg h8,if_neg h9,if_neg h10,if_neg h11,if_neg h12,if_neg h13]
theorem eqv_word {c:Int}{X:Option Ps}{Y:Option Rdf}(hX:EqO c X Y){t:Tk}(hc:isCall t.text=true)(L:List Tk)(hL:TS L):Eqv c (wordP c X t L) (wordR c Y t ⟨none,L⟩):=by
 unfold wordP wordR
 rcases call_or hc with h | h | h | h | h | h | h | h | h | h | h | h | h | h
 all_goals rw[h]
 ·exact eqv_call hX _ _ _ L hL
 ·exact eqv_call hX _ _ _ L hL
 ·exact eqv_call hX _ _ _ L hL
 ·exact eqv_call hX _ _ _ L hL
 ·exact eqv_call hX _ _ _ L hL
 ·exact eqv_call hX _ _ _ L hL
 ·exact eqv_call hX _ _ _ L hL
 ·exact eqv_win hX 7 _ L hL
 ·exact eqv_win hX 8 _ L hL
 ·exact eqv_win hX 9 _ L hL
 ·exact eqv_win hX 10 _ L hL
 ·exact eqv_win hX 11 _ L hL
 ·exact eqv_win hX 12 _ L hL
 ·exact eqv_cron hX _ L hL
theorem word_no {c:Int}{X:Option Ps}{t:Tk}(hc:¬ isCall t.text=true)(h1:¬ t.text=k_true)(h2:¬ t.text=k_false)(h3:¬ t.text=k_reps)(L:List Tk):wordP c X t L=.error (t.at_,16):=by
 obtain⟨g1,g2,g3,g4,g5,g6,g7,g8,g9⟩:=no_call hc
 unfold wordP
 rw[if_neg h1,if_neg h2,if_neg h3,if_neg g1,if_neg g2,if_neg g3,if_neg g4,if_neg g5,if_neg g6,if_neg g7,if_neg g8,if_pos g9]
theorem sign_not {t:Tk}(h:TkS t)(h6:¬ t.kind=6){x:ByteArray}(hx:signL.contains x.data.toList=false):isT x t=false:=by
 unfold isT
 by_cases h5:t.kind=5
 ·have:=h.sg h5
  have hne:¬ t.text=x:=fun he=>by rw[he,hx] at this;cases this
  rw[decide_eq_false hne]
  rfl
 ·rw[decide_eq_false h5,decide_eq_false h6]
  simp
theorem sign_call {t:Tk}(h:TkS t)(h6:¬ t.kind=6):¬(isT t.text t=true/\isCall t.text=true):=fun ⟨h1,h2⟩=>by
 have key:∀ x,t.text=x->signL.contains x.data.toList=false->False:=fun x he hx=>by
  have:=sign_not h h6 hx
  rw[<-he,h1] at this
  cases this
 rcases call_or h2 with h | h | h | h | h | h | h | h | h | h | h | h | h | h
 all_goals exact key _ h (by decide)
theorem eqv_atom {c:Int}{X:Option Ps}{Y:Option Rdf}(hX:EqO c X Y):EqE c (atomP c X) (atomR c Y):=fun L hL=>by
 unfold atomP
 rcases hx:nxt c L with f | t
 ·exact bad_atom f _ (nxt_er hx)
 ·obtain⟨rfl,hn⟩:=nxt_no hx
  rw[bnd_ok]
  unfold atomR
  rw[if_pos (good_none L)]
  simp only
  by_cases h2:(hdT L).kind=2
  ·rw[if_pos h2,if_pos h2]
   exact eqv_number c L hL
  rw[if_neg h2,if_neg h2]
  by_cases h1:(hdT L).kind=1
  ·rw[if_pos h1,if_pos h1]
   exact eqv_ok hL.tail
  rw[if_neg h1,if_neg h1]
  by_cases h6:(hdT L).kind=6
  ·rw[if_pos h6]
   have hw:∀ x,isT x (hdT L)=decide ((hdT L).text=x):=fun x=>by unfold isT;rw[h6];simp
   have hrs:=hL.hd.wd h6
   simp only[hw]
   by_cases e1:(hdT L).text=k_true
   ·rw[if_pos (decide_eq_true e1)]
    unfold wordP
    rw[if_pos e1]
    exact eqv_ok hL.tail
   rw[if_neg (by simpa using e1)]
   by_cases e2:(hdT L).text=k_false
   ·rw[if_pos (decide_eq_true e2)]
    unfold wordP
    rw[if_neg e1,if_pos e2]
    exact eqv_ok hL.tail
   rw[if_neg (by simpa using e2)]
   by_cases e3:(hdT L).text=k_reps
   ·rw[if_pos (decide_eq_true e3)]
    unfold wordP
    rw[if_neg e1,if_neg e2,if_pos e3]
    exact eqv_ok hL.tail
   rw[if_neg (by simpa using e3)]
   have el:¬(hdT L).text=k_lp:=fun he=>by
    rw[he] at hrs
    revert hrs
    decide
   rw[if_neg (by simpa using el)]
   by_cases hc:isCall (hdT L).text=true
   ·rw[if_pos ⟨by simp,hc⟩]
    exact eqv_word hX hc L.tail hL.tail
   ·rw[if_neg (fun h=>hc h.2),word_no hc e1 e2 e3]
    exact wr_err hn
  ·rw[if_neg h6,if_neg (by rw[sign_not hL.hd h6 (by decide)];simp),if_neg (by rw[sign_not hL.hd h6 (by decide)];simp),if_neg (by rw[sign_not hL.hd h6 (by decide)];simp),if_neg (sign_call hL.hd h6)]
   unfold beginP mustS
   rw[hx,bnd_ok]
   by_cases hl:isT k_lp (hdT L)=true
   ·rw[if_pos hl,if_pos hl,bnd_ok]
    rcases hX with ⟨rfl,rfl⟩ | ⟨E,P,rfl,rfl,h3,h4⟩
    ·exact wr_err hn
    ·refine eqv_bnd (K:=fun y=>(y.1,mustR c k_rp y.2)) (h3 L.tail hL.tail) (fun _ _ _ h=>h.must _) fun t L1 hL1=>?_
     exact eqv_close c k_rp _ _ hL1
   ·rw[if_neg hl,if_neg hl]
    exact wr_err hn
theorem eqv_lv0 {c:Int}{X:Option Ps}{Y:Option Rdf}(hX:EqO c X Y)(hD:DecO X):EqE c (lv0 c X) (rv0 c Y):=
 eqv_left (dec_lv1 hD) (eqv_left (dec_lv2 hD) (eqv_rel (eqv_left (dec_lv4 hD) (eqv_left (dec_lv5 hD) (eqv_fac (eqv_atom hX) bad_atom)))))
theorem eqv_expr (c:Int):∀ d,EqE c (exprD c d) (exprR c d)
 | 0=>eqv_lv0 (.inl ⟨rfl,rfl⟩) (fun _ h=>by cases h)
 | d+1=>eqv_lv0 (.inr ⟨_,_,rfl,rfl,eqv_expr c d,bad_expr c d⟩) (fun E h=>by cases h;exact dec_expr c d)
theorem wr_L (c e:Int)(S:Sr):(wrR c e S).L=S.L:=by unfold wrR;split<;>rfl
theorem adv_len (S:Sr):(adv S).L.length<=S.L.length:=by show S.L.tail.length<=_;rw[List.length_tail];omega
theorem len_wr (c e:Int)(S:Sr):(wrR c e S).L.length<=S.L.length:=by rw[wr_L];exact Nat.le_refl _
theorem len_must (c:Int)(x:ByteArray)(S:Sr):(mustR c x S).L.length<=S.L.length:=by
 unfold mustR
 split
 ·exact adv_len S
 ·exact len_wr _ _ _
theorem len_open (c:Int)(x:ByteArray)(b:Bool)(S:Sr):(openR c x b S).L.length<=S.L.length:=by
 unfold openR
 split
 ·split
  ·exact len_wr _ _ _
  ·exact adv_len S
 ·exact len_wr _ _ _
theorem len_take (c k:Int)(S:Sr):(takeR c k S).2.L.length<=S.L.length:=by
 unfold takeR
 split
 ·split
  ·exact adv_len S
  ·exact len_wr _ _ _
 ·exact Nat.le_refl _
theorem len_unit (S:Sr):(unitR S).2.L.length<=S.L.length:=by
 unfold unitR
 split
 ·exact adv_len S
 ·exact Nat.le_refl _
def LenE (P:Rdf):Prop:=∀ S,(P S).2.L.length<=S.L.length
def LenO (X:Option Rdf):Prop:=∀ E,X=some E->LenE E
theorem len_number (c:Int):LenE (numberR c):=fun S=>Nat.le_trans (len_unit _) (len_take c 2 S)
theorem len_loop {sg:Sg}{P:Rdf}(h:LenE P):∀ (n:Nat) (t:Tm) (S:Sr),(loopR sg P n t S).2.L.length<=S.L.length
 | 0,_,_=>Nat.le_refl _
 | n+1,t,S=>by
   rw[loopR]
   cases sgR sg S with
   | none=>exact Nat.le_refl _
   | some k=>exact Nat.le_trans (len_loop h n _ _) (Nat.le_trans (h _) (adv_len S))
theorem len_left {sg:Sg}{P:Rdf}(h:LenE P):LenE (leftR sg P):=fun S=>Nat.le_trans (len_loop h _ _ _) (h S)
theorem len_rel {sg:Sg}{P:Rdf}(h:LenE P):LenE (relR sg P):=fun S=>by
 unfold relR
 cases sgR sg (P S).2 with
 | none=>exact h S
 | some k=>exact Nat.le_trans (h _) (Nat.le_trans (adv_len _) (h S))
theorem len_fac {A:Rdf}(h:LenE A):LenE (facR A):=fun S=>by
 unfold facR
 split
 ·exact Nat.le_trans (h _) (adv_len S)
 ·split
  ·exact Nat.le_trans (h _) (adv_len S)
  ·exact h S
theorem len_parts {c:Int}{E:Rdf}(h:LenE E):∀ (n:Nat) (ps:List Tm) (S:Sr),(partsR c E n ps S).2.L.length<=S.L.length
 | 0,_,_=>Nat.le_refl _
 | n+1,ps,S=>by
   rw[partsR]
   split
   ·exact Nat.le_trans (len_parts h n _ _) (Nat.le_trans (h _) (len_must _ _ _))
   ·exact Nat.le_trans (len_parts h n _ _) (len_must _ _ _)
theorem len_call {c:Int}{X:Option Rdf}(h:LenO X)(k:Int)(n a:Nat)(S:Sr):(callR c X k n a S).2.L.length<=S.L.length:=by
 unfold callR
 cases X with
 | none=>exact len_open _ _ _ _
 | some E=>
   simp only
   split
   ·exact Nat.le_trans (len_must _ _ _) (Nat.le_trans (len_parts (h E rfl) _ _ _) (Nat.le_trans (h E rfl _) (len_open _ _ _ _)))
   ·exact len_open _ _ _ _
theorem len_cron (c:Int)(b:Bool)(a:Nat)(S:Sr):(cronR c b a S).2.L.length<=S.L.length:=Nat.le_trans (len_must _ _ _) (Nat.le_trans (len_take _ _ _) (len_open _ _ _ _))
theorem len_win (c:Int)(b:Bool)(k:Int)(a:Nat)(S:Sr):(winR c b k a S).2.L.length<=S.L.length:=by
 unfold winR
 have h:=Nat.le_trans (len_take c 3 (mustR c k_com (takeR c 1 (openR c k_lp b S)).2)) (Nat.le_trans (len_must _ _ _) (Nat.le_trans (len_take _ _ _) (len_open c k_lp b S)))
 split
 ·exact Nat.le_trans (len_must _ _ _) (Nat.le_trans (len_take _ _ _) (Nat.le_trans (len_must _ _ _) h))
 ·exact Nat.le_trans (len_must _ _ _) h
theorem len_word {c:Int}{X:Option Rdf}(h:LenO X)(t:Tk)(S:Sr):(wordR c X t S).2.L.length<=S.L.length:=by
 unfold wordR
 repeat' split
 all_goals first | exact len_call h _ _ _ _ | exact len_cron _ _ _ _ | exact len_win _ _ _ _ _
theorem len_atom {c:Int}{X:Option Rdf}(h:LenO X):LenE (atomR c X):=fun S=>by
 unfold atomR
 split
 ·split
  ·exact len_number c S
  ·split
   ·exact adv_len S
   ·split
    ·exact adv_len S
    ·split
     ·exact adv_len S
     ·split
      ·exact adv_len S
      ·split
       ·cases X with
        | none=>exact len_wr _ _ _
        | some E=>exact Nat.le_trans (len_must _ _ _) (Nat.le_trans (h E rfl _) (adv_len S))
       ·split
        ·exact Nat.le_trans (len_word h _ _) (adv_len S)
        ·exact len_wr _ _ _
 ·exact Nat.le_refl _
theorem len_rv0 {c:Int}{X:Option Rdf}(h:LenO X):LenE (rv0 c X):=len_left (len_left (len_rel (len_left (len_left (len_fac (len_atom h))))))
theorem len_expr (c:Int):∀ d,LenE (exprR c d)
 | 0=>len_rv0 (fun E h=>by cases h)
 | d+1=>len_rv0 (fun E h=>by cases h;exact len_expr c d)
theorem sgr_one (x:ByteArray)(k:Int)(S:Sr):sgR [(x,k)] S=if isR x S=true then some k else none:=by
 unfold sgR isR sgT
 cases S.good with
 | false=>rfl
 | true=>
   rw[if_pos rfl,Bool.true_and]
   simp only[List.find?_cons,List.find?_nil]
   cases isT x (hdT S.L)<;>rfl
theorem sgr_two (x y:ByteArray)(k l:Int)(S:Sr):sgR [(x,k),(y,l)] S=if isR x S=true then some k else if isR y S=true then some l else none:=by
 unfold sgR isR sgT
 cases S.good with
 | false=>rfl
 | true=>
   rw[if_pos rfl,Bool.true_and,Bool.true_and]
   simp only[List.find?_cons,List.find?_nil]
   cases isT x (hdT S.L)<;>cases isT y (hdT S.L)<;>rfl
theorem isR_ne {x y:ByteArray}{S:Sr}(h:isR x S=true)(hn:x≠y):isR y S=false:=by
 unfold isR isT at h ⊢
 simp only[Bool.and_eq_true,decide_eq_true_eq] at h
 rw[decide_eq_false (fun hh=>hn (h.2.1.symm.trans hh))]
 simp
end Go.Proofs.YtecdfnpbcabdnaaGreatDoor
