import Derived.Test.YtecdfnpbcabdnaaGreatDoorLxB
import Derived.Test.YtecdfnpbcabdnaaGreatDoorMgU
namespace Go.Proofs.YtecdfnpbcabdnaaGreatDoor
open Go.Lib
abbrev k_or:ByteArray:=⟨#[111,114]⟩
abbrev k_and:ByteArray:=⟨#[97,110,100]⟩
abbrev k_lt:ByteArray:=⟨#[60]⟩
abbrev k_le:ByteArray:=⟨#[60,61]⟩
abbrev k_eq:ByteArray:=⟨#[61]⟩
abbrev k_gt:ByteArray:=⟨#[62]⟩
abbrev k_ge:ByteArray:=⟨#[62,61]⟩
abbrev k_add:ByteArray:=⟨#[43]⟩
abbrev k_sub:ByteArray:=⟨#[45]⟩
abbrev k_mul:ByteArray:=⟨#[42]⟩
abbrev k_div:ByteArray:=⟨#[47]⟩
abbrev k_not:ByteArray:=⟨#[110,111,116]⟩
abbrev k_lp:ByteArray:=⟨#[40]⟩
abbrev k_rp:ByteArray:=⟨#[41]⟩
abbrev k_com:ByteArray:=⟨#[44]⟩
abbrev k_lb:ByteArray:=⟨#[123]⟩
abbrev k_rb:ByteArray:=⟨#[125]⟩
abbrev k_col:ByteArray:=⟨#[58]⟩
abbrev k_sem:ByteArray:=⟨#[59]⟩
abbrev k_dots:ByteArray:=⟨#[46,46]⟩
abbrev k_true:ByteArray:=⟨#[116,114,117,101]⟩
abbrev k_false:ByteArray:=⟨#[102,97,108,115,101]⟩
abbrev k_reps:ByteArray:=⟨#[114,101,112,108,105,99,97,115]⟩
abbrev k_if:ByteArray:=⟨#[105,102]⟩
abbrev k_min:ByteArray:=⟨#[109,105,110]⟩
abbrev k_max:ByteArray:=⟨#[109,97,120]⟩
abbrev k_either:ByteArray:=⟨#[101,105,116,104,101,114]⟩
abbrev k_abs:ByteArray:=⟨#[97,98,115]⟩
abbrev k_ceil:ByteArray:=⟨#[99,101,105,108]⟩
abbrev k_floor:ByteArray:=⟨#[102,108,111,111,114]⟩
abbrev k_cron:ByteArray:=⟨#[99,114,111,110]⟩
abbrev k_sum:ByteArray:=⟨#[115,117,109]⟩
abbrev k_avg:ByteArray:=⟨#[97,118,103]⟩
abbrev k_low:ByteArray:=⟨#[108,111,119]⟩
abbrev k_high:ByteArray:=⟨#[104,105,103,104]⟩
abbrev k_count:ByteArray:=⟨#[99,111,117,110,116]⟩
abbrev k_rank:ByteArray:=⟨#[114,97,110,107]⟩
abbrev k_hold:ByteArray:=⟨#[104,111,108,100]⟩
abbrev k_to:ByteArray:=⟨#[116,111]⟩
abbrev k_by:ByteArray:=⟨#[98,121]⟩
abbrev k_ladder:ByteArray:=⟨#[108,97,100,100,101,114]⟩
abbrev k_else:ByteArray:=⟨#[101,108,115,101]⟩
abbrev k_policy:ByteArray:=⟨#[112,111,108,105,99,121]⟩
abbrev k_metric:ByteArray:=⟨#[109,101,116,114,105,99]⟩
abbrev k_step:ByteArray:=⟨#[115,116,101,112]⟩
abbrev k_cooldown:ByteArray:=⟨#[99,111,111,108,100,111,119,110]⟩
abbrev k_up:ByteArray:=⟨#[117,112]⟩
abbrev k_down:ByteArray:=⟨#[100,111,119,110]⟩
abbrev k_let:ByteArray:=⟨#[108,101,116]⟩
abbrev k_guard:ByteArray:=⟨#[103,117,97,114,100]⟩
abbrev k_then:ByteArray:=⟨#[116,104,101,110]⟩
abbrev k_decide:ByteArray:=⟨#[100,101,99,105,100,101]⟩
abbrev Flt:=Nat×Int
abbrev Rs (α : Type):=Except Flt (α × List Tk)
abbrev Ps:=List Tk->Rs Tm
def eot:Tk:=⟨7,⟨#[]⟩,0,0⟩
def hdT:List Tk->Tk
 | []=>eot
 | t::_=>t
def bnd {α β : Type}(r:Except Flt α)(f : α -> Except Flt β):Except Flt β:=
 match r with
 | .error e=>.error e
 | .ok a=>f a
theorem bnd_ok {α β : Type}(a : α)(f : α -> Except Flt β):bnd (.ok a) f=f a:=rfl
def isT (x:ByteArray)(t:Tk):Bool:=decide (t.text=x)&&(decide (t.kind=5)||decide (t.kind=6))
def nxt (c:Int)(L:List Tk):Except Flt Tk:=if (hdT L).kind=7/\c≠0 then .error ((hdT L).at_,c) else .ok (hdT L)
def takeK (c k:Int)(L:List Tk):Rs Tk:=bnd (nxt c L) fun t=>if t.kind=k then .ok (t,L.tail) else .error (t.at_,16)
def mustS (c:Int)(x:ByteArray)(L:List Tk):Rs Nat:=bnd (nxt c L) fun t=>if isT x t=true then .ok (t.at_,L.tail) else .error (t.at_,16)
def mayS (c:Int)(x:ByteArray)(L:List Tk):Rs Bool:=bnd (nxt c L) fun t=>if isT x t=true then .ok (true,L.tail) else .ok (false,L)
abbrev tm (k:Int)(a:Nat)(ps:List Tm):Tm:=⟨k,⟨#[]⟩,0,0,(a:Int),ps⟩
def unitP (c:Int)(L:List Tk):Rs ByteArray:=bnd (nxt c L) fun t=>if t.kind=8 then .ok (t.text,L.tail) else .ok (⟨#[]⟩,L)
def numberP (c:Int):Ps:=fun L=>bnd (takeK c 2 L) fun t=>bnd (unitP c t.2) fun u=>.ok (⟨1,u.1,t.1.n,0,(t.1.at_:Int),[]⟩,u.2)
def beginP {α β : Type}(c:Int)(x:ByteArray)(X:Option α)(L:List Tk)(f : α -> List Tk->Rs β):Rs β:=bnd (mustS c x L) fun a=>
 match X with
 | none=>.error (a.1,15)
 | some E=>f E a.2
def closeP {α : Type}(c:Int)(x:ByteArray)(y : α × List Tk):Rs α:=bnd (mustS c x y.2) fun a=>.ok (y.1,a.2)
def moreP (c:Int)(E:Ps):Nat->List Tm->List Tk->Rs (List Tm)
 | 0,ps,L=>.ok (ps,L)
 | n+1,ps,L=>bnd (mustS c k_com L) fun a=>bnd (E a.2) fun y=>moreP c E n (ps++[y.1]) y.2
def callP (c:Int)(X:Option Ps)(k:Int)(n:Nat)(a:Nat)(L:List Tk):Rs Tm:=
 beginP c k_lp X L fun E L1=>bnd (E L1) fun y=>bnd (moreP c E n [y.1] y.2) fun z=>closeP c k_rp (tm k a z.1,z.2)
def cronP (c:Int)(X:Option Ps)(a:Nat)(L:List Tk):Rs Tm:=
 beginP c k_lp X L fun _ L1=>bnd (takeK c 4 L1) fun t=>closeP c k_rp (⟨6,t.1.text,0,0,(a:Int),[]⟩,t.2)
def winP (c:Int)(X:Option Ps)(k:Int)(a:Nat)(L:List Tk):Rs Tm:=
 beginP c k_lp X L fun _ L1=>bnd (takeK c 1 L1) fun t=>bnd (mustS c k_com t.2) fun b=>bnd (takeK c 3 b.2) fun d=>
  if k=12 then bnd (mustS c k_com d.2) fun e=>bnd (takeK c 2 e.2) fun m=>closeP c k_rp (⟨k,t.1.text,d.1.n,m.1.n,(a:Int),[]⟩,m.2)
  else closeP c k_rp (⟨k,t.1.text,d.1.n,0,(a:Int),[]⟩,d.2)
def winK (x:ByteArray):Int:=
 if x=k_sum then 7 else if x=k_avg then 8 else if x=k_low then 9 else if x=k_high then 10 else if x=k_count then 11 else if x=k_rank then 12 else 0
def wordP (c:Int)(X:Option Ps)(t:Tk)(L:List Tk):Rs Tm:=
 if t.text=k_true then .ok (tm 3 t.at_ [],L)
 else if t.text=k_false then .ok (tm 4 t.at_ [],L)
 else if t.text=k_reps then .ok (tm 5 t.at_ [],L)
 else if t.text=k_if then callP c X 32 2 t.at_ L
 else if t.text=k_min then callP c X 29 1 t.at_ L
 else if t.text=k_max then callP c X 30 1 t.at_ L
 else if t.text=k_either then callP c X 31 1 t.at_ L
 else if t.text=k_abs then callP c X 15 0 t.at_ L
 else if t.text=k_ceil then callP c X 16 0 t.at_ L
 else if t.text=k_floor then callP c X 17 0 t.at_ L
 else if t.text=k_cron then cronP c X t.at_ L
 else if winK t.text=0 then .error (t.at_,16)
 else winP c X (winK t.text) t.at_ L
def atomP (c:Int)(X:Option Ps):Ps:=fun L=>bnd (nxt c L) fun t=>
 if t.kind=2 then numberP c L
 else if t.kind=1 then .ok (⟨2,t.text,0,0,(t.at_:Int),[]⟩,L.tail)
 else if t.kind=6 then wordP c X t L.tail
 else beginP c k_lp X L fun E L1=>bnd (E L1) fun y=>closeP c k_rp y
def facP (c:Int)(A:Ps):Ps:=fun L=>bnd (nxt c L) fun t=>
 if isT k_sub t=true then bnd (A L.tail) fun y=>.ok (tm 13 t.at_ [y.1],y.2)
 else if isT k_not t=true then bnd (A L.tail) fun y=>.ok (tm 14 t.at_ [y.1],y.2)
 else A L
abbrev Sg:=List (ByteArray×Int)
def sgT (sg:Sg)(t:Tk):Option Int:=(sg.find? fun s=>isT s.1 t).map Prod.snd
def joinP (c:Int)(sg:Sg)(S:Ps)(x:Tm)(L:List Tk):Rs (Tm×Bool):=bnd (nxt c L) fun t=>
 match sgT sg t with
 | some k=>bnd (S L.tail) fun y=>.ok ((tm k t.at_ [x,y.1],true),y.2)
 | none=>.ok ((x,false),L)
def leftL (c:Int)(sg:Sg)(S:Ps):Nat->Tm->List Tk->Rs Tm
 | 0,x,L=>.ok (x,L)
 | f+1,x,L=>bnd (joinP c sg S x L) fun y=>if y.1.2=true then leftL c sg S f y.1.1 y.2 else .ok (y.1.1,y.2)
def leftP (c:Int)(sg:Sg)(S:Ps):Ps:=fun L=>bnd (S L) fun y=>leftL c sg S y.2.length y.1 y.2
def cmpP (c:Int)(sg:Sg)(S:Ps):Ps:=fun L=>bnd (S L) fun y=>bnd (joinP c sg S y.1 y.2) fun z=>.ok (z.1.1,z.2)
abbrev sgOr:Sg:=[(k_or,28)]
abbrev sgAnd:Sg:=[(k_and,27)]
abbrev sgCmp:Sg:=[(k_lt,22),(k_le,23),(k_eq,24),(k_gt,25),(k_ge,26)]
abbrev sgSum:Sg:=[(k_add,18),(k_sub,19)]
abbrev sgMul:Sg:=[(k_mul,20),(k_div,21)]
def lv5 (c:Int)(X:Option Ps):Ps:=facP c (atomP c X)
def lv4 (c:Int)(X:Option Ps):Ps:=leftP c sgMul (lv5 c X)
def lv3 (c:Int)(X:Option Ps):Ps:=leftP c sgSum (lv4 c X)
def lv2 (c:Int)(X:Option Ps):Ps:=cmpP c sgCmp (lv3 c X)
def lv1 (c:Int)(X:Option Ps):Ps:=leftP c sgAnd (lv2 c X)
def lv0 (c:Int)(X:Option Ps):Ps:=leftP c sgOr (lv1 c X)
def exprD (c:Int):Nat->Ps
 | 0=>lv0 c none
 | d+1=>lv0 c (some (exprD c d))
def boundP (c:Int):Ps:=fun L=>bnd (nxt c L) fun t=>if isT k_sub t=true then bnd (numberP c L.tail) fun y=>.ok (tm 13 t.at_ [y.1],y.2) else numberP c L
def rungs (c:Int)(A:Ps):Nat->List Tm->List Tk->Rs (List Tm)
 | 0,ps,L=>.ok (ps,L)
 | f+1,ps,L=>bnd (mayS c k_else L) fun b=>
   if b.1=true then bnd (mustS c k_col b.2) fun a=>bnd (A a.2) fun y=>closeP c k_rb (ps++[y.1],y.2)
   else bnd (boundP c b.2) fun x=>bnd (mustS c k_col x.2) fun a=>bnd (A a.2) fun y=>bnd (mustS c k_com y.2) fun d=>rungs c A f (ps++[x.1,y.1]) d.2
def actP (c:Int)(E:Ps)(A:Option Ps):Ps:=fun L=>bnd (nxt c L) fun t=>
 if isT k_hold t=true then .ok (tm 33 t.at_ [],L.tail)
 else if isT k_to t=true then bnd (E L.tail) fun y=>.ok (tm 34 t.at_ [y.1],y.2)
 else if isT k_by t=true then bnd (E L.tail) fun y=>.ok (tm 35 t.at_ [y.1],y.2)
 else if isT k_ladder t=true then bnd (E L.tail) fun x=>beginP c k_lb A x.2 fun B L1=>bnd (rungs c B L1.length [x.1] L1) fun z=>.ok (tm 36 t.at_ z.1,z.2)
 else .error (t.at_,16)
def actD (c:Int):Nat->Ps
 | 0=>actP c (exprD c 0) none
 | d+1=>actP c (exprD c (d+1)) (some (actD c d))
def endP {α : Type}(c:Int)(y : α × List Tk):Except Flt α:=bnd (nxt c y.2) fun t=>if t.kind=7 then .ok y.1 else .error (t.at_,16)
def Dec {α : Type}(p:List Tk->Rs α):Prop:=∀ L y,p L=.ok y->y.2.length<=L.length
theorem bnd_inv {α β : Type}{r:Except Flt α}{f : α -> Except Flt β}{y : β}(h:bnd r f=.ok y):∃ a,r=.ok a/\f a=.ok y:=by
 cases r with
 | error e=>cases h
 | ok a=>exact⟨a,rfl,h⟩
theorem takeK_len {c k:Int}{L:List Tk}{y:Tk×List Tk}(h:takeK c k L=.ok y):y.2=L.tail:=by
 obtain⟨t,_,h2⟩:=bnd_inv h
 split at h2
 ·cases h2;rfl
 ·cases h2
theorem mustS_len {c:Int}{x:ByteArray}{L:List Tk}{y:Nat×List Tk}(h:mustS c x L=.ok y):y.2=L.tail:=by
 obtain⟨t,_,h2⟩:=bnd_inv h
 split at h2
 ·cases h2;rfl
 ·cases h2
theorem tail_le (L:List Tk):L.tail.length<=L.length:=by simp
theorem dec_unit (c:Int):Dec (unitP c):=by
 intro L y h
 obtain⟨t,_,h2⟩:=bnd_inv h
 split at h2
 ·cases h2;exact tail_le L
 ·cases h2;exact Nat.le_refl _
theorem dec_number (c:Int):Dec (numberP c):=by
 intro L y h
 obtain⟨t,h1,h2⟩:=bnd_inv h
 obtain⟨u,h3,h4⟩:=bnd_inv h2
 cases h4
 have:=dec_unit c _ _ h3
 rw[takeK_len h1] at this
 have:=tail_le L
 show u.2.length<=_
 omega
theorem dec_must {c:Int}{x:ByteArray}{L:List Tk}{y:Nat×List Tk}(h:mustS c x L=.ok y):y.2.length<=L.length:=by rw[mustS_len h];exact tail_le L
theorem dec_take {c k:Int}{L:List Tk}{y:Tk×List Tk}(h:takeK c k L=.ok y):y.2.length<=L.length:=by rw[takeK_len h];exact tail_le L
theorem dec_close {α : Type}{c:Int}{x:ByteArray}{y z : α × List Tk}(h:closeP c x y=.ok z):z.2.length<=y.2.length:=by
 obtain⟨a,h1,h2⟩:=bnd_inv h
 cases h2
 exact dec_must h1
theorem dec_close2 {α : Type}{c:Int}{x:ByteArray}{a : α}{L:List Tk}{z : α × List Tk}(h:closeP c x (a,L)=.ok z):z.2.length<=L.length:=dec_close h
theorem dec_begin {α β : Type}{c:Int}{x:ByteArray}{X:Option α}{L:List Tk}{f : α -> List Tk->Rs β}{y : β × List Tk}(hf:∀ E,X=some E->∀ L1,f E L1=.ok y->y.2.length<=L1.length)(h:beginP c x X L f=.ok y):y.2.length<=L.length:=by
 obtain⟨a,h1,h2⟩:=bnd_inv h
 cases X with
 | none=>cases h2
 | some E=>exact Nat.le_trans (hf E rfl _ h2) (dec_must h1)
theorem dec_more {c:Int}{E:Ps}(hE:Dec E):∀ n ps L y,moreP c E n ps L=.ok y->y.2.length<=L.length
 | 0,_,_,_,h=>by cases h;exact Nat.le_refl _
 | n+1,ps,L,y,h=>by
   obtain⟨a,h1,h2⟩:=bnd_inv h
   obtain⟨b,h3,h4⟩:=bnd_inv h2
   have:=dec_more hE n _ _ _ h4
   have:=hE _ _ h3
   have:=dec_must h1
   omega
def DecO (X:Option Ps):Prop:=∀ E,X=some E->Dec E
theorem dec_call {c:Int}{X:Option Ps}(hX:DecO X)(k:Int)(n a:Nat):Dec (callP c X k n a):=fun L y h=>dec_begin (fun E hE L1 h1=>by
 obtain⟨a,h2,h3⟩:=bnd_inv h1
 obtain⟨b,h4,h5⟩:=bnd_inv h3
 have:=dec_close2 h5
 have:=dec_more (hX E hE) _ _ _ _ h4
 have:=hX E hE _ _ h2
 show y.2.length<=_
 omega) h
theorem dec_cron {c:Int}{X:Option Ps}(a:Nat):Dec (cronP c X a):=fun L y h=>dec_begin (fun E hE L1 h1=>by
 obtain⟨a,h2,h3⟩:=bnd_inv h1
 have:=dec_close2 h3
 have:=dec_take h2
 show y.2.length<=_
 omega) h
theorem dec_win {c:Int}{X:Option Ps}(k:Int)(a:Nat):Dec (winP c X k a):=fun L y h=>dec_begin (fun E hE L1 h1=>by
 obtain⟨a,h2,h3⟩:=bnd_inv h1
 obtain⟨b,h4,h5⟩:=bnd_inv h3
 obtain⟨d,h6,h7⟩:=bnd_inv h5
 have:=dec_take h2
 have:=dec_must h4
 have:=dec_take h6
 split at h7
 ·obtain⟨e,h8,h9⟩:=bnd_inv h7
  obtain⟨m,h10,h11⟩:=bnd_inv h9
  have:=dec_must h8
  have:=dec_take h10
  have:=dec_close2 h11
  show y.2.length<=_
  omega
 ·have:=dec_close2 h7
  show y.2.length<=_
  omega) h
theorem dec_word {c:Int}{X:Option Ps}(hX:DecO X)(t:Tk):Dec (wordP c X t):=by
 have ok:∀ (x:Tm) (L:List Tk) y,(Except.ok (x,L):Rs Tm)=.ok y->y.2.length<=L.length:=fun x L y h=>by cases h;exact Nat.le_refl _
 intro L y h
 unfold wordP at h
 by_cases h0:t.text=k_true
 ·rw[if_pos h0] at h;exact ok _ _ _ h
 rw[if_neg h0] at h
 by_cases h1:t.text=k_false
 ·rw[if_pos h1] at h;exact ok _ _ _ h
 rw[if_neg h1] at h
 by_cases h2:t.text=k_reps
 ·rw[if_pos h2] at h;exact ok _ _ _ h
 rw[if_neg h2] at h
 by_cases h3:t.text=k_if
 ·rw[if_pos h3] at h;exact dec_call hX _ _ _ _ _ h
 rw[if_neg h3] at h
 by_cases h4:t.text=k_min
 ·rw[if_pos h4] at h;exact dec_call hX _ _ _ _ _ h
 rw[if_neg h4] at h
 by_cases h5:t.text=k_max
 ·rw[if_pos h5] at h;exact dec_call hX _ _ _ _ _ h
 rw[if_neg h5] at h
 by_cases h6:t.text=k_either
 ·rw[if_pos h6] at h;exact dec_call hX _ _ _ _ _ h
 rw[if_neg h6] at h
 by_cases h7:t.text=k_abs
 ·rw[if_pos h7] at h;exact dec_call hX _ _ _ _ _ h
 rw[if_neg h7] at h
 by_cases h8:t.text=k_ceil
 ·rw[if_pos h8] at h;exact dec_call hX _ _ _ _ _ h
 rw[if_neg h8] at h
 by_cases h9:t.text=k_floor
 ·rw[if_pos h9] at h;exact dec_call hX _ _ _ _ _ h
 rw[if_neg h9] at h
 by_cases h10:t.text=k_cron
 ·rw[if_pos h10] at h;exact dec_cron _ _ _ h
 rw[if_neg h10] at h
 by_cases h11:winK t.text=0
 ·rw[if_pos h11] at h;cases h
 rw[if_neg h11] at h
 exact dec_win _ _ _ _ h
theorem dec_atom {c:Int}{X:Option Ps}(hX:DecO X):Dec (atomP c X):=by
 intro L y h
 obtain⟨t,_,h2⟩:=bnd_inv h
 split at h2
 ·exact dec_number c _ _ h2
 ·split at h2
  ·cases h2;exact tail_le L
  ·split at h2
   ·have:=dec_word hX t _ _ h2
    have:=tail_le L
    omega
   ·exact dec_begin (fun E hE L1 h1=>by
     obtain⟨a,h3,h4⟩:=bnd_inv h1
     have:=dec_close h4
     have:=hX E hE _ _ h3
     omega) h2
theorem dec_fac {c:Int}{A:Ps}(hA:Dec A):Dec (facP c A):=by
 intro L y h
 obtain⟨t,_,h2⟩:=bnd_inv h
 have:=tail_le L
 split at h2
 ·obtain⟨a,h3,h4⟩:=bnd_inv h2
  cases h4
  have:=hA _ _ h3
  show a.2.length<=_
  omega
 ·split at h2
  ·obtain⟨a,h3,h4⟩:=bnd_inv h2
   cases h4
   have:=hA _ _ h3
   show a.2.length<=_
   omega
  ·exact hA _ _ h2
theorem dec_join {c:Int}{sg:Sg}{S:Ps}(hS:Dec S){x:Tm}{L:List Tk}{y:(Tm×Bool)×List Tk}(h:joinP c sg S x L=.ok y):y.2.length<=L.length/\(y.1.2=true->y.2.length<=L.tail.length):=by
 obtain⟨t,_,h2⟩:=bnd_inv h
 have:=tail_le L
 split at h2
 ·obtain⟨a,h3,h4⟩:=bnd_inv h2
  cases h4
  have:=hS _ _ h3
  exact⟨by show a.2.length<=_;omega,fun _=>this⟩
 ·cases h2
  exact⟨Nat.le_refl _,fun h=>by cases h⟩
theorem dec_leftL {c:Int}{sg:Sg}{S:Ps}(hS:Dec S):∀ f x L y,leftL c sg S f x L=.ok y->y.2.length<=L.length
 | 0,_,_,_,h=>by cases h;exact Nat.le_refl _
 | f+1,x,L,y,h=>by
   obtain⟨a,h1,h2⟩:=bnd_inv h
   have:=(dec_join hS h1).1
   split at h2
   ·have:=dec_leftL hS f _ _ _ h2
    omega
   ·cases h2
    exact this
theorem dec_leftP {c:Int}{sg:Sg}{S:Ps}(hS:Dec S):Dec (leftP c sg S):=by
 intro L y h
 obtain⟨a,h1,h2⟩:=bnd_inv h
 have:=dec_leftL hS _ _ _ _ h2
 have:=hS _ _ h1
 omega
theorem dec_cmp {c:Int}{sg:Sg}{S:Ps}(hS:Dec S):Dec (cmpP c sg S):=by
 intro L y h
 obtain⟨a,h1,h2⟩:=bnd_inv h
 obtain⟨b,h3,h4⟩:=bnd_inv h2
 cases h4
 have:=(dec_join hS h3).1
 have:=hS _ _ h1
 show b.2.length<=_
 omega
theorem dec_lv5 {c:Int}{X:Option Ps}(hX:DecO X):Dec (lv5 c X):=dec_fac (dec_atom hX)
theorem dec_lv4 {c:Int}{X:Option Ps}(hX:DecO X):Dec (lv4 c X):=dec_leftP (dec_lv5 hX)
theorem dec_lv3 {c:Int}{X:Option Ps}(hX:DecO X):Dec (lv3 c X):=dec_leftP (dec_lv4 hX)
theorem dec_lv2 {c:Int}{X:Option Ps}(hX:DecO X):Dec (lv2 c X):=dec_cmp (dec_lv3 hX)
theorem dec_lv1 {c:Int}{X:Option Ps}(hX:DecO X):Dec (lv1 c X):=dec_leftP (dec_lv2 hX)
theorem dec_lv0 {c:Int}{X:Option Ps}(hX:DecO X):Dec (lv0 c X):=dec_leftP (dec_lv1 hX)
theorem dec_expr (c:Int):∀ d,Dec (exprD c d)
 | 0=>dec_lv0 (fun _ h=>by cases h)
 | d+1=>dec_lv0 (fun E h=>by cases h;exact dec_expr c d)
theorem dec_bound (c:Int):Dec (boundP c):=by
 intro L y h
 obtain⟨t,_,h2⟩:=bnd_inv h
 have:=tail_le L
 split at h2
 ·obtain⟨a,h3,h4⟩:=bnd_inv h2
  cases h4
  have:=dec_number c _ _ h3
  show a.2.length<=_
  omega
 ·exact dec_number c _ _ h2
theorem dec_may {c:Int}{x:ByteArray}{L:List Tk}{y:Bool×List Tk}(h:mayS c x L=.ok y):y.2.length<=L.length:=by
 obtain⟨t,_,h2⟩:=bnd_inv h
 split at h2
 ·cases h2;exact tail_le L
 ·cases h2;exact Nat.le_refl _
theorem dec_rungs {c:Int}{A:Ps}(hA:Dec A):∀ f ps L y,rungs c A f ps L=.ok y->y.2.length<=L.length
 | 0,_,_,_,h=>by cases h;exact Nat.le_refl _
 | f+1,ps,L,y,h=>by
   obtain⟨b,h1,h2⟩:=bnd_inv h
   have:=dec_may h1
   split at h2
   ·obtain⟨a,h3,h4⟩:=bnd_inv h2
    obtain⟨u,h5,h6⟩:=bnd_inv h4
    have:=dec_must h3
    have:=hA _ _ h5
    have:=dec_close2 h6
    show y.2.length<=_
    omega
   ·obtain⟨x,h3,h4⟩:=bnd_inv h2
    obtain⟨a,h5,h6⟩:=bnd_inv h4
    obtain⟨u,h7,h8⟩:=bnd_inv h6
    obtain⟨d,h9,h10⟩:=bnd_inv h8
    have:=dec_bound c _ _ h3
    have:=dec_must h5
    have:=hA _ _ h7
    have:=dec_must h9
    have:=dec_rungs hA f _ _ _ h10
    omega
theorem dec_act {c:Int}{E:Ps}{A:Option Ps}(hE:Dec E)(hA:DecO A):Dec (actP c E A):=by
 intro L y h
 obtain⟨t,_,h2⟩:=bnd_inv h
 have:=tail_le L
 split at h2
 ·cases h2;exact this
 ·split at h2
  ·obtain⟨a,h3,h4⟩:=bnd_inv h2
   cases h4
   have:=hE _ _ h3
   show a.2.length<=_
   omega
  ·split at h2
   ·obtain⟨a,h3,h4⟩:=bnd_inv h2
    cases h4
    have:=hE _ _ h3
    show a.2.length<=_
    omega
   ·split at h2
    ·obtain⟨x,h3,h4⟩:=bnd_inv h2
     have:=hE _ _ h3
     have:=dec_begin (fun B hB L1 h5=>by
      obtain⟨z,h6,h7⟩:=bnd_inv h5
      cases h7
      exact dec_rungs (hA B hB) _ _ _ _ h6) h4
     omega
    ·cases h2
theorem dec_actD (c:Int):∀ d,Dec (actD c d)
 | 0=>dec_act (dec_expr c 0) (fun _ h=>by cases h)
 | d+1=>dec_act (dec_expr c (d+1)) (fun E h=>by cases h;exact dec_actD c d)
structure TkOk (z:Nat)(t:Tk):Prop where
 k:1<=t.kind/\t.kind<=8
 x:t.text.size<=z
 n:0<=t.n/\t.n<=9223372036854775807
 a:t.at_<=z
def TL (z:Nat):List Tk->Prop
 | []=>False
 | t::L=>TkOk z t/\((L=[]/\t.kind=7)\/(t.kind≠7/\TL z L))
theorem TL.ne {z:Nat}{L:List Tk}(h:TL z L):L≠[]:=by
 cases L with
 | nil=>exact h.elim
 | cons t L=>simp
theorem TL.pos {z:Nat}{L:List Tk}(h:TL z L):0<L.length:=List.length_pos_iff.2 h.ne
theorem TL.ok {z:Nat}{L:List Tk}(h:TL z L):TkOk z (hdT L):=by
 cases L with
 | nil=>exact h.elim
 | cons t L=>exact h.1
theorem TL.tail {z:Nat}{L:List Tk}(h:TL z L)(hk:(hdT L).kind≠7):TL z L.tail:=by
 cases L with
 | nil=>exact h.elim
 | cons t L=>
   rcases h.2 with ⟨_,h2⟩ | ⟨_,h2⟩
   ·exact absurd h2 hk
   ·exact h2
theorem isT_kind {x:ByteArray}{t:Tk}(h:isT x t=true):t.kind≠7:=by
 intro h7
 unfold isT at h
 rw[h7] at h
 simp at h
end Go.Proofs.YtecdfnpbcabdnaaGreatDoor
