import Derived.Test.YtecdfnpbcabdnaaGreatDoorMgU
import Derived.Test.YtecdfnpbcabdnaaGreatDoorMgV
section
namespace Go.Proofs.YtecdfnpbcabdnaaGreatDoor
structure It where
 kind:Int
 name:ByteArray
 unit:ByteArray
 a:Int
 b:Int
 c:Int
 x:Tm
 y:Tm
 pl:Int
def nilM:Tm:=⟨0,⟨#[]⟩,0,0,0,[]⟩
def voidB (t:Tm):Bool:=decide (t.kind=0)&&(decide (t.text.toList=[])&&(decide (t.n=0)&&(decide (t.m=0)&&(decide (t.pl=0)&&decide (t.parts.length=0)))))
def restB (nm un:ByteArray)(a b c:Int)(x y:Tm):Bool:=decide (nm.toList=[])&&(decide (un.toList=[])&&(decide (a=0)&&(decide (b=0)&&(decide (c=0)&&(voidB x&&voidB y)))))
def noB:ByteArray:=⟨#[]⟩
def itemB (i:It):Bool:=
 if i.kind=1 then (isN i.name&&txt brk i.unit)&&restB noB noB i.a i.b i.c i.x i.y
 else if i.kind=2 then (decide (0<=i.a)&&(decide (0<=i.b)&&decide (0<=i.c)))&&restB i.name i.unit 0 0 0 i.x i.y
 else if i.kind=3\/i.kind=4 then spanB i.a&&restB i.name i.unit 0 i.b i.c i.x i.y
 else if i.kind=5 then (isN i.name&&formedB i.x)&&restB noB i.unit i.a i.b i.c nilM i.y
 else if i.kind=6 then (formedB i.x&&actionB i.y)&&restB i.name i.unit i.a i.b i.c nilM nilM
 else if i.kind=7 then actionB i.y&&restB i.name i.unit i.a i.b i.c i.x nilM
 else false
def rcost (i:It):Nat:=(if i.kind=5\/i.kind=6 then nodes i.x else 0)+(if i.kind=6\/i.kind=7 then nodes i.y else 0)
end Go.Proofs.YtecdfnpbcabdnaaGreatDoor
end
section
namespace Go.Proofs.YtecdfnpbcabdnaaGreatDoor
open Go.Lib
abbrev itm (k:Int)(nm un:ByteArray)(a b c:Int)(x y:Tm)(p:Nat):It:=⟨k,nm,un,a,b,c,x,y,(p:Int)⟩
def metricP (c:Int)(p:Nat)(L:List Tk):Rs It:=bnd (takeK c 1 L) fun t=>bnd (unitP c t.2) fun u=>.ok (itm 1 t.1.text u.1 0 0 0 nilM nilM p,u.2)
def repsP (c:Int)(p:Nat)(L:List Tk):Rs It:=bnd (takeK c 2 L) fun t=>bnd (mustS c k_dots t.2) fun b=>bnd (takeK c 2 b.2) fun d=>bnd (mayS c k_step d.2) fun s=>
 if s.1=true then bnd (takeK c 2 s.2) fun e=>.ok (itm 2 noB noB t.1.n d.1.n e.1.n nilM nilM p,e.2) else .ok (itm 2 noB noB t.1.n d.1.n 0 nilM nilM p,s.2)
def coolP (c:Int)(p:Nat)(L:List Tk):Rs It:=bnd (mayS c k_up L) fun s=>
 if s.1=true then bnd (takeK c 3 s.2) fun t=>.ok (itm 3 noB noB t.1.n 0 0 nilM nilM p,t.2)
 else bnd (mustS c k_down s.2) fun b=>bnd (takeK c 3 b.2) fun t=>.ok (itm 4 noB noB t.1.n 0 0 nilM nilM p,t.2)
def letP (c:Int)(E:Ps)(p:Nat)(L:List Tk):Rs It:=bnd (takeK c 1 L) fun t=>bnd (mustS c k_eq t.2) fun b=>bnd (E b.2) fun y=>.ok (itm 5 t.1.text noB 0 0 0 y.1 nilM p,y.2)
def guardP (c:Int)(E A:Ps)(p:Nat)(L:List Tk):Rs It:=bnd (E L) fun y=>bnd (mustS c k_then y.2) fun b=>bnd (A b.2) fun q=>.ok (itm 6 noB noB 0 0 0 y.1 q.1 p,q.2)
def decideP (A:Ps)(p:Nat)(L:List Tk):Rs It:=bnd (A L) fun q=>.ok (itm 7 noB noB 0 0 0 nilM q.1 p,q.2)
def itemP (c:Int)(E A:Ps)(L:List Tk):Rs It:=bnd (nxt c L) fun t=>
 if isT k_metric t=true then metricP c t.at_ L.tail
 else if isT k_reps t=true then repsP c t.at_ L.tail
 else if isT k_cooldown t=true then coolP c t.at_ L.tail
 else if isT k_let t=true then letP c E t.at_ L.tail
 else if isT k_guard t=true then guardP c E A t.at_ L.tail
 else if isT k_decide t=true then decideP A t.at_ L.tail
 else .error (t.at_,16)
def itemsP (c:Int)(E A:Ps):Nat->List It->List Tk->Rs (List It)
 | 0,l,L=>.ok (l,L)
 | f+1,l,L=>bnd (itemP c E A L) fun x=>bnd (mustS c k_sem x.2) fun b=>if x.1.kind=7 then .ok (l++[x.1],b.2) else itemsP c E A f (l++[x.1]) b.2
def polP (c:Int)(E A:Ps)(L:List Tk):Rs (ByteArray×List It):=bnd (mustS c k_policy L) fun a=>bnd (takeK c 1 a.2) fun t=>bnd (mustS c k_sem t.2) fun b=>
 bnd (itemsP c E A b.2.length [] b.2) fun z=>.ok ((t.1.text,z.1),z.2)
theorem itemsP_succ (c:Int)(E A:Ps)(f:Nat)(l:List It)(L:List Tk):itemsP c E A (f+1) l L=bnd (itemP c E A L) fun x=>bnd (mustS c k_sem x.2) fun b=>if x.1.kind=7 then .ok (l++[x.1],b.2) else itemsP c E A f (l++[x.1]) b.2:=rfl
theorem dec_ok {α : Type}{x : α}{L L':List Tk}{y : α × List Tk}(h:(Except.ok (x,L):Rs α)=.ok y)(hl:L.length<=L'.length):y.2.length<=L'.length:=by cases h;exact hl
theorem dec_metric {c:Int}{p:Nat}:Dec (metricP c p):=fun L y h=>by
 obtain⟨t,h1,h2⟩:=bnd_inv h
 obtain⟨u,h3,h4⟩:=bnd_inv h2
 exact dec_ok h4 (Nat.le_trans (dec_unit c _ _ h3) (dec_take h1))
theorem dec_reps {c:Int}{p:Nat}:Dec (repsP c p):=fun L y h=>by
 obtain⟨t,h1,h2⟩:=bnd_inv h
 obtain⟨b,h3,h4⟩:=bnd_inv h2
 obtain⟨d,h5,h6⟩:=bnd_inv h4
 obtain⟨s,h7,h8⟩:=bnd_inv h6
 have k1:=dec_take h1
 have k2:=dec_must h3
 have k3:=dec_take h5
 have k4:=dec_may h7
 split at h8
 ·obtain⟨e,h9,h10⟩:=bnd_inv h8
  have k5:=dec_take h9
  exact dec_ok h10 (by omega)
 ·exact dec_ok h8 (by omega)
theorem dec_cool {c:Int}{p:Nat}:Dec (coolP c p):=fun L y h=>by
 obtain⟨s,h1,h2⟩:=bnd_inv h
 have k1:=dec_may h1
 split at h2
 ·obtain⟨t,h3,h4⟩:=bnd_inv h2
  have k2:=dec_take h3
  exact dec_ok h4 (by omega)
 ·obtain⟨b,h3,h4⟩:=bnd_inv h2
  obtain⟨t,h5,h6⟩:=bnd_inv h4
  have k2:=dec_must h3
  have k3:=dec_take h5
  exact dec_ok h6 (by omega)
theorem dec_let {c:Int}{E:Ps}(hE:Dec E){p:Nat}:Dec (letP c E p):=fun L y h=>by
 obtain⟨t,h1,h2⟩:=bnd_inv h
 obtain⟨b,h3,h4⟩:=bnd_inv h2
 obtain⟨q,h5,h6⟩:=bnd_inv h4
 have k1:=dec_take h1
 have k2:=dec_must h3
 have k3:=hE _ _ h5
 exact dec_ok h6 (by omega)
theorem dec_guard {c:Int}{E A:Ps}(hE:Dec E)(hA:Dec A){p:Nat}:Dec (guardP c E A p):=fun L y h=>by
 obtain⟨t,h1,h2⟩:=bnd_inv h
 obtain⟨b,h3,h4⟩:=bnd_inv h2
 obtain⟨q,h5,h6⟩:=bnd_inv h4
 have k1:=hE _ _ h1
 have k2:=dec_must h3
 have k3:=hA _ _ h5
 exact dec_ok h6 (by omega)
theorem dec_decide {A:Ps}(hA:Dec A){p:Nat}:Dec (decideP A p):=fun L y h=>by
 obtain⟨t,h1,h2⟩:=bnd_inv h
 exact dec_ok h2 (hA _ _ h1)
theorem dec_item {c:Int}{E A:Ps}(hE:Dec E)(hA:Dec A){L:List Tk}{y:It×List Tk}(h:itemP c E A L=.ok y):y.2.length<=L.tail.length:=by
 obtain⟨t,h1,h2⟩:=bnd_inv h
 split at h2
 ·exact dec_metric _ _ h2
 split at h2
 ·exact dec_reps _ _ h2
 split at h2
 ·exact dec_cool _ _ h2
 split at h2
 ·exact dec_let hE _ _ h2
 split at h2
 ·exact dec_guard hE hA _ _ h2
 split at h2
 ·exact dec_decide hA _ _ h2
 ·cases h2
structure TkG (t:Tk):Prop where
 nm:t.kind=1->isN t.text=true
 nu:t.kind=2->0<=t.n
 sp:t.kind=3->spanB t.n=true
 qu:t.kind=4->txt quo t.text=true
 br:t.kind=8->txt brk t.text=true
structure TG (z:Nat)(L:List Tk):Prop where
 tl:TL z L
 gd:∀ t,t∈L->TkG t
theorem TG.hd {z:Nat}{L:List Tk}(h:TG z L):TkG (hdT L)/\TkOk z (hdT L):=by
 refine⟨h.gd _ ?_,h.tl.ok⟩
 have:=h.tl.ne
 cases L with
 | nil=>exact absurd rfl this
 | cons t L=>exact List.mem_cons_self
theorem TG.tail {z:Nat}{L:List Tk}(h:TG z L)(hk:(hdT L).kind≠7):TG z L.tail:=⟨h.tl.tail hk,fun t ht=>h.gd t (List.mem_of_mem_tail ht)⟩
theorem TG.ne {z:Nat}{L:List Tk}(h:TG z L):0<L.length:=h.tl.pos
def Rsz {α : Type}(z:Nat)(F : α -> Nat->Prop)(r:Rs α):Prop:=
 match r with
 | .ok y=>F y.1 y.2.length/\TG z y.2
 | .error e=>e.1<=z/\e.2≠0
theorem rz_ok {α : Type}{z:Nat}{F : α -> Nat->Prop}{x : α}{L:List Tk}(h:F x L.length)(hL:TG z L):Rsz z F (.ok (x,L)):=⟨h,hL⟩
theorem rz_bnd {α β : Type}{z:Nat}{F : α -> Nat->Prop}{G : β -> Nat->Prop}{r:Rs α}{f : α × List Tk->Rs β}(h:Rsz z F r)(hf:∀ y,F y.1 y.2.length->TG z y.2->Rsz z G (f y)):Rsz z G (bnd r f):=by
 cases r with
 | error e=>exact h
 | ok y=>exact hf y h.1 h.2
theorem rz_mono {α : Type}{z:Nat}{F G : α -> Nat->Prop}{r:Rs α}(h:Rsz z F r)(hf:∀ x n,F x n->G x n):Rsz z G r:=by
 cases r with
 | error e=>exact h
 | ok y=>exact⟨hf _ _ h.1,h.2⟩
theorem rz_nxt {β : Type}{z:Nat}{G : β -> Nat->Prop}{c:Int}{L:List Tk}{f:Tk->Rs β}(hL:TG z L)(hf:Rsz z G (f (hdT L))):Rsz z G (bnd (nxt c L) f):=by
 unfold nxt
 split
 ·rename_i h
  exact⟨hL.hd.2.a,h.2⟩
 ·exact hf
theorem rz_err {α : Type}{z:Nat}{F : α -> Nat->Prop}{L:List Tk}(hL:TG z L):Rsz z F (.error ((hdT L).at_,16)):=⟨hL.hd.2.a,by show (16:Int)≠0;decide⟩
theorem TG.tlen {z:Nat}{L:List Tk}(h:TG z L):L.tail.length+1=L.length:=by
 have:=h.ne
 rw[List.length_tail]
 omega
theorem rz_must {z:Nat}{c:Int}{x:ByteArray}{L:List Tk}(hL:TG z L):Rsz z (fun a n=>a<=z/\n+1=L.length) (mustS c x L):=by
 refine rz_nxt hL ?_
 split
 ·rename_i h
  exact rz_ok ⟨hL.hd.2.a,hL.tlen⟩ (hL.tail (isT_kind h))
 ·exact rz_err hL
theorem rz_may {z:Nat}{c:Int}{x:ByteArray}{L:List Tk}(hL:TG z L):Rsz z (fun b n=>n<=L.length/\(b=true->n+1=L.length)) (mayS c x L):=by
 have:=hL.tlen
 refine rz_nxt hL ?_
 split
 ·rename_i h
  exact rz_ok ⟨by omega,fun _=>this⟩ (hL.tail (isT_kind h))
 ·exact rz_ok ⟨Nat.le_refl _,fun h=>by cases h⟩ hL
theorem rz_take {z:Nat}{c k:Int}(hk:k≠7){L:List Tk}(hL:TG z L):Rsz z (fun t n=>(TkG t/\t.kind=k/\TkOk z t)/\n+1=L.length) (takeK c k L):=by
 refine rz_nxt hL ?_
 split
 ·rename_i h
  exact rz_ok ⟨⟨hL.hd.1,h,hL.hd.2⟩,hL.tlen⟩ (hL.tail (by rw[h];exact hk))
 ·exact rz_err hL
theorem nodes_one {k:Int}{s:ByteArray}{n m a:Int}:nodes ⟨k,s,n,m,a,[]⟩=1:=by
 rw[nodes_eq]
 show 1+nodesL []=1
 rw[nodesL_nil]
theorem nil_tl:(⟨#[]⟩:ByteArray).toList=[]:=by kernel_rfl
theorem txt_nil (l:List UInt8):txt l ⟨#[]⟩=true:=by
 have e:rs ⟨#[]⟩ 0=[]:=rs_end (by show ¬ 0<0;omega)
 unfold txt
 rw[e]
 rfl
theorem rz_unit {z:Nat}{c:Int}{L:List Tk}(hL:TG z L):Rsz z (fun u n=>(txt brk u=true/\u.size<=z)/\n<=L.length) (unitP c L):=by
 have:=hL.tlen
 refine rz_nxt hL ?_
 split
 ·rename_i h
  exact rz_ok ⟨⟨hL.hd.1.br h,hL.hd.2.x⟩,by omega⟩ (hL.tail (by rw[h];decide))
 ·exact rz_ok ⟨⟨txt_nil _,Nat.zero_le _⟩,Nat.le_refl _⟩ hL
theorem rz_number {z:Nat}{c:Int}{L:List Tk}(hL:TG z L):Rsz z (fun t n=>(numB t=true/\nodes t=1)/\n+1<=L.length) (numberP c L):=by
 refine rz_bnd (rz_take (by decide) hL) fun t ht hL1=>?_
 refine rz_bnd (rz_unit hL1) fun u hu hL2=>?_
 refine rz_ok ⟨⟨?_,nodes_one⟩,by omega⟩ hL2
 unfold numB leafB
 simp[ht.1.1.nu ht.1.2.1]
 exact hu.1.1
theorem numB_formed {t:Tm}(h:numB t=true):formedB t=true:=by
 unfold numB at h
 simp only[Bool.and_eq_true,decide_eq_true_eq] at h
 obtain⟨h1,h2,h3⟩:=h
 rw[formedB_eq,headB,if_pos h2,h3,List.length_eq_zero_iff.1 h2]
 rfl
theorem plain_of {k lo hi:Int}(h1:lo<=k)(h2:k<=hi):plainB k ⟨#[]⟩ 0 0 lo hi=true:=by
 unfold plainB bareB
 rw[decide_eq_true h1,decide_eq_true h2,nil_tl]
 rfl
theorem head_1 {k:Int}(h:13<=k/\k<=17):headB k ⟨#[]⟩ 0 0 1=true:=plain_of h.1 h.2
theorem head_2 {k:Int}(h:18<=k/\k<=31):headB k ⟨#[]⟩ 0 0 2=true:=plain_of h.1 h.2
theorem head_3 {k:Int}(h:32<=k/\k<=32):headB k ⟨#[]⟩ 0 0 3=true:=plain_of h.1 h.2
theorem formed_tm {k:Int}{a:Nat}{ps:List Tm}(h:headB k ⟨#[]⟩ 0 0 ps.length=true)(hp:∀ x,x∈ps->formedB x=true):formedB (tm k a ps)=true:=by
 rw[formedB_eq,h,Bool.true_and]
 exact List.all_eq_true.2 hp
theorem nodes_tm {k:Int}{a:Nat}{ps:List Tm}:nodes (tm k a ps)=1+nodesL ps:=nodes_eq _
abbrev FoT (N:Nat):Tm->Nat->Prop:=fun t n=>formedB t=true/\nodes t+n<=N
def FoE (z:Nat)(E:Ps):Prop:=∀ L,TG z L->Rsz z (FoT L.length) (E L)
def FoO (z:Nat)(X:Option Ps):Prop:=∀ E,X=some E->FoE z E
theorem rz_close {α : Type}{z:Nat}{c:Int}{x:ByteArray}{F : α -> Nat->Prop}{a : α}{L:List Tk}(h:∀ n,n+1=L.length->F a n)(hL:TG z L):Rsz z F (closeP c x (a,L)):=
 rz_bnd (rz_must hL) fun _ hm hL1=>rz_ok (h _ hm.2) hL1
theorem rz_begin {α β : Type}{z:Nat}{c:Int}{x:ByteArray}{X:Option α}{L:List Tk}{f : α -> List Tk->Rs β}{F : β -> Nat->Prop}(hL:TG z L)(hf:∀ E,X=some E->∀ L1:List Tk,L1.length+1=L.length->TG z L1->Rsz z F (f E L1)):Rsz z F (beginP c x X L f):=by
 refine rz_bnd (rz_must hL) fun a ha hL1=>?_
 cases X with
 | none=>exact⟨ha.1,by show (15:Int)≠0;decide⟩
 | some E=>exact hf E rfl _ ha.2 hL1
theorem rz_more {z:Nat}{c:Int}{E:Ps}(hE:FoE z E):∀ n ps L,TG z L->(∀ x,x∈ps->formedB x=true)->Rsz z (fun l q=>(l.length=ps.length+n/\∀ x,x∈l->formedB x=true)/\nodesL l+q<=nodesL ps+L.length) (moreP c E n ps L)
 | 0,ps,L,hL,hp=>rz_ok ⟨⟨rfl,hp⟩,Nat.le_refl _⟩ hL
 | n+1,ps,L,hL,hp=>by
   refine rz_bnd (rz_must hL) fun a ha hL1=>?_
   refine rz_bnd (hE _ hL1) fun y hy hL2=>?_
   refine rz_mono (rz_more hE n (ps++[y.1]) y.2 hL2 (fun x hx=>by
    rcases List.mem_append.1 hx with hx | hx
    ·exact hp x hx
    ·rw[List.mem_singleton.1 hx];exact hy.1)) fun l q hl=>?_
   have h1:=hl.2
   have h2:=hy.2
   rw[nodesL_append,nodesL_cons,nodesL_nil] at h1
   exact⟨⟨by rw[hl.1.1,List.length_append];simp;omega,hl.1.2⟩,by omega⟩
theorem rz_call {z:Nat}{c:Int}{X:Option Ps}(hX:FoO z X){k:Int}{n a:Nat}(hk:headB k ⟨#[]⟩ 0 0 (n+1)=true){L:List Tk}(hL:TG z L):Rsz z (FoT (L.length+1)) (callP c X k n a L):=by
 refine rz_begin hL fun E hE L1 h1 hL1=>?_
 refine rz_bnd (hX E hE _ hL1) fun y hy hL2=>?_
 refine rz_bnd (rz_more (hX E hE) n [y.1] y.2 hL2 (fun x hx=>by rw[List.mem_singleton.1 hx];exact hy.1)) fun q hq hL3=>?_
 have g1:=hq.2
 have g2:=hy.2
 rw[nodesL_cons,nodesL_nil] at g1
 exact rz_close (fun m hm=>⟨formed_tm (by rw[hq.1.1,show [y.1].length+n=n+1 by simp;omega];exact hk) hq.1.2,by rw[nodes_tm];omega⟩) hL3
theorem rz_cron {z:Nat}{c:Int}{X:Option Ps}{a:Nat}{L:List Tk}(hL:TG z L):Rsz z (FoT (L.length+1)) (cronP c X a L):=by
 refine rz_begin hL fun E hE L1 h1 hL1=>?_
 refine rz_bnd (rz_take (by decide) hL1) fun t ht hL2=>?_
 refine rz_close (fun m hm=>⟨?_,by rw[nodes_one];omega⟩) hL2
 rw[formedB_eq]
 simp[headB,leafB,ht.1.1.qu ht.1.2.1]
theorem rz_win {z:Nat}{c:Int}{X:Option Ps}{k:Int}{a:Nat}(hk:7<=k/\k<=12){L:List Tk}(hL:TG z L):Rsz z (FoT (L.length+1)) (winP c X k a L):=by
 refine rz_begin hL fun E hE L1 h1 hL1=>?_
 refine rz_bnd (rz_take (by decide) hL1) fun t ht hL2=>?_
 refine rz_bnd (rz_must hL2) fun b hb hL3=>?_
 refine rz_bnd (rz_take (by decide) hL3) fun d hd hL4=>?_
 split
 ·rename_i h12
  refine rz_bnd (rz_must hL4) fun e he hL5=>?_
  refine rz_bnd (rz_take (by decide) hL5) fun m hm hL6=>?_
  refine rz_close (fun q hq=>⟨?_,by rw[nodes_one];omega⟩) hL6
  rw[formedB_eq]
  show (leafB k _ _ _&&true)=true
  unfold leafB
  rw[if_neg (by omega),if_neg (by omega),if_neg (by omega),if_neg (by omega),if_pos h12,hd.1.1.sp hd.1.2.1,ht.1.1.nm ht.1.2.1,decide_eq_true (hm.1.1.nu hm.1.2.1)]
  rfl
 ·rename_i h12
  refine rz_close (fun q hq=>⟨?_,by rw[nodes_one];omega⟩) hL4
  rw[formedB_eq]
  show (leafB k _ _ _&&true)=true
  unfold leafB
  rw[if_neg (by omega),if_neg (by omega),if_neg (by omega),if_pos (by omega),hd.1.1.sp hd.1.2.1,ht.1.1.nm ht.1.2.1]
  rfl
theorem winK_at {x:ByteArray}(h:winK x≠0):7<=winK x/\winK x<=12:=by
 unfold winK at h ⊢
 by_cases h0:x=k_sum
 ·rw[if_pos h0];decide
 rw[if_neg h0] at h ⊢
 by_cases h1:x=k_avg
 ·rw[if_pos h1];decide
 rw[if_neg h1] at h ⊢
 by_cases h2:x=k_low
 ·rw[if_pos h2];decide
 rw[if_neg h2] at h ⊢
 by_cases h3:x=k_high
 ·rw[if_pos h3];decide
 rw[if_neg h3] at h ⊢
 by_cases h4:x=k_count
 ·rw[if_pos h4];decide
 rw[if_neg h4] at h ⊢
 by_cases h5:x=k_rank
 ·rw[if_pos h5];decide
 rw[if_neg h5] at h ⊢
 exact absurd rfl h
theorem formed_leaf {k:Int}{a:Nat}(hk:3<=k/\k<=5):formedB (tm k a [])=true:=by
 rw[formedB_eq]
 show (leafB k ⟨#[]⟩ 0 0&&true)=true
 unfold leafB
 rw[if_neg (by omega),if_neg (by omega),if_neg (by omega),if_neg (by omega),if_neg (by omega),plain_of hk.1 hk.2]
 rfl
theorem leaf_ok {z:Nat}{k:Int}{a:Nat}{L:List Tk}(hk:3<=k/\k<=5)(hL:TG z L):Rsz z (FoT (L.length+1)) (.ok (tm k a [],L)):=rz_ok ⟨formed_leaf hk,by rw[nodes_one];omega⟩ hL
theorem rz_word {z:Nat}{c:Int}{X:Option Ps}(hX:FoO z X){t:Tk}(ht:t.at_<=z){L:List Tk}(hL:TG z L):Rsz z (FoT (L.length+1)) (wordP c X t L):=by
 unfold wordP
 by_cases h0:t.text=k_true
 ·rw[if_pos h0];exact leaf_ok (by decide) hL
 rw[if_neg h0]
 by_cases h1:t.text=k_false
 ·rw[if_pos h1];exact leaf_ok (by decide) hL
 rw[if_neg h1]
 by_cases h2:t.text=k_reps
 ·rw[if_pos h2];exact leaf_ok (by decide) hL
 rw[if_neg h2]
 by_cases h3:t.text=k_if
 ·rw[if_pos h3];exact rz_call hX (head_3 (by decide)) hL
 rw[if_neg h3]
 by_cases h4:t.text=k_min
 ·rw[if_pos h4];exact rz_call hX (head_2 (by decide)) hL
 rw[if_neg h4]
 by_cases h5:t.text=k_max
 ·rw[if_pos h5];exact rz_call hX (head_2 (by decide)) hL
 rw[if_neg h5]
 by_cases h6:t.text=k_either
 ·rw[if_pos h6];exact rz_call hX (head_2 (by decide)) hL
 rw[if_neg h6]
 by_cases h7:t.text=k_abs
 ·rw[if_pos h7];exact rz_call hX (head_1 (by decide)) hL
 rw[if_neg h7]
 by_cases h8:t.text=k_ceil
 ·rw[if_pos h8];exact rz_call hX (head_1 (by decide)) hL
 rw[if_neg h8]
 by_cases h9:t.text=k_floor
 ·rw[if_pos h9];exact rz_call hX (head_1 (by decide)) hL
 rw[if_neg h9]
 by_cases h10:t.text=k_cron
 ·rw[if_pos h10];exact rz_cron hL
 rw[if_neg h10]
 by_cases hw:winK t.text=0
 ·rw[if_pos hw];exact⟨ht,by show (16:Int)≠0;decide⟩
 rw[if_neg hw]
 exact rz_win (winK_at hw) hL
theorem rz_atom {z:Nat}{c:Int}{X:Option Ps}(hX:FoO z X):FoE z (atomP c X):=by
 intro L hL
 have htl:=hL.tlen
 refine rz_nxt hL ?_
 split
 ·exact rz_mono (rz_number hL) fun _ _ h=>⟨numB_formed h.1.1,by rw[h.1.2];omega⟩
 ·split
  ·rename_i hk
   refine rz_ok ⟨?_,by rw[nodes_one];omega⟩ (hL.tail (by rw[hk];decide))
   rw[formedB_eq]
   simp[headB,leafB,hL.hd.1.nm hk]
  ·split
   ·rename_i hk
    have:=rz_word hX hL.hd.2.a (c:=c) (hL.tail (by rw[hk];decide))
    rw[htl] at this
    exact this
   ·refine rz_begin hL fun E hE L1 h1 hL1=>?_
    refine rz_bnd (hX E hE _ hL1) fun y hy hL2=>rz_close (a:=y.1) (L:=y.2) (fun m hm=>⟨hy.1,?_⟩) hL2
    have:=hy.2
    omega
theorem fo_one {k:Int}{a N n:Nat}{y:Tm}(hk:headB k ⟨#[]⟩ 0 0 1=true)(hy:FoT N y n):FoT (N+1) (tm k a [y]) n:=
 ⟨formed_tm hk (fun x hx=>by rw[List.mem_singleton.1 hx];exact hy.1),by have:=hy.2;rw[nodes_tm,nodesL_cons,nodesL_nil];omega⟩
theorem rz_fac {z:Nat}{c:Int}{A:Ps}(hA:FoE z A):FoE z (facP c A):=by
 intro L hL
 have htl:=hL.tlen
 refine rz_nxt hL ?_
 rw[<-htl]
 split
 ·rename_i hk
  exact rz_bnd (hA _ (hL.tail (isT_kind hk))) fun y hy hL1=>rz_ok (fo_one (head_1 (by decide)) hy) hL1
 ·split
  ·rename_i hk
   exact rz_bnd (hA _ (hL.tail (isT_kind hk))) fun y hy hL1=>rz_ok (fo_one (head_1 (by decide)) hy) hL1
  ·rw[htl]
   exact hA _ hL
def SgIn (sg:Sg):Prop:=∀ s,s∈sg->18<=s.2/\s.2<=31
theorem sgT_in {sg:Sg}(hs:SgIn sg){t:Tk}{k:Int}(h:sgT sg t=some k):(18<=k/\k<=31)/\t.kind≠7:=by
 unfold sgT at h
 rcases hf:sg.find? (fun s=>isT s.1 t) with _ | s
 ·rw[hf] at h;cases h
 ·rw[hf] at h
  cases h
  exact⟨hs s (List.mem_of_find?_eq_some hf),isT_kind (x:=s.1) (by simpa using List.find?_some hf)⟩
theorem rz_join {z:Nat}{c:Int}{sg:Sg}(hs:SgIn sg){S:Ps}(hS:FoE z S){x:Tm}(hx:formedB x=true){L:List Tk}(hL:TG z L):Rsz z (fun y n=>FoT (nodes x+L.length) y.1 n) (joinP c sg S x L):=by
 have htl:=hL.tlen
 refine rz_nxt hL ?_
 split
 ·rename_i k hk
  have:=sgT_in hs hk
  refine rz_bnd (hS _ (hL.tail this.2)) fun y hy hL1=>?_
  refine rz_ok ⟨formed_tm ?_ (fun u hu=>?_),?_⟩ hL1
  ·exact head_2 this.1
  ·simp only[List.mem_cons,List.not_mem_nil,or_false] at hu
   rcases hu with rfl | rfl
   ·exact hx
   ·exact hy.1
  ·have:=hy.2
   show nodes (tm k _ [x,y.1])+_<=_
   rw[nodes_tm,nodesL_cons,nodesL_cons,nodesL_nil]
   omega
 ·exact rz_ok ⟨hx,Nat.le_refl _⟩ hL
theorem rz_leftL {z:Nat}{c:Int}{sg:Sg}(hs:SgIn sg){S:Ps}(hS:FoE z S):∀ f x L,formedB x=true->TG z L->Rsz z (FoT (nodes x+L.length)) (leftL c sg S f x L)
 | 0,_,_,hx,hL=>rz_ok ⟨hx,Nat.le_refl _⟩ hL
 | f+1,x,L,hx,hL=>by
   refine rz_bnd (rz_join hs hS hx hL) fun y hy hL1=>?_
   split
   ·refine rz_mono (rz_leftL hs hS f y.1.1 y.2 hy.1 hL1) fun _ _ h=>⟨h.1,Nat.le_trans h.2 hy.2⟩
   ·exact rz_ok hy hL1
theorem rz_leftP {z:Nat}{c:Int}{sg:Sg}(hs:SgIn sg){S:Ps}(hS:FoE z S):FoE z (leftP c sg S):=fun _ hL=>
 rz_bnd (hS _ hL) fun y hy hL1=>rz_mono (rz_leftL hs hS _ y.1 y.2 hy.1 hL1) fun _ _ h=>⟨h.1,Nat.le_trans h.2 hy.2⟩
theorem rz_cmp {z:Nat}{c:Int}{sg:Sg}(hs:SgIn sg){S:Ps}(hS:FoE z S):FoE z (cmpP c sg S):=fun _ hL=>
 rz_bnd (hS _ hL) fun _ hy hL1=>rz_bnd (rz_join hs hS hy.1 hL1) fun _ hq hL2=>rz_ok ⟨hq.1,Nat.le_trans hq.2 hy.2⟩ hL2
theorem sg_or:SgIn sgOr:=by unfold SgIn;simp
theorem sg_and:SgIn sgAnd:=by unfold SgIn;simp
theorem sg_cmp:SgIn sgCmp:=by unfold SgIn;simp
theorem sg_sum:SgIn sgSum:=by unfold SgIn;simp
theorem sg_mul:SgIn sgMul:=by unfold SgIn;simp
theorem rz_lv0 {z:Nat}{c:Int}{X:Option Ps}(hX:FoO z X):FoE z (lv0 c X):=
 rz_leftP sg_or (rz_leftP sg_and (rz_cmp sg_cmp (rz_leftP sg_sum (rz_leftP sg_mul (rz_fac (rz_atom hX))))))
theorem rz_expr (z:Nat)(c:Int):∀ d,FoE z (exprD c d)
 | 0=>rz_lv0 (fun _ h=>by cases h)
 | d+1=>rz_lv0 (fun E h=>by cases h;exact rz_expr z c d)
abbrev AcT (N:Nat):Tm->Nat->Prop:=fun t n=>actionB t=true/\nodes t+n<=N
def AcE (z:Nat)(A:Ps):Prop:=∀ L,TG z L->Rsz z (AcT L.length) (A L)
def AcO (z:Nat)(X:Option Ps):Prop:=∀ E,X=some E->AcE z E
theorem num_lit {t:Tm}(h:numB t=true):litB t=true:=by unfold litB;rw[h];rfl
theorem rz_bound {z:Nat}{c:Int}{L:List Tk}(hL:TG z L):Rsz z (fun t n=>litB t=true/\nodes t+n<=L.length) (boundP c L):=by
 have htl:=hL.tlen
 refine rz_nxt hL ?_
 split
 ·rename_i hk
  refine rz_bnd (rz_number (hL.tail (isT_kind hk))) fun y hy hL1=>rz_ok ⟨?_,by rw[nodes_tm,nodesL_cons,nodesL_nil,hy.1.2];omega⟩ hL1
  unfold litB negB
  rw[plain_of (k:=13) (by decide) (by decide)]
  simp[hy.1.1]
 ·exact rz_mono (rz_number hL) fun _ _ h=>⟨num_lit h.1.1,by rw[h.1.2];omega⟩
theorem pairs_nil:pairsB []=true:=rfl
theorem alt_app {l k:List Tm}{j:Nat}(hj:j<l.length):altB (l++k) j=altB l j:=by
 unfold altB
 rw[List.getElem?_append_left hj]
theorem pairs_snoc {l:List Tm}{x y:Tm}(h:pairsB l=true)(hx:litB x=true)(hy:actionB y=true):pairsB (l++[x,y])=true:=by
 unfold pairsB at h ⊢
 simp only[Bool.and_eq_true,decide_eq_true_eq,List.all_eq_true,List.mem_range] at h ⊢
 obtain⟨h1,h2⟩:=h
 refine⟨by simp;omega,fun j hj=>?_⟩
 by_cases hl:j<l.length
 ·rw[alt_app hl];exact h2 j hl
 ·unfold altB
  rw[List.getElem?_append_right (by omega)]
  have:j=l.length\/j=l.length+1:=by simp at hj;omega
  rcases this with rfl | rfl
  ·rw[Nat.sub_self]
   show (if l.length%2=0 then litB x else actionB x)=true
   rw[if_pos h1];exact hx
  ·rw[show l.length+1-l.length=1 by omega]
   show (if (l.length+1)%2=0 then litB y else actionB y)=true
   rw[if_neg (by omega)];exact hy
def LadP (l:List Tm):Prop:=∃ x k y,l=x::(k++[y])/\formedB x=true/\pairsB k=true/\actionB y=true
theorem rz_rungs {z:Nat}{c:Int}{A:Ps}(hA:AcE z A):∀ f x k L,TG z L->L.length<=f->formedB x=true->pairsB k=true->Rsz z (fun l n=>LadP l/\nodesL l+n<=nodesL (x::k)+L.length) (rungs c A f (x::k) L)
 | 0,_,_,L,hL,hf,_,_=>by have:=hL.ne;omega
 | f+1,x,k,L,hL,hf,hx,hk=>by
   refine rz_bnd (rz_may hL) fun b hb hL1=>?_
   have k1:=hb.1
   split
   ·refine rz_bnd (rz_must hL1) fun a ha hL2=>?_
    refine rz_bnd (hA _ hL2) fun y hy hL3=>?_
    have k2:=hy.2
    refine rz_close (fun m hm=>⟨⟨x,k,y.1,by simp,hx,hk,hy.1⟩,?_⟩) hL3
    rw[nodesL_append,nodesL_cons y.1,nodesL_nil]
    omega
   ·refine rz_bnd (rz_bound hL1) fun q hq hL2=>?_
    have k2:=hq.2
    have k6:=nodes_pos q.1
    refine rz_bnd (rz_must hL2) fun a ha hL3=>?_
    refine rz_bnd (hA _ hL3) fun y hy hL4=>?_
    have k4:=hy.2
    refine rz_bnd (rz_must hL4) fun d hd hL5=>?_
    refine rz_mono (rz_rungs hA f x (k++[q.1,y.1]) d.2 hL5 (by omega) hx (pairs_snoc hk hq.1 hy.1)) fun l n h=>⟨h.1,?_⟩
    have:=h.2
    rw[nodesL_cons,nodesL_append,nodesL_cons,nodesL_cons,nodesL_nil] at this
    rw[nodesL_cons]
    omega
theorem ladder_action {a:Nat}{l:List Tm}(h:LadP l):actionB (tm 36 a l)=true:=by
 obtain⟨x,k,y,rfl,hx,hk,hy⟩:=h
 by_cases h2:2<=k.length
 ·rw[action_4 (t:=tm 36 a (x::(k++[y]))) rfl h2,plain_of (k:=36) (by decide) (by decide),hx,hk,hy]
  rfl
 ·have hk1:k.length%2=0:=by
   unfold pairsB at hk
   rw[Bool.and_eq_true] at hk
   exact of_decide_eq_true hk.1
  have:k=[]:=List.length_eq_zero_iff.1 (by omega)
  subst this
  show actionB (tm 36 a [x,y])=true
  rw[action_2 (t:=tm 36 a [x,y]) (x:=x) (y:=y) rfl,plain_of (k:=36) (by decide) (by decide),hx,hy]
  rfl
theorem rz_act {z:Nat}{c:Int}{E:Ps}{A:Option Ps}(hE:FoE z E)(hA:AcO z A):AcE z (actP c E A):=by
 intro L hL
 have htl:=hL.tlen
 have one:∀ (k:Int) (a:Nat) (y:Tm) (n:Nat),34<=k/\k<=35->FoT L.tail.length y n->AcT L.length (tm k a [y]) n:=fun k a y n hk hy=>by
  refine⟨?_,?_⟩
  ·rw[action_1 (t:=tm k a [y]) (x:=y) rfl,plain_of hk.1 hk.2,hy.1]
   rfl
  ·have:=hy.2
   rw[nodes_tm,nodesL_cons,nodesL_nil]
   omega
 refine rz_nxt hL ?_
 split
 ·rename_i hk
  refine rz_ok ⟨?_,by rw[nodes_one];omega⟩ (hL.tail (isT_kind hk))
  rw[action_0 (t:=tm 33 _ []) rfl]
  exact plain_of (k:=33) (by decide) (by decide)
 ·split
  ·rename_i hk
   exact rz_bnd (hE _ (hL.tail (isT_kind hk))) fun y hy hL1=>rz_ok (one 34 _ _ _ (by decide) hy) hL1
  ·split
   ·rename_i hk
    exact rz_bnd (hE _ (hL.tail (isT_kind hk))) fun y hy hL1=>rz_ok (one 35 _ _ _ (by decide) hy) hL1
   ·split
    ·rename_i hk
     refine rz_bnd (hE _ (hL.tail (isT_kind hk))) fun x hx hL1=>?_
     refine rz_begin hL1 fun B hB L2 h2 hL2=>?_
     refine rz_bnd (rz_rungs (hA B hB) _ _ [] _ hL2 (Nat.le_refl _) hx.1 pairs_nil) fun q hq hL3=>?_
     refine rz_ok ⟨ladder_action hq.1,?_⟩ hL3
     have g1:=hq.2
     have g2:=hx.2
     rw[nodesL_cons,nodesL_nil] at g1
     rw[nodes_tm]
     omega
    ·exact rz_err hL
theorem rz_actD (z:Nat)(c:Int):∀ d,AcE z (actD c d)
 | 0=>rz_act (rz_expr z c 0) (fun _ h=>by cases h)
 | d+1=>rz_act (rz_expr z c (d+1)) (fun E h=>by cases h;exact rz_actD z c d)
abbrev ItT (N:Nat):It->Nat->Prop:=fun i n=>itemB i=true/\rcost i+n<=N
theorem nilM_void:voidB nilM=true:=by
 unfold voidB nilM
 rw[nil_tl]
 rfl
theorem rest_of {x y:Tm}(hx:voidB x=true)(hy:voidB y=true):restB noB noB 0 0 0 x y=true:=by
 unfold restB noB
 rw[hx,hy,nil_tl]
 rfl
theorem rz_metric {z:Nat}{c:Int}{p:Nat}{L:List Tk}(hL:TG z L):Rsz z (ItT L.length) (metricP c p L):=by
 refine rz_bnd (rz_take (by decide) hL) fun t ht hL1=>?_
 refine rz_bnd (rz_unit hL1) fun u hu hL2=>?_
 refine rz_ok ⟨?_,?_⟩ hL2
 ·unfold itemB
  simp[ht.1.1.nm ht.1.2.1,hu.1.1]
  exact rest_of nilM_void nilM_void
 ·show rcost _+_<=_
  have:=hu.2
  simp[rcost]
  omega
theorem rz_reps {z:Nat}{c:Int}{p:Nat}{L:List Tk}(hL:TG z L):Rsz z (ItT L.length) (repsP c p L):=by
 refine rz_bnd (rz_take (by decide) hL) fun t ht hL1=>?_
 refine rz_bnd (rz_must hL1) fun b hb hL2=>?_
 refine rz_bnd (rz_take (by decide) hL2) fun d hd hL3=>?_
 refine rz_bnd (rz_may hL3) fun s hs hL4=>?_
 have g1:=ht.1.1.nu ht.1.2.1
 have g2:=hd.1.1.nu hd.1.2.1
 have g3:=hs.1
 split
 ·refine rz_bnd (rz_take (by decide) hL4) fun e he hL5=>?_
  have g4:=he.1.1.nu he.1.2.1
  refine rz_ok ⟨?_,?_⟩ hL5
  ·unfold itemB
   simp[g1,g2,g4]
   exact rest_of nilM_void nilM_void
  ·show rcost _+_<=_
   simp[rcost]
   omega
 ·refine rz_ok ⟨?_,?_⟩ hL4
  ·unfold itemB
   simp[g1,g2]
   exact rest_of nilM_void nilM_void
  ·show rcost _+_<=_
   simp[rcost]
   omega
theorem rz_cool {z:Nat}{c:Int}{p:Nat}{L:List Tk}(hL:TG z L):Rsz z (ItT L.length) (coolP c p L):=by
 refine rz_bnd (rz_may hL) fun s hs hL1=>?_
 have g3:=hs.1
 split
 ·refine rz_bnd (rz_take (by decide) hL1) fun t ht hL2=>?_
  refine rz_ok ⟨?_,?_⟩ hL2
  ·unfold itemB
   simp[ht.1.1.sp ht.1.2.1]
   exact rest_of nilM_void nilM_void
  ·show rcost _+_<=_
   simp[rcost]
   omega
 ·refine rz_bnd (rz_must hL1) fun b hb hL2=>?_
  refine rz_bnd (rz_take (by decide) hL2) fun t ht hL3=>?_
  refine rz_ok ⟨?_,?_⟩ hL3
  ·unfold itemB
   simp[ht.1.1.sp ht.1.2.1]
   exact rest_of nilM_void nilM_void
  ·show rcost _+_<=_
   simp[rcost]
   omega
theorem rz_let {z:Nat}{c:Int}{E:Ps}(hE:FoE z E){p:Nat}{L:List Tk}(hL:TG z L):Rsz z (ItT L.length) (letP c E p L):=by
 refine rz_bnd (rz_take (by decide) hL) fun t ht hL1=>?_
 refine rz_bnd (rz_must hL1) fun b hb hL2=>?_
 refine rz_bnd (hE _ hL2) fun y hy hL3=>?_
 have g:=hy.2
 refine rz_ok ⟨?_,?_⟩ hL3
 ·unfold itemB
  simp[ht.1.1.nm ht.1.2.1,hy.1]
  exact rest_of nilM_void nilM_void
 ·show rcost _+_<=_
  simp[rcost]
  omega
theorem rz_guard {z:Nat}{c:Int}{E A:Ps}(hE:FoE z E)(hA:AcE z A){p:Nat}{L:List Tk}(hL:TG z L):Rsz z (ItT L.length) (guardP c E A p L):=by
 refine rz_bnd (hE _ hL) fun y hy hL1=>?_
 refine rz_bnd (rz_must hL1) fun b hb hL2=>?_
 refine rz_bnd (hA _ hL2) fun q hq hL3=>?_
 have g1:=hy.2
 have g2:=hq.2
 refine rz_ok ⟨?_,?_⟩ hL3
 ·unfold itemB
  simp[hy.1,hq.1]
  exact rest_of nilM_void nilM_void
 ·show rcost _+_<=_
  simp[rcost]
  omega
theorem rz_decide {z:Nat}{A:Ps}(hA:AcE z A){p:Nat}{L:List Tk}(hL:TG z L):Rsz z (ItT L.length) (decideP A p L):=by
 refine rz_bnd (hA _ hL) fun q hq hL3=>?_
 have g2:=hq.2
 refine rz_ok ⟨?_,?_⟩ hL3
 ·unfold itemB
  simp[hq.1]
  exact rest_of nilM_void nilM_void
 ·show rcost _+_<=_
  simp[rcost]
  omega
theorem rz_item {z:Nat}{c:Int}{E A:Ps}(hE:FoE z E)(hA:AcE z A){L:List Tk}(hL:TG z L):Rsz z (ItT L.tail.length) (itemP c E A L):=by
 refine rz_nxt hL ?_
 split
 ·rename_i hk;exact rz_metric (hL.tail (isT_kind hk))
 split
 ·rename_i hk;exact rz_reps (hL.tail (isT_kind hk))
 split
 ·rename_i hk;exact rz_cool (hL.tail (isT_kind hk))
 split
 ·rename_i hk;exact rz_let hE (hL.tail (isT_kind hk))
 split
 ·rename_i hk;exact rz_guard hE hA (hL.tail (isT_kind hk))
 split
 ·rename_i hk;exact rz_decide hA (hL.tail (isT_kind hk))
 ·exact rz_err hL
end Go.Proofs.YtecdfnpbcabdnaaGreatDoor
end
