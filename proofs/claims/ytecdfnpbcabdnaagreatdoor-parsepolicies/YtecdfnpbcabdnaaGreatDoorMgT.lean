import Derived.Lib.ItoaNum
namespace Go.Proofs.YtecdfnpbcabdnaaGreatDoor
open Go.Lib
def isD (b:UInt8):Bool:=decide (48<=b.toNat)&&decide (b.toNat<=57)
theorem isD_iff {b:UInt8}:isD b=true↔48<=b.toNat/\b.toNat<=57:=by unfold isD;simp
def vstep (n:Nat)(b:UInt8):Nat:=n*10+(b.toNat-48)
def val (l:List UInt8):Nat:=l.foldl vstep 0
theorem foldl_val (l:List UInt8):∀ n,l.foldl vstep n=n*10^l.length+val l:=by
 unfold val
 induction l with
 | nil=>intro n;simp
 | cons b r ih=>
   intro n
   rw[List.foldl_cons,List.foldl_cons,ih,ih (vstep 0 b),List.length_cons,Nat.pow_succ]
   unfold vstep
   generalize 10^r.length=t
   generalize List.foldl vstep 0 r=u
   generalize b.toNat-48=v
   have e1:(n*10+v)*t=n*10*t+v*t:=Nat.add_mul _ _ _
   have e2:(0*10+v)*t=v*t:=by simp
   have e3:n*(t*10)=n*10*t:=by rw[Nat.mul_comm t 10,Nat.mul_assoc]
   omega
theorem val_app (a b:List UInt8):val (a++b)=val a*10^b.length+val b:=by
 rw[show val (a++b)=b.foldl vstep (val a) from List.foldl_append,foldl_val]
theorem val_snoc (a:List UInt8)(b:UInt8):val (a++[b])=val a*10+(b.toNat-48):=by
 rw[val_app];simp[val,vstep]
theorem val_cons (b:UInt8)(r:List UInt8):val (b::r)=(b.toNat-48)*10^r.length+val r:=by
 rw[show b::r=[b]++r from rfl,val_app];simp[val,vstep]
theorem val_lt (l:List UInt8)(h:l.all isD=true):val l<10^l.length:=by
 induction l with
 | nil=>simp[val]
 | cons b r ih=>
   rw[List.all_cons,Bool.and_eq_true] at h
   have h1:=isD_iff.1 h.1
   have h2:=ih h.2
   rw[val_cons,List.length_cons,Nat.pow_succ]
   have:(b.toNat-48)*10^r.length<=9*10^r.length:=Nat.mul_le_mul_right _ (by omega)
   omega
theorem val_zeros (k:Nat):val (List.replicate k 48)=0:=by
 induction k with
 | zero=>rfl
 | succ k ih=>rw[List.replicate_succ,val_cons,ih];simp
theorem val_pad (a:List UInt8)(k:Nat):val (a++List.replicate k 48)=val a*10^k:=by
 rw[val_app,val_zeros,List.length_replicate,Nat.add_zero]
theorem val_take (l:List UInt8)(k:Nat):val (l.take k)<=val l:=by
 have e:val l=val (l.take k)*10^(l.drop k).length+val (l.drop k):=by rw[<-val_app,List.take_append_drop]
 have:1<=10^(l.drop k).length:=Nat.one_le_pow _ _ (by decide)
 have:val (l.take k)*1<=val (l.take k)*10^(l.drop k).length:=Nat.mul_le_mul_left _ this
 omega
theorem val_ge (b:UInt8)(r:List UInt8)(hb:isD b=true)(h0:b≠48):10^r.length<=val (b::r):=by
 rw[val_cons]
 have h1:=isD_iff.1 hb
 have:b.toNat≠48:=fun h=>h0 (UInt8.toNat_inj.1 h)
 have:1*10^r.length<=(b.toNat-48)*10^r.length:=Nat.mul_le_mul_right _ (by omega)
 omega
def lim (v:Nat):Option Nat:=if v<9223372036854775808 then some v else none
def sizeN (W p:List UInt8):Nat:=val W*1000000+val p*10^(6-p.length)
def okW (W:List UInt8):Bool:=decide (W≠[])&&decide (W.length<=13)&&W.all isD&&(decide (W.head? ≠ some 48)||decide (W.length=1))
def okP (p:List UInt8):Bool:=decide (p≠[])&&decide (p.length<=6)&&p.all isD
def pre (l:List UInt8):List UInt8:=l.takeWhile (· != 46)
def hasPt (l:List UInt8):Bool:=l.contains 46
def post (l:List UInt8):List UInt8:=l.drop ((pre l).length+1)
def readN (l:List UInt8):Option Nat:=if okW (pre l)=true/\(hasPt l=true->okP (post l)=true) then lim (sizeN (pre l) (post l)) else none
def tailR (W:List UInt8):List UInt8->Option Nat
 | []=>lim (sizeN W [])
 | c::p=>if c=46/\okP p=true then lim (sizeN W p) else none
def readR (l:List UInt8):Option Nat:=
 if l.takeWhile isD=[]\/(1<(l.takeWhile isD).length/\l.head? = some 48) then none else tailR (l.takeWhile isD) (l.dropWhile isD)
theorem pre_app (W r:List UInt8)(h:W.all isD=true):pre (W++r)=W++pre r:=by
 unfold pre
 refine List.takeWhile_append_of_pos fun a ha=>?_
 have:=isD_iff.1 (List.all_eq_true.1 h a ha)
 rw[bne_iff_ne]
 intro e
 subst e
 exact absurd this (by decide)
theorem has_app (W r:List UInt8)(h:W.all isD=true):hasPt (W++r)=hasPt r:=by
 have:¬(46:UInt8)∈W:=fun ha=>absurd (isD_iff.1 (List.all_eq_true.1 h 46 ha)) (by decide)
 unfold hasPt
 rw[Bool.eq_iff_iff]
 simp[this]
theorem split_run (l:List UInt8):l=l.takeWhile isD++l.dropWhile isD:=(List.takeWhile_append_dropWhile).symm
theorem run_all (l:List UInt8):(l.takeWhile isD).all isD=true:=by
 rw[List.all_eq_true]
 intro x hx
 induction l with
 | nil=>cases hx
 | cons b r ih=>
   rw[List.takeWhile_cons] at hx
   cases h:isD b with
   | false=>rw[h] at hx;simp at hx
   | true=>
     rw[h] at hx
     simp only[if_true,List.mem_cons] at hx
     rcases hx with rfl | hx
     ·exact h
     ·exact ih hx
theorem drop_head (l:List UInt8)(c:UInt8)(p:List UInt8)(h:l.dropWhile isD=c::p):isD c=false:=by
 induction l with
 | nil=>cases h
 | cons b r ih=>
   rw[List.dropWhile_cons] at h
   cases hb:isD b with
   | true=>rw[hb] at h;exact ih h
   | false=>rw[hb] at h;simp at h;rw[<-h.1];exact hb
theorem lim_big {v:Nat}(h:9223372036854775808<=v):lim v=none:=if_neg (by omega)
theorem sizeN_big (W p:List UInt8)(h:W.all isD=true)(h1:13<W.length)(h0:W.head? ≠ some 48):lim (sizeN W p)=none:=by
 refine lim_big ?_
 cases W with
 | nil=>simp at h1
 | cons b r=>
   rw[List.all_cons,Bool.and_eq_true] at h
   have hv:=val_ge b r h.1 (fun e=>h0 (by rw[e];rfl))
   have hp:10^13<=10^r.length:=Nat.pow_le_pow_right (by decide) (by simp at h1;omega)
   unfold sizeN
   have:10^13=10000000000000:=by decide
   omega
theorem read_both (W r:List UInt8)(h:W.all isD=true)(hn:W≠[])(hz:¬(1<W.length/\W.head? = some 48))(hr:∀ c p,r=c::p->isD c=false):
 readN (W++r)=tailR W r:=by
 have eo:∀ (q:List UInt8),(if okW W=true/\(True->True) then lim (sizeN W q) else none)=lim (sizeN W q):=by
  intro q
  by_cases h13:W.length<=13
  ·rw[if_pos]
   refine⟨?_,id⟩
   unfold okW
   simp only[Bool.and_eq_true,Bool.or_eq_true,decide_eq_true_eq]
   refine⟨⟨⟨hn,h13⟩,h⟩,?_⟩
   by_cases h1:W.length=1
   ·exact .inr h1
   ·refine .inl fun e=>hz ⟨?_,e⟩
    cases W with
    | nil=>exact absurd rfl hn
    | cons b t=>rw[List.length_cons] at h1 ⊢;omega
  ·rw[sizeN_big W q h (by omega) (fun e=>hz ⟨by omega,e⟩)]
   split<;>rfl
 cases r with
 | nil=>
   have e1:pre (W++[])=W:=by rw[pre_app W [] h];simp[pre]
   have e2:hasPt (W++[])=false:=by rw[has_app W [] h];rfl
   have e3:post (W++[])=[]:=by unfold post;rw[e1];simp
   unfold readN
   rw[e1,e2,e3]
   have:=eo []
   simpa[tailR] using this
 | cons c p=>
   have hc:=hr c p rfl
   by_cases c46:c=46
   ·subst c46
    have e1:pre (W++46::p)=W:=by rw[pre_app W _ h];simp[pre]
    have e2:hasPt (W++46::p)=true:=by rw[has_app W _ h];simp[hasPt]
    have e3:post (W++46::p)=p:=by unfold post;rw[e1];simp
    unfold readN tailR
    rw[e1,e2,e3]
    by_cases hp:okP p=true
    ·have:=eo p
     simpa[hp] using this
    ·simp[hp]
   ·have e1:pre (W++c::p)=W++c::pre p:=by
     rw[pre_app W _ h]
     unfold pre
     rw[List.takeWhile_cons,if_pos (bne_iff_ne.2 c46)]
    have e2:okW (W++c::pre p)=false:=by
     have:(W++c::pre p).all isD=false:=by rw[List.all_append,List.all_cons,hc];simp
     unfold okW
     rw[this]
     simp
    unfold readN tailR
    rw[e1,e2]
    simp[c46]
theorem read_same (l:List UInt8):readN l=readR l:=by
 have hs:=split_run l
 have ha:=run_all l
 have hd:=fun c p=>drop_head l c p
 unfold readR
 generalize l.takeWhile isD=W at *
 generalize l.dropWhile isD=r at *
 subst hs
 by_cases hn:W=[]
 ·subst hn
  rw[if_pos (.inl rfl)]
  have e:okW (pre r)=false:=by
   cases r with
   | nil=>rfl
   | cons c p=>
     have hc:=hd c p rfl
     by_cases c46:c=46
     ·subst c46;simp[pre,okW]
     ·have:pre (c::p)=c::pre p:=by unfold pre;rw[List.takeWhile_cons,if_pos (bne_iff_ne.2 c46)]
      rw[this]
      unfold okW
      rw[List.all_cons,hc]
      simp
  unfold readN
  rw[List.nil_append,e]
  simp
 ·have hh:(W++r).head? = W.head?:=by cases W with | nil=>exact absurd rfl hn | cons _ _=>rfl
  rw[hh]
  by_cases hz:1<W.length/\W.head? = some 48
  ·rw[if_pos (.inr hz)]
   have key:∀ q,okW (W++q)=false:=by
    intro q
    unfold okW
    have:(W++q).head? = some 48:=by
     cases W with
     | nil=>exact absurd rfl hn
     | cons _ _=>exact hz.2
    rw[this]
    have:(W++q).length≠1:=by rw[List.length_append];omega
    rw[decide_eq_false this]
    simp
   unfold readN
   rw[pre_app W r ha,key]
   simp
  ·rw[if_neg (fun h=>h.elim hn hz)]
   exact read_both W r ha hn hz hd
theorem tailR_nil (W:List UInt8):tailR W []=lim (sizeN W []):=rfl
theorem tailR_cons (W:List UInt8)(c:UInt8)(p:List UInt8):tailR W (c::p)=if c=46/\okP p=true then lim (sizeN W p) else none:=rfl
def wrt:Nat->Nat
 | 0=>86400
 | 1=>3600
 | 2=>60
 | 3=>1
 | _=>0
def ltr:Nat->Nat
 | 0=>100
 | 1=>104
 | 2=>109
 | 3=>115
 | _=>0
def part (c nx:Nat):Option Nat:=
 if nx<=0/\c=100 then some 0 else if nx<=1/\c=104 then some 1 else if nx<=2/\c=109 then some 2 else if nx<=3/\c=115 then some 3 else none
theorem part_four (c nx:Nat)(h:4<=nx):part c nx=none:=by unfold part;rw[if_neg (by omega),if_neg (by omega),if_neg (by omega),if_neg (by omega)]
theorem four {n:Nat}(h:n<4):n=0\/n=1\/n=2\/n=3:=by omega
theorem part_hit (nx m:Nat)(h:nx<4)(hm:m<=nx):part (ltr nx) m=some nx:=by
 rcases four h with rfl | rfl | rfl | rfl<;>simp[part,ltr]<;>omega
theorem part_miss (c nx:Nat)(h:nx<4)(hc:c≠ltr nx):part c nx=part c (nx+1):=by
 rcases four h with rfl | rfl | rfl | rfl<;>(simp only[ltr] at hc;simp[part,hc])
theorem part_some {c nx j:Nat}(h:part c nx=some j):nx<=j/\j<4/\c=ltr j:=by
 unfold part at h
 split at h
 ·cases h;exact⟨by omega,by decide,by simp only[ltr];omega⟩
 ·split at h
  ·cases h;exact⟨by omega,by decide,by simp only[ltr];omega⟩
  ·split at h
   ·cases h;exact⟨by omega,by decide,by simp only[ltr];omega⟩
   ·split at h
    ·cases h;exact⟨by omega,by decide,by simp only[ltr];omega⟩
    ·cases h
theorem wrt_le (j:Nat):wrt j<=86400:=by unfold wrt;split<;>decide
def sp (sum cnt nx:Nat):List UInt8->Option Nat
 | []=>if cnt=0/\1<=sum/\sum<=604800 then some sum else none
 | b::r=>
   if isD b=true then (if vstep cnt b=0\/999999<vstep cnt b then none else sp sum (vstep cnt b) nx r)
   else match part b.toNat nx with
    | none=>none
    | some j=>if cnt=0 then none else sp (sum+cnt*wrt j) 0 (j+1) r
def spanN (l:List UInt8):Option Nat:=sp 0 0 0 l
theorem sp_nil (sum cnt nx:Nat):sp sum cnt nx []=if cnt=0/\1<=sum/\sum<=604800 then some sum else none:=rfl
theorem sp_dig (sum cnt nx:Nat)(b:UInt8)(r:List UInt8)(h:isD b=true):sp sum cnt nx (b::r)=if vstep cnt b=0\/999999<vstep cnt b then none else sp sum (vstep cnt b) nx r:=by
 rw[sp,if_pos h]
theorem sp_no (sum cnt nx:Nat)(b:UInt8)(r:List UInt8)(h:isD b=false)(hp:part b.toNat nx=none\/cnt=0):sp sum cnt nx (b::r)=none:=by
 rw[sp,if_neg (by simp[h])]
 rcases hp with hp | hp
 ·rw[hp]
 ·split
  ·rfl
  ·rw[if_pos hp]
theorem sp_part (sum cnt nx j:Nat)(b:UInt8)(r:List UInt8)(h:isD b=false)(hp:part b.toNat nx=some j)(hc:cnt≠0):sp sum cnt nx (b::r)=sp (sum+cnt*wrt j) 0 (j+1) r:=by
 rw[sp,if_neg (by simp[h]),hp]
 simp only
 rw[if_neg hc]
theorem sp_more (sum nx:Nat)(r:List UInt8):∀ (W:List UInt8) (cnt:Nat),W.all isD=true->1<=cnt->cnt<=999999 ->
 sp sum cnt nx (W++r)=if W.foldl vstep cnt<=999999 then sp sum (W.foldl vstep cnt) nx r else none
 | [],cnt,_,_,h2=>by rw[List.nil_append,List.foldl_nil,if_pos h2]
 | b::t,cnt,ha,h1,_=>by
   rw[List.all_cons,Bool.and_eq_true] at ha
   rw[List.cons_append,sp_dig _ _ _ _ _ ha.1,List.foldl_cons]
   have h0:1<=vstep cnt b:=by unfold vstep;omega
   by_cases h:999999<vstep cnt b
   ·rw[if_pos (.inr h),if_neg]
    rw[foldl_val]
    have:1<=10^t.length:=Nat.one_le_pow _ _ (by decide)
    have:vstep cnt b*1<=vstep cnt b*10^t.length:=Nat.mul_le_mul_left _ this
    omega
   ·rw[if_neg (by omega)]
    exact sp_more sum nx r t (vstep cnt b) ha.2 h0 (by omega)
theorem sp_run (sum nx:Nat)(W r:List UInt8)(ha:W.all isD=true)(hn:W≠[]):
 sp sum 0 nx (W++r)=if W.head? = some 48\/6<W.length then none else sp sum (val W) nx r:=by
 cases W with
 | nil=>exact absurd rfl hn
 | cons b t=>
   have ha':=ha
   rw[List.all_cons,Bool.and_eq_true] at ha
   have hb:=isD_iff.1 ha.1
   rw[List.cons_append,sp_dig _ _ _ _ _ ha.1]
   have e0:vstep 0 b=b.toNat-48:=by unfold vstep;omega
   by_cases h0:b=48
   ·subst h0
    rw[if_pos (.inl rfl),if_pos (.inl rfl)]
   ·have hb0:b.toNat≠48:=fun e=>h0 (UInt8.toNat_inj.1 e)
    rw[if_neg (by omega),sp_more sum nx r t (vstep 0 b) ha.2 (by omega) (by omega)]
    have ev:t.foldl vstep (vstep 0 b)=val (b::t):=rfl
    rw[ev]
    have hge:=val_ge b t ha.1 h0
    have hlt:=val_lt (b::t) ha'
    by_cases h6:6<(b::t).length
    ·rw[if_pos (c:=_\/_) (.inr h6),if_neg]
     have:10^6<=10^t.length:=Nat.pow_le_pow_right (by decide) (by rw[List.length_cons] at h6;omega)
     have:10^6=1000000:=by decide
     omega
    ·rw[if_neg (c:=_\/_),if_pos]
     ·have:10^(b::t).length<=10^6:=Nat.pow_le_pow_right (by decide) (by omega)
      have:10^6=1000000:=by decide
      omega
     ·rintro(h | h)
      ·exact h0 (Option.some.inj h)
      ·exact h6 h
theorem val_pos (W:List UInt8)(ha:W.all isD=true)(hn:W≠[])(h0:W.head? ≠ some 48):val W≠0:=by
 cases W with
 | nil=>exact absurd rfl hn
 | cons b t=>
   rw[List.all_cons,Bool.and_eq_true] at ha
   have:=val_ge b t ha.1 (fun e=>h0 (by rw[e];rfl))
   have:1<=10^t.length:=Nat.one_le_pow _ _ (by decide)
   omega
theorem val_six (W:List UInt8)(ha:W.all isD=true)(h:W.length<=6):val W<=999999:=by
 have:=val_lt W ha
 have:10^W.length<=10^6:=Nat.pow_le_pow_right (by decide) h
 have:10^6=1000000:=by decide
 omega
end Go.Proofs.YtecdfnpbcabdnaaGreatDoor
