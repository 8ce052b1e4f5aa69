import Derived.Test.YtepncopdjodfgaaGreatDoorMgD
namespace Go.Proofs.YtepncopdjodfgaaGreatDoor
open Go.RowKit
def arT:List Int:=[-2,0,0,0,0,0,0,1,1,1,1,1,1,1,2,2,2,2,2,2,2,2,2,2,2,2,2,2,3,0,1,1,-1]
set_option maxHeartbeats 2000000 in
theorem arity_in:∀ k,1<=k->k<=32->∀ w:World,Calls Tryz.prog 58 #[.int .i64 ((k:Nat):Int)] w fun e w'=>e=.returned (.int .i64 (arT.getD k (-2)))/\w'=w:=by
 apply op_cases (p:=fun k=>∀ w:World,Calls Tryz.prog 58 #[.int .i64 ((k:Nat):Int)] w fun e w'=>e=.returned (.int .i64 (arT.getD k (-2)))/\w'=w)<;>(intro w;go_enter Tryz.func58,Tryz.ntmps58;go_wp2_with fail;go_ret;exact⟨rfl,rfl⟩)
theorem arity_out (op:Int)(h:¬(1<=op/\op<=32))(w:World):Calls Tryz.prog 58 #[.int .i64 op] w fun e w'=>e=.returned (.int .i64 (-2))/\w'=w:=by
 have e28:(op==28)=false:=by simp;omega
 have e29:(op==29)=false:=by simp;omega
 have e30:(op==30)=false:=by simp;omega
 have e31:(op==31)=false:=by simp;omega
 have e32:(op==32)=false:=by simp;omega
 by_cases h1:op<1
 ·have a1:¬ 1<=op:=by omega
  have a2:¬ 7<=op:=by omega
  have a3:¬ 14<=op:=by omega
  clear h
  go_enter Tryz.func58,Tryz.ntmps58
  go_wp2_with fail
  go_ret
  exact⟨rfl,rfl⟩
 ·have a1:1<=op:=by omega
  have a2:7<=op:=by omega
  have a3:14<=op:=by omega
  have b1:¬ op<=6:=by omega
  have b2:¬ op<=13:=by omega
  have b3:¬ op<=27:=by omega
  clear h
  go_enter Tryz.func58,Tryz.ntmps58
  go_wp2_with fail
  go_ret
  exact⟨rfl,rfl⟩
set_option maxHeartbeats 4000000 in
theorem rfields_c (k:Nat)(wn cn ln:Int)(h64:C64 wn/\C64 cn/\C64 ln)(c:Co)(hc:c.op=((k:Nat):Int))(hf:CFit c)(ad:Option Addr)(n cap:Nat)(w:World):Calls Tryz.prog 59 #[.agg #[.int .i64 wn,.int .i64 cn,.int .i64 ln],coV c (.slice ad n cap)] w fun e w'=>e=.returned (.bool (fitsB k wn cn ln c))/\Below w.heap.size w w':=by
 obtain⟨⟨w1,w2⟩,⟨c1,c2⟩,l1,l2⟩:=h64
 obtain⟨⟨o1,o2⟩,⟨n1,n2⟩,m1,m2⟩:=hf
 have HB:Hid (∀ o o',Below w.heap.size w ((w.alloc o).alloc o')):=fun o o'=>((Below.refl _ _).alloc (Nat.le_refl _) _).alloc (by simp) _
 by_cases hk1:k=1
 ·have hk:=hk1
  have ho:c.op=1:=by omega
  clear hc
  by_cases q0:c.m=0
  case neg=>
   have r0:(c.m==0)=false:=by simpa using q0
   have hR:Hid (fitsB k wn cn ln c=false):=by show _=_;subst hk;unfold fitsB;simp<;>omega
   rw[hR.out]
   clear hR
   go_enter Tryz.func59,Tryz.ntmps59
   go_wp2_with fail
   go_ret
   exact⟨rfl,HB.out _ _⟩
  have hR:Hid (fitsB k wn cn ln c=true):=by show _=_;subst hk;unfold fitsB;simp<;>omega
  rw[hR.out]
  clear hR
  go_enter Tryz.func59,Tryz.ntmps59
  go_wp2_with fail
  go_ret
  exact⟨rfl,HB.out _ _⟩
 by_cases hk2:k=2
 ·have hk:=hk2
  have ho:c.op=2:=by omega
  clear hc
  by_cases q0:c.n=0
  case neg=>
   have r0:(c.n==0)=false:=by simpa using q0
   by_cases q1:c.n=1
   case neg=>
    have r1:(c.n==1)=false:=by simpa using q1
    have hR:Hid (fitsB k wn cn ln c=false):=by show _=_;subst hk;unfold fitsB;simp[belowB]<;>omega
    rw[hR.out]
    clear hR
    go_enter Tryz.func59,Tryz.ntmps59
    go_wp2_with fail
    go_ret
    exact⟨rfl,HB.out _ _⟩
   by_cases q2:c.m=0
   case neg=>
    have r2:(c.m==0)=false:=by simpa using q2
    have hR:Hid (fitsB k wn cn ln c=false):=by show _=_;subst hk;unfold fitsB;simp[belowB]<;>omega
    rw[hR.out]
    clear hR
    go_enter Tryz.func59,Tryz.ntmps59
    go_wp2_with fail
    go_ret
    exact⟨rfl,HB.out _ _⟩
   have hR:Hid (fitsB k wn cn ln c=true):=by show _=_;subst hk;unfold fitsB;simp[belowB]<;>omega
   rw[hR.out]
   clear hR
   go_enter Tryz.func59,Tryz.ntmps59
   go_wp2_with fail
   go_ret
   exact⟨rfl,HB.out _ _⟩
  by_cases q1:c.m=0
  case neg=>
   have r1:(c.m==0)=false:=by simpa using q1
   have hR:Hid (fitsB k wn cn ln c=false):=by show _=_;subst hk;unfold fitsB;simp[belowB]<;>omega
   rw[hR.out]
   clear hR
   go_enter Tryz.func59,Tryz.ntmps59
   go_wp2_with fail
   go_ret
   exact⟨rfl,HB.out _ _⟩
  have hR:Hid (fitsB k wn cn ln c=true):=by show _=_;subst hk;unfold fitsB;simp[belowB]<;>omega
  rw[hR.out]
  clear hR
  go_enter Tryz.func59,Tryz.ntmps59
  go_wp2_with fail
  go_ret
  exact⟨rfl,HB.out _ _⟩
 by_cases hk4:k=4
 ·have hk:=hk4
  have ho:c.op=4:=by omega
  clear hc
  by_cases q0:0<=c.n
  case neg=>
   have hR:Hid (fitsB k wn cn ln c=false):=by show _=_;subst hk;unfold fitsB;simp[belowB]<;>omega
   rw[hR.out]
   clear hR
   go_enter Tryz.func59,Tryz.ntmps59
   go_wp2_with fail
   go_ret
   exact⟨rfl,HB.out _ _⟩
  by_cases q1:c.n<wn
  case neg=>
   have hR:Hid (fitsB k wn cn ln c=false):=by show _=_;subst hk;unfold fitsB;simp[belowB]<;>omega
   rw[hR.out]
   clear hR
   go_enter Tryz.func59,Tryz.ntmps59
   go_wp2_with fail
   go_ret
   exact⟨rfl,HB.out _ _⟩
  by_cases q2:c.m=0
  case neg=>
   have r2:(c.m==0)=false:=by simpa using q2
   have hR:Hid (fitsB k wn cn ln c=false):=by show _=_;subst hk;unfold fitsB;simp[belowB]<;>omega
   rw[hR.out]
   clear hR
   go_enter Tryz.func59,Tryz.ntmps59
   go_wp2_with fail
   go_ret
   exact⟨rfl,HB.out _ _⟩
  have hR:Hid (fitsB k wn cn ln c=true):=by show _=_;subst hk;unfold fitsB;simp[belowB]<;>omega
  rw[hR.out]
  clear hR
  go_enter Tryz.func59,Tryz.ntmps59
  go_wp2_with fail
  go_ret
  exact⟨rfl,HB.out _ _⟩
 by_cases hk5:k=5
 ·have hk:=hk5
  have ho:c.op=5:=by omega
  clear hc
  by_cases q0:0<=c.n
  case neg=>
   have hR:Hid (fitsB k wn cn ln c=false):=by show _=_;subst hk;unfold fitsB;simp[belowB]<;>omega
   rw[hR.out]
   clear hR
   go_enter Tryz.func59,Tryz.ntmps59
   go_wp2_with fail
   go_ret
   exact⟨rfl,HB.out _ _⟩
  by_cases q1:c.n<cn
  case neg=>
   have hR:Hid (fitsB k wn cn ln c=false):=by show _=_;subst hk;unfold fitsB;simp[belowB]<;>omega
   rw[hR.out]
   clear hR
   go_enter Tryz.func59,Tryz.ntmps59
   go_wp2_with fail
   go_ret
   exact⟨rfl,HB.out _ _⟩
  by_cases q2:c.m=0
  case neg=>
   have r2:(c.m==0)=false:=by simpa using q2
   have hR:Hid (fitsB k wn cn ln c=false):=by show _=_;subst hk;unfold fitsB;simp[belowB]<;>omega
   rw[hR.out]
   clear hR
   go_enter Tryz.func59,Tryz.ntmps59
   go_wp2_with fail
   go_ret
   exact⟨rfl,HB.out _ _⟩
  have hR:Hid (fitsB k wn cn ln c=true):=by show _=_;subst hk;unfold fitsB;simp[belowB]<;>omega
  rw[hR.out]
  clear hR
  go_enter Tryz.func59,Tryz.ntmps59
  go_wp2_with fail
  go_ret
  exact⟨rfl,HB.out _ _⟩
 by_cases hk6:k=6
 ·have hk:=hk6
  have ho:c.op=6:=by omega
  clear hc
  by_cases q0:1<=c.n
  case neg=>
   have hR:Hid (fitsB k wn cn ln c=false):=by show _=_;subst hk;unfold fitsB;simp<;>omega
   rw[hR.out]
   clear hR
   go_enter Tryz.func59,Tryz.ntmps59
   go_wp2_with fail
   go_ret
   exact⟨rfl,HB.out _ _⟩
  by_cases q1:c.n<=3
  case neg=>
   have hR:Hid (fitsB k wn cn ln c=false):=by show _=_;subst hk;unfold fitsB;simp<;>omega
   rw[hR.out]
   clear hR
   go_enter Tryz.func59,Tryz.ntmps59
   go_wp2_with fail
   go_ret
   exact⟨rfl,HB.out _ _⟩
  by_cases q2:c.m=1
  case neg=>
   have r2:(c.m==1)=false:=by simpa using q2
   by_cases q3:c.m=2
   case neg=>
    have r3:(c.m==2)=false:=by simpa using q3
    have hR:Hid (fitsB k wn cn ln c=false):=by show _=_;subst hk;unfold fitsB;simp<;>omega
    rw[hR.out]
    clear hR
    go_enter Tryz.func59,Tryz.ntmps59
    go_wp2_with fail
    go_ret
    exact⟨rfl,HB.out _ _⟩
   have hR:Hid (fitsB k wn cn ln c=true):=by show _=_;subst hk;unfold fitsB;simp<;>omega
   rw[hR.out]
   clear hR
   go_enter Tryz.func59,Tryz.ntmps59
   go_wp2_with fail
   go_ret
   exact⟨rfl,HB.out _ _⟩
  have hR:Hid (fitsB k wn cn ln c=true):=by show _=_;subst hk;unfold fitsB;simp<;>omega
  rw[hR.out]
  clear hR
  go_enter Tryz.func59,Tryz.ntmps59
  go_wp2_with fail
  go_ret
  exact⟨rfl,HB.out _ _⟩
 by_cases hk7:k=7
 ·have hk:=hk7
  have ho:c.op=7:=by omega
  clear hc
  by_cases q0:0<=c.n
  case neg=>
   have hR:Hid (fitsB k wn cn ln c=false):=by show _=_;subst hk;unfold fitsB;simp[belowB]<;>omega
   rw[hR.out]
   clear hR
   go_enter Tryz.func59,Tryz.ntmps59
   go_wp2_with fail
   go_ret
   exact⟨rfl,HB.out _ _⟩
  by_cases q1:c.n<ln
  case neg=>
   have hR:Hid (fitsB k wn cn ln c=false):=by show _=_;subst hk;unfold fitsB;simp[belowB]<;>omega
   rw[hR.out]
   clear hR
   go_enter Tryz.func59,Tryz.ntmps59
   go_wp2_with fail
   go_ret
   exact⟨rfl,HB.out _ _⟩
  by_cases q2:c.m=0
  case neg=>
   have r2:(c.m==0)=false:=by simpa using q2
   have hR:Hid (fitsB k wn cn ln c=false):=by show _=_;subst hk;unfold fitsB;simp[belowB]<;>omega
   rw[hR.out]
   clear hR
   go_enter Tryz.func59,Tryz.ntmps59
   go_wp2_with fail
   go_ret
   exact⟨rfl,HB.out _ _⟩
  have hR:Hid (fitsB k wn cn ln c=true):=by show _=_;subst hk;unfold fitsB;simp[belowB]<;>omega
  rw[hR.out]
  clear hR
  go_enter Tryz.func59,Tryz.ntmps59
  go_wp2_with fail
  go_ret
  exact⟨rfl,HB.out _ _⟩
 by_cases hk13:k=13
 ·have hk:=hk13
  have ho:c.op=13:=by omega
  clear hc
  by_cases q0:0<=c.n
  case neg=>
   have hR:Hid (fitsB k wn cn ln c=false):=by show _=_;subst hk;unfold fitsB;simp<;>omega
   rw[hR.out]
   clear hR
   go_enter Tryz.func59,Tryz.ntmps59
   go_wp2_with fail
   go_ret
   exact⟨rfl,HB.out _ _⟩
  by_cases q1:1<=c.m
  case neg=>
   have hR:Hid (fitsB k wn cn ln c=false):=by show _=_;subst hk;unfold fitsB;simp<;>omega
   rw[hR.out]
   clear hR
   go_enter Tryz.func59,Tryz.ntmps59
   go_wp2_with fail
   go_ret
   exact⟨rfl,HB.out _ _⟩
  have hR:Hid (fitsB k wn cn ln c=true):=by show _=_;subst hk;unfold fitsB;simp<;>omega
  rw[hR.out]
  clear hR
  go_enter Tryz.func59,Tryz.ntmps59
  go_wp2_with fail
  go_ret
  exact⟨rfl,HB.out _ _⟩
 have ho1:(c.op==1)=false:=by simp;omega
 have ho2:(c.op==2)=false:=by simp;omega
 have ho4:(c.op==4)=false:=by simp;omega
 have ho5:(c.op==5)=false:=by simp;omega
 have ho6:(c.op==6)=false:=by simp;omega
 have ho7:(c.op==7)=false:=by simp;omega
 have ho13:(c.op==13)=false:=by simp;omega
 clear hc
 have hk0:=And.intro hk1 (And.intro hk2 (And.intro hk4 (And.intro hk5 (And.intro hk6 (And.intro hk7 hk13)))))
 by_cases q0:c.n=0
 case neg=>
  have r0:(c.n==0)=false:=by simpa using q0
  have hR:Hid (fitsB k wn cn ln c=false):=by show _=_;unfold fitsB;simp[hk0]<;>omega
  rw[hR.out]
  clear hR
  go_enter Tryz.func59,Tryz.ntmps59
  go_wp2_with fail
  go_ret
  exact⟨rfl,HB.out _ _⟩
 by_cases q1:c.m=0
 case neg=>
  have r1:(c.m==0)=false:=by simpa using q1
  have hR:Hid (fitsB k wn cn ln c=false):=by show _=_;unfold fitsB;simp[hk0]<;>omega
  rw[hR.out]
  clear hR
  go_enter Tryz.func59,Tryz.ntmps59
  go_wp2_with fail
  go_ret
  exact⟨rfl,HB.out _ _⟩
 have hR:Hid (fitsB k wn cn ln c=true):=by show _=_;unfold fitsB;simp[hk0]<;>omega
 rw[hR.out]
 clear hR
 go_enter Tryz.func59,Tryz.ntmps59
 go_wp2_with fail
 go_ret
 exact⟨rfl,HB.out _ _⟩
abbrev roomV (wn cn ln:Int):Value:=.agg #[.int .i64 wn,.int .i64 cn,.int .i64 ln]
def RSo (wn cn ln:Int)(t:Co):Prop:=∀ (v:Value) (w:World),CSits w t v->cnodes t<=8192->Calls Tryz.prog 32 #[roomV wn cn ln,coV t v] w fun e w'=>e=.returned (.int .i64 (csort ladF wn cn ln t))/\Below w.heap.size w w'
def dstep (c:Co)(ss:List Int)(i:Nat):Prop:=(c.parts.getD i co0).op=1/\ss.getD i 0=1/\(1<i->(c.parts.getD (i-2) co0).n<(c.parts.getD i co0).n)/\ss.getD (i+1) 0=3
def LadD (c:Co)(ss:List Int):Prop:=2<=ss.length/\ss.length%2=0/\ss.getD 0 0=1/\(∀ i,i%2=1->i+1<ss.length->dstep c ss i)/\ss.getD (ss.length-1) 0=3
theorem getD_mem0 {ss:List Int}{j:Nat}(h:j<ss.length):ss.getD j 0∈ss:=by
 rw[List.getD_eq_getElem?_getD,List.getElem?_eq_getElem h];exact List.getElem_mem h
theorem csort_num (wn cn ln:Int)(t:Co)(h:t.op=1):csort ladF wn cn ln t=0\/csort ladF wn cn ln t=1:=by
 rw[csort_eq,h]
 rw[if_pos ⟨by decide,by decide⟩]
 split
 ·split
  ·exact .inl rfl
  ·show mkF 1 [] _=0\/mkF 1 [] _=1
   unfold mkF
   split
   ·exact .inr rfl
   ·exact .inl rfl
 ·exact .inl rfl
theorem getD_map {wn cn ln:Int}(ps:List Co){j:Nat}(h:j<ps.length):(ps.map (csort ladF wn cn ln)).getD j 0=csort ladF wn cn ln (ps.getD j co0):=by
 rw[List.getD_eq_getElem?_getD,List.getD_eq_getElem?_getD,List.getElem?_map,List.getElem?_eq_getElem h];rfl
theorem ladD_iff (wn cn ln:Int)(c:Co):LadD c (c.parts.map (csort ladF wn cn ln))↔(c.parts.map (csort ladF wn cn ln)).contains 0=false/\LadOk c (c.parts.map (csort ladF wn cn ln)):=by
 obtain⟨ss,hss⟩:∃ ss,ss=c.parts.map (csort ladF wn cn ln):=⟨_,rfl⟩
 have hl:ss.length=c.parts.length:=by rw[hss];simp
 rw[<-hss]
 constructor
 ·rintro⟨h1,h2,h3,h4,h5⟩
  refine⟨?_,h1,h2,h3,h5,fun i ho hi=>⟨(h4 i ho hi).1,(h4 i ho hi).2.2.2,(h4 i ho hi).2.2.1⟩⟩
  have key:∀ j,j<ss.length->ss.getD j 0≠0:=by
   intro j hj
   by_cases j0:j=0
   ·subst j0;omega
   by_cases je:j%2=0
   ·have:=(h4 (j-1) (by omega) (by omega)).2.2.2
    rw[show j-1+1=j by omega] at this
    omega
   ·by_cases jl:j=ss.length-1
    ·rw[jl];omega
    ·have:=(h4 j (by omega) (by omega)).2.1;omega
  rw[Bool.eq_false_iff]
  intro hc
  obtain⟨j,hj,e⟩:=List.getElem_of_mem (List.contains_iff_mem.1 hc)
  have:=key j hj
  rw[List.getD_eq_getElem?_getD,List.getElem?_eq_getElem hj] at this
  exact this e
 ·rintro⟨h0,h1,h2,h3,h5,h4⟩
  refine⟨h1,h2,h3,fun i ho hi=>?_,h5⟩
  obtain⟨a,b,d⟩:=h4 i ho hi
  refine⟨a,?_,d,b⟩
  have hm:=getD_mem0 (ss:=ss) (j:=i) (by omega)
  have hne:ss.getD i 0≠0:=fun e=>by
   rw[e] at hm
   rw[Bool.eq_false_iff] at h0
   exact h0 (List.contains_iff_mem.2 hm)
  rw[hss,getD_map c.parts (by omega)] at hne ⊢
  exact(csort_num wn cn ln _ a).resolve_left hne
end Go.Proofs.YtepncopdjodfgaaGreatDoor
