import Derived.Test.YtepncopdjodfgaaGreatDoorCoU
namespace Go.Proofs.YtepncopdjodfgaaGreatDoor
open Go.RowKit
def UnC (g:Nat)(P:Int->Prop)(F:Int->Int):Prop:=Ent g/\∀ (a:Int) (W:World),C64 a->P a->Calls Tryz.prog g #[.int .i64 a] W fun e w'=>e=.returned (.int .i64 (F a))/\Below W.heap.size W w'
def BiC (g:Nat)(F:Int->Int->Int):Prop:=Ent g/\∀ (a b:Int) (W:World),C64 a->C64 b->Calls Tryz.prog g #[.int .i64 a,.int .i64 b] W fun e w'=>e=.returned (.int .i64 (F a b))/\Below W.heap.size W w'
theorem lt64 {a:Int}(h:C64 a):a<9223372036854775808:=by have:=h.2;omega
theorem un_neg:UnC 183 (fun _=>True) (uF 8):=⟨fun _ _=>by kernel_rfl,fun a W h _=>Neg_any a h.1 (lt64 h) W⟩
theorem un_abs:UnC 185 (fun _=>True) (uF 10):=⟨fun _ _=>by kernel_rfl,fun a W h _=>Abs_any a h.1 (lt64 h) W⟩
theorem un_ceil:UnC 186 (fun _=>True) (uF 11):=⟨fun _ _=>by kernel_rfl,fun a W h _=>Ceil_any a h.1 (lt64 h) W⟩
theorem un_floor:UnC 187 (fun _=>True) (uF 12):=⟨fun _ _=>by kernel_rfl,fun a W h _=>Floor_any a h.1 (lt64 h) W⟩
theorem un_not:UnC 184 (fun a=>a=0\/a=1) (uF 9):=⟨fun _ _=>by kernel_rfl,fun a W h hp=>by
 show Calls Tryz.prog 184 #[.int .i64 a] W fun e w'=>e=.returned (.int .i64 (1-a))/\Below W.heap.size W w'
 rcases hp with rfl | rfl
 ·go_enter Tryz.func184,Tryz.ntmps184
  go_wp2_with fail
  go_ret
  exact⟨rfl,Below.refl _ _⟩
 ·go_enter Tryz.func184,Tryz.ntmps184
  go_wp2_with fail
  go_ret
  exact⟨rfl,Below.refl _ _⟩⟩
theorem bi_add:BiC 191 (bF 14):=⟨fun _ _=>by kernel_rfl,fun a b W ha hb=>Add_any a b ha.1 (lt64 ha) hb.1 (lt64 hb) W⟩
theorem bi_sub:BiC 192 (bF 15):=⟨fun _ _=>by kernel_rfl,fun a b W ha hb=>Sub_any a b ha.1 (lt64 ha) hb.1 (lt64 hb) W⟩
theorem bi_mul:BiC 193 (bF 16):=⟨fun _ _=>by kernel_rfl,fun a b W ha hb=>Mul_of a b ha.1 (lt64 ha) hb.1 (lt64 hb) (divOK_any _ _ (by decide) (by decide)) W⟩
theorem bi_less:BiC 195 (bF 18):=⟨fun _ _=>by kernel_rfl,fun a b W ha hb=>by
 show Calls Tryz.prog 195 #[.int .i64 a,.int .i64 b] W fun e w'=>e=.returned (.int .i64 (b2i (decide (a<b))))/\Below W.heap.size W w'
 clear ha hb
 have HC:=chid (fun x W=>truthOf_c x W)
 by_cases h:a<b
 ·rw[decide_eq_true h]
  skip
  go_enter Tryz.func195,Tryz.ntmps195
  go_wp2_with fail
  refine Calls.mono (HC.out _ _) ?_
  rintro e w1 ⟨rfl,rfl⟩
  go_wp2_with fail
  go_ret
  exact⟨rfl,Below.refl _ _⟩
 ·rw[decide_eq_false h]
  skip
  go_enter Tryz.func195,Tryz.ntmps195
  go_wp2_with fail
  refine Calls.mono (HC.out _ _) ?_
  rintro e w1 ⟨rfl,rfl⟩
  go_wp2_with fail
  go_ret
  exact⟨rfl,Below.refl _ _⟩⟩
theorem bi_leq:BiC 196 (bF 19):=⟨fun _ _=>by kernel_rfl,fun a b W ha hb=>by
 show Calls Tryz.prog 196 #[.int .i64 a,.int .i64 b] W fun e w'=>e=.returned (.int .i64 (b2i (decide (a<=b))))/\Below W.heap.size W w'
 clear ha hb
 have HC:=chid (fun x W=>truthOf_c x W)
 by_cases h:a<=b
 ·rw[decide_eq_true h]
  skip
  go_enter Tryz.func196,Tryz.ntmps196
  go_wp2_with fail
  refine Calls.mono (HC.out _ _) ?_
  rintro e w1 ⟨rfl,rfl⟩
  go_wp2_with fail
  go_ret
  exact⟨rfl,Below.refl _ _⟩
 ·rw[decide_eq_false h]
  skip
  go_enter Tryz.func196,Tryz.ntmps196
  go_wp2_with fail
  refine Calls.mono (HC.out _ _) ?_
  rintro e w1 ⟨rfl,rfl⟩
  go_wp2_with fail
  go_ret
  exact⟨rfl,Below.refl _ _⟩⟩
theorem bi_eq:BiC 197 (bF 20):=⟨fun _ _=>by kernel_rfl,fun a b W ha hb=>by
 show Calls Tryz.prog 197 #[.int .i64 a,.int .i64 b] W fun e w'=>e=.returned (.int .i64 (b2i (decide (a=b))))/\Below W.heap.size W w'
 clear ha hb
 have HC:=chid (fun x W=>truthOf_c x W)
 by_cases h:a=b
 ·rw[decide_eq_true h]
  subst h
  go_enter Tryz.func197,Tryz.ntmps197
  go_wp2_with fail
  refine Calls.mono (HC.out _ _) ?_
  rintro e w1 ⟨rfl,rfl⟩
  go_wp2_with fail
  go_ret
  exact⟨rfl,Below.refl _ _⟩
 ·rw[decide_eq_false h]
  have k:(a==b)=false:=by simpa using h
  go_enter Tryz.func197,Tryz.ntmps197
  go_wp2_with fail
  refine Calls.mono (HC.out _ _) ?_
  rintro e w1 ⟨rfl,rfl⟩
  go_wp2_with fail
  go_ret
  exact⟨rfl,Below.refl _ _⟩⟩
theorem bi_more:BiC 198 (bF 21):=⟨fun _ _=>by kernel_rfl,fun a b W ha hb=>by
 show Calls Tryz.prog 198 #[.int .i64 a,.int .i64 b] W fun e w'=>e=.returned (.int .i64 (b2i (decide (b<a))))/\Below W.heap.size W w'
 clear ha hb
 have HC:=chid (fun x W=>truthOf_c x W)
 by_cases h:b<a
 ·rw[decide_eq_true h]
  skip
  go_enter Tryz.func198,Tryz.ntmps198
  go_wp2_with fail
  refine Calls.mono (HC.out _ _) ?_
  rintro e w1 ⟨rfl,rfl⟩
  go_wp2_with fail
  go_ret
  exact⟨rfl,Below.refl _ _⟩
 ·rw[decide_eq_false h]
  skip
  go_enter Tryz.func198,Tryz.ntmps198
  go_wp2_with fail
  refine Calls.mono (HC.out _ _) ?_
  rintro e w1 ⟨rfl,rfl⟩
  go_wp2_with fail
  go_ret
  exact⟨rfl,Below.refl _ _⟩⟩
theorem bi_meq:BiC 199 (bF 22):=⟨fun _ _=>by kernel_rfl,fun a b W ha hb=>by
 show Calls Tryz.prog 199 #[.int .i64 a,.int .i64 b] W fun e w'=>e=.returned (.int .i64 (b2i (decide (b<=a))))/\Below W.heap.size W w'
 clear ha hb
 have HC:=chid (fun x W=>truthOf_c x W)
 by_cases h:b<=a
 ·rw[decide_eq_true h]
  skip
  go_enter Tryz.func199,Tryz.ntmps199
  go_wp2_with fail
  refine Calls.mono (HC.out _ _) ?_
  rintro e w1 ⟨rfl,rfl⟩
  go_wp2_with fail
  go_ret
  exact⟨rfl,Below.refl _ _⟩
 ·rw[decide_eq_false h]
  skip
  go_enter Tryz.func199,Tryz.ntmps199
  go_wp2_with fail
  refine Calls.mono (HC.out _ _) ?_
  rintro e w1 ⟨rfl,rfl⟩
  go_wp2_with fail
  go_ret
  exact⟨rfl,Below.refl _ _⟩⟩
theorem bi_lesser:BiC 200 (bF 23):=⟨fun _ _=>by kernel_rfl,fun a b W ha hb=>by
 show Calls Tryz.prog 200 #[.int .i64 a,.int .i64 b] W fun e w'=>e=.returned (.int .i64 (min a b))/\Below W.heap.size W w'
 clear ha hb
 rcases Int.lt_trichotomy a b with h | h | h
 ·rw[Int.min_eq_left (Int.le_of_lt h)]
  have h2:¬ b<a:=by omega
  have h3:¬ b<=a:=by omega
  go_enter Tryz.func200,Tryz.ntmps200
  go_wp2_with fail
  go_ret
  exact⟨rfl,Below.refl _ _⟩
 ·subst h
  rw[Int.min_eq_left (Int.le_refl a)]
  go_enter Tryz.func200,Tryz.ntmps200
  go_wp2_with fail
  go_ret
  exact⟨rfl,Below.refl _ _⟩
 ·rw[Int.min_eq_right (Int.le_of_lt h)]
  have h2:¬ a<b:=by omega
  have h3:¬ a<=b:=by omega
  go_enter Tryz.func200,Tryz.ntmps200
  go_wp2_with fail
  go_ret
  exact⟨rfl,Below.refl _ _⟩⟩
theorem bi_greater:BiC 201 (bF 24):=⟨fun _ _=>by kernel_rfl,fun a b W ha hb=>by
 show Calls Tryz.prog 201 #[.int .i64 a,.int .i64 b] W fun e w'=>e=.returned (.int .i64 (max a b))/\Below W.heap.size W w'
 clear ha hb
 rcases Int.lt_trichotomy a b with h | h | h
 ·rw[Int.max_eq_right (Int.le_of_lt h)]
  have h2:¬ b<a:=by omega
  have h3:¬ b<=a:=by omega
  go_enter Tryz.func201,Tryz.ntmps201
  go_wp2_with fail
  go_ret
  exact⟨rfl,Below.refl _ _⟩
 ·subst h
  rw[Int.max_eq_right (Int.le_refl a)]
  go_enter Tryz.func201,Tryz.ntmps201
  go_wp2_with fail
  go_ret
  exact⟨rfl,Below.refl _ _⟩
 ·rw[Int.max_eq_left (Int.le_of_lt h)]
  have h2:¬ a<b:=by omega
  have h3:¬ a<=b:=by omega
  go_enter Tryz.func201,Tryz.ntmps201
  go_wp2_with fail
  go_ret
  exact⟨rfl,Below.refl _ _⟩⟩
theorem formed_of {E:EnvP}{t:Co}(h:srt E t≠0):∃ k:Nat,t.op=(k:Int)/\1<=k/\k<=32/\fitsB k E.wins.length E.crons.length 256 t=true/\(∀ x,x∈t.parts->srt E x≠0)/\srt E t=sortF ladF k t (t.parts.map (srt E)):=by
 have e:=csort_eq ladF E.wins.length E.crons.length 256 t
 unfold srt at h ⊢
 by_cases h1:1<=t.op/\t.op<=32
 ·rw[if_pos h1] at e
  by_cases h2:fitsB t.op.toNat E.wins.length E.crons.length 256 t=true
  ·rw[if_pos h2] at e
   by_cases h3:(t.parts.map (csort ladF E.wins.length E.crons.length 256)).contains 0=true
   ·rw[if_pos h3] at e;exact absurd e h
   ·rw[if_neg h3] at e
    refine⟨t.op.toNat,by omega,by omega,by omega,h2,fun x hx hz=>h3 ?_,e⟩
    rw[List.contains_iff_mem,List.mem_map]
    exact⟨x,hx,hz⟩
  ·rw[if_neg h2] at e;exact absurd e h
 ·rw[if_neg h1] at e;exact absurd e h
theorem mk_of {k:Nat}{c:Co}{ss:List Int}{r:Int}{ts:List Int}(hm:mkT.getD k none=some (r,ts))(h:sortF ladF k c ss≠0):ss=ts/\sortF ladF k c ss=r:=by
 unfold sortF at h ⊢
 rw[hm] at h ⊢
 dsimp only[mkF] at h ⊢
 by_cases e:ss=ts
 ·exact⟨e,if_pos e⟩
 ·rw[if_neg e] at h;exact absurd rfl h
theorem map0 {E:EnvP}{l:List Co}(h:l.map (srt E)=[]):l=[]:=by simpa using h
theorem map1 {E:EnvP}{l:List Co}{a:Int}(h:l.map (srt E)=[a]):∃ x,l=[x]/\srt E x=a:=by
 match l,h with
 | [x],h=>exact⟨x,rfl,by simpa using h⟩
theorem map2 {E:EnvP}{l:List Co}{a b:Int}(h:l.map (srt E)=[a,b]):∃ x y,l=[x,y]/\srt E x=a/\srt E y=b:=by
 match l,h with
 | [x,y],h=>exact⟨x,y,rfl,by simpa using h⟩
theorem len1 {l:List Co}(h:l.length=1):∃ x,l=[x]:=by
 match l,h with
 | [x],h=>exact⟨x,rfl⟩
theorem len2 {l:List Co}(h:l.length=2):∃ x y,l=[x,y]:=by
 match l,h with
 | [x,y],h=>exact⟨x,y,rfl⟩
theorem len3 {l:List Co}(h:l.length=3):∃ x y z,l=[x,y,z]:=by
 match l,h with
 | [x,y,z],h=>exact⟨x,y,z,rfl⟩
theorem alike_of {k:Nat}{ss:List Int}(h:alikeF k ss≠0):ss.length=k/\ss.headD 0≠3/\(∀ x,x∈ss->x=ss.headD 0)/\alikeF k ss=ss.headD 0:=by
 by_cases e:ss.length=k/\ss.headD 0≠3/\∀ x,x∈ss->x=ss.headD 0
 ·exact⟨e.1,e.2.1,e.2.2,alikeF_yes e⟩
 ·exact absurd (alikeF_no e) h
theorem choice_of {ss:List Int}(h:choiceF ss≠0):∃ a,ss=[2,a,a]/\choiceF ss=a:=by
 unfold choiceF at h ⊢
 by_cases e:ss.headD 0=2
 ·rw[if_pos e] at h ⊢
  obtain⟨h1,h2,h3,h4⟩:=alike_of h
  match ss,e,h1,h3,h4 with
  | [x,a,b],e,h1,h3,h4=>
    have hb:b=a:=h3 b (by simp)
    have hx:x=2:=e
    subst hb hx
    exact⟨b,rfl,h4⟩
 ·rw[if_neg e] at h;exact absurd rfl h
def Good (E:EnvP)(t:Co):Prop:=C64 (telV E t).1/\(srt E t=2->(telV E t).1=0\/(telV E t).1=1)
theorem held64 (n:Int):C64 (held n):=held_bd n
theorem b2i_01 (b:Bool):b2i b=0\/b2i b=1:=by cases b<;>simp[b2i]
theorem b2i_64 (b:Bool):C64 (b2i b):=by rcases b2i_01 b with h | h<;>rw[h]<;>(unfold C64;decide)
theorem ofOne_fst (f:Int->Int)(a:Rs):(ofOneR f a).1=f a.1\/(ofOneR f a).1=0:=by unfold ofOneR;split<;>simp
theorem ofTwo_fst (f:Int->Int->Rs)(a b:Rs):(ofTwoR f a b).1=(f a.1 b.1).1\/(ofTwoR f a b).1=0:=by unfold ofTwoR;split<;>(try split)<;>simp
theorem zero_64:C64 0:=by unfold C64;decide
theorem uF_64 (k:Nat)(a:Int)(h:k=9->a=0\/a=1):C64 (uF k a):=by
 unfold uF
 split
 ·exact held64 _
 ·split
  ·next e=>rcases h e with h | h<;>rw[h]<;>(unfold C64;decide)
  ·split
   ·exact held64 _
   ·split<;>exact held64 _
theorem bF_64 (k:Nat)(a b:Int)(ha:C64 a)(hb:C64 b):C64 (bF k a b):=by
 have hm:C64 (min a b):=by rcases Int.le_total a b with h | h<;>simp[Int.min_eq_left,Int.min_eq_right,h,ha,hb]
 have hM:C64 (max a b):=by rcases Int.le_total a b with h | h<;>simp[Int.max_eq_left,Int.max_eq_right,h,ha,hb]
 unfold bF
 repeat' split
 all_goals first | exact held64 _ | exact b2i_64 _ | exact hm | exact hM
theorem bF_01 (k:Nat)(a b:Int)(h1:18<=k)(h2:k<=22):bF k a b=0\/bF k a b=1:=by
 unfold bF
 repeat' split
 all_goals first | exact b2i_01 _ | omega
theorem count_64 (a:Int):C64 (countF a):=by
 have h:=held64 (-((-a)/1000000)*1000000)
 unfold countF
 generalize held (-((-a)/1000000)*1000000)=x at h
 obtain⟨h1,h2⟩:=h
 exact⟨by omega,by omega⟩
end Go.Proofs.YtepncopdjodfgaaGreatDoor
