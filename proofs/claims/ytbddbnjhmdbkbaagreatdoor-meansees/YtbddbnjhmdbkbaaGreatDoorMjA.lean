import Derived.Below
import Derived.Test.YtbddbnjhmdbkbaaGreatDoorChecked
import Derived.Test.YtbddbnjhmdbkbaaGreatDoorMbM
import Derived.WalkKit
import Derived.WalkSpells
import Derived.BigQuiet
import Derived.Deep.RegionHeld3
import Derived.Deep.MidRow
import Derived.Test.YtbddbnjhmdbkbaaGreatDoorMgW
section
namespace Go.Proofs.YtbddbnjhmdbkbaaGreatDoor
def a9j (y:Int):Bool:=decide (y%4=0/\(y%100≠0\/y%400=0))
def more (y:Int):Int:=if a9j y then 1 else 0
def a1J (y:Int):Int:=y*365+(y+3)/4-(y+99)/100+(y+399)/400
def a0T (y m:Int):Int:=
 if m=2 then 28+more y else if m=4\/m=6\/m=9\/m=11 then 30 else if 1<=m/\m<=12 then 31 else 0
def cum (y m:Int):Int:=
 if m<=1 then 0 else if m=2 then 31 else more y+(if m=3 then 59 else if m=4 then 90 else if m=5 then 120 else if m=6 then 151 else if m=7 then 181 else if m=8 then 212 else if m=9 then 243 else if m=10 then 273 else if m=11 then 304 else if m=12 then 334 else 365)
theorem b3L {y:Int}(h:a9j y=true):y%4=0/\(y%100≠0\/y%400=0):=of_decide_eq_true h
theorem b1W {y:Int}(h:¬ a9j y=true):¬(y%4=0/\(y%100≠0\/y%400=0)):=fun k=>h (decide_eq_true k)
theorem a6o (y:Int):(more y=1/\y%4=0/\(y%100≠0\/y%400=0))\/(more y=0/\¬(y%4=0/\(y%100≠0\/y%400=0))):=by
 unfold more
 split
 ·rename_i h;exact .inl ⟨rfl,b3L h⟩
 ·rename_i h;exact .inr ⟨rfl,b1W h⟩
theorem a9D (y:Int):0<=more y/\more y<=1:=by
 rcases a6o y with h | h<;>omega
theorem a4x (y:Int):a1J (y+1)=a1J y+365+more y:=by
 unfold a1J
 rcases a6o y with ⟨e,h⟩ | ⟨e,h⟩
 ·rw[e];omega
 ·rw[e];omega
theorem a2L {y z:Int}(h:y<=z):a1J y<=a1J z:=by
 unfold a1J;omega
theorem a3L (k y:Int):a1J (k*400+y)=k*146097+a1J y:=by
 unfold a1J;omega
theorem b1X (k y:Int):a9j (k*400+y)=a9j y:=by
 unfold a9j
 congr 1
 apply propext
 omega
theorem a6n (k y:Int):more (k*400+y)=more y:=by unfold more;rw[b1X]
theorem a9H (k y m:Int):a0T (k*400+y) m=a0T y m:=by unfold a0T;rw[a6n]
theorem b4x (k y m:Int):cum (k*400+y) m=cum y m:=by unfold cum;rw[a6n]
theorem b7d (y m:Int)(h0:1<=m)(h1:m<=12):cum y (m+1)=cum y m+a0T y m:=by
 unfold cum a0T
 have:m=1\/m=2\/m=3\/m=4\/m=5\/m=6\/m=7\/m=8\/m=9\/m=10\/m=11\/m=12:=by omega
 rcases this with rfl | rfl | rfl | rfl | rfl | rfl | rfl | rfl | rfl | rfl | rfl | rfl<;>simp<;>omega
theorem a7I (y:Int):cum y 1=0:=rfl
theorem b4w (y:Int):cum y 13=365+more y:=by unfold cum;simp;omega
theorem a5r (y m:Int)(h0:1<=m)(h1:m<=12):28<=a0T y m/\a0T y m<=31:=by
 have:=a9D y
 unfold a0T
 split
 ·omega
 ·split
  ·omega
  ·split<;>omega
theorem a2E (y m:Int)(h:m<1\/12<m):a0T y m=0:=by
 unfold a0T
 rw[if_neg (by omega),if_neg (by omega),if_neg (by omega)]
theorem a4F (y m:Int):0<=a0T y m/\a0T y m<=31:=by
 by_cases h:1<=m/\m<=12
 ·have:=a5r y m h.1 h.2;omega
 ·rw[a2E y m (by omega)];omega
theorem a1T {y m d:Int}(h0:1<=d)(h1:d<=a0T y m):1<=m/\m<=12:=by
 by_cases h:1<=m/\m<=12
 ·exact h
 ·rw[a2E y m (by omega)] at h1;omega
theorem b0S {y m n:Int}(h0:1<=m)(h:m<n)(h1:n<=13):cum y m+a0T y m<=cum y n:=by
 have:=a9D y
 unfold cum a0T
 have:m=1\/m=2\/m=3\/m=4\/m=5\/m=6\/m=7\/m=8\/m=9\/m=10\/m=11\/m=12:=by omega
 rcases this with rfl | rfl | rfl | rfl | rfl | rfl | rfl | rfl | rfl | rfl | rfl | rfl<;>simp<;>omega
def a2H (y m d:Int):Int:=a1J y+cum y m+(d-1)-719528
structure Civ where
 year:Int
 month:Int
 day:Int
 hour:Int
 minute:Int
 second:Int
 week:Int
structure b1g (c:Civ):Prop where
 d0:1<=c.day
 d1:c.day<=a0T c.year c.month
 h0:0<=c.hour
 h1:c.hour<=23
 n0:0<=c.minute
 n1:c.minute<=59
 s0:0<=c.second
 s1:c.second<=59
def b1s (c:Civ):Int:=a2H c.year c.month c.day*86400+(c.hour*3600+c.minute*60+c.second)
structure At (t:Int)(c:Civ):Prop where
 f:b1g c
 t:b1s c=t
 w:c.week=(a2H c.year c.month c.day+4)%7
theorem a5W {y m d:Int}(d0:1<=d)(d1:d<=a0T y m):a1J y<=a2H y m d+719528/\a2H y m d+719528<a1J (y+1):=by
 obtain⟨m0,m1⟩:=a1T d0 d1
 have h1:=b0S (y:=y) m0 (show m<13 by omega) (by omega)
 rw[b4w] at h1
 have h2:0<=cum y m:=by
  rcases Int.lt_or_eq_of_le m0 with h | h
  ·have:=b0S (y:=y) (m:=1) (n:=m) (by omega) h (by omega)
   have:=a4F y 1
   rw[a7I] at *
   omega
  ·rw[<-h,a7I];omega
 rw[a4x]
 unfold a2H
 omega
theorem a9Y {y m d z n e:Int}(d0:1<=d)(d1:d<=a0T y m)(e0:1<=e)(e1:e<=a0T z n)(h:a2H y m d=a2H z n e):y=z/\m=n/\d=e:=by
 have hy:=a5W d0 d1
 have hz:=a5W e0 e1
 have h1:y=z:=by
  rcases Int.lt_trichotomy y z with k | k | k
  ·have:=a2L (show y+1<=z by omega);omega
  ·exact k
  ·have:=a2L (show z+1<=y by omega);omega
 subst h1
 obtain⟨m0,m1⟩:=a1T d0 d1
 obtain⟨n0,n1⟩:=a1T e0 e1
 unfold a2H at h
 have h2:m=n:=by
  rcases Int.lt_trichotomy m n with k | k | k
  ·have:=b0S (y:=y) m0 k (by omega);omega
  ·exact k
  ·have:=b0S (y:=y) n0 k (by omega);omega
 subst h2
 exact⟨rfl,rfl,by omega⟩
theorem b1g.unique {c d:Civ}(h:b1g c)(k:b1g d)(e:b1s c=b1s d):c.year=d.year/\c.month=d.month/\c.day=d.day/\c.hour=d.hour/\c.minute=d.minute/\c.second=d.second:=by
 have a1:=h.h0;have a2:=h.h1;have a3:=h.n0;have a4:=h.n1;have a5:=h.s0;have a6:=h.s1
 have b1:=k.h0;have b2:=k.h1;have b3:=k.n0;have b4:=k.n1;have b5:=k.s0;have b6:=k.s1
 unfold b1s at e
 have e1:a2H c.year c.month c.day=a2H d.year d.month d.day:=by omega
 obtain⟨x,y,z⟩:=a9Y h.d0 h.d1 k.d0 k.d1 e1
 exact⟨x,y,z,by omega,by omega,by omega⟩
theorem At.unique {t:Int}{c d:Civ}(h:At t c)(k:At t d):c=d:=by
 obtain⟨e1,e2,e3,e4,e5,e6⟩:=h.f.unique k.f (h.t.trans k.t.symm)
 have e7:=h.w
 have e8:=k.w
 rw[<-e1,<-e2,<-e3] at e8
 cases c;cases d
 simp only at *
 subst e1 e2 e3 e4 e5 e6
 rw[e7,e8]
theorem c0u {y m d wk r:Int}{t:Int}(d0:1<=d)(d1:d<=a0T y m)(hd:a2H y m d=t/86400)(hw:wk=(t/86400+4)%7)(hr:r=t%86400):At t ⟨y,m,d,r/3600,r%3600/60,r%60,wk⟩:=by
 refine⟨⟨d0,d1,?_,?_,?_,?_,?_,?_⟩,?_,?_⟩
 ·show 0<=r/3600;omega
 ·show r/3600<=23;omega
 ·show 0<=r%3600/60;omega
 ·show r%3600/60<=59;omega
 ·show 0<=r%60;omega
 ·show r%60<=59;omega
 ·unfold b1s
  show a2H y m d*86400+(r/3600*3600+r%3600/60*60+r%60)=t
  omega
 ·show wk=(a2H y m d+4)%7
  rw[hd];exact hw
end Go.Proofs.YtbddbnjhmdbkbaaGreatDoor
end
section
namespace Go.Proofs.YtbddbnjhmdbkbaaGreatDoor
open Go.RowKit
theorem a8b (y:Int)(n:Int):(y%n=0)=(y.tmod n=0):=by
 apply propext
 rw[<-Int.dvd_iff_tmod_eq_zero,<-Int.dvd_iff_emod_eq_zero]
theorem b3M (y:Int):a9j y=((y.tmod 4==0)&&((y.tmod 100 != 0)||(y.tmod 400==0))):=by
 unfold a9j
 simp only[ne_eq,a8b,Bool.decide_and,Bool.decide_or,decide_not]
 rfl
theorem b6y (y:Int)(h:y.tmod 400=0):a9j y=true:=by
 rw[<-a8b] at h
 unfold a9j
 exact decide_eq_true (by omega)
theorem a9N (y:Int)(h:¬ y.tmod 400=0):a9j y=((y.tmod 4==0)&&(y.tmod 100 != 0)):=by
 rw[b3M,beq_eq_false_iff_ne.2 h,Bool.or_false]
set_option maxHeartbeats 400000 in
theorem b7F (y:Int)(w:World):Calls Tryz.prog 280 #[.int .i64 y] w fun e w'=>e=.returned (.bool (a9j y))/\w=w':=by
 rw[b3M]
 go_enter Tryz.func280,Tryz.ntmps280
 go_wp2_with fail
 all_goals
  go_ret
  simp[*]
set_option maxHeartbeats 400000 in
theorem a8s (y:Int)(w:World):Calls Tryz.prog 256 #[.int .i64 y] w fun e w'=>e=.returned (.bool (a9j y))/\w=w':=by
 by_cases h:y.tmod 400=0
 ·rw[b6y y h]
  go_enter Tryz.func256,Tryz.ntmps256
  go_wp2_with fail
  all_goals
   go_ret
   simp[*]
 ·rw[a9N y h]
  go_enter Tryz.func256,Tryz.ntmps256
  go_wp2_with fail
  all_goals
   go_ret
   simp[*]
def c4x:List Int:=[31,28,31,30,31,30,31,31,30,31,30,31]
abbrev a4X:List Value:=[.int .i64 31,.int .i64 28,.int .i64 31,.int .i64 30,.int .i64 31,.int .i64 30,.int .i64 31,.int .i64 31,.int .i64 30,.int .i64 31,.int .i64 30,.int .i64 31]
def a4P (w:World):Prop:=w.rangeAt 3 0 a4X/\3<w.heap.size
theorem a4P.later {w w':World}(h:a4P w)(hb:Below w.heap.size w w'):a4P w':=
 ⟨fun j v hv=>(hb.cell (p:=⟨3,0+j,none⟩) h.2).trans (h.1 j v hv),ZA h.2 hb.size⟩
theorem a4P.cell {w:World}(h:a4P w)(j:Nat)(v:Value)(hv:a4X[j]? = some v):w.cell? ⟨3,j,none⟩=some v:=by
 have:=h.1 j v hv
 rwa [Nat.zero_add] at this
theorem b0C (y m:Int)(h0:1<=m)(h1:m<=12)(h2:¬ m=2):a4X[(m-1).toNat]? = some (.int .i64 (a0T y m)):=by
 have:m=1\/m=3\/m=4\/m=5\/m=6\/m=7\/m=8\/m=9\/m=10\/m=11\/m=12:=by omega
 rcases this with rfl | rfl | rfl | rfl | rfl | rfl | rfl | rfl | rfl | rfl | rfl<;>rfl
set_option maxHeartbeats 400000 in
theorem b7K (y m:Int)(w:World)(hL:a4P w):Calls Tryz.prog 251 #[.int .i64 y,.int .i64 m] w fun e w'=>e=.returned (.int .i64 (a0T y m))/\w=w':=by
 by_cases h1:m<1
 ·rw[a2E y m (by omega)]
  go_enter Tryz.func251,Tryz.ntmps251
  go_wp2_with fail
  go_ret
  simp
 by_cases h2:12<m
 ·rw[a2E y m (by omega)]
  go_enter Tryz.func251,Tryz.ntmps251
  go_wp2_with fail
  go_ret
  simp
 have hl:=b7F y
 by_cases h3:m=2
 ·subst h3
  have c1:=hL.cell 1 _ rfl
  have hm:a0T y 2=28+more y:=rfl
  cases hy:a9j y
  ·have:more y=0:=by unfold more;rw[hy];rfl
   rw[hy] at hl
   rw[hm,this]
   clear hm this hy
   go_enter Tryz.func251,Tryz.ntmps251
   go_wp2_with fail
   refine(hl _).mono ?_
   rintro e w1 ⟨rfl,rfl⟩
   go_wp2_with fail
   go_ret
   simp
  ·have:more y=1:=by unfold more;rw[hy];rfl
   rw[hy] at hl
   rw[hm,this]
   clear hm this hy
   go_enter Tryz.func251,Tryz.ntmps251
   go_wp2_with fail
   refine(hl _).mono ?_
   rintro e w1 ⟨rfl,rfl⟩
   go_wp2_with fail
   go_ret
   simp
 ·have c1:=hL.cell _ _ (b0C y m (by omega) (by omega) h3)
  generalize a0T y m=x at *
  obtain⟨k,rfl⟩:∃ k:Nat,m=(k:Int)+1:=⟨(m-1).toNat,by omega⟩
  rw[show ((k:Int)+1-1).toNat=k by omega] at c1
  go_enter Tryz.func251,Tryz.ntmps251
  go_wp2_with fail
  go_ret
  simp
set_option maxHeartbeats 400000 in
theorem b3p (y m:Int)(w:World):Calls Tryz.prog 198 #[.int .i64 y,.int .i64 m] w fun e w'=>e=.returned (.int .i64 (a0T y m))/\w=w':=by
 have hl:=a8s y
 by_cases h3:m=2
 ·subst h3
  have hm:a0T y 2=28+more y:=rfl
  cases hy:a9j y
  ·have:more y=0:=by unfold more;rw[hy];rfl
   rw[hy] at hl
   rw[hm,this]
   clear hm this hy
   go_enter Tryz.func198,Tryz.ntmps198
   go_wp2_with fail
   refine(hl _).mono ?_
   rintro e w1 ⟨rfl,rfl⟩
   go_wp2_with fail
   go_ret
   simp
  ·have:more y=1:=by unfold more;rw[hy];rfl
   rw[hy] at hl
   rw[hm,this]
   clear hm this hy
   go_enter Tryz.func198,Tryz.ntmps198
   go_wp2_with fail
   refine(hl _).mono ?_
   rintro e w1 ⟨rfl,rfl⟩
   go_wp2_with fail
   go_ret
   simp
 ·by_cases hr:1<=m/\m<=12
  ·have hm:=b0C y m hr.1 hr.2 h3
   have:m=1\/m=3\/m=4\/m=5\/m=6\/m=7\/m=8\/m=9\/m=10\/m=11\/m=12:=by omega
   generalize a0T y m=x at *
   clear hl hr h3
   rcases this with rfl | rfl | rfl | rfl | rfl | rfl | rfl | rfl | rfl | rfl | rfl
   all_goals
    cases hm
    go_enter Tryz.func198,Tryz.ntmps198
    go_wp2_with fail
    go_ret
    simp
  ·rw[a2E y m (by omega)]
   have b1:(m==1)=false:=beq_eq_false_iff_ne.2 (by omega)
   have b2:(m==2)=false:=beq_eq_false_iff_ne.2 (by omega)
   have b3:(m==3)=false:=beq_eq_false_iff_ne.2 (by omega)
   have b4:(m==4)=false:=beq_eq_false_iff_ne.2 (by omega)
   have b5:(m==5)=false:=beq_eq_false_iff_ne.2 (by omega)
   have b6:(m==6)=false:=beq_eq_false_iff_ne.2 (by omega)
   have b7:(m==7)=false:=beq_eq_false_iff_ne.2 (by omega)
   have b8:(m==8)=false:=beq_eq_false_iff_ne.2 (by omega)
   have b9:(m==9)=false:=beq_eq_false_iff_ne.2 (by omega)
   have b10:(m==10)=false:=beq_eq_false_iff_ne.2 (by omega)
   have b11:(m==11)=false:=beq_eq_false_iff_ne.2 (by omega)
   have b12:(m==12)=false:=beq_eq_false_iff_ne.2 (by omega)
   clear hr h3 hl
   go_enter Tryz.func198,Tryz.ntmps198
   go_wp2_with fail
   go_ret
   simp
theorem a4c (n d q r:Int)(hd:0<d)(e:d*q+r=n)(h0:0<=r)(h1:r<d):n/d=q/\n%d=r:=
 (Int.ediv_emod_unique hd).2 ⟨by omega,h0,h1⟩
theorem a4d (n d q r:Int)(hd:0<d)(e:d*q+r=n)(h0:r<0)(h1 : -d<r):n/d=q-1/\n%d=r+d:=
 (Int.ediv_emod_unique hd).2 ⟨by rw[Int.mul_sub];omega,by omega,by omega⟩
theorem a6b (n d:Int)(hd:0<d): -d<n.tmod d/\n.tmod d<d:=by
 have h1:=Int.tmod_lt_of_pos n hd
 have h2:=Int.tmod_lt_of_pos (-n) hd
 rw[Int.neg_tmod] at h2
 omega
theorem a6c (n d:Int)(hd:1<d)(n0 : -9223372036854775808<=n)(n1:n<9223372036854775808): -4611686018427387904<=n.tdiv d/\n.tdiv d<4611686018427387904:=by
 by_cases h:0<=n
 ·rw[Int.tdiv_eq_ediv_of_nonneg h]
  have h1:=Int.ediv_lt_of_lt_mul (a:=n) (b:=4611686018427387904) (c:=d) (by omega) (by omega)
  have h2:=Int.ediv_nonneg h (show 0<=d by omega)
  omega
 ·have e:n.tdiv d = -((-n)/d):=by rw[<-Int.tdiv_eq_ediv_of_nonneg (show 0 <= -n by omega),Int.neg_tdiv,Int.neg_neg]
  have h1:=Int.ediv_le_of_le_mul (a:=-n) (b:=4611686018427387904) (c:=d) (by omega) (by omega)
  have h2:=Int.ediv_nonneg (show 0 <= -n by omega) (show 0<=d by omega)
  rw[e]
  omega
set_option maxHeartbeats 400000 in
theorem a5k (n d:Int)(n0 : -9223372036854775808<=n)(n1:n<9223372036854775808)(d0:1<d)(d1:d<1000000)(w:World):
 Calls Tryz.prog 188 #[.int .i64 n,.int .i64 d] w fun e w'=>e=.returned (.tuple #[.int .i64 (n/d),.int .i64 (n%d)])/\Below w.heap.size w w':=by
 have e:=Int.mul_tdiv_add_tmod n d
 have r:=a6b n d (by omega)
 have q:=a6c n d d0 n0 n1
 have z:(d==0)=false:=beq_eq_false_iff_ne.2 (by omega)
 have z1:(d == -1)=false:=beq_eq_false_iff_ne.2 (by omega)
 have wr:IntKind.i64.wrap (n.tdiv d)=n.tdiv d:=by rw[IntKind.wrap_i64];omega
 by_cases h:n.tmod d<0
 ·rw[(a4d n d _ _ (by omega) e h r.1).1,(a4d n d _ _ (by omega) e h r.1).2]
  have E:Hid _:=e
  clear e
  obtain⟨r0,r1⟩:=r
  obtain⟨q0,q1⟩:=q
  go_enter Tryz.func188,Tryz.ntmps188
  go_wp2_with fail
  go_quiet (fail)
  go_wp2_with fail
  go_ret2
  exact⟨rfl,⟨rfl,rfl,rfl,ZB _,fun _ _=>rfl⟩⟩
 ·rw[(a4c n d _ _ (by omega) e (by omega) r.2).1,(a4c n d _ _ (by omega) e (by omega) r.2).2]
  have E:Hid _:=e
  clear e
  obtain⟨r0,r1⟩:=r
  obtain⟨q0,q1⟩:=q
  go_enter Tryz.func188,Tryz.ntmps188
  go_wp2_with fail
  go_quiet (fail)
  go_wp2_with fail
  go_ret2
  exact⟨rfl,⟨rfl,rfl,rfl,ZB _,fun _ _=>rfl⟩⟩
set_option maxHeartbeats 400000 in
theorem a2I (n d:Int)(n0 : -9223372036854775808<=n)(n1:n<9223372036854775808)(d0:1<d)(d1:d<1000000)(w:World):
 Calls Tryz.prog 196 #[.int .i64 n,.int .i64 d] w fun e w'=>e=.returned (.tuple #[.int .i64 (n/d),.int .i64 (n%d)])/\Below w.heap.size w w':=by
 have e:=Int.mul_tdiv_add_tmod n d
 have r:=a6b n d (by omega)
 have q:=a6c n d d0 n0 n1
 have z:(d==0)=false:=beq_eq_false_iff_ne.2 (by omega)
 have z1:(d == -1)=false:=beq_eq_false_iff_ne.2 (by omega)
 have wr:IntKind.i64.wrap (n.tdiv d)=n.tdiv d:=by rw[IntKind.wrap_i64];omega
 by_cases h:n.tmod d<0
 ·rw[(a4d n d _ _ (by omega) e h r.1).1,(a4d n d _ _ (by omega) e h r.1).2]
  have E:Hid _:=e
  clear e
  obtain⟨r0,r1⟩:=r
  obtain⟨q0,q1⟩:=q
  go_enter Tryz.func196,Tryz.ntmps196
  go_wp2_with fail
  go_ret2
  exact⟨rfl,⟨rfl,rfl,rfl,ZB _,fun _ _=>rfl⟩⟩
 ·rw[(a4c n d _ _ (by omega) e (by omega) r.2).1,(a4c n d _ _ (by omega) e (by omega) r.2).2]
  have E:Hid _:=e
  clear e
  obtain⟨r0,r1⟩:=r
  obtain⟨q0,q1⟩:=q
  go_enter Tryz.func196,Tryz.ntmps196
  go_wp2_with fail
  go_ret2
  exact⟨rfl,⟨rfl,rfl,rfl,ZB _,fun _ _=>rfl⟩⟩
set_option maxHeartbeats 400000 in
theorem a8Y (y:Int)(y0:0<=y)(y1:y<=1000)(w:World):
 Calls Tryz.prog 250 #[.int .i64 y] w fun e w'=>e=.returned (.int .i64 (a1J y))/\w=w':=by
 have e:a1J y=y*365+(y+3).tdiv 4-(y+99).tdiv 100+(y+399).tdiv 400:=by
  rw[Int.tdiv_eq_ediv_of_nonneg (by omega),Int.tdiv_eq_ediv_of_nonneg (by omega),Int.tdiv_eq_ediv_of_nonneg (by omega)]
  rfl
 rw[e]
 clear e
 have h1:0<=(y+3).tdiv 4/\(y+3).tdiv 4<=10000:=by rw[Int.tdiv_eq_ediv_of_nonneg (by omega)];omega
 have h2:0<=(y+99).tdiv 100/\(y+99).tdiv 100<=10000:=by rw[Int.tdiv_eq_ediv_of_nonneg (by omega)];omega
 have h3:0<=(y+399).tdiv 400/\(y+399).tdiv 400<=10000:=by rw[Int.tdiv_eq_ediv_of_nonneg (by omega)];omega
 obtain⟨a1,b1⟩:=h1
 obtain⟨a2,b2⟩:=h2
 obtain⟨a3,b3⟩:=h3
 go_enter Tryz.func250,Tryz.ntmps250
 go_wp2_with fail
 go_ret
 simp
set_option maxHeartbeats 400000 in
theorem b6x (y:Int)(w:World):
 Calls Tryz.prog 197 #[.int .i64 y] w fun e w'=>e=.returned (.int .i64 (365+more y))/\w=w':=by
 have hl:=a8s y
 unfold more
 cases hy:a9j y
 all_goals
  rw[hy] at hl
  go_enter Tryz.func197,Tryz.ntmps197
  go_wp2_with fail
  refine(hl _).mono ?_
  rintro e w1 ⟨rfl,rfl⟩
  go_wp2_with fail
  go_ret
  simp
abbrev c0L (c:Civ):Value:=.agg #[.int .i64 c.year,.int .i64 c.month,.int .i64 c.day,.int .i64 c.hour,.int .i64 c.minute,.int .i64 c.second,.int .i64 c.week]
abbrev c3J:List Value:=[.int .i64 0,.int .i64 0,.int .i64 0,.int .i64 0,.int .i64 0,.int .i64 0,.int .i64 0]
def c3T (w:World)(n:Int)(e:Ending)(w':World):Prop:=
 ∃ y m d wk:Int,e=.returned (c0L ⟨y,m,d,0,0,0,wk⟩)/\1<=d/\d<=a0T y m/\a2H y m d=n/\wk=(n+4)%7 /\ -1000000000000<y/\y<1000000000000/\Below w.heap.size w w'
structure a5M (r z:Int):Prop where
 z0:0<=z
 z1:z<=399
 a:a1J z<=r
theorem a6H (r:Int)(r0:0<=r)(r1:r<146097):a5M r (r/366):=by
 exact⟨by omega,by omega,by unfold a1J;omega⟩
theorem a5M.next {r z:Int}(r1:r<146097)(h:a5M r z)(k:a1J (z+1)<=r):a5M r (z+1):=by
 refine⟨by have:=h.z0;omega,?_,k⟩
 rcases Int.lt_or_le 399 (z+1) with c | c
 ·have:=a2L (show 400<=z+1 by omega)
  have e:a1J 400=146097:=by decide
  omega
 ·exact c
structure a2s (y r m s:Int):Prop where
 m0:1<=m
 m1:m<=12
 s0:0<=s
 e:cum y m+s=r
theorem a2s.next {y r m s:Int}(r1:r<365+more y)(h:a2s y r m s)(k:a0T y m<=s):a2s y r (m+1) (s-a0T y m):=by
 have c:=b7d y m h.m0 h.m1
 have e:=h.e
 refine⟨by have:=h.m0;omega,?_,by omega,by omega⟩
 rcases Int.lt_or_le 12 (m+1) with q | q
 ·obtain rfl:m=12:=by have:=h.m1;omega
  rw[show (12:Int)+1=13 from rfl,b4w] at c
  omega
 ·exact q
theorem b4v {n cyc r y m s:Int}(ec:n+719528=146097*cyc+r)(hm:a2s y (r-a1J y) m s)(hs:s<a0T y m):
 1<=s+1/\s+1<=a0T (cyc*400+y) m/\a2H (cyc*400+y) m (s+1)=n:=by
 have:=hm.s0
 have e:=hm.e
 rw[a9H]
 refine⟨by omega,by omega,?_⟩
 unfold a2H
 rw[a3L,b4x]
 omega
set_option maxHeartbeats 800000 in
theorem b7b (n:Int)(n0 : -200000000000000<=n)(n1:n<=200000000000000)(w:World)(hL:a4P w):
 Calls Tryz.prog 189 #[.int .i64 n] w (c3T w n):=by
 obtain⟨xb,l0⟩:=a1c w 151 (c3J)
 have hL:=hL.later l0
 go_enter Tryz.func189,Tryz.ntmps189
 go_wp2_with fail
 refine(a5k (n+719528) 146097 (by omega) (by omega) (by omega) (by omega) _).mono ?_
 rintro e w1 ⟨rfl,hb1⟩
 have hL:=hL.later hb1
 have xb:=xb.next hb1
 have bl:=l0.trans (hb1.mono l0.size)
 clear hb1 l0
 have r0:0<=(n+719528)%146097:=by omega
 have r1:(n+719528)%146097<146097:=by omega
 have c0 : -2000000000<=(n+719528)/146097:=by omega
 have c1:(n+719528)/146097<=2000000000:=by omega
 have ec:Hid (n+719528=146097*((n+719528)/146097)+(n+719528)%146097):=(Int.mul_ediv_add_emod (n+719528) 146097).symm
 generalize (n+719528)/146097=cyc at *
 generalize (n+719528)%146097=r at *
 go_wp2_with fail
 go_loop [5] (fun y=>∃ z:Int,y=.int .i64 z/\a5M r z) (fun y=>(400-intOf y).toNat)
 case atStart=>exact⟨_,rfl,a6H r r0 r1⟩
 case round=>
  obtain⟨z,rfl,hz⟩:=hrel
  have z0:=hz.z0
  have z1:=hz.z1
  have ha:=a8Y (z+1) (by omega) (by omega)
  by_cases hc:a1J (z+1)<=r
  ·have HZ:Hid _:=hz.next r1 hc
   generalize a1J (z+1)=a at *
   go_wp2_with fail
   refine(ha _).mono ?_
   rintro e w2 ⟨rfl,rfl⟩
   go_wp2_with fail
   go_round
   case rel=>exact⟨_,rfl,HZ.out⟩
   case measure=>simp[intOf];omega
  ·have hb:=a8Y z (by omega) (by omega)
   have b0:=hz.a
   have b1:=a2L z0
   rw[show a1J 0=0 by decide] at b1
   have HM:Hid (r-a1J z<365+more z):=by have:=a4x z;show _<_;omega
   have HZ:Hid _:=hz
   have HE:=@b4v n cyc r z
   generalize a1J (z+1)=a at *
   generalize a1J z=b at *
   go_wp2_with fail
   refine(ha _).mono ?_
   rintro e w2 ⟨rfl,rfl⟩
   go_wp2_with fail
   refine(hb _).mono ?_
   rintro e w2 ⟨rfl,rfl⟩
   go_wp2_with fail
   go_loop [4,6] (fun s m=>∃ S M:Int,s=.int .i64 S/\m=.int .i64 M/\a2s z (r-b) M S/\S<=r-b) (fun _ m=>(13-intOf m).toNat)
   case atStart=>exact⟨_,_,rfl,rfl,⟨by omega,by omega,by omega,by rw[a7I];omega⟩,by omega⟩
   case round=>
    obtain⟨S,M,rfl,rfl,hm,hS⟩:=hrel
    have m0:=hm.m0
    have m1:=hm.m1
    have s0:=hm.s0
    have hd:=b7K z M
    have dp:=a5r z M m0 m1
    obtain⟨d0,d1⟩:=dp
    by_cases hk:a0T z M<=S
    ·have HK:Hid _:=hm.next HM.out hk
     generalize a0T z M=D at *
     go_wp2_with fail
     refine(hd _ hL).mono ?_
     rintro e w2 ⟨rfl,rfl⟩
     go_wp2_with fail
     refine(hd _ hL).mono ?_
     rintro e w2 ⟨rfl,rfl⟩
     go_wp2_with fail
     go_round
     case rel=>exact⟨_,_,rfl,rfl,HK.out,by omega⟩
     case measure=>simp[intOf];omega
    ·have HX:Hid _:=HE ec.out hm (by omega)
     generalize a0T z M=D at *
     clear HE
     go_wp2_with fail
     refine(hd _ hL).mono ?_
     rintro e w2 ⟨rfl,rfl⟩
     go_wp2_with fail
     refine(a5k (n+4) 7 (by omega) (by omega) (by omega) (by omega) _).mono ?_
     rintro e w3 ⟨rfl,hb3⟩
     have xb:=xb.next hb3
     have bl:=bl.trans (hb3.mono bl.size)
     obtain⟨o0,o1,o2,o3,o4,o5,o6,g0,g1,g2,g3,g4,g5,g6⟩:=xb.seven
     have k0:0<=(n+4)%7:=by omega
     have k1:(n+4)%7<7:=by omega
     generalize hw:(n+4)%7=wk at k0 k1 ⊢
     have HW:Hid _:=hw
     clear hw
     go_wp2_with fail
     refine bodyPost_ret (v:=c0L ⟨cyc*400+z,M,S+1,0,0,0,wk⟩) (by simp[results,Tryz.results189,go_sem,o0,o1,o2,o3,o4,o5,o6]) rfl ?_
     obtain⟨x1,x2,x3⟩:=HX.out
     exact⟨_,_,_,_,rfl,x1,x2,x3,HW.out.symm,by omega,by omega,a3I bl (ZB _) _ _ _ _ _ _ _⟩
def Ofs (w:World)(t:Int)(e:Ending)(w':World):Prop:=
 ∃ c:Civ,e=.returned (c0L c)/\At t c /\ -1000000000000<c.year/\c.year<1000000000000/\Below w.heap.size w w'
set_option maxHeartbeats 800000 in
theorem b7c (t:Int)(t0 : -9223372036854775808<=t)(t1:t<9223372036854775808)(w:World)(hL:a4P w):
 Calls Tryz.prog 90 #[.int .i64 t] w (Ofs w t):=by
 obtain⟨xb,l0⟩:=a1c w 151 (c3J)
 have hL:=hL.later l0
 have D0 : -200000000000000<=t/86400:=by omega
 have D1:t/86400<=200000000000000:=by omega
 have r0:0<=t%86400:=by omega
 have r1:t%86400<86400:=by omega
 have hs:=a5k t 86400 t0 t1 (by omega) (by omega)
 have AT:=@c0u
 generalize hd:t/86400=n at *
 generalize hr:t%86400=r at *
 have HD:Hid _:=hd
 have HR:Hid _:=hr
 clear hd hr
 go_enter Tryz.func90,Tryz.ntmps90
 go_wp2_with fail
 refine(hs _).mono ?_
 rintro e w1 ⟨rfl,hb1⟩
 have hL:=hL.later hb1
 have xb:=xb.next hb1
 have bl:=l0.trans (hb1.mono l0.size)
 clear hb1 l0 hs
 go_wp2_with fail
 refine(b7b n D0 D1 _ hL).mono ?_
 rintro e w2 ⟨y,m,d,wk,rfl,x1,x2,x3,x4,y0,y1,hb2⟩
 have xb:=xb.next hb2
 have bl:=bl.trans (hb2.mono bl.size)
 clear hb2
 have AA:Hid _:=c0u (wk:=wk) (r:=r) (t:=t) x1 x2 (x3.trans HD.out.symm) (x4.trans (by rw[HD.out])) HR.out.symm
 clear x4 x3 x2 x1
 obtain⟨_,l2⟩:=a1c w2 151 [.int .i64 y,.int .i64 m,.int .i64 d,.int .i64 (r/3600),.int .i64 (r%3600/60),.int .i64 (r%60),.int .i64 wk]
 have xb:=xb.next l2
 have bl:=bl.trans (l2.mono bl.size)
 obtain⟨o0,o1,o2,o3,o4,o5,o6,g0,g1,g2,g3,g4,g5,g6⟩:=xb.seven
 go_wp2_with fail
 refine bodyPost_ret (v:=c0L ⟨y,m,d,r/3600,r%3600/60,r%60,wk⟩) (by simp[results,Tryz.results90,go_sem,o0,o1,o2,o3,o4,o5,o6]) rfl ?_
 exact⟨_,rfl,AA.out,y0,y1,a3I bl (ZB _) _ _ _ _ _ _ _⟩
abbrev a7L (c:Civ):List Value:=[.int .i64 c.year,.int .i64 c.month,.int .i64 c.day,.int .i64 c.hour,.int .i64 c.minute,.int .i64 c.second,.int .i64 c.week]
theorem b0f (S n:Nat)(hS:S<18446744073709551616):(bits .and .u64 ((S:Int)/2^min n 64) 1==1)=S.testBit n:=by
 have e0:(S:Int)/2^min n 64=((S/2^min n 64:Nat):Int):=by simp
 have hd:S/2^min n 64<=S:=Nat.div_le_self _ _
 have e1:=bits_and_u64_nat (S/2^min n 64) 1 (by omega) (by decide)
 rw[e0,show (1:Int)=((1:Nat):Int) from rfl,e1,Nat.and_one_is_mod,Nat.testBit_eq_decide_div_mod_eq]
 have e2:S/2^min n 64%2=S/2^n%2:=by
  rcases Nat.le_total n 64 with h | h
  ·rw[Nat.min_eq_left h]
  ·rw[Nat.min_eq_right h,Nat.div_eq_of_lt (show S<2^64 from hS),Nat.div_eq_of_lt (ZA (show S<2^64 from hS) (Nat.pow_le_pow_right (by decide) h))]
 rw[e2]
 rcases Nat.mod_two_eq_zero_or_one (S/2^n) with h | h<;>rw[h]<;>rfl
theorem b3X (S n:Nat)(hS:S<18446744073709551616)(_hn:n<=1000)(w:World):
 Calls Tryz.prog 91 #[.int .u64 S,.int .i64 n] w fun e w'=>e=.returned (.bool (S.testBit n))/\w=w':=by
 have hb:=b0f S n hS
 go_enter Tryz.func91,Tryz.ntmps91
 go_wp2_with fail
 go_ret
 exact⟨rfl,rfl⟩
structure b8u (D:Int)(d:Civ):Prop where
 d0:1<=d.day
 d1:d.day<=a0T d.year d.month
 no:a2H d.year d.month d.day=D
 wk:d.week=(D+4)%7
theorem At.parts {t:Int}{d:Civ}(h:At t d):a2H d.year d.month d.day=t/86400/\d.hour*3600+d.minute*60+d.second=t%86400:=by
 have e:=h.t
 unfold b1s at e
 have:=h.f.h0;have:=h.f.h1;have:=h.f.n0;have:=h.f.n1;have:=h.f.s0;have:=h.f.s1
 omega
theorem At.date {t:Int}{d:Civ}(h:At t d):b8u (t/86400) d:=
 ⟨h.f.d0,h.f.d1,h.parts.1,by rw[<-h.parts.1];exact h.w⟩
theorem b8u.m0 {D:Int}{d:Civ}(h:b8u D d):1<=d.month:=(a1T h.d0 h.d1).1
theorem b8u.m1 {D:Int}{d:Civ}(h:b8u D d):d.month<=12:=(a1T h.d0 h.d1).2
theorem b8u.day31 {D:Int}{d:Civ}(h:b8u D d):d.day<=31:=by have:=h.d1;have:=a4F d.year d.month;omega
def c1I (c:Cr)(d:Civ):Bool:=c.c.testBit d.day.toNat&&c.d.testBit d.month.toNat&&c.e.testBit d.week.toNat
def a6m (c:Cr)(d:Civ):Bool:=c.a.testBit d.minute.toNat&&c.b.testBit d.hour.toNat&&c1I c d
def a5O (c:Cr)(t:Int):Prop:=∃ d,At t d/\a6m c d=true
theorem a5O.iff {c:Cr}{t:Int}{d:Civ}(h:At t d):a5O c t↔a6m c d=true:=
 ⟨fun ⟨e,he,hn⟩=>by rw[h.unique he];exact hn,fun hn=>⟨d,h,hn⟩⟩
theorem a3d (S:Nat)(n:Int)(hS:S<18446744073709551616)(h0:0<=n)(h1:n<=1000)(w:World):
 Calls Tryz.prog 91 #[.int .u64 S,.int .i64 n] w fun e w'=>e=.returned (.bool (S.testBit n.toNat))/\w=w':=by
 have:=b3X S n.toNat hS (by omega) w
 rwa [Int.toNat_of_nonneg h0] at this
set_option maxRecDepth 20000 in
set_option maxHeartbeats 2000000 in
theorem a8A (c:Cr)(fc:c.Fits)(d:Civ){D:Int}(hd:b8u D d)(w:World):
 Calls Tryz.prog 92 #[b0b c,c0L d] w fun e w'=>e=.returned (.bool (c1I c d))/\Below w.heap.size w w':=by
 have d0:=hd.d0
 have d1:=hd.day31
 have m0:=hd.m0
 have m1:=hd.m1
 have wk:=hd.wk
 have h1:=fun wx=>a3d c.c d.day fc.c (by omega) (by omega) wx
 have h2:=fun wx=>a3d c.d d.month fc.d (by omega) (by omega) wx
 have h3:=fun wx=>a3d c.e d.week fc.e (by omega) (by omega) wx
 obtain⟨cb,xb,l0⟩:=a0n w 66 151 (u5 c.a c.b c.c c.d c.e) (a7L d)
 unfold c1I
 generalize c.c.testBit d.day.toNat=b1 at *
 generalize c.d.testBit d.month.toNat=b2 at *
 generalize c.e.testBit d.week.toNat=b3 at *
 have H1:Hid _:=h1
 have H2:Hid _:=h2
 have H3:Hid _:=h3
 clear h1 h2 h3 d0 d1 m0 m1 wk hd
 cases b1 with
 | false=>
   go_enter Tryz.func92,Tryz.ntmps92
   go_wp2_with fail
   refine(H1.out _).mono ?_
   rintro e w1 ⟨rfl,rfl⟩
   go_wp2_with fail
   go_ret
   exact⟨rfl,l0⟩
 | true=>
   cases b2 with
   | false=>
     go_enter Tryz.func92,Tryz.ntmps92
     go_wp2_with fail
     refine(H1.out _).mono ?_
     rintro e w1 ⟨rfl,rfl⟩
     go_wp2_with fail
     refine(H2.out _).mono ?_
     rintro e w1 ⟨rfl,rfl⟩
     go_wp2_with fail
     go_ret
     exact⟨rfl,l0⟩
   | true=>
     go_enter Tryz.func92,Tryz.ntmps92
     go_wp2_with fail
     refine(H1.out _).mono ?_
     rintro e w1 ⟨rfl,rfl⟩
     go_wp2_with fail
     refine(H2.out _).mono ?_
     rintro e w1 ⟨rfl,rfl⟩
     go_wp2_with fail
     refine(H3.out _).mono ?_
     rintro e w1 ⟨rfl,rfl⟩
     go_wp2_with fail
     go_ret
     exact⟨rfl,l0⟩
def a9c (b:Bool)(w:World)(e:Ending)(w':World):Prop:=e=.returned (.bool b)/\Below w.heap.size w w'
set_option maxRecDepth 20000 in
set_option maxHeartbeats 2000000 in
theorem b5h (c:Cr)(fc:c.Fits)(t:Int)(t0 : -9223372036854775808<=t)(t1:t<9223372036854775808)(b:Bool)(hb:b=true↔a5O c t)(w:World)(hL:a4P w):
 Calls Tryz.prog 52 #[b0b c,.int .i64 t] w (a9c b w):=by
 obtain⟨cb,l0⟩:=a1c w 66 (u5 c.a c.b c.c c.d c.e)
 have hO:=fun wx hx=>b7c t t0 t1 wx hx
 have hL0:=hL.later l0
 have HO:Hid _:=hO
 have HB:Hid _:=hb
 clear hO hb
 go_enter Tryz.func52,Tryz.ntmps52
 go_wp2_with fail
 refine(HO.out _ hL0).mono ?_
 rintro e w1 ⟨d,rfl,hat,y0,y1,hb1⟩
 have hbd:b=a6m c d:=by rw[Bool.eq_iff_iff,HB.out,a5O.iff hat]
 have f:=hat.f
 have h0:=f.h0;have h1:=f.h1;have n0:=f.n0;have n1:=f.n1
 have g1:=fun wx=>a3d c.a d.minute fc.a n0 (by omega) wx
 have g2:=fun wx=>a3d c.b d.hour fc.b h0 (by omega) wx
 have g3:=fun wx=>a8A c fc d hat.date wx
 unfold a6m at hbd
 have cb1:=cb.next hb1
 have bl1:=l0.trans (hb1.mono l0.size)
 obtain⟨xb,l1⟩:=a1c w1 151 (a7L d)
 have cb2:=cb1.next l1
 have bl2:=bl1.trans (l1.mono bl1.size)
 have G1:Hid _:=g1
 have G2:Hid _:=g2
 have G3:Hid _:=g3
 obtain⟨o0,o1,o2,o3,o4,_⟩:=cb2.five
 obtain⟨p0,p1,p2,p3,p4,p5,p6,_⟩:=xb.seven
 clear g1 g2 g3 cb cb1 hL hL0 hb1 l0 f h0 h1 n0 n1 y0 y1
 generalize c.a.testBit d.minute.toNat=b1 at *
 generalize c.b.testBit d.hour.toNat=b2 at *
 generalize c1I c d=b3 at *
 cases b1 with
 | false=>
   subst hbd
   go_wp2_with fail
   refine(G1.out _).mono ?_
   rintro e w2 ⟨rfl,rfl⟩
   go_wp2_with fail
   go_ret
   exact⟨rfl,bl2⟩
 | true=>
   cases b2 with
   | false=>
     subst hbd
     go_wp2_with fail
     refine(G1.out _).mono ?_
     rintro e w2 ⟨rfl,rfl⟩
     go_wp2_with fail
     refine(G2.out _).mono ?_
     rintro e w2 ⟨rfl,rfl⟩
     go_wp2_with fail
     go_ret
     exact⟨rfl,bl2⟩
   | true=>
     have hb3:b=b3:=by simpa using hbd
     clear hbd
     subst hb3
     go_wp2_with fail
     refine(G1.out _).mono ?_
     rintro e w2 ⟨rfl,rfl⟩
     go_wp2_with fail
     refine(G2.out _).mono ?_
     rintro e w2 ⟨rfl,rfl⟩
     go_wp2_with fail
     refine(G3.out _).mono ?_
     rintro e w3 ⟨rfl,hb3⟩
     go_wp2_with fail
     go_ret
     exact⟨rfl,bl2.trans (hb3.mono bl2.size)⟩
structure a9b (n A y l:Int):Prop where
 e:a1J y+l=A
 l0:0<=l
 y0:n*400+1970<=y
theorem a9b.y1 {n A y l:Int}(h:a9b n A y l)(a1:A<n*146097+719528+146097):y<n*400+2370:=by
 have e:=h.e
 have l0:=h.l0
 rcases Int.lt_or_le y (n*400+2370) with k | k
 ·exact k
 ·have:=a2L k
  have q:=a3L n 2370
  have z:a1J 2370=865625:=by decide
  omega
theorem a9t (n l A:Int)(l0:0<=l)(e:A=n*146097+719528+l):a9b n A (1970+400*n) l:=by
 refine⟨?_,l0,by omega⟩
 have q:=a3L n 1970
 have z:a1J 1970=719528:=by decide
 rw[show 1970+400*n=n*400+1970 by omega,q,z]
 omega
theorem a9b.next {n A y l:Int}(h:a9b n A y l)(k:365+more y<=l):a9b n A (y+1) (l-(365+more y)):=
 ⟨by have:=h.e;rw[a4x];omega,by omega,by have:=h.y0;omega⟩
theorem b1z {n A y l m s days:Int}(h:a9b n A y l)(hA:A=days+719528)(hm:a2s y l m s)(hs:s<a0T y m):
 1<=s+1/\s+1<=a0T y m/\a2H y m (s+1)=days:=by
 have:=hm.s0
 have e:=hm.e
 have:=h.e
 refine⟨by omega,by omega,?_⟩
 unfold a2H
 omega
set_option maxHeartbeats 1600000 in
theorem b9a (t:Int)(t0 : -9223372036854775808<=t)(t1:t<9223372036854775808)(w:World):
 Calls Tryz.prog 108 #[.int .i64 t] w (Ofs w t):=by
 obtain⟨xb,l0⟩:=a1c w 151 (c3J)
 have D0 : -200000000000000<=t/86400:=by omega
 have D1:t/86400<=200000000000000:=by omega
 have r0:0<=t%86400:=by omega
 have r1:t%86400<86400:=by omega
 have hs:=a2I t 86400 t0 t1 (by omega) (by omega)
 generalize hd:t/86400=days at *
 generalize hr:t%86400=r at *
 have HD:Hid _:=hd
 have HR:Hid _:=hr
 clear hd hr
 go_enter Tryz.func108,Tryz.ntmps108
 go_wp2_with fail
 refine(hs _).mono ?_
 rintro e w1 ⟨rfl,hb1⟩
 replace xb:=xb.next hb1
 have bl:=l0.trans (hb1.mono l0.size)
 clear hb1 l0 hs
 have k0:0<=(days+4)%7:=by omega
 have k1:(days+4)%7<7:=by omega
 have hs:=a2I (days+4) 7 (by omega) (by omega) (by omega) (by omega)
 generalize hw:(days+4)%7=wk at *
 have HW:Hid _:=hw
 clear hw
 go_wp2_with fail
 refine(hs _).mono ?_
 rintro e w2 ⟨rfl,hb2⟩
 replace xb:=xb.next hb2
 replace bl:=bl.trans (hb2.mono bl.size)
 clear hb2 hs
 have hs:=a2I days 146097 (by omega) (by omega) (by omega) (by omega)
 have c0 : -2000000000<=days/146097:=by omega
 have c1:days/146097<=2000000000:=by omega
 have q0:0<=days%146097:=by omega
 have q1:days%146097<146097:=by omega
 have ec:Hid (days+719528=(days/146097)*146097+719528+days%146097):=by show _=_;omega
 generalize days/146097=n at *
 generalize days%146097=l at *
 go_wp2_with fail
 refine(hs _).mono ?_
 rintro e w3 ⟨rfl,hb3⟩
 replace xb:=xb.next hb3
 replace bl:=bl.trans (hb3.mono bl.size)
 clear hb3 hs
 go_wp2_with fail
 go_loop [8,9] (fun a b=>∃ L Y:Int,a=.int .i64 L/\b=.int .i64 Y/\a9b n (days+719528) Y L/\L<146097) (fun a _=>(intOf a).toNat)
 case atStart=>exact⟨_,_,rfl,rfl,a9t n l _ q0 ec.out,q1⟩
 case round=>
  obtain⟨L,Y,rfl,rfl,hy,hl⟩:=hrel
  have ec2:=ec.out
  have y0:=hy.y0
  have y1:=hy.y1 (by omega)
  have L0:=hy.l0
  have m01:=a9D Y
  have hg:=b6x Y
  clear ec2
  by_cases hk:365+more Y<=L
  ·have HN:Hid _:=hy.next hk
   have g0:365<=365+more Y:=by omega
   have g1:365+more Y<=366:=by omega
   generalize 365+more Y=G at *
   go_wp2_with fail
   refine(hg _).mono ?_
   rintro e w4 ⟨rfl,rfl⟩
   go_wp2_with fail
   refine(hg _).mono ?_
   rintro e w4 ⟨rfl,rfl⟩
   go_wp2_with fail
   go_round
   case rel=>exact⟨_,_,rfl,rfl,HN.out,by omega⟩
   case measure=>simp[intOf];omega
  ·have HL:=fun m s (h:a2s Y L m s)=>h.next (show L<365+more Y by omega)
   have HE:=fun m s=>@b1z n (days+719528) Y L m s days hy rfl
   generalize 365+more Y=G at *
   go_wp2_with fail
   refine(hg _).mono ?_
   rintro e w4 ⟨rfl,rfl⟩
   go_wp2_with fail
   go_loop [8,10] (fun s m=>∃ S M:Int,s=.int .i64 S/\m=.int .i64 M/\a2s Y L M S/\S<=L) (fun _ m=>(13-intOf m).toNat)
   case atStart=>exact⟨_,_,rfl,rfl,⟨by omega,by omega,by omega,by rw[a7I];omega⟩,by omega⟩
   case round=>
    obtain⟨S,M,rfl,rfl,hm,hS⟩:=hrel
    have m0:=hm.m0
    have m1:=hm.m1
    have s0:=hm.s0
    have hd:=b3p Y M
    have dp:=a5r Y M m0 m1
    obtain⟨d0,d1⟩:=dp
    by_cases hk:a0T Y M<=S
    ·have HK:Hid _:=HL M S hm hk
     generalize a0T Y M=D at *
     go_wp2_with fail
     refine(hd _).mono ?_
     rintro e w4 ⟨rfl,rfl⟩
     go_wp2_with fail
     refine(hd _).mono ?_
     rintro e w4 ⟨rfl,rfl⟩
     go_wp2_with fail
     go_round
     case rel=>exact⟨_,_,rfl,rfl,HK.out,by omega⟩
     case measure=>simp[intOf];omega
    ·obtain⟨e1,e2,e3⟩:=HE M S hm (by omega)
     have AA:Hid _:=c0u (wk:=wk) (r:=r) (t:=t) e1 e2 (e3.trans HD.out.symm) (by rw[HD.out];exact HW.out.symm) HR.out.symm
     clear e1 e2 e3 HE hg
     generalize a0T Y M=D at *
     have h1:=a2I r 3600 (by omega) (by omega) (by omega) (by omega)
     have h2:=a2I (r%3600) 60 (by omega) (by omega) (by omega) (by omega)
     rw[show r%3600%60=r%60 by omega] at h2
     have f0:0<=r/3600:=by omega
     have f1:r/3600<=24:=by omega
     have f2:0<=r%3600/60:=by omega
     have f3:r%3600/60<=60:=by omega
     have f4:0<=r%60:=by omega
     have f5:r%60<=60:=by omega
     generalize r/3600=hh at *
     generalize r%60=ss at *
     generalize r%3600/60=mi at *
     generalize r%3600=rr at *
     go_wp2_with fail
     refine(hd _).mono ?_
     rintro e w4 ⟨rfl,rfl⟩
     go_wp2_with fail
     refine(h1 _).mono ?_
     rintro e w4 ⟨rfl,hb4⟩
     replace xb:=xb.next hb4
     replace bl:=bl.trans (hb4.mono bl.size)
     clear hb4
     go_wp2_with fail
     refine(h2 _).mono ?_
     rintro e w5 ⟨rfl,hb5⟩
     replace xb:=xb.next hb5
     replace bl:=bl.trans (hb5.mono bl.size)
     clear hb5
     obtain⟨o0,o1,o2,o3,o4,o5,o6,g0,g1,g2,g3,g4,g5,g6⟩:=xb.seven
     go_wp2_with fail
     refine bodyPost_ret (v:=c0L ⟨Y,M,S+1,hh,mi,ss,wk⟩) (by simp[results,Tryz.results108,go_sem,o0,o1,o2,o3,o4,o5,o6]) rfl ?_
     exact⟨_,rfl,AA.out,by simp only;omega,by simp only;omega,a3I bl (ZB _) _ _ _ _ _ _ _⟩
theorem a5P (S:Nat)(n:Int)(h0:0<=n)(h1:n<64)(w:World):
 Calls Tryz.prog 94 #[.int .u64 S,.int .i64 n] w fun e w'=>e=.returned (.bool (S.testBit n.toNat))/\w=w':=by
 have:=b5i S n.toNat (by omega) w
 rwa [Int.toNat_of_nonneg h0] at this
set_option maxRecDepth 20000 in
set_option maxHeartbeats 2000000 in
theorem b1C (c:Cr)(t:Int)(t0 : -9223372036854775808<=t)(t1:t<9223372036854775808)(b:Bool)(hb:b=true↔a5O c t)(w:World):
 Calls Tryz.prog 61 #[b0b c,.int .i64 t] w (a9c b w):=by
 obtain⟨cb,l0⟩:=a1c w 66 (u5 c.a c.b c.c c.d c.e)
 have hO:=fun wx=>b9a t t0 t1 wx
 have HO:Hid _:=hO
 have HB:Hid _:=hb
 clear hO hb
 go_enter Tryz.func61,Tryz.ntmps61
 go_wp2_with fail
 refine(HO.out _).mono ?_
 rintro e w1 ⟨d,rfl,hat,y0,y1,hb1⟩
 have hbd:b=a6m c d:=by rw[Bool.eq_iff_iff,HB.out,a5O.iff hat]
 have f:=hat.f
 have h0:=f.h0;have h1:=f.h1;have n0:=f.n0;have n1:=f.n1
 have hd:=hat.date
 have d0:=hd.d0;have d1:=hd.day31;have m0:=hd.m0;have m1:=hd.m1;have wk:=hd.wk
 have g1:=fun wx=>a5P c.a d.minute n0 (by omega) wx
 have g2:=fun wx=>a5P c.b d.hour h0 (by omega) wx
 have g3:=fun wx=>a5P c.c d.day (by omega) (by omega) wx
 have g4:=fun wx=>a5P c.d d.month (by omega) (by omega) wx
 have g5:=fun wx=>a5P c.e d.week (by omega) (by omega) wx
 unfold a6m c1I at hbd
 have cb1:=cb.next hb1
 have bl1:=l0.trans (hb1.mono l0.size)
 obtain⟨xb,l1⟩:=a1c w1 151 (a7L d)
 have cb2:=cb1.next l1
 have bl2:=bl1.trans (l1.mono bl1.size)
 have G1:Hid _:=g1
 have G2:Hid _:=g2
 have G3:Hid _:=g3
 have G4:Hid _:=g4
 have G5:Hid _:=g5
 obtain⟨o0,o1,o2,o3,o4,_⟩:=cb2.five
 obtain⟨p0,p1,p2,p3,p4,p5,p6,_⟩:=xb.seven
 clear g1 g2 g3 g4 g5 cb cb1 hb1 l0 f h0 h1 n0 n1 y0 y1 d0 d1 m0 m1 wk hd
 generalize c.a.testBit d.minute.toNat=b1 at *
 generalize c.b.testBit d.hour.toNat=b2 at *
 generalize c.c.testBit d.day.toNat=b3 at *
 generalize c.d.testBit d.month.toNat=b4 at *
 generalize c.e.testBit d.week.toNat=b5 at *
 cases b1 with
 | false=>
   subst hbd
   go_wp2_with fail
   refine(G1.out _).mono ?_
   rintro e w2 ⟨rfl,rfl⟩
   go_wp2_with fail
   go_ret
   exact⟨rfl,bl2⟩
 | true=>
 cases b2 with
 | false=>
   subst hbd
   go_wp2_with fail
   refine(G1.out _).mono ?_
   rintro e w2 ⟨rfl,rfl⟩
   go_wp2_with fail
   refine(G2.out _).mono ?_
   rintro e w2 ⟨rfl,rfl⟩
   go_wp2_with fail
   go_ret
   exact⟨rfl,bl2⟩
 | true=>
 cases b3 with
 | false=>
   subst hbd
   go_wp2_with fail
   refine(G1.out _).mono ?_
   rintro e w2 ⟨rfl,rfl⟩
   go_wp2_with fail
   refine(G2.out _).mono ?_
   rintro e w2 ⟨rfl,rfl⟩
   go_wp2_with fail
   refine(G3.out _).mono ?_
   rintro e w2 ⟨rfl,rfl⟩
   go_wp2_with fail
   go_ret
   exact⟨rfl,bl2⟩
 | true=>
 cases b4 with
 | false=>
   subst hbd
   go_wp2_with fail
   refine(G1.out _).mono ?_
   rintro e w2 ⟨rfl,rfl⟩
   go_wp2_with fail
   refine(G2.out _).mono ?_
   rintro e w2 ⟨rfl,rfl⟩
   go_wp2_with fail
   refine(G3.out _).mono ?_
   rintro e w2 ⟨rfl,rfl⟩
   go_wp2_with fail
   refine(G4.out _).mono ?_
   rintro e w2 ⟨rfl,rfl⟩
   go_wp2_with fail
   go_ret
   exact⟨rfl,bl2⟩
 | true=>
   have hb3:b=b5:=by simpa using hbd
   clear hbd
   subst hb3
   go_wp2_with fail
   refine(G1.out _).mono ?_
   rintro e w2 ⟨rfl,rfl⟩
   go_wp2_with fail
   refine(G2.out _).mono ?_
   rintro e w2 ⟨rfl,rfl⟩
   go_wp2_with fail
   refine(G3.out _).mono ?_
   rintro e w2 ⟨rfl,rfl⟩
   go_wp2_with fail
   refine(G4.out _).mono ?_
   rintro e w2 ⟨rfl,rfl⟩
   go_wp2_with fail
   refine(G5.out _).mono ?_
   rintro e w2 ⟨rfl,rfl⟩
   go_wp2_with fail
   go_ret
   exact⟨rfl,bl2⟩
end Go.Proofs.YtbddbnjhmdbkbaaGreatDoor
end
