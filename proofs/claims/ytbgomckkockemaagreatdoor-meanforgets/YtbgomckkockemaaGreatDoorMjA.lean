import Derived.Below
import Derived.Test.YtbgomckkockemaaGreatDoorChecked
import Derived.Test.YtbgomckkockemaaGreatDoorBoxes
import Derived.WalkKit
import Derived.WalkSpells
import Derived.BigQuiet
import Derived.Deep.RegionHeld3
import Derived.Deep.MidRow
import Derived.Test.YtbgomckkockemaaGreatDoorMgW
section
namespace Go.Proofs.YtbgomckkockemaaGreatDoor
def leap (y:Int):Bool:=decide (y%4=0/\(y%100≠0\/y%400=0))
def more (y:Int):Int:=if leap y then 1 else 0
def ahead (y:Int):Int:=y*365+(y+3)/4-(y+99)/100+(y+399)/400
def mdays (y m:Int):Int:=
 if m=2 then 28+more y else if m=4\/m=6\/m=9\/m=11 then 30 else if 1<=m/\m<=12 then 31 else 0
def cum (y m:Int):Int:=
 if m<=1 then 0 else if m=2 then 31 else more y+(if m=3 then 59 else if m=4 then 90 else if m=5 then 120 else if m=6 then 151 else if m=7 then 181 else if m=8 then 212 else if m=9 then 243 else if m=10 then 273 else if m=11 then 304 else if m=12 then 334 else 365)
theorem leap_true {y:Int}(h:leap y=true):y%4=0/\(y%100≠0\/y%400=0):=of_decide_eq_true h
theorem leap_false {y:Int}(h:¬ leap y=true):¬(y%4=0/\(y%100≠0\/y%400=0)):=fun k=>h (decide_eq_true k)
theorem more_cases (y:Int):(more y=1/\y%4=0/\(y%100≠0\/y%400=0))\/(more y=0/\¬(y%4=0/\(y%100≠0\/y%400=0))):=by
 unfold more
 split
 ·rename_i h;exact .inl ⟨rfl,leap_true h⟩
 ·rename_i h;exact .inr ⟨rfl,leap_false h⟩
theorem more_01 (y:Int):0<=more y/\more y<=1:=by
 rcases more_cases y with h | h<;>omega
theorem ahead_succ (y:Int):ahead (y+1)=ahead y+365+more y:=by
 unfold ahead
 rcases more_cases y with ⟨e,h⟩ | ⟨e,h⟩
 ·rw[e];omega
 ·rw[e];omega
theorem ahead_mono {y z:Int}(h:y<=z):ahead y<=ahead z:=by
 unfold ahead;omega
theorem ahead_cycle (k y:Int):ahead (k*400+y)=k*146097+ahead y:=by
 unfold ahead;omega
theorem leap_cycle (k y:Int):leap (k*400+y)=leap y:=by
 unfold leap
 congr 1
 apply propext
 omega
theorem more_cycle (k y:Int):more (k*400+y)=more y:=by unfold more;rw[leap_cycle]
theorem mdays_cycle (k y m:Int):mdays (k*400+y) m=mdays y m:=by unfold mdays;rw[more_cycle]
theorem cum_cycle (k y m:Int):cum (k*400+y) m=cum y m:=by unfold cum;rw[more_cycle]
theorem cum_succ (y m:Int)(h0:1<=m)(h1:m<=12):cum y (m+1)=cum y m+mdays y m:=by
 unfold cum mdays
 have:m=1\/m=2\/m=3\/m=4\/m=5\/m=6\/m=7\/m=8\/m=9\/m=10\/m=11\/m=12:=by omega
 rcases this with rfl | rfl | rfl | rfl | rfl | rfl | rfl | rfl | rfl | rfl | rfl | rfl<;>simp<;>omega
theorem cum_one (y:Int):cum y 1=0:=rfl
theorem cum_end (y:Int):cum y 13=365+more y:=by unfold cum;simp;omega
theorem mdays_pos (y m:Int)(h0:1<=m)(h1:m<=12):28<=mdays y m/\mdays y m<=31:=by
 have:=more_01 y
 unfold mdays
 split
 ·omega
 ·split
  ·omega
  ·split<;>omega
theorem mdays_none (y m:Int)(h:m<1\/12<m):mdays y m=0:=by
 unfold mdays
 rw[if_neg (by omega),if_neg (by omega),if_neg (by omega)]
theorem mdays_bounds (y m:Int):0<=mdays y m/\mdays y m<=31:=by
 by_cases h:1<=m/\m<=12
 ·have:=mdays_pos y m h.1 h.2;omega
 ·rw[mdays_none y m (by omega)];omega
theorem month_of_day {y m d:Int}(h0:1<=d)(h1:d<=mdays y m):1<=m/\m<=12:=by
 by_cases h:1<=m/\m<=12
 ·exact h
 ·rw[mdays_none y m (by omega)] at h1;omega
theorem cum_lt {y m n:Int}(h0:1<=m)(h:m<n)(h1:n<=13):cum y m+mdays y m<=cum y n:=by
 have:=more_01 y
 unfold cum mdays
 have:m=1\/m=2\/m=3\/m=4\/m=5\/m=6\/m=7\/m=8\/m=9\/m=10\/m=11\/m=12:=by omega
 rcases this with rfl | rfl | rfl | rfl | rfl | rfl | rfl | rfl | rfl | rfl | rfl | rfl<;>simp<;>omega
def dayno (y m d:Int):Int:=ahead y+cum y m+(d-1)-719528
structure Civ where
 year:Int
 month:Int
 day:Int
 hour:Int
 minute:Int
 second:Int
 week:Int
structure Formed (c:Civ):Prop where
 d0:1<=c.day
 d1:c.day<=mdays c.year c.month
 h0:0<=c.hour
 h1:c.hour<=23
 n0:0<=c.minute
 n1:c.minute<=59
 s0:0<=c.second
 s1:c.second<=59
theorem Formed.m0 {c:Civ}(h:Formed c):1<=c.month:=(month_of_day h.d0 h.d1).1
theorem Formed.m1 {c:Civ}(h:Formed c):c.month<=12:=(month_of_day h.d0 h.d1).2
def secOf (c:Civ):Int:=dayno c.year c.month c.day*86400+(c.hour*3600+c.minute*60+c.second)
structure At (t:Int)(c:Civ):Prop where
 f:Formed c
 t:secOf c=t
 w:c.week=(dayno c.year c.month c.day+4)%7
theorem year_range {y m d:Int}(d0:1<=d)(d1:d<=mdays y m):ahead y<=dayno y m d+719528/\dayno y m d+719528<ahead (y+1):=by
 obtain⟨m0,m1⟩:=month_of_day d0 d1
 have h1:=cum_lt (y:=y) m0 (show m<13 by omega) (by omega)
 rw[cum_end] at h1
 have h2:0<=cum y m:=by
  rcases Int.lt_or_eq_of_le m0 with h | h
  ·have:=cum_lt (y:=y) (m:=1) (n:=m) (by omega) h (by omega)
   have:=mdays_bounds y 1
   rw[cum_one] at *
   omega
  ·rw[<-h,cum_one];omega
 rw[ahead_succ]
 unfold dayno
 omega
theorem date_unique {y m d z n e:Int}(d0:1<=d)(d1:d<=mdays y m)(e0:1<=e)(e1:e<=mdays z n)(h:dayno y m d=dayno z n e):y=z/\m=n/\d=e:=by
 have hy:=year_range d0 d1
 have hz:=year_range e0 e1
 have h1:y=z:=by
  rcases Int.lt_trichotomy y z with k | k | k
  ·have:=ahead_mono (show y+1<=z by omega);omega
  ·exact k
  ·have:=ahead_mono (show z+1<=y by omega);omega
 subst h1
 obtain⟨m0,m1⟩:=month_of_day d0 d1
 obtain⟨n0,n1⟩:=month_of_day e0 e1
 unfold dayno at h
 have h2:m=n:=by
  rcases Int.lt_trichotomy m n with k | k | k
  ·have:=cum_lt (y:=y) m0 k (by omega);omega
  ·exact k
  ·have:=cum_lt (y:=y) n0 k (by omega);omega
 subst h2
 exact⟨rfl,rfl,by omega⟩
theorem Formed.unique {c d:Civ}(h:Formed c)(k:Formed d)(e:secOf c=secOf d):c.year=d.year/\c.month=d.month/\c.day=d.day/\c.hour=d.hour/\c.minute=d.minute/\c.second=d.second:=by
 have a1:=h.h0;have a2:=h.h1;have a3:=h.n0;have a4:=h.n1;have a5:=h.s0;have a6:=h.s1
 have b1:=k.h0;have b2:=k.h1;have b3:=k.n0;have b4:=k.n1;have b5:=k.s0;have b6:=k.s1
 unfold secOf at e
 have e1:dayno c.year c.month c.day=dayno d.year d.month d.day:=by omega
 obtain⟨x,y,z⟩:=date_unique h.d0 h.d1 k.d0 k.d1 e1
 exact⟨x,y,z,by omega,by omega,by omega⟩
theorem At.unique {t:Int}{c d:Civ}(h:At t c)(k:At t d):c=d:=by
 obtain⟨e1,e2,e3,e4,e5,e6⟩:=h.f.unique k.f (h.t.trans k.t.symm)
 have e7:=h.w
 have e8:=k.w
 rw[<-e1,<-e2,<-e3] at e8
 cases c;cases d
 simp only at *
 subst e1 e2 e3 e4 e5 e6
 rw[e7,e8]
theorem year_near {c d:Civ}(h:Formed c)(k:Formed d)(e:c.year=d.year):secOf c-secOf d<31708800:=by
 have a1:=h.h0;have a2:=h.h1;have a3:=h.n0;have a4:=h.n1;have a5:=h.s0;have a6:=h.s1
 have b1:=k.h0;have b2:=k.h1;have b3:=k.n0;have b4:=k.n1;have b5:=k.s0;have b6:=k.s1
 have p:=year_range h.d0 h.d1
 have q:=year_range k.d0 k.d1
 rw[<-e,ahead_succ] at q
 rw[ahead_succ] at p
 have:=more_01 c.year
 unfold secOf
 rw[<-e]
 omega
theorem At.cycle {t:Int}{c:Civ}(h:At t c)(k:Int):At (t+k*12622780800) {c with year:=c.year+k*400}:=by
 obtain⟨f,e,w⟩:=h
 have z:c.year+k*400=k*400+c.year:=by omega
 have dn:dayno (k*400+c.year) c.month c.day=dayno c.year c.month c.day+k*146097:=by
  unfold dayno;rw[ahead_cycle,cum_cycle];omega
 refine⟨⟨f.d0,?_,f.h0,f.h1,f.n0,f.n1,f.s0,f.s1⟩,?_,?_⟩
 ·show c.day<=mdays (c.year+k*400) c.month
  rw[z,mdays_cycle];exact f.d1
 ·unfold secOf at e ⊢
  show dayno (c.year+k*400) c.month c.day*86400+(c.hour*3600+c.minute*60+c.second)=t+k*12622780800
  rw[z,dn,<-e];omega
 ·show c.week=(dayno (c.year+k*400) c.month c.day+4)%7
  rw[z,dn,w];omega
theorem at_of {y m d wk r:Int}{t:Int}(d0:1<=d)(d1:d<=mdays y m)(hd:dayno y m d=t/86400)(hw:wk=(t/86400+4)%7)(hr:r=t%86400):At t ⟨y,m,d,r/3600,r%3600/60,r%60,wk⟩:=by
 refine⟨⟨d0,d1,?_,?_,?_,?_,?_,?_⟩,?_,?_⟩
 ·show 0<=r/3600;omega
 ·show r/3600<=23;omega
 ·show 0<=r%3600/60;omega
 ·show r%3600/60<=59;omega
 ·show 0<=r%60;omega
 ·show r%60<=59;omega
 ·unfold secOf
  show dayno y m d*86400+(r/3600*3600+r%3600/60*60+r%60)=t
  omega
 ·show wk=(dayno y m d+4)%7
  rw[hd];exact hw
def nextC (c:Civ):Civ:=
 if c.second+1<60 then {c with second:=c.second+1}
 else if c.minute+1<60 then {c with second:=0,minute:=c.minute+1}
 else if c.hour+1<24 then {c with second:=0,minute:=0,hour:=c.hour+1}
 else if c.day+1<=mdays c.year c.month then {c with second:=0,minute:=0,hour:=0,week:=(c.week+1)%7,day:=c.day+1}
 else if c.month+1<=12 then {c with second:=0,minute:=0,hour:=0,week:=(c.week+1)%7,day:=1,month:=c.month+1}
 else {c with second:=0,minute:=0,hour:=0,week:=(c.week+1)%7,day:=1,month:=1,year:=c.year+1}
theorem At.next {t:Int}{c:Civ}(h:At t c):At (t+1) (nextC c):=by
 obtain⟨f,e,w⟩:=h
 have m0:=f.m0
 have m1:=f.m1
 obtain⟨d0,d1,a1,a2,a3,a4,a5,a6⟩:=f
 obtain⟨y,m,d,hh,mi,s,wk⟩:=c
 simp only[secOf] at *
 unfold nextC
 simp only
 split
 ·exact⟨⟨d0,d1,a1,a2,a3,a4,by simp only;omega,by simp only;omega⟩,by simp only[secOf];omega,w⟩
 split
 ·exact⟨⟨d0,d1,a1,a2,by simp only;omega,by simp only;omega,by simp only;omega,by simp only;omega⟩,by simp only[secOf];omega,w⟩
 split
 ·exact⟨⟨d0,d1,by simp only;omega,by simp only;omega,by simp only;omega,by simp only;omega,by simp only;omega,by simp only;omega⟩,by simp only[secOf];omega,w⟩
 split
 ·rename_i k
  have hd:dayno y m (d+1)=dayno y m d+1:=by unfold dayno;omega
  exact⟨⟨by simp only;omega,k,by simp only;omega,by simp only;omega,by simp only;omega,by simp only;omega,by simp only;omega,by simp only;omega⟩,by simp only[secOf];rw[hd];omega,by simp only;rw[hd,w];omega⟩
 split
 ·rename_i k
  have hd:dayno y (m+1) 1=dayno y m d+1:=by unfold dayno;rw[cum_succ y m m0 m1];omega
  have hp:=mdays_pos y (m+1) (by omega) k
  exact⟨⟨by simp only;omega,by simp only;omega,by simp only;omega,by simp only;omega,by simp only;omega,by simp only;omega,by simp only;omega,by simp only;omega⟩,by simp only[secOf];rw[hd];omega,by simp only;rw[hd,w];omega⟩
 ·obtain rfl:m=12:=by omega
  have hc:=cum_succ y 12 (by omega) (by omega)
  rw[show (12:Int)+1=13 from rfl,cum_end] at hc
  have hd:dayno (y+1) 1 1=dayno y 12 d+1:=by unfold dayno;rw[ahead_succ,cum_one];omega
  have hp:=mdays_pos (y+1) 1 (by omega) (by omega)
  exact⟨⟨by simp only;omega,by simp only;omega,by simp only;omega,by simp only;omega,by simp only;omega,by simp only;omega,by simp only;omega,by simp only;omega⟩,by simp only[secOf];rw[hd];omega,by simp only;rw[hd,w];omega⟩
end Go.Proofs.YtbgomckkockemaaGreatDoor
end
section
namespace Go.Proofs.YtbgomckkockemaaGreatDoor
open Go.RowKit
theorem tmod_zero (y:Int)(n:Int):(y%n=0)=(y.tmod n=0):=by
 apply propext
 rw[<-Int.dvd_iff_tmod_eq_zero,<-Int.dvd_iff_emod_eq_zero]
theorem leap_eq (y:Int):leap y=((y.tmod 4==0)&&((y.tmod 100 != 0)||(y.tmod 400==0))):=by
 unfold leap
 simp only[ne_eq,tmod_zero,Bool.decide_and,Bool.decide_or,decide_not]
 rfl
theorem leap_400 (y:Int)(h:y.tmod 400=0):leap y=true:=by
 rw[<-tmod_zero] at h
 unfold leap
 exact decide_eq_true (by omega)
theorem leap_not400 (y:Int)(h:¬ y.tmod 400=0):leap y=((y.tmod 4==0)&&(y.tmod 100 != 0)):=by
 rw[leap_eq,beq_eq_false_iff_ne.2 h,Bool.or_false]
set_option maxHeartbeats 400000 in
theorem Leap_any (y:Int)(w:World):Calls Tryz.prog 316 #[.int .i64 y] w fun e w'=>e=.returned (.bool (leap y))/\w=w':=by
 rw[leap_eq]
 go_enter Tryz.func316,Tryz.ntmps316
 go_wp2_with fail
 all_goals
  go_ret
  simp[*]
set_option maxHeartbeats 400000 in
theorem rLeap_any (y:Int)(w:World):Calls Tryz.prog 293 #[.int .i64 y] w fun e w'=>e=.returned (.bool (leap y))/\w=w':=by
 by_cases h:y.tmod 400=0
 ·rw[leap_400 y h]
  go_enter Tryz.func293,Tryz.ntmps293
  go_wp2_with fail
  all_goals
   go_ret
   simp[*]
 ·rw[leap_not400 y h]
  go_enter Tryz.func293,Tryz.ntmps293
  go_wp2_with fail
  all_goals
   go_ret
   simp[*]
def lens:List Int:=[31,28,31,30,31,30,31,31,30,31,30,31]
abbrev lenCells:List Value:=[.int .i64 31,.int .i64 28,.int .i64 31,.int .i64 30,.int .i64 31,.int .i64 30,.int .i64 31,.int .i64 31,.int .i64 30,.int .i64 31,.int .i64 30,.int .i64 31]
def LenAt (w:World):Prop:=w.rangeAt 2 0 lenCells/\2<w.heap.size
theorem LenAt.later {w w':World}(h:LenAt w)(hb:Below w.heap.size w w'):LenAt w':=
 ⟨fun j v hv=>(hb.cell (p:=⟨2,0+j,none⟩) h.2).trans (h.1 j v hv),Nat.lt_of_lt_of_le h.2 hb.size⟩
theorem LenAt.cell {w:World}(h:LenAt w)(j:Nat)(v:Value)(hv:lenCells[j]? = some v):w.cell? ⟨2,j,none⟩=some v:=by
 have:=h.1 j v hv
 rwa [Nat.zero_add] at this
theorem mdays_at (y m:Int)(h0:1<=m)(h1:m<=12)(h2:¬ m=2):lenCells[(m-1).toNat]? = some (.int .i64 (mdays y m)):=by
 have:m=1\/m=3\/m=4\/m=5\/m=6\/m=7\/m=8\/m=9\/m=10\/m=11\/m=12:=by omega
 rcases this with rfl | rfl | rfl | rfl | rfl | rfl | rfl | rfl | rfl | rfl | rfl<;>rfl
set_option maxHeartbeats 400000 in
theorem Days_any (y m:Int)(w:World)(hL:LenAt w):Calls Tryz.prog 292 #[.int .i64 y,.int .i64 m] w fun e w'=>e=.returned (.int .i64 (mdays y m))/\w=w':=by
 by_cases h1:m<1
 ·rw[mdays_none y m (by omega)]
  go_enter Tryz.func292,Tryz.ntmps292
  go_wp2_with fail
  go_ret
  simp
 by_cases h2:12<m
 ·rw[mdays_none y m (by omega)]
  go_enter Tryz.func292,Tryz.ntmps292
  go_wp2_with fail
  go_ret
  simp
 have hl:=Leap_any y
 by_cases h3:m=2
 ·subst h3
  have c1:=hL.cell 1 _ rfl
  have hm:mdays y 2=28+more y:=rfl
  cases hy:leap y
  ·have:more y=0:=by unfold more;rw[hy];rfl
   rw[hy] at hl
   rw[hm,this]
   clear hm this hy
   go_enter Tryz.func292,Tryz.ntmps292
   go_wp2_with fail
   refine(hl _).mono ?_
   rintro e w1 ⟨rfl,rfl⟩
   go_wp2_with fail
   go_ret
   simp
  ·have:more y=1:=by unfold more;rw[hy];rfl
   rw[hy] at hl
   rw[hm,this]
   clear hm this hy
   go_enter Tryz.func292,Tryz.ntmps292
   go_wp2_with fail
   refine(hl _).mono ?_
   rintro e w1 ⟨rfl,rfl⟩
   go_wp2_with fail
   go_ret
   simp
 ·have c1:=hL.cell _ _ (mdays_at y m (by omega) (by omega) h3)
  generalize mdays y m=x at *
  obtain⟨k,rfl⟩:∃ k:Nat,m=(k:Int)+1:=⟨(m-1).toNat,by omega⟩
  rw[show ((k:Int)+1-1).toNat=k by omega] at c1
  go_enter Tryz.func292,Tryz.ntmps292
  go_wp2_with fail
  go_ret
  simp
set_option maxHeartbeats 400000 in
theorem rDays_any (y m:Int)(w:World):Calls Tryz.prog 244 #[.int .i64 y,.int .i64 m] w fun e w'=>e=.returned (.int .i64 (mdays y m))/\w=w':=by
 have hl:=rLeap_any y
 by_cases h3:m=2
 ·subst h3
  have hm:mdays y 2=28+more y:=rfl
  cases hy:leap y
  ·have:more y=0:=by unfold more;rw[hy];rfl
   rw[hy] at hl
   rw[hm,this]
   clear hm this hy
   go_enter Tryz.func244,Tryz.ntmps244
   go_wp2_with fail
   refine(hl _).mono ?_
   rintro e w1 ⟨rfl,rfl⟩
   go_wp2_with fail
   go_ret
   simp
  ·have:more y=1:=by unfold more;rw[hy];rfl
   rw[hy] at hl
   rw[hm,this]
   clear hm this hy
   go_enter Tryz.func244,Tryz.ntmps244
   go_wp2_with fail
   refine(hl _).mono ?_
   rintro e w1 ⟨rfl,rfl⟩
   go_wp2_with fail
   go_ret
   simp
 ·by_cases hr:1<=m/\m<=12
  ·have hm:=mdays_at y m hr.1 hr.2 h3
   have:m=1\/m=3\/m=4\/m=5\/m=6\/m=7\/m=8\/m=9\/m=10\/m=11\/m=12:=by omega
   generalize mdays y m=x at *
   clear hl hr h3
   rcases this with rfl | rfl | rfl | rfl | rfl | rfl | rfl | rfl | rfl | rfl | rfl
   all_goals
    cases hm
    go_enter Tryz.func244,Tryz.ntmps244
    go_wp2_with fail
    go_ret
    simp
  ·rw[mdays_none y m (by omega)]
   have b1:(m==1)=false:=beq_eq_false_iff_ne.2 (by omega)
   have b2:(m==2)=false:=beq_eq_false_iff_ne.2 (by omega)
   have b3:(m==3)=false:=beq_eq_false_iff_ne.2 (by omega)
   have b4:(m==4)=false:=beq_eq_false_iff_ne.2 (by omega)
   have b5:(m==5)=false:=beq_eq_false_iff_ne.2 (by omega)
   have b6:(m==6)=false:=beq_eq_false_iff_ne.2 (by omega)
   have b7:(m==7)=false:=beq_eq_false_iff_ne.2 (by omega)
   have b8:(m==8)=false:=beq_eq_false_iff_ne.2 (by omega)
   have b9:(m==9)=false:=beq_eq_false_iff_ne.2 (by omega)
   have b10:(m==10)=false:=beq_eq_false_iff_ne.2 (by omega)
   have b11:(m==11)=false:=beq_eq_false_iff_ne.2 (by omega)
   have b12:(m==12)=false:=beq_eq_false_iff_ne.2 (by omega)
   clear hr h3 hl
   go_enter Tryz.func244,Tryz.ntmps244
   go_wp2_with fail
   go_ret
   simp
theorem floor_pos (n d q r:Int)(hd:0<d)(e:d*q+r=n)(h0:0<=r)(h1:r<d):n/d=q/\n%d=r:=
 (Int.ediv_emod_unique hd).2 ⟨by omega,h0,h1⟩
theorem floor_neg (n d q r:Int)(hd:0<d)(e:d*q+r=n)(h0:r<0)(h1 : -d<r):n/d=q-1/\n%d=r+d:=
 (Int.ediv_emod_unique hd).2 ⟨by rw[Int.mul_sub];omega,by omega,by omega⟩
theorem tmod_range (n d:Int)(hd:0<d): -d<n.tmod d/\n.tmod d<d:=by
 have h1:=Int.tmod_lt_of_pos n hd
 have h2:=Int.tmod_lt_of_pos (-n) hd
 rw[Int.neg_tmod] at h2
 omega
theorem tdiv_range (n d:Int)(hd:1<d)(n0 : -9223372036854775808<=n)(n1:n<9223372036854775808): -4611686018427387904<=n.tdiv d/\n.tdiv d<4611686018427387904:=by
 by_cases h:0<=n
 ·rw[Int.tdiv_eq_ediv_of_nonneg h]
  have h1:=Int.ediv_lt_of_lt_mul (a:=n) (b:=4611686018427387904) (c:=d) (by omega) (by omega)
  have h2:=Int.ediv_nonneg h (show 0<=d by omega)
  omega
 ·have e:n.tdiv d = -((-n)/d):=by rw[<-Int.tdiv_eq_ediv_of_nonneg (show 0 <= -n by omega),Int.neg_tdiv,Int.neg_neg]
  have h1:=Int.ediv_le_of_le_mul (a:=-n) (b:=4611686018427387904) (c:=d) (by omega) (by omega)
  have h2:=Int.ediv_nonneg (show 0 <= -n by omega) (show 0<=d by omega)
  rw[e]
  omega
theorem world_same (w:World):Below w.heap.size w w:=Below.refl _ _
set_option maxHeartbeats 400000 in
theorem split_any (n d:Int)(n0 : -9223372036854775808<=n)(n1:n<9223372036854775808)(d0:1<d)(d1:d<1000000)(w:World):
 Calls Tryz.prog 237 #[.int .i64 n,.int .i64 d] w fun e w'=>e=.returned (.tuple #[.int .i64 (n/d),.int .i64 (n%d)])/\Below w.heap.size w w':=by
 have e:=Int.mul_tdiv_add_tmod n d
 have r:=tmod_range n d (by omega)
 have q:=tdiv_range n d d0 n0 n1
 have z:(d==0)=false:=beq_eq_false_iff_ne.2 (by omega)
 have z1:(d == -1)=false:=beq_eq_false_iff_ne.2 (by omega)
 have wr:IntKind.i64.wrap (n.tdiv d)=n.tdiv d:=by rw[IntKind.wrap_i64];omega
 by_cases h:n.tmod d<0
 ·rw[(floor_neg n d _ _ (by omega) e h r.1).1,(floor_neg n d _ _ (by omega) e h r.1).2]
  have E:Hid _:=e
  clear e
  obtain⟨r0,r1⟩:=r
  obtain⟨q0,q1⟩:=q
  go_enter Tryz.func237,Tryz.ntmps237
  go_wp2_with fail
  go_quiet (fail)
  go_wp2_with fail
  go_ret2
  exact⟨rfl,⟨rfl,rfl,rfl,Nat.le_refl _,fun _ _=>rfl⟩⟩
 ·rw[(floor_pos n d _ _ (by omega) e (by omega) r.2).1,(floor_pos n d _ _ (by omega) e (by omega) r.2).2]
  have E:Hid _:=e
  clear e
  obtain⟨r0,r1⟩:=r
  obtain⟨q0,q1⟩:=q
  go_enter Tryz.func237,Tryz.ntmps237
  go_wp2_with fail
  go_quiet (fail)
  go_wp2_with fail
  go_ret2
  exact⟨rfl,⟨rfl,rfl,rfl,Nat.le_refl _,fun _ _=>rfl⟩⟩
set_option maxHeartbeats 400000 in
theorem Over_any (n d:Int)(n0 : -9223372036854775808<=n)(n1:n<9223372036854775808)(d0:1<d)(d1:d<1000000)(w:World):
 Calls Tryz.prog 242 #[.int .i64 n,.int .i64 d] w fun e w'=>e=.returned (.tuple #[.int .i64 (n/d),.int .i64 (n%d)])/\Below w.heap.size w w':=by
 have e:=Int.mul_tdiv_add_tmod n d
 have r:=tmod_range n d (by omega)
 have q:=tdiv_range n d d0 n0 n1
 have z:(d==0)=false:=beq_eq_false_iff_ne.2 (by omega)
 have z1:(d == -1)=false:=beq_eq_false_iff_ne.2 (by omega)
 have wr:IntKind.i64.wrap (n.tdiv d)=n.tdiv d:=by rw[IntKind.wrap_i64];omega
 by_cases h:n.tmod d<0
 ·rw[(floor_neg n d _ _ (by omega) e h r.1).1,(floor_neg n d _ _ (by omega) e h r.1).2]
  have E:Hid _:=e
  clear e
  obtain⟨r0,r1⟩:=r
  obtain⟨q0,q1⟩:=q
  go_enter Tryz.func242,Tryz.ntmps242
  go_wp2_with fail
  go_ret2
  exact⟨rfl,⟨rfl,rfl,rfl,Nat.le_refl _,fun _ _=>rfl⟩⟩
 ·rw[(floor_pos n d _ _ (by omega) e (by omega) r.2).1,(floor_pos n d _ _ (by omega) e (by omega) r.2).2]
  have E:Hid _:=e
  clear e
  obtain⟨r0,r1⟩:=r
  obtain⟨q0,q1⟩:=q
  go_enter Tryz.func242,Tryz.ntmps242
  go_wp2_with fail
  go_ret2
  exact⟨rfl,⟨rfl,rfl,rfl,Nat.le_refl _,fun _ _=>rfl⟩⟩
set_option maxHeartbeats 400000 in
theorem ahead_any (y:Int)(y0:0<=y)(y1:y<=1000)(w:World):
 Calls Tryz.prog 291 #[.int .i64 y] w fun e w'=>e=.returned (.int .i64 (ahead y))/\w=w':=by
 have e:ahead y=y*365+(y+3).tdiv 4-(y+99).tdiv 100+(y+399).tdiv 400:=by
  rw[Int.tdiv_eq_ediv_of_nonneg (by omega),Int.tdiv_eq_ediv_of_nonneg (by omega),Int.tdiv_eq_ediv_of_nonneg (by omega)]
  rfl
 rw[e]
 clear e
 have h1:0<=(y+3).tdiv 4/\(y+3).tdiv 4<=10000:=by rw[Int.tdiv_eq_ediv_of_nonneg (by omega)];omega
 have h2:0<=(y+99).tdiv 100/\(y+99).tdiv 100<=10000:=by rw[Int.tdiv_eq_ediv_of_nonneg (by omega)];omega
 have h3:0<=(y+399).tdiv 400/\(y+399).tdiv 400<=10000:=by rw[Int.tdiv_eq_ediv_of_nonneg (by omega)];omega
 obtain⟨a1,b1⟩:=h1
 obtain⟨a2,b2⟩:=h2
 obtain⟨a3,b3⟩:=h3
 go_enter Tryz.func291,Tryz.ntmps291
 go_wp2_with fail
 go_ret
 simp
set_option maxHeartbeats 400000 in
theorem long_any (y:Int)(w:World):
 Calls Tryz.prog 243 #[.int .i64 y] w fun e w'=>e=.returned (.int .i64 (365+more y))/\w=w':=by
 have hl:=rLeap_any y
 unfold more
 cases hy:leap y
 all_goals
  rw[hy] at hl
  go_enter Tryz.func243,Tryz.ntmps243
  go_wp2_with fail
  refine(hl _).mono ?_
  rintro e w1 ⟨rfl,rfl⟩
  go_wp2_with fail
  go_ret
  simp
abbrev civV (c:Civ):Value:=.agg #[.int .i64 c.year,.int .i64 c.month,.int .i64 c.day,.int .i64 c.hour,.int .i64 c.minute,.int .i64 c.second,.int .i64 c.week]
abbrev civZ:List Value:=[.int .i64 0,.int .i64 0,.int .i64 0,.int .i64 0,.int .i64 0,.int .i64 0,.int .i64 0]
def Dates (w:World)(n:Int)(e:Ending)(w':World):Prop:=
 ∃ y m d wk:Int,e=.returned (civV ⟨y,m,d,0,0,0,wk⟩)/\1<=d/\d<=mdays y m/\dayno y m d=n/\wk=(n+4)%7 /\ -1000000000000<y/\y<1000000000000/\Below w.heap.size w w'
structure YearInv (r z:Int):Prop where
 z0:0<=z
 z1:z<=399
 a:ahead z<=r
theorem yearInv_first (r:Int)(r0:0<=r)(r1:r<146097):YearInv r (r/366):=by
 exact⟨by omega,by omega,by unfold ahead;omega⟩
theorem YearInv.next {r z:Int}(r1:r<146097)(h:YearInv r z)(k:ahead (z+1)<=r):YearInv r (z+1):=by
 refine⟨by have:=h.z0;omega,?_,k⟩
 rcases Int.lt_or_le 399 (z+1) with c | c
 ·have:=ahead_mono (show 400<=z+1 by omega)
  have e:ahead 400=146097:=by decide
  omega
 ·exact c
structure MonthInv (y r m s:Int):Prop where
 m0:1<=m
 m1:m<=12
 s0:0<=s
 e:cum y m+s=r
theorem MonthInv.next {y r m s:Int}(r1:r<365+more y)(h:MonthInv y r m s)(k:mdays y m<=s):MonthInv y r (m+1) (s-mdays y m):=by
 have c:=cum_succ y m h.m0 h.m1
 have e:=h.e
 refine⟨by have:=h.m0;omega,?_,by omega,by omega⟩
 rcases Int.lt_or_le 12 (m+1) with q | q
 ·obtain rfl:m=12:=by have:=h.m1;omega
  rw[show (12:Int)+1=13 from rfl,cum_end] at c
  omega
 ·exact q
theorem dates_end {n cyc r y m s:Int}(ec:n+719528=146097*cyc+r)(hm:MonthInv y (r-ahead y) m s)(hs:s<mdays y m):
 1<=s+1/\s+1<=mdays (cyc*400+y) m/\dayno (cyc*400+y) m (s+1)=n:=by
 have:=hm.s0
 have e:=hm.e
 rw[mdays_cycle]
 refine⟨by omega,by omega,?_⟩
 unfold dayno
 rw[ahead_cycle,cum_cycle]
 omega
set_option maxHeartbeats 800000 in
theorem date_any (n:Int)(n0 : -200000000000000<=n)(n1:n<=200000000000000)(w:World)(hL:LenAt w):
 Calls Tryz.prog 238 #[.int .i64 n] w (Dates w n):=by
 obtain⟨xb,l0⟩:=one_box w 178 (civZ)
 have hL:=hL.later l0
 go_enter Tryz.func238,Tryz.ntmps238
 go_wp2_with fail
 refine(split_any (n+719528) 146097 (by omega) (by omega) (by omega) (by omega) _).mono ?_
 rintro e w1 ⟨rfl,hb1⟩
 have hL:=hL.later hb1
 have xb:=xb.next hb1
 have bl:=l0.trans (hb1.mono l0.size)
 clear hb1 l0
 have r0:0<=(n+719528)%146097:=by omega
 have r1:(n+719528)%146097<146097:=by omega
 have c0 : -2000000000<=(n+719528)/146097:=by omega
 have c1:(n+719528)/146097<=2000000000:=by omega
 have ec:Hid (n+719528=146097*((n+719528)/146097)+(n+719528)%146097):=(Int.mul_ediv_add_emod (n+719528) 146097).symm
 generalize (n+719528)/146097=cyc at *
 generalize (n+719528)%146097=r at *
 go_wp2_with fail
 go_loop [5] (fun y=>∃ z:Int,y=.int .i64 z/\YearInv r z) (fun y=>(400-intOf y).toNat)
 case atStart=>exact⟨_,rfl,yearInv_first r r0 r1⟩
 case round=>
  obtain⟨z,rfl,hz⟩:=hrel
  have z0:=hz.z0
  have z1:=hz.z1
  have ha:=ahead_any (z+1) (by omega) (by omega)
  by_cases hc:ahead (z+1)<=r
  ·have HZ:Hid _:=hz.next r1 hc
   generalize ahead (z+1)=a at *
   go_wp2_with fail
   refine(ha _).mono ?_
   rintro e w2 ⟨rfl,rfl⟩
   go_wp2_with fail
   go_round
   case rel=>exact⟨_,rfl,HZ.out⟩
   case measure=>simp[intOf];omega
  ·have hb:=ahead_any z (by omega) (by omega)
   have b0:=hz.a
   have b1:=ahead_mono z0
   rw[show ahead 0=0 by decide] at b1
   have HM:Hid (r-ahead z<365+more z):=by have:=ahead_succ z;show _<_;omega
   have HZ:Hid _:=hz
   have HE:=@dates_end n cyc r z
   generalize ahead (z+1)=a at *
   generalize ahead z=b at *
   go_wp2_with fail
   refine(ha _).mono ?_
   rintro e w2 ⟨rfl,rfl⟩
   go_wp2_with fail
   refine(hb _).mono ?_
   rintro e w2 ⟨rfl,rfl⟩
   go_wp2_with fail
   go_loop [4,6] (fun s m=>∃ S M:Int,s=.int .i64 S/\m=.int .i64 M/\MonthInv z (r-b) M S/\S<=r-b) (fun _ m=>(13-intOf m).toNat)
   case atStart=>exact⟨_,_,rfl,rfl,⟨by omega,by omega,by omega,by rw[cum_one];omega⟩,by omega⟩
   case round=>
    obtain⟨S,M,rfl,rfl,hm,hS⟩:=hrel
    have m0:=hm.m0
    have m1:=hm.m1
    have s0:=hm.s0
    have hd:=Days_any z M
    have dp:=mdays_pos z M m0 m1
    obtain⟨d0,d1⟩:=dp
    by_cases hk:mdays z M<=S
    ·have HK:Hid _:=hm.next HM.out hk
     generalize mdays z M=D at *
     go_wp2_with fail
     refine(hd _ hL).mono ?_
     rintro e w2 ⟨rfl,rfl⟩
     go_wp2_with fail
     refine(hd _ hL).mono ?_
     rintro e w2 ⟨rfl,rfl⟩
     go_wp2_with fail
     go_round
     case rel=>exact⟨_,_,rfl,rfl,HK.out,by omega⟩
     case measure=>simp[intOf];omega
    ·have HX:Hid _:=HE ec.out hm (by omega)
     generalize mdays z M=D at *
     clear HE
     go_wp2_with fail
     refine(hd _ hL).mono ?_
     rintro e w2 ⟨rfl,rfl⟩
     go_wp2_with fail
     refine(split_any (n+4) 7 (by omega) (by omega) (by omega) (by omega) _).mono ?_
     rintro e w3 ⟨rfl,hb3⟩
     have xb:=xb.next hb3
     have bl:=bl.trans (hb3.mono bl.size)
     obtain⟨o0,o1,o2,o3,o4,o5,o6,g0,g1,g2,g3,g4,g5,g6⟩:=xb.seven
     have k0:0<=(n+4)%7:=by omega
     have k1:(n+4)%7<7:=by omega
     generalize hw:(n+4)%7=wk at k0 k1 ⊢
     have HW:Hid _:=hw
     clear hw
     go_wp2_with fail
     refine bodyPost_ret (v:=civV ⟨cyc*400+z,M,S+1,0,0,0,wk⟩) (by simp[results,Tryz.results238,go_sem,o0,o1,o2,o3,o4,o5,o6]) rfl ?_
     obtain⟨x1,x2,x3⟩:=HX.out
     exact⟨_,_,_,_,rfl,x1,x2,x3,HW.out.symm,by omega,by omega,below_seven bl (Nat.le_refl _) _ _ _ _ _ _ _⟩
def Ofs (w:World)(t:Int)(e:Ending)(w':World):Prop:=
 ∃ c:Civ,e=.returned (civV c)/\At t c /\ -1000000000000<c.year/\c.year<1000000000000/\Below w.heap.size w w'
set_option maxHeartbeats 800000 in
theorem Of_any (t:Int)(t0 : -9223372036854775808<=t)(t1:t<9223372036854775808)(w:World)(hL:LenAt w):
 Calls Tryz.prog 137 #[.int .i64 t] w (Ofs w t):=by
 obtain⟨xb,l0⟩:=one_box w 178 (civZ)
 have hL:=hL.later l0
 have D0 : -200000000000000<=t/86400:=by omega
 have D1:t/86400<=200000000000000:=by omega
 have r0:0<=t%86400:=by omega
 have r1:t%86400<86400:=by omega
 have hs:=split_any t 86400 t0 t1 (by omega) (by omega)
 have AT:=@at_of
 generalize hd:t/86400=n at *
 generalize hr:t%86400=r at *
 have HD:Hid _:=hd
 have HR:Hid _:=hr
 clear hd hr
 go_enter Tryz.func137,Tryz.ntmps137
 go_wp2_with fail
 refine(hs _).mono ?_
 rintro e w1 ⟨rfl,hb1⟩
 have hL:=hL.later hb1
 have xb:=xb.next hb1
 have bl:=l0.trans (hb1.mono l0.size)
 clear hb1 l0 hs
 go_wp2_with fail
 refine(date_any n D0 D1 _ hL).mono ?_
 rintro e w2 ⟨y,m,d,wk,rfl,x1,x2,x3,x4,y0,y1,hb2⟩
 have xb:=xb.next hb2
 have bl:=bl.trans (hb2.mono bl.size)
 clear hb2
 have AA:Hid _:=at_of (wk:=wk) (r:=r) (t:=t) x1 x2 (x3.trans HD.out.symm) (x4.trans (by rw[HD.out])) HR.out.symm
 clear x4 x3 x2 x1
 obtain⟨_,l2⟩:=one_box w2 178 [.int .i64 y,.int .i64 m,.int .i64 d,.int .i64 (r/3600),.int .i64 (r%3600/60),.int .i64 (r%60),.int .i64 wk]
 have xb:=xb.next l2
 have bl:=bl.trans (l2.mono bl.size)
 obtain⟨o0,o1,o2,o3,o4,o5,o6,g0,g1,g2,g3,g4,g5,g6⟩:=xb.seven
 go_wp2_with fail
 refine bodyPost_ret (v:=civV ⟨y,m,d,r/3600,r%3600/60,r%60,wk⟩) (by simp[results,Tryz.results137,go_sem,o0,o1,o2,o3,o4,o5,o6]) rfl ?_
 exact⟨_,rfl,AA.out,y0,y1,below_seven bl (Nat.le_refl _) _ _ _ _ _ _ _⟩
structure Civ.Fits (c:Civ):Prop where
 y0 : -9223372036854775808<=c.year
 y1:c.year<9223372036854775808
 m0 : -9223372036854775808<=c.month
 m1:c.month<9223372036854775808
 d0 : -9223372036854775808<=c.day
 d1:c.day<9223372036854775808
 h0 : -9223372036854775808<=c.hour
 h1:c.hour<9223372036854775808
 n0 : -9223372036854775808<=c.minute
 n1:c.minute<9223372036854775808
 s0 : -9223372036854775808<=c.second
 s1:c.second<9223372036854775808
 w0 : -9223372036854775808<=c.week
 w1:c.week<9223372036854775808
abbrev civCells (c:Civ):List Value:=[.int .i64 c.year,.int .i64 c.month,.int .i64 c.day,.int .i64 c.hour,.int .i64 c.minute,.int .i64 c.second,.int .i64 c.week]
def formedB (c:Civ):Bool:=
 (((decide (1<=c.day)&&decide (c.day<=mdays c.year c.month))&&(decide (0<=c.hour)&&decide (c.hour<=23)))&&(decide (0<=c.minute)&&decide (c.minute<=59)))&&(decide (0<=c.second)&&decide (c.second<=59))
theorem formedB_iff (c:Civ):formedB c=true↔Formed c:=by
 unfold formedB
 simp only[Bool.and_eq_true,decide_eq_true_eq]
 constructor
 ·rintro⟨⟨⟨⟨a,b⟩,d,e⟩,f,g⟩,h,i⟩
  exact⟨a,b,d,e,f,g,h,i⟩
 ·rintro⟨a,b,d,e,f,g,h,i⟩
  exact⟨⟨⟨⟨a,b⟩,d,e⟩,f,g⟩,h,i⟩
theorem below_drewN {B:Nat}{a w:World}(h:Below B a w)(n:Nat):Below B a (w.drewN n):=⟨h.os,h.tape,h.output,h.size,h.block⟩
theorem LenAt.drewN {w:World}(h:LenAt w)(n:Nat):LenAt (w.drewN n):=h.later (below_drewN (Below.refl _ _) n)
theorem bit_and_one (S n:Nat)(hS:S<18446744073709551616):(bits .and .u64 ((S:Int)/2^min n 64) 1==1)=S.testBit n:=by
 have e0:(S:Int)/2^min n 64=((S/2^min n 64:Nat):Int):=by simp
 have hd:S/2^min n 64<=S:=Nat.div_le_self _ _
 have e1:=bits_and_u64_nat (S/2^min n 64) 1 (by omega) (by decide)
 rw[e0,show (1:Int)=((1:Nat):Int) from rfl,e1,Nat.and_one_is_mod,Nat.testBit_eq_decide_div_mod_eq]
 have e2:S/2^min n 64%2=S/2^n%2:=by
  rcases Nat.le_total n 64 with h | h
  ·rw[Nat.min_eq_left h]
  ·rw[Nat.min_eq_right h,Nat.div_eq_of_lt (show S<2^64 from hS),Nat.div_eq_of_lt (Nat.lt_of_lt_of_le (show S<2^64 from hS) (Nat.pow_le_pow_right (by decide) h))]
 rw[e2]
 rcases Nat.mod_two_eq_zero_or_one (S/2^n) with h | h<;>rw[h]<;>rfl
theorem holds_any (S n:Nat)(hS:S<18446744073709551616)(_hn:n<=1000)(w:World):
 Calls Tryz.prog 138 #[.int .u64 S,.int .i64 n] w fun e w'=>e=.returned (.bool (S.testBit n))/\w=w':=by
 have hb:=bit_and_one S n hS
 go_enter Tryz.func138,Tryz.ntmps138
 go_wp2_with fail
 go_ret
 exact⟨rfl,rfl⟩
structure Date (D:Int)(d:Civ):Prop where
 d0:1<=d.day
 d1:d.day<=mdays d.year d.month
 no:dayno d.year d.month d.day=D
 wk:d.week=(D+4)%7
theorem At.parts {t:Int}{d:Civ}(h:At t d):dayno d.year d.month d.day=t/86400/\d.hour*3600+d.minute*60+d.second=t%86400:=by
 have e:=h.t
 unfold secOf at e
 have:=h.f.h0;have:=h.f.h1;have:=h.f.n0;have:=h.f.n1;have:=h.f.s0;have:=h.f.s1
 omega
theorem At.date {t:Int}{d:Civ}(h:At t d):Date (t/86400) d:=
 ⟨h.f.d0,h.f.d1,h.parts.1,by rw[<-h.parts.1];exact h.w⟩
theorem Date.same {D:Int}{d e:Civ}(h:Date D d)(k:Date D e):d.day=e.day/\d.month=e.month/\d.week=e.week:=by
 obtain⟨x,y,z⟩:=date_unique h.d0 h.d1 k.d0 k.d1 (h.no.trans k.no.symm)
 exact⟨z,y,h.wk.trans k.wk.symm⟩
theorem Date.m0 {D:Int}{d:Civ}(h:Date D d):1<=d.month:=(month_of_day h.d0 h.d1).1
theorem Date.m1 {D:Int}{d:Civ}(h:Date D d):d.month<=12:=(month_of_day h.d0 h.d1).2
theorem Date.day31 {D:Int}{d:Civ}(h:Date D d):d.day<=31:=by have:=h.d1;have:=mdays_bounds d.year d.month;omega
def dayB (c:Cr)(d:Civ):Bool:=c.c.testBit d.day.toNat&&c.d.testBit d.month.toNat&&c.e.testBit d.week.toNat
def minB (c:Cr)(m:Nat):Bool:=c.b.testBit (m/60)&&c.a.testBit (m%60)
def namesB (c:Cr)(d:Civ):Bool:=c.a.testBit d.minute.toNat&&c.b.testBit d.hour.toNat&&dayB c d
def Named (c:Cr)(t:Int):Prop:=∃ d,At t d/\namesB c d=true
theorem Date.dayB_eq {D:Int}{d e:Civ}(h:Date D d)(k:Date D e)(c:Cr):dayB c d=dayB c e:=by
 obtain⟨x,y,z⟩:=h.same k
 unfold dayB;rw[x,y,z]
theorem At.min {t:Int}{d:Civ}(h:At t d):(t%86400/60).toNat/60=d.hour.toNat/\(t%86400/60).toNat%60=d.minute.toNat:=by
 have e:=h.parts.2
 have:=h.f.h0;have:=h.f.h1;have:=h.f.n0;have:=h.f.n1;have:=h.f.s0;have:=h.f.s1
 omega
theorem At.namesB_eq {t:Int}{d:Civ}(h:At t d)(c:Cr):namesB c d=(minB c (t%86400/60).toNat&&dayB c d):=by
 unfold namesB minB
 rw[h.min.1,h.min.2,Bool.and_comm (c.a.testBit _)]
theorem Named.parts {c:Cr}{t:Int}{e:Civ}(h:Named c t)(k:Date (t/86400) e):dayB c e=true/\minB c (t%86400/60).toNat=true:=by
 obtain⟨d,hd,hn⟩:=h
 rw[hd.namesB_eq,Bool.and_eq_true] at hn
 exact⟨by rw[k.dayB_eq hd.date];exact hn.2,hn.1⟩
theorem Named.of {c:Cr}{t:Int}{e:Civ}(k:Date (t/86400) e)(h1:dayB c e=true)(h2:minB c (t%86400/60).toNat=true):Named c t:=by
 have ha:=at_of (r:=t%86400) (t:=t) k.d0 k.d1 k.no k.wk rfl
 refine⟨_,ha,?_⟩
 rw[ha.namesB_eq,h2,ha.date.dayB_eq k]
 simpa using h1
theorem Named.iff {c:Cr}{t:Int}{d:Civ}(h:At t d):Named c t↔namesB c d=true:=
 ⟨fun ⟨e,he,hn⟩=>by rw[h.unique he];exact hn,fun hn=>⟨d,h,hn⟩⟩
theorem holds_int (S:Nat)(n:Int)(hS:S<18446744073709551616)(h0:0<=n)(h1:n<=1000)(w:World):
 Calls Tryz.prog 138 #[.int .u64 S,.int .i64 n] w fun e w'=>e=.returned (.bool (S.testBit n.toNat))/\w=w':=by
 have:=holds_any S n.toNat hS (by omega) w
 rwa [Int.toNat_of_nonneg h0] at this
set_option maxRecDepth 20000 in
set_option maxHeartbeats 2000000 in
theorem namesDay_any (c:Cr)(fc:c.Fits)(d:Civ){D:Int}(hd:Date D d)(w:World):
 Calls Tryz.prog 139 #[cronV c,civV d] w fun e w'=>e=.returned (.bool (dayB c d))/\Below w.heap.size w w':=by
 have d0:=hd.d0
 have d1:=hd.day31
 have m0:=hd.m0
 have m1:=hd.m1
 have wk:=hd.wk
 have h1:=fun wx=>holds_int c.c d.day fc.c (by omega) (by omega) wx
 have h2:=fun wx=>holds_int c.d d.month fc.d (by omega) (by omega) wx
 have h3:=fun wx=>holds_int c.e d.week fc.e (by omega) (by omega) wx
 obtain⟨cb,xb,l0⟩:=two_boxes w 99 178 (u5 c.a c.b c.c c.d c.e) (civCells d)
 unfold dayB
 generalize c.c.testBit d.day.toNat=b1 at *
 generalize c.d.testBit d.month.toNat=b2 at *
 generalize c.e.testBit d.week.toNat=b3 at *
 have H1:Hid _:=h1
 have H2:Hid _:=h2
 have H3:Hid _:=h3
 clear h1 h2 h3 d0 d1 m0 m1 wk hd
 cases b1 with
 | false=>
   go_enter Tryz.func139,Tryz.ntmps139
   go_wp2_with fail
   refine(H1.out _).mono ?_
   rintro e w1 ⟨rfl,rfl⟩
   go_wp2_with fail
   go_ret
   exact⟨rfl,l0⟩
 | true=>
   cases b2 with
   | false=>
     go_enter Tryz.func139,Tryz.ntmps139
     go_wp2_with fail
     refine(H1.out _).mono ?_
     rintro e w1 ⟨rfl,rfl⟩
     go_wp2_with fail
     refine(H2.out _).mono ?_
     rintro e w1 ⟨rfl,rfl⟩
     go_wp2_with fail
     go_ret
     exact⟨rfl,l0⟩
   | true=>
     go_enter Tryz.func139,Tryz.ntmps139
     go_wp2_with fail
     refine(H1.out _).mono ?_
     rintro e w1 ⟨rfl,rfl⟩
     go_wp2_with fail
     refine(H2.out _).mono ?_
     rintro e w1 ⟨rfl,rfl⟩
     go_wp2_with fail
     refine(H3.out _).mono ?_
     rintro e w1 ⟨rfl,rfl⟩
     go_wp2_with fail
     go_ret
     exact⟨rfl,l0⟩
def NamesPost (b:Bool)(w:World)(e:Ending)(w':World):Prop:=e=.returned (.bool b)/\Below w.heap.size w w'
set_option maxRecDepth 20000 in
set_option maxHeartbeats 2000000 in
theorem Names_any (c:Cr)(fc:c.Fits)(t:Int)(t0 : -9223372036854775808<=t)(t1:t<9223372036854775808)(b:Bool)(hb:b=true↔Named c t)(w:World)(hL:LenAt w):
 Calls Tryz.prog 79 #[cronV c,.int .i64 t] w (NamesPost b w):=by
 obtain⟨cb,l0⟩:=one_box w 99 (u5 c.a c.b c.c c.d c.e)
 have hO:=fun wx hx=>Of_any t t0 t1 wx hx
 have hL0:=hL.later l0
 have HO:Hid _:=hO
 have HB:Hid _:=hb
 clear hO hb
 go_enter Tryz.func79,Tryz.ntmps79
 go_wp2_with fail
 refine(HO.out _ hL0).mono ?_
 rintro e w1 ⟨d,rfl,hat,y0,y1,hb1⟩
 have hbd:b=namesB c d:=by rw[Bool.eq_iff_iff,HB.out,Named.iff hat]
 have f:=hat.f
 have h0:=f.h0;have h1:=f.h1;have n0:=f.n0;have n1:=f.n1
 have g1:=fun wx=>holds_int c.a d.minute fc.a n0 (by omega) wx
 have g2:=fun wx=>holds_int c.b d.hour fc.b h0 (by omega) wx
 have g3:=fun wx=>namesDay_any c fc d hat.date wx
 unfold namesB at hbd
 have cb1:=cb.next hb1
 have bl1:=l0.trans (hb1.mono l0.size)
 obtain⟨xb,l1⟩:=one_box w1 178 (civCells d)
 have cb2:=cb1.next l1
 have bl2:=bl1.trans (l1.mono bl1.size)
 have G1:Hid _:=g1
 have G2:Hid _:=g2
 have G3:Hid _:=g3
 obtain⟨o0,o1,o2,o3,o4,_⟩:=cb2.five
 obtain⟨p0,p1,p2,p3,p4,p5,p6,_⟩:=xb.seven
 clear g1 g2 g3 cb cb1 hL hL0 hb1 l0 f h0 h1 n0 n1 y0 y1
 generalize c.a.testBit d.minute.toNat=b1 at *
 generalize c.b.testBit d.hour.toNat=b2 at *
 generalize dayB c d=b3 at *
 cases b1 with
 | false=>
   subst hbd
   go_wp2_with fail
   refine(G1.out _).mono ?_
   rintro e w2 ⟨rfl,rfl⟩
   go_wp2_with fail
   go_ret
   exact⟨rfl,bl2⟩
 | true=>
   cases b2 with
   | false=>
     subst hbd
     go_wp2_with fail
     refine(G1.out _).mono ?_
     rintro e w2 ⟨rfl,rfl⟩
     go_wp2_with fail
     refine(G2.out _).mono ?_
     rintro e w2 ⟨rfl,rfl⟩
     go_wp2_with fail
     go_ret
     exact⟨rfl,bl2⟩
   | true=>
     have hb3:b=b3:=by simpa using hbd
     clear hbd
     subst hb3
     go_wp2_with fail
     refine(G1.out _).mono ?_
     rintro e w2 ⟨rfl,rfl⟩
     go_wp2_with fail
     refine(G2.out _).mono ?_
     rintro e w2 ⟨rfl,rfl⟩
     go_wp2_with fail
     refine(G3.out _).mono ?_
     rintro e w3 ⟨rfl,hb3⟩
     go_wp2_with fail
     go_ret
     exact⟨rfl,bl2.trans (hb3.mono bl2.size)⟩
end Go.Proofs.YtbgomckkockemaaGreatDoor
end
