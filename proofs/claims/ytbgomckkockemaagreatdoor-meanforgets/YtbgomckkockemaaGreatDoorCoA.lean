import Derived.Test.YtbgomckkockemaaGreatDoorCoR
import Derived.BigQuiet
namespace Go.Proofs.YtbgomckkockemaaGreatDoor
open Go.RowKit
abbrev soL (b:Nat)(wn cn ln:Int):List Value:=[.slice (some ⟨b,0,none⟩) 33 33,.int .i64 wn,.int .i64 cn,.int .i64 ln]
def belowB (n k:Int):Bool:=decide (0<=n)&&decide (n<k)
def FtC (fn:Nat)(B:Int->Int->Int->Co->Bool):Prop:=∀ (wn cn ln:Int) (b sb:Nat) (c:Co) (ad:Option Addr) (n cap:Nat) (w:World),C64 wn->C64 cn->C64 ln->Box w sb (soL b wn cn ln)->CFit c->Calls Tryz.prog fn #[.pointer (some ⟨sb,0,none⟩),coV c (.slice ad n cap)] w fun e w'=>e=.returned (.bool (B wn cn ln c))/\Below w.heap.size w w'
set_option maxHeartbeats 1000000 in
theorem cbelow_c (n k:Int)(w:World):Calls Tryz.prog 258 #[.int .i64 n,.int .i64 k] w fun e w'=>e=.returned (.bool (belowB n k))/\w'=w:=by
 unfold belowB
 by_cases h1:0<=n
 ·by_cases h2:n<k
  ·rw[decide_eq_true h1,decide_eq_true h2]
   go_enter Tryz.func258,Tryz.ntmps258
   go_wp2_with fail
   go_ret
   exact⟨rfl,rfl⟩
  ·rw[decide_eq_true h1,decide_eq_false h2]
   go_enter Tryz.func258,Tryz.ntmps258
   go_wp2_with fail
   go_ret
   exact⟨rfl,rfl⟩
 ·rw[decide_eq_false h1]
  go_enter Tryz.func258,Tryz.ntmps258
  go_wp2_with fail
  go_ret
  exact⟨rfl,rfl⟩
set_option maxHeartbeats 1000000 in
theorem cplain_f:FtC 184 fun _ _ _ c=>decide (c.n=0)&&(decide (c.m=0)):=by
 intro wn cn ln b sb c ad n cap w hw hc hl hb hf
 have B1:Hid (∀ o,Below w.heap.size w (w.alloc o)):=fun o=>(Below.refl _ _).alloc (Nat.le_refl _) _
 clear hw hc hl hb
 by_cases h0:c.n=0
 case neg=>
  show Calls _ _ _ _ fun e w'=>e=.returned (.bool (decide (c.n=0)&&(decide (c.m=0))))/\_
  rw[decide_eq_false h0]
  have k0:(c.n==0)=false:=by simpa using h0
  go_enter Tryz.func184,Tryz.ntmps184
  go_wp2_with fail
  go_ret
  exact⟨rfl,B1.out _⟩
 by_cases h1:c.m=0
 case neg=>
  show Calls _ _ _ _ fun e w'=>e=.returned (.bool (decide (c.n=0)&&(decide (c.m=0))))/\_
  rw[decide_eq_true h0,decide_eq_false h1]
  have k1:(c.m==0)=false:=by simpa using h1
  go_enter Tryz.func184,Tryz.ntmps184
  go_wp2_with fail
  go_ret
  exact⟨rfl,B1.out _⟩
 show Calls _ _ _ _ fun e w'=>e=.returned (.bool (decide (c.n=0)&&(decide (c.m=0))))/\_
 rw[decide_eq_true h0,decide_eq_true h1]
 go_enter Tryz.func184,Tryz.ntmps184
 go_wp2_with fail
 go_ret
 exact⟨rfl,B1.out _⟩
set_option maxHeartbeats 1000000 in
theorem cany_f:FtC 181 fun _ _ _ c=>decide (c.m=0):=by
 intro wn cn ln b sb c ad n cap w hw hc hl hb hf
 have B1:Hid (∀ o,Below w.heap.size w (w.alloc o)):=fun o=>(Below.refl _ _).alloc (Nat.le_refl _) _
 clear hw hc hl hb
 by_cases h0:c.m=0
 case neg=>
  show Calls _ _ _ _ fun e w'=>e=.returned (.bool (decide (c.m=0)))/\_
  rw[decide_eq_false h0]
  have k0:(c.m==0)=false:=by simpa using h0
  go_enter Tryz.func181,Tryz.ntmps181
  go_wp2_with fail
  go_ret
  exact⟨rfl,B1.out _⟩
 show Calls _ _ _ _ fun e w'=>e=.returned (.bool (decide (c.m=0)))/\_
 rw[decide_eq_true h0]
 go_enter Tryz.func181,Tryz.ntmps181
 go_wp2_with fail
 go_ret
 exact⟨rfl,B1.out _⟩
set_option maxHeartbeats 1000000 in
theorem cfactor_f:FtC 202 fun _ _ _ c=>decide (0<=c.n)&&(decide (1<=c.m)):=by
 intro wn cn ln b sb c ad n cap w hw hc hl hb hf
 have B1:Hid (∀ o,Below w.heap.size w (w.alloc o)):=fun o=>(Below.refl _ _).alloc (Nat.le_refl _) _
 clear hw hc hl hb
 by_cases h0:0<=c.n
 case neg=>
  show Calls _ _ _ _ fun e w'=>e=.returned (.bool (decide (0<=c.n)&&(decide (1<=c.m))))/\_
  rw[decide_eq_false h0]
  go_enter Tryz.func202,Tryz.ntmps202
  go_wp2_with fail
  go_ret
  exact⟨rfl,B1.out _⟩
 by_cases h1:1<=c.m
 case neg=>
  show Calls _ _ _ _ fun e w'=>e=.returned (.bool (decide (0<=c.n)&&(decide (1<=c.m))))/\_
  rw[decide_eq_true h0,decide_eq_false h1]
  go_enter Tryz.func202,Tryz.ntmps202
  go_wp2_with fail
  go_ret
  exact⟨rfl,B1.out _⟩
 show Calls _ _ _ _ fun e w'=>e=.returned (.bool (decide (0<=c.n)&&(decide (1<=c.m))))/\_
 rw[decide_eq_true h0,decide_eq_true h1]
 go_enter Tryz.func202,Tryz.ntmps202
 go_wp2_with fail
 go_ret
 exact⟨rfl,B1.out _⟩
set_option maxHeartbeats 1000000 in
theorem czero_f:FtC 183 fun _ _ _ c=>belowB c.n 2&&decide (c.m=0):=by
 intro wn cn ln b sb c ad n cap w hw hc hl hb hf
 have B1:Hid (∀ o,Below w.heap.size w (w.alloc o)):=fun o=>(Below.refl _ _).alloc (Nat.le_refl _) _
 have HC:=chid (fun W=>cbelow_c c.n 2 W)
 clear hw hc hl hb
 show Calls _ _ _ _ fun e w'=>e=.returned (.bool (belowB c.n 2&&decide (c.m=0)))/\_
 generalize belowB c.n 2=r at *
 cases r with
 | false=>
   go_enter Tryz.func183,Tryz.ntmps183
   go_wp2_with fail
   refine Calls.mono (HC.out _) ?_
   rintro e w1 ⟨rfl,rfl⟩
   go_wp2_with fail
   go_ret
   exact⟨rfl,by first | exact B1.out _ | exact(B1.out _).drew | exact cdrewN (B1.out _) _⟩
 | true=>
   by_cases h1:c.m=0
   ·rw[decide_eq_true h1]
    go_enter Tryz.func183,Tryz.ntmps183
    go_wp2_with fail
    refine Calls.mono (HC.out _) ?_
    rintro e w1 ⟨rfl,rfl⟩
    go_wp2_with fail
    go_ret
    exact⟨rfl,by first | exact B1.out _ | exact(B1.out _).drew | exact cdrewN (B1.out _) _⟩
   ·rw[decide_eq_false h1]
    have k1:(c.m==0)=false:=by simpa using h1
    go_enter Tryz.func183,Tryz.ntmps183
    go_wp2_with fail
    refine Calls.mono (HC.out _) ?_
    rintro e w1 ⟨rfl,rfl⟩
    go_wp2_with fail
    go_ret
    exact⟨rfl,by first | exact B1.out _ | exact(B1.out _).drew | exact cdrewN (B1.out _) _⟩
set_option maxHeartbeats 1000000 in
theorem cwins_f:FtC 186 fun wn _ _ c=>belowB c.n wn&&decide (c.m=0):=by
 intro wn cn ln b sb c ad n cap w hw hc hl hb hf
 have B1:Hid (∀ o,Below w.heap.size w (w.alloc o)):=fun o=>(Below.refl _ _).alloc (Nat.le_refl _) _
 have HC:=chid (fun W=>cbelow_c c.n wn W)
 have s1:=hb.cell 1 _ rfl
 have sl:=hb.lt
 clear hw hc hl hb
 show Calls _ _ _ _ fun e w'=>e=.returned (.bool (belowB c.n wn&&decide (c.m=0)))/\_
 generalize belowB c.n wn=r at *
 cases r with
 | false=>
   go_enter Tryz.func186,Tryz.ntmps186
   go_wp2_with fail
   go_quiet (first|(go_at_call 258;refine Calls.quiet_of_same (HC.out _)))
   go_wp2_with fail
   go_ret
   exact⟨rfl,by first | exact B1.out _ | exact(B1.out _).drew | exact cdrewN (B1.out _) _⟩
 | true=>
   by_cases h1:c.m=0
   ·rw[decide_eq_true h1]
    go_enter Tryz.func186,Tryz.ntmps186
    go_wp2_with fail
    go_quiet (first|(go_at_call 258;refine Calls.quiet_of_same (HC.out _)))
    go_wp2_with fail
    go_ret
    exact⟨rfl,by first | exact B1.out _ | exact(B1.out _).drew | exact cdrewN (B1.out _) _⟩
   ·rw[decide_eq_false h1]
    have k1:(c.m==0)=false:=by simpa using h1
    go_enter Tryz.func186,Tryz.ntmps186
    go_wp2_with fail
    go_quiet (first|(go_at_call 258;refine Calls.quiet_of_same (HC.out _)))
    go_wp2_with fail
    go_ret
    exact⟨rfl,by first | exact B1.out _ | exact(B1.out _).drew | exact cdrewN (B1.out _) _⟩
set_option maxHeartbeats 1000000 in
theorem ccrons_f:FtC 188 fun _ cn _ c=>belowB c.n cn&&decide (c.m=0):=by
 intro wn cn ln b sb c ad n cap w hw hc hl hb hf
 have B1:Hid (∀ o,Below w.heap.size w (w.alloc o)):=fun o=>(Below.refl _ _).alloc (Nat.le_refl _) _
 have HC:=chid (fun W=>cbelow_c c.n cn W)
 have s2:=hb.cell 2 _ rfl
 have sl:=hb.lt
 clear hw hc hl hb
 show Calls _ _ _ _ fun e w'=>e=.returned (.bool (belowB c.n cn&&decide (c.m=0)))/\_
 generalize belowB c.n cn=r at *
 cases r with
 | false=>
   go_enter Tryz.func188,Tryz.ntmps188
   go_wp2_with fail
   go_quiet (first|(go_at_call 258;refine Calls.quiet_of_same (HC.out _)))
   go_wp2_with fail
   go_ret
   exact⟨rfl,by first | exact B1.out _ | exact(B1.out _).drew | exact cdrewN (B1.out _) _⟩
 | true=>
   by_cases h1:c.m=0
   ·rw[decide_eq_true h1]
    go_enter Tryz.func188,Tryz.ntmps188
    go_wp2_with fail
    go_quiet (first|(go_at_call 258;refine Calls.quiet_of_same (HC.out _)))
    go_wp2_with fail
    go_ret
    exact⟨rfl,by first | exact B1.out _ | exact(B1.out _).drew | exact cdrewN (B1.out _) _⟩
   ·rw[decide_eq_false h1]
    have k1:(c.m==0)=false:=by simpa using h1
    go_enter Tryz.func188,Tryz.ntmps188
    go_wp2_with fail
    go_quiet (first|(go_at_call 258;refine Calls.quiet_of_same (HC.out _)))
    go_wp2_with fail
    go_ret
    exact⟨rfl,by first | exact B1.out _ | exact(B1.out _).drew | exact cdrewN (B1.out _) _⟩
set_option maxHeartbeats 1000000 in
theorem clocals_f:FtC 193 fun _ _ ln c=>belowB c.n ln&&decide (c.m=0):=by
 intro wn cn ln b sb c ad n cap w hw hc hl hb hf
 have B1:Hid (∀ o,Below w.heap.size w (w.alloc o)):=fun o=>(Below.refl _ _).alloc (Nat.le_refl _) _
 have HC:=chid (fun W=>cbelow_c c.n ln W)
 have s3:=hb.cell 3 _ rfl
 have sl:=hb.lt
 clear hw hc hl hb
 show Calls _ _ _ _ fun e w'=>e=.returned (.bool (belowB c.n ln&&decide (c.m=0)))/\_
 generalize belowB c.n ln=r at *
 cases r with
 | false=>
   go_enter Tryz.func193,Tryz.ntmps193
   go_wp2_with fail
   go_quiet (first|(go_at_call 258;refine Calls.quiet_of_same (HC.out _)))
   go_wp2_with fail
   go_ret
   exact⟨rfl,by first | exact B1.out _ | exact(B1.out _).drew | exact cdrewN (B1.out _) _⟩
 | true=>
   by_cases h1:c.m=0
   ·rw[decide_eq_true h1]
    go_enter Tryz.func193,Tryz.ntmps193
    go_wp2_with fail
    go_quiet (first|(go_at_call 258;refine Calls.quiet_of_same (HC.out _)))
    go_wp2_with fail
    go_ret
    exact⟨rfl,by first | exact B1.out _ | exact(B1.out _).drew | exact cdrewN (B1.out _) _⟩
   ·rw[decide_eq_false h1]
    have k1:(c.m==0)=false:=by simpa using h1
    go_enter Tryz.func193,Tryz.ntmps193
    go_wp2_with fail
    go_quiet (first|(go_at_call 258;refine Calls.quiet_of_same (HC.out _)))
    go_wp2_with fail
    go_ret
    exact⟨rfl,by first | exact B1.out _ | exact(B1.out _).drew | exact cdrewN (B1.out _) _⟩
set_option maxHeartbeats 1000000 in
theorem creason_f:FtC 190 fun _ _ _ c=>decide (1<=c.n)&&(decide (c.n<=3)&&(decide (c.m=1)||decide (c.m=2))):=by
 intro wn cn ln b sb c ad n cap w hw hc hl hb hf
 have B1:Hid (∀ o,Below w.heap.size w (w.alloc o)):=fun o=>(Below.refl _ _).alloc (Nat.le_refl _) _
 clear hw hc hl hb
 by_cases h0:1<=c.n
 case neg=>
  show Calls _ _ _ _ fun e w'=>e=.returned (.bool (decide (1<=c.n)&&(decide (c.n<=3)&&(decide (c.m=1)||decide (c.m=2)))))/\_
  rw[decide_eq_false h0]
  go_enter Tryz.func190,Tryz.ntmps190
  go_wp2_with fail
  go_ret
  exact⟨rfl,B1.out _⟩
 by_cases h1:c.n<=3
 case neg=>
  show Calls _ _ _ _ fun e w'=>e=.returned (.bool (decide (1<=c.n)&&(decide (c.n<=3)&&(decide (c.m=1)||decide (c.m=2)))))/\_
  rw[decide_eq_true h0,decide_eq_false h1]
  go_enter Tryz.func190,Tryz.ntmps190
  go_wp2_with fail
  go_ret
  exact⟨rfl,B1.out _⟩
 by_cases h2:c.m=1
 case pos=>
  show Calls _ _ _ _ fun e w'=>e=.returned (.bool (decide (1<=c.n)&&(decide (c.n<=3)&&(decide (c.m=1)||decide (c.m=2)))))/\_
  rw[decide_eq_true h0,decide_eq_true h1,decide_eq_true h2]
  go_enter Tryz.func190,Tryz.ntmps190
  go_wp2_with fail
  go_ret
  exact⟨rfl,B1.out _⟩
 have k2:(c.m==1)=false:=by simpa using h2
 by_cases h3:c.m=2
 case pos=>
  show Calls _ _ _ _ fun e w'=>e=.returned (.bool (decide (1<=c.n)&&(decide (c.n<=3)&&(decide (c.m=1)||decide (c.m=2)))))/\_
  rw[decide_eq_true h0,decide_eq_true h1,decide_eq_false h2,decide_eq_true h3]
  go_enter Tryz.func190,Tryz.ntmps190
  go_wp2_with fail
  go_ret
  exact⟨rfl,B1.out _⟩
 have k3:(c.m==2)=false:=by simpa using h3
 show Calls _ _ _ _ fun e w'=>e=.returned (.bool (decide (1<=c.n)&&(decide (c.n<=3)&&(decide (c.m=1)||decide (c.m=2)))))/\_
 rw[decide_eq_true h0,decide_eq_true h1,decide_eq_false h2,decide_eq_false h3]
 go_enter Tryz.func190,Tryz.ntmps190
 go_wp2_with fail
 go_ret
 exact⟨rfl,B1.out _⟩
def fitsB (op:Nat)(wn cn ln:Int)(c:Co):Bool:=
 if op=1 then decide (c.m=0)
 else if op=2 then belowB c.n 2&&decide (c.m=0)
 else if op=4 then belowB c.n wn&&decide (c.m=0)
 else if op=5 then belowB c.n cn&&decide (c.m=0)
 else if op=6 then decide (1<=c.n)&&(decide (c.n<=3)&&(decide (c.m=1)||decide (c.m=2)))
 else if op=7 then belowB c.n ln&&decide (c.m=0)
 else if op=13 then decide (0<=c.n)&&(decide (1<=c.m))
 else decide (c.n=0)&&(decide (c.m=0))
theorem cfits_all:∀ op,1<=op->op<=32->FtC (fitsT.getD op 0) (fitsB op):=
 op_cases cany_f czero_f cplain_f cwins_f ccrons_f creason_f clocals_f cplain_f cplain_f cplain_f cplain_f cplain_f cfactor_f cplain_f cplain_f cplain_f cplain_f cplain_f cplain_f cplain_f cplain_f cplain_f cplain_f cplain_f cplain_f cplain_f cplain_f cplain_f cplain_f cplain_f cplain_f cplain_f
end Go.Proofs.YtbgomckkockemaaGreatDoor
