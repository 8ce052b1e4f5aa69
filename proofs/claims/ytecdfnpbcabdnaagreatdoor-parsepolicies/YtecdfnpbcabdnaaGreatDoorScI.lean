import Derived.Test.YtecdfnpbcabdnaaGreatDoorBoxes
import Derived.Test.YtecdfnpbcabdnaaGreatDoorMgQ
import Derived.Deep.CutRange
namespace Go.Proofs.YtecdfnpbcabdnaaGreatDoor
open Go.RowKit
abbrev LetP (r:Int):Prop:=(97<=r/\r<=122)\/(65<=r/\r<=90)\/r=95\/(192<=r/\r<=591/\r≠215/\r≠247)
abbrev DigP (r:Int):Prop:=48<=r/\r<=57
abbrev BlaP (r:Int):Prop:=r=32\/r=9\/r=10\/r=13
abbrev InP (r:Int):Prop:=(r=9\/r=10\/r=13)\/(32<=r/\¬(127<=r/\r<=159)/\r≠65279)
def isC (r c:Int):Bool:=if c=1 then decide (LetP r) else if c=2 then decide (DigP r) else if c=3 then decide (LetP r\/DigP r) else if c=4 then decide (BlaP r) else false
theorem lets_in (r:Nat):lets r=decide (InP (r:Int)):=by
 unfold lets
 split
 ·rw[Bool.eq_iff_iff];simp;omega
 ·rw[Bool.eq_iff_iff];simp;omega
set_option maxHeartbeats 1000000 in
theorem isLetter_c (r:Int)(w:World):Calls Tryz.prog 149 #[.int .i32 r] w fun e w'=>e=.returned (.bool (decide (LetP r)))/\w'=w:=by
 obtain⟨b,hb⟩:∃ b:Bool,Hid (b=decide (LetP r)):=⟨_,rfl⟩
 rw[<-hb.out]
 go_enter Tryz.func149,Tryz.ntmps149
 go_wp2
 all_goals go_ret
 all_goals try simp only[beq_eq_false_iff_ne,ne_eq,beq_iff_eq] at *
 all_goals (
  refine⟨?_,by trivial⟩
  show Ending.returned (Value.bool _)=Ending.returned (Value.bool b)
  rw[hb.out]
  refine congrArg (fun b=>Ending.returned (Value.bool b)) ?_
  rw[Bool.eq_iff_iff]
  simp
  try omega)
set_option maxHeartbeats 1000000 in
theorem isDigit_c (r:Int)(w:World):Calls Tryz.prog 150 #[.int .i32 r] w fun e w'=>e=.returned (.bool (decide (DigP r)))/\w'=w:=by
 obtain⟨b,hb⟩:∃ b:Bool,Hid (b=decide (DigP r)):=⟨_,rfl⟩
 rw[<-hb.out]
 go_enter Tryz.func150,Tryz.ntmps150
 go_wp2
 all_goals go_ret
 all_goals (
  refine⟨?_,by trivial⟩
  show Ending.returned (Value.bool _)=Ending.returned (Value.bool b)
  rw[hb.out]
  refine congrArg (fun b=>Ending.returned (Value.bool b)) ?_
  rw[Bool.eq_iff_iff]
  simp
  try omega)
set_option maxHeartbeats 1000000 in
theorem letIn_c (r:Int)(w:World):Calls Tryz.prog 113 #[.int .i32 r] w fun e w'=>e=.returned (.bool (decide (InP r)))/\w'=w:=by
 obtain⟨b,hb⟩:∃ b:Bool,Hid (b=decide (InP r)):=⟨_,rfl⟩
 rw[<-hb.out]
 go_enter Tryz.func113,Tryz.ntmps113
 go_wp2
 all_goals go_ret
 all_goals (
  refine⟨?_,by trivial⟩
  show Ending.returned (Value.bool _)=Ending.returned (Value.bool b)
  rw[hb.out]
  refine congrArg (fun b=>Ending.returned (Value.bool b)) ?_
  rw[Bool.eq_iff_iff]
  simp
  try omega)
set_option maxHeartbeats 1000000 in
theorem rLetIn_c (r:Int)(w:World):Calls Tryz.prog 79 #[.int .i64 r] w fun e w'=>e=.returned (.bool (decide (InP r)))/\w'=w:=by
 obtain⟨b,hb⟩:∃ b:Bool,Hid (b=decide (InP r)):=⟨_,rfl⟩
 rw[<-hb.out]
 go_enter Tryz.func79,Tryz.ntmps79
 go_wp2
 all_goals go_ret
 all_goals try simp only[beq_eq_false_iff_ne,ne_eq,beq_iff_eq] at *
 all_goals (
  refine⟨?_,by trivial⟩
  show Ending.returned (Value.bool _)=Ending.returned (Value.bool b)
  rw[hb.out]
  refine congrArg (fun b=>Ending.returned (Value.bool b)) ?_
  rw[Bool.eq_iff_iff]
  simp
  try omega)
set_option maxHeartbeats 1000000 in
theorem rIs_one (r c:Int)(hr:r=215\/r=247\/r=95)(w:World):Calls Tryz.prog 105 #[.int .i64 r,.int .i64 c] w fun e w'=>e=.returned (.bool (isC r c))/\w'=w:=by
 obtain⟨b,hb⟩:∃ b:Bool,Hid (b=isC r c):=⟨_,rfl⟩
 rw[<-hb.out]
 rcases hr with rfl | rfl | rfl
 all_goals (
  go_enter Tryz.func105,Tryz.ntmps105
  go_wp2_with fail
  all_goals go_ret
  all_goals try simp only[beq_eq_false_iff_ne,ne_eq,beq_iff_eq] at *
  all_goals (
   refine⟨?_,by trivial⟩
   show Ending.returned (Value.bool _)=Ending.returned (Value.bool b)
   rw[hb.out]
   refine congrArg (fun b=>Ending.returned (Value.bool b)) ?_
   unfold isC
   repeat' split
   all_goals first
    | (exfalso;omega)
    | decide
    | rfl))
set_option maxHeartbeats 1000000 in
theorem rIs_c (r c:Int)(w:World):Calls Tryz.prog 105 #[.int .i64 r,.int .i64 c] w fun e w'=>e=.returned (.bool (isC r c))/\w'=w:=by
 by_cases hr:r=215\/r=247\/r=95
 ·exact rIs_one r c hr w
 obtain⟨b,hb⟩:∃ b:Bool,Hid (b=isC r c):=⟨_,rfl⟩
 rw[<-hb.out]
 obtain⟨b1,h1⟩:∃ b1:Bool,Hid (b1=decide ((97<=r/\r<=122)\/(65<=r/\r<=90)\/r=95)):=⟨_,rfl⟩
 obtain⟨b2,h2⟩:∃ b2:Bool,Hid (b2=decide (LetP r)):=⟨_,rfl⟩
 obtain⟨b3,h3⟩:∃ b3:Bool,Hid (b3=decide (DigP r)):=⟨_,rfl⟩
 have q1:(r==215)=false:=beq_eq_false_iff_ne.2 (by omega)
 have q2:(r==247)=false:=beq_eq_false_iff_ne.2 (by omega)
 have q3:(r==95)=false:=beq_eq_false_iff_ne.2 (by omega)
 have q4:(r != 215)=true:=by simp[bne,q1]
 have q5:(r != 247)=true:=by simp[bne,q2]
 have hr2:Hid (r≠215/\r≠247/\r≠95):=show _/\_ by omega
 clear hr
 go_enter Tryz.func105,Tryz.ntmps105
 go_upto_region 1 with fail
 go_cut [5] from 8 (fun s5 wc=>s5=.bool b1/\w=wc)
 case first=>
  go_wp2_with fail
  all_goals go_meet
  all_goals (
   refine⟨?_,by trivial⟩
   rw[h1.out]
   refine congrArg Value.bool ?_
   have:=hr2.out
   rw[Bool.eq_iff_iff]
   simp
   omega)
 case rest=>
  obtain⟨rfl,rfl⟩:=hcut
  go_upto_region 2 with fail
  cases b1
  all_goals (
   go_cut [6] from 8 (fun s6 wc=>s6=.bool b2/\w=wc)
   case first=>
    go_wp2_with fail
    all_goals go_meet
    all_goals (
     refine⟨?_,by trivial⟩
     rw[h2.out]
     refine congrArg Value.bool ?_
     have h1:=h1.out
     have:=hr2.out
     rw[Bool.eq_iff_iff] at h1 ⊢
     simp at h1 ⊢
     omega)
   case rest=>
    obtain⟨rfl,rfl⟩:=hcut
    clear h1
    go_upto_region 3 with fail
    go_cut [7] from 8 (fun s7 wc=>s7=.bool b3/\w=wc)
    case first=>
     go_wp2_with fail
     all_goals go_meet
     all_goals (
      refine⟨?_,by trivial⟩
      rw[h3.out]
      refine congrArg Value.bool ?_
      rw[Bool.eq_iff_iff]
      simp
      try omega)
    case rest=>
     obtain⟨rfl,rfl⟩:=hcut
     go_wp2_with fail
     all_goals go_ret
     all_goals try simp only[beq_eq_false_iff_ne,ne_eq,beq_iff_eq] at *
     all_goals (
      refine⟨?_,by trivial⟩
      show Ending.returned (Value.bool _)=Ending.returned (Value.bool b)
      rw[hb.out]
      refine congrArg (fun b=>Ending.returned (Value.bool b)) ?_
      have h2:=h2.out
      have h3:=h3.out
      unfold isC
      repeat' split
      all_goals first
       | (exfalso;omega)
       | exact h2
       | exact h3
       | rfl
       | (rw[Bool.decide_or,<-h2,<-h3];clear h2 h3;cases b2<;>first | rfl | contradiction)
       | (rw[Bool.eq_iff_iff];simp;done)
       | (rw[Bool.eq_iff_iff];simp;omega)))
end Go.Proofs.YtecdfnpbcabdnaaGreatDoor
