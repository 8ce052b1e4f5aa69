import Derived.Test.YtecdfnpbcabdnaaGreatDoorScI
import Derived.Test.YtecdfnpbcabdnaaGreatDoorMiH
import Derived.Lib.OthersKept
namespace Go.Proofs.YtecdfnpbcabdnaaGreatDoor
open Go.RowKit
structure TabsAt (w:World):Prop where
 tab:Lib.Utf8Tabs 1 2 w
 lt:2<w.heap.size
theorem TabsAt.next {w w':World}(h:TabsAt w)(hb:Below w.heap.size w w'):TabsAt w':=
 ⟨⟨fun c hc=>by rw[hb.cell (p:=⟨_,c,none⟩) (by have:=h.lt;show 1<_;omega)];exact h.tab.1 c hc,
   fun i hi=>by
    rw[hb.cell (p:=⟨_,2*i,none⟩) (by have:=h.lt;show 2<_;omega),hb.cell (p:=⟨_,2*i+1,none⟩) (by have:=h.lt;show 2<_;omega)]
    exact h.tab.2 i hi⟩,Nat.lt_of_lt_of_le h.lt hb.size⟩
set_option maxHeartbeats 1000000 in
theorem is_c (r c:Int)(w:World):Calls Tryz.prog 132 #[.int .i32 r,.int .i64 c] w fun e w'=>e=.returned (.bool (isC r c))/\w'=w:=by
 obtain⟨b,hb⟩:∃ b:Bool,Hid (b=isC r c):=⟨_,rfl⟩
 rw[<-hb.out]
 obtain⟨b2,h2⟩:∃ b2:Bool,Hid (b2=decide (LetP r)):=⟨_,rfl⟩
 obtain⟨b3,h3⟩:∃ b3:Bool,Hid (b3=decide (DigP r)):=⟨_,rfl⟩
 have L:=isLetter_c r w
 have D:=isDigit_c r w
 rw[<-h2.out] at L
 rw[<-h3.out] at D
 go_enter Tryz.func132,Tryz.ntmps132
 go_wp2_with (first
  | (go_at_call 149;refine L.mono ?_;rintro e w' ⟨rfl,rfl⟩)
  | (go_at_call 150;refine D.mono ?_;rintro e w' ⟨rfl,rfl⟩))
 all_goals go_ret
 all_goals try simp only[beq_eq_false_iff_ne,ne_eq,beq_iff_eq] at *
 all_goals (
  refine⟨?_,by trivial⟩
  show Ending.returned (Value.bool _)=Ending.returned (Value.bool b)
  rw[hb.out]
  refine congrArg (fun b=>Ending.returned (Value.bool b)) ?_
  have h2:=h2.out
  have h3:=h3.out
  unfold isC
  repeat' split
  all_goals first
   | (exfalso;omega)
   | exact h2
   | exact h3
   | rfl
   | (rw[Bool.decide_or,<-h2,<-h3];clear h2 h3;cases b2<;>first | rfl | contradiction)
   | (rw[Bool.eq_iff_iff];simp;done)
   | (rw[Bool.eq_iff_iff];simp;omega))
theorem begins_c (t:ByteArray)(h0:0<t.size)(w:World)(hT:TabsAt w):Calls Tryz.prog 112 #[.string t] w fun e w'=>e=.returned (.bool (decide (1<(Utf8.decode t 0).2)))/\Below w.heap.size w w':=by
 have D:=Tryz.utf8_DecodeRuneInString t w hT.tab
 have e:Lib.decodeGo t=Utf8.decode t 0:=if_neg (by omega)
 rw[e] at D
 generalize Utf8.decode t 0=d at *
 clear e h0 hT
 go_enter Tryz.func112,Tryz.ntmps112
 go_wp2_with (go_at_call 131;refine D.mono ?_;rintro e w' ⟨rfl,hb⟩)
 all_goals go_ret
 all_goals refine⟨?_,hb⟩
 all_goals refine congrArg (fun b=>Ending.returned (Value.bool b)) ?_
 all_goals (rw[Bool.eq_iff_iff];simp;try omega)
theorem fault_c (t:ByteArray)(h0:0<t.size)(w:World)(hT:TabsAt w):Calls Tryz.prog 89 #[.int .i32 ((Utf8.decode t 0).1:Nat),.string t] w fun e w'=>e=.returned (.int .i64 (flt 10 11 (Utf8.decode t 0)))/\Below w.heap.size w w':=by
 have B:=begins_c t h0 w hT
 have hw:=width_pos t 0
 generalize hd:Utf8.decode t 0=d at *
 obtain⟨r,n⟩:=d
 clear hd
 simp only[] at *
 obtain⟨b,HB⟩:∃ b:Bool,Hid (b=decide (InP (r:Int))):=⟨_,rfl⟩
 obtain⟨f,hf⟩:∃ f:Int,Hid (f=flt 10 11 (r,n)):=⟨_,rfl⟩
 rw[<-hf.out]
 obtain⟨x,hx⟩:∃ x:Bool,Hid (x=decide (1<n)):=⟨_,rfl⟩
 rw[<-hx.out] at B
 have I:∀ w',Calls Tryz.prog 113 #[.int .i32 (r:Int)] w' _:=fun w'=>letIn_c (r:Int) w'
 rw[<-HB.out] at I
 have hf2:Hid (f=if (r==65533 && !x)=true then 10 else if b=true then 0 else 11):=by
  show f=_
  rw[hf.out,hx.out,HB.out,<-lets_in]
  unfold flt
  have:noSeq (r,n)=(r==65533 && !decide (1<n)):=by
   rw[Bool.eq_iff_iff]
   simp
   omega
  rw[this]
 clear h0 hT hf hx HB hw
 go_enter Tryz.func89,Tryz.ntmps89
 by_cases hr:r=65533
 ·subst hr
  go_wp2_with (first
   | (go_at_call 112;refine B.mono ?_;rintro e w' ⟨rfl,hb⟩)
   | (go_at_call 113;refine(I _).mono ?_;rintro e w' ⟨rfl,rfl⟩))
  all_goals go_ret
  all_goals refine⟨congrArg (fun z=>Ending.returned (Value.int .i64 z)) ?_,hb⟩
  all_goals rw[hf2.out]
  all_goals clear B I hb hf2
  all_goals cases x<;>cases b<;>first | rfl|(exfalso;simp_all;done)
 ·have q:((r:Int)==65533)=false:=beq_eq_false_iff_ne.2 (by omega)
  have q1:Hid ((r==65533)=false):=beq_eq_false_iff_ne.2 hr
  clear hr
  go_wp2_with (go_at_call 113;refine(I _).mono ?_;rintro e w' ⟨rfl,rfl⟩)
  all_goals go_ret
  all_goals refine⟨congrArg (fun z=>Ending.returned (Value.int .i64 z)) ?_,Below.refl _ _⟩
  all_goals rw[hf2.out,q1.out]
  all_goals clear B I hf2 q1 q
  all_goals cases b<;>first | rfl|(exfalso;simp_all;done)
theorem fault_at (s:ByteArray)(i:Nat)(h:i<s.size)(w:World)(hT:TabsAt w):Calls Tryz.prog 89 #[.int .i32 ((Utf8.decode s i).1:Nat),.string (s.extract i s.size)] w fun e w'=>e=.returned (.int .i64 (flt 10 11 (Utf8.decode s i)))/\Below w.heap.size w w':=by
 have:=fault_c (s.extract i s.size) (by rw[size_tail];omega) w hT
 rw[decode_rest,Nat.add_zero] at this
 exact this
theorem iterPos_of {w:World}{k:Nat}{s:ByteArray}{p:Nat}(h:w.heap[k]? = some (.stringIter s p)):w.iterPos k=p:=by simp[World.iterPos,h]
theorem iter_next {w w':World}{k:Nat}{s:ByteArray}{p:Nat}(h:w.heap[k]? = some (.stringIter s p))(hb:Below w.heap.size w w'):w'.heap[k]? = some (.stringIter s p):=by
 rw[hb.block k (Array.getElem?_eq_some_iff.1 h).1]
 exact h
theorem below_on {B:Nat}{w a b:World}(h:Below B w a)(k:Below a.heap.size a b)(hB:B<=a.heap.size):Below B w b:=h.trans (k.mono hB)
def chkV (s:ByteArray):Value:=.tuple #[.int .i64 (if (sd 10 11 s (rs s 0)).2=0 then ((rs s 0).length:Nat) else 0),.int .i64 ((sd 10 11 s (rs s 0)).1:Nat),.int .i64 (sd 10 11 s (rs s 0)).2]
theorem chkV_ok {s:ByteArray}(h:(sd 10 11 s (rs s 0)).2=0):chkV s=.tuple #[.int .i64 ((rs s 0).length:Nat),.int .i64 0,.int .i64 0]:=by
 unfold chkV
 rw[if_pos h,sd_place _ h,h]
 rfl
theorem chkV_no {s:ByteArray}{p:Nat}{e:Int}(h:sd 10 11 s (rs s 0)=(p,e))(he:e≠0):chkV s=.tuple #[.int .i64 0,.int .i64 (p:Nat),.int .i64 e]:=by
 unfold chkV
 rw[h,if_neg he]
set_option maxHeartbeats 1000000 in
theorem check_c (s:ByteArray)(hz:s.size<=562949953421312)(w:World)(hT:TabsAt w):Calls Tryz.prog 63 #[.string s] w fun e w'=>e=.returned (chkV s)/\Below w.heap.size w w':=by
 go_enter Tryz.func63,Tryz.ntmps63
 go_wp2
 go_loopw [5] (fun v wr=>∃ (pos n:Nat),v=.int .i64 n/\wr.heap[w.heap.size]? = some (.stringIter s pos)/\Below w.heap.size w wr/\n+(rs s pos).length=(rs s 0).length/\Hid (sd 10 11 s (rs s pos)=sd 10 11 s (rs s 0))) (fun _ wr=>s.size-wr.iterPos w.heap.size)
 case atStart=>exact⟨0,0,rfl,World.iter_heap w s 0,(Below.refl _ _).alloc (Nat.le_refl _) _,by omega,rfl⟩
 case round=>
  obtain⟨pos,n,rfl,hit,hbw,hn,HS⟩:=hrel
  have hpos0:=iterPos_of hit
  have hn0:=rs_length0 s
  by_cases hp:pos<s.size
  ·have hnx:∀ ty,(Instr.next (.pointer (some ⟨w.heap.size,0,none⟩)) true ty).run Tryz.prog wr=_:=fun ty=>Lib.run_next_any_at wr w.heap.size s pos ty hit hp
   have hwd:=width_pos s pos
   have hit2:=Lib.iterAt_heap wr w.heap.size s pos (pos+(Utf8.decode s pos).2) hit
   have hbw2:=Lib.below_iterAt hbw (k:=w.heap.size) (Nat.le_refl _) s (pos+(Utf8.decode s pos).2)
   obtain⟨W1,hW1⟩:∃ W1,W1=wr.iterAt w.heap.size s (pos+(Utf8.decode s pos).2):=⟨_,rfl⟩
   rw[<-hW1] at hnx hit2 hbw2
   have F:=fault_at s pos hp W1 (hT.next hbw2)
   rw[rs_step hp] at hn HS
   simp only[sd,List.length_cons] at hn HS
   have hB:=hbw2.size
   have hps:=width_in s pos hp
   generalize hd:Utf8.decode s pos=d at *
   obtain⟨r,k⟩:=d
   simp only[] at *
   generalize hf:flt 10 11 (r,k)=f at *
   have hnw:IntKind.i64.wrap ((n:Int)+1)=((n+1:Nat):Int):=by rw[IntKind.wrap_i64];omega
   have HF:Hid (f=0\/(f≠0/\chkV s=.tuple #[.int .i64 0,.int .i64 pos,.int .i64 f])):=by
    by_cases h0:f=0
    ·exact .inl h0
    ·refine .inr ⟨h0,chkV_no (p:=pos) (e:=f) ?_ h0⟩
     rw[<-HS.out,if_neg h0]
   have HS2:Hid (f=0->sd 10 11 s (rs s (pos+k))=sd 10 11 s (rs s 0)):=fun h0=>by
    rw[<-HS.out,if_pos h0]
   clear hW1 hit hbw hT HS hd hf
   go_wp2_with (go_at_call 89;refine F.mono ?_;rintro e w' ⟨rfl,hb⟩)
   ·rename_i hff
    have h0:f≠0:=by simpa using hff
    rcases HF.out with h | ⟨_,h⟩
    ·exact absurd h h0
    ·go_ret3
     exact⟨by rw[h];rfl,below_on hbw2 hb hB⟩
   ·rename_i hff
    have h0:f=0:=by simpa using hff
    go_roundw
    case rel=>exact⟨_,n+1,rfl,iter_next hit2 hb,below_on hbw2 hb hB,by omega,HS2.out h0⟩
    case measure=>rw[iterPos_of (iter_next hit2 hb),hpos0];omega
  ·have hnx:∀ ty,(Instr.next (.pointer (some ⟨w.heap.size,0,none⟩)) true ty).run Tryz.prog wr=_:=fun ty=>Lib.run_next_end_at wr w.heap.size s pos ty hit hp
   rw[rs_end hp] at hn HS
   have e:(sd 10 11 s (rs s 0)).2=0:=by rw[<-HS.out];rfl
   simp only[List.length_nil,Nat.add_zero] at hn
   have HE:Hid (chkV s=.tuple #[.int .i64 n,.int .i64 0,.int .i64 0]):=by rw[hn];exact chkV_ok e
   clear HS e hn hn0 hT
   go_wp2
   go_ret3
   exact⟨by rw[HE.out];rfl,hbw⟩
def runI (s:ByteArray)(x c:Int):Int:=if 0<=x/\x<=(s.size:Int) then ((rne s.size (fun r=>isC (r:Int) c) (rs s x.toNat):Nat):Int) else x
set_option maxHeartbeats 1000000 in
theorem run_c (s:ByteArray)(x c:Int)(hz:s.size<=562949953421312)(w:World):Calls Tryz.prog 114 #[.string s,.int .i64 x,.int .i64 c] w fun e w'=>e=.returned (.int .i64 (runI s x c))/\Below w.heap.size w w':=by
 obtain⟨z,hr⟩:∃ z:Int,Hid (z=runI s x c):=⟨_,rfl⟩
 rw[<-hr.out]
 by_cases hx:0<=x/\x<=(s.size:Int)
 ·obtain⟨a,rfl⟩:∃ a:Nat,x=(a:Int):=⟨x.toNat,by omega⟩
  have ha:a<=s.size:=by omega
  have hr2:Hid (z=((rne s.size (fun r=>isC (r:Int) c) (rs s a):Nat):Int)):=by
   show z=_
   rw[hr.out]
   unfold runI
   rw[if_pos hx,Int.toNat_natCast]
  clear hr hx
  have q0:¬((a:Int)<0):=by omega
  have q1:¬((s.size:Int)<(a:Int)):=by omega
  have q2:(a:Int)<=(s.size:Int):=by omega
  obtain⟨t,ht⟩:∃ t,t=s.extract a s.size:=⟨_,rfl⟩
  go_enter Tryz.func114,Tryz.ntmps114
  go_wp2
  rw[<-ht]
  go_loopw [] (fun wr=>∃ pos:Nat,wr.heap[w.heap.size]? = some (.stringIter t pos)/\Below w.heap.size w wr/\Hid (rne s.size (fun r=>isC (r:Int) c) (rs s (a+pos))=rne s.size (fun r=>isC (r:Int) c) (rs s a))) (fun wr=>t.size-wr.iterPos w.heap.size)
  case atStart=>exact⟨0,World.iter_heap w t 0,(Below.refl _ _).alloc (Nat.le_refl _) _,rfl⟩
  case round=>
   obtain⟨pos,hit,hbw,HS⟩:=hrel
   have hpos0:=iterPos_of hit
   have htz:t.size=s.size-a:=by rw[ht,size_tail]
   have htd:Utf8.decode t pos=Utf8.decode s (a+pos):=by rw[ht,decode_rest]
   by_cases hp:pos<t.size
   ·have hnx:∀ ty,(Instr.next (.pointer (some ⟨w.heap.size,0,none⟩)) true ty).run Tryz.prog wr=_:=fun ty=>Lib.run_next_any_at wr w.heap.size t pos ty hit hp
    have hwd:=width_pos s (a+pos)
    have hit2:=Lib.iterAt_heap wr w.heap.size t pos (pos+(Utf8.decode t pos).2) hit
    have hbw2:=Lib.below_iterAt hbw (k:=w.heap.size) (Nat.le_refl _) t (pos+(Utf8.decode t pos).2)
    obtain⟨W1,hW1⟩:∃ W1,W1=wr.iterAt w.heap.size t (pos+(Utf8.decode t pos).2):=⟨_,rfl⟩
    rw[<-hW1] at hnx hit2 hbw2
    have HS':=HS.out
    rw[rs_step (by omega)] at HS'
    simp only[rne] at HS'
    rw[htd] at hnx hit2
    generalize hd:Utf8.decode s (a+pos)=d at *
    obtain⟨r,k⟩:=d
    simp only[] at *
    have I:=is_c (r:Int) c W1
    obtain⟨b,hb⟩:∃ b,Hid (b=isC (r:Int) c):=⟨_,rfl⟩
    rw[<-hb.out] at I HS'
    have hw:IntKind.i64.wrap ((a:Int)+(pos:Int))=((a+pos:Nat):Int):=by rw[IntKind.wrap_i64];omega
    have HS2:Hid ((if b=true then rne s.size (fun r=>isC (r:Int) c) (rs s (a+pos+k)) else a+pos)=rne s.size (fun r=>isC (r:Int) c) (rs s a)):=HS'
    clear HS HS' hd htd hW1 hit hb ht hbw
    go_wp2_with (go_at_call 132;refine I.mono ?_;rintro e w' ⟨rfl,rfl⟩)
    ·rename_i hbb
     have hz0:z=((a+pos:Nat):Int):=by
      rw[hr2.out,<-HS2.out,if_neg (by simpa using hbb)]
     go_ret
     exact⟨by rw[hz0];rfl,hbw2⟩
    ·rename_i hbb
     have hz0:=HS2.out
     rw[if_pos (by simpa using hbb),Nat.add_assoc] at hz0
     go_roundw
     case rel=>exact⟨_,hit2,hbw2,hz0⟩
     case measure=>rw[iterPos_of hit2,hpos0];omega
   ·have hnx:∀ ty,(Instr.next (.pointer (some ⟨w.heap.size,0,none⟩)) true ty).run Tryz.prog wr=_:=fun ty=>Lib.run_next_end_at wr w.heap.size t pos ty hit hp
    have HS':=HS.out
    rw[rs_end (by omega)] at HS'
    have HE:Hid (z=(s.size:Int)):=by show z=_;rw[hr2.out,<-HS'];rfl
    clear HS HS' htd hr2 hit ht
    go_wp2
    go_ret
    exact⟨by rw[HE.out];rfl,hbw⟩
 ·have hr2:Hid (z=x):=by
   show z=_
   rw[hr.out]
   exact if_neg hx
  clear hr
  go_enter Tryz.func114,Tryz.ntmps114
  by_cases h0:x<0
  ·go_wp2
   go_ret
   exact⟨by rw[hr2.out];rfl,Below.refl _ _⟩
  ·have h1:(s.size:Int)<x:=by omega
   clear hx
   go_wp2
   go_ret
   exact⟨by rw[hr2.out];rfl,Below.refl _ _⟩
end Go.Proofs.YtecdfnpbcabdnaaGreatDoor
