import Derived.Test.YtecdfnpbcabdnaaGreatDoorMgS
import Derived.Test.YtecdfnpbcabdnaaGreatDoorLxR
import Derived.Test.YtecdfnpbcabdnaaGreatDoorMgR
namespace Go.Proofs.YtecdfnpbcabdnaaGreatDoor
open Go.RowKit Go.Lib
def isN (t:ByteArray):Bool:=!(decide (cls t 1 0=0))&&(decide (cls t 3 0=t.size)&&(decide (runeCount t<=32) && !(resv t.data.toList)))
theorem isName_c (t:ByteArray)(hz:t.size<=562949953421312)(w:World):Calls Tryz.prog 117 #[.string t] w fun e w'=>e=.returned (.bool (isN t))/\Below w.heap.size w w':=by
 obtain⟨b,hb⟩:∃ b:Bool,Hid (b=isN t):=⟨_,rfl⟩
 rw[<-hb.out]
 have R1:∀ wx,Calls Tryz.prog 114 #[.string t,.int .i64 0,.int .i64 1] wx fun e w'=>e=.returned (.int .i64 (cls t 1 0:Nat))/\Below wx.heap.size wx w':=fun wx=>by
  have:=run_c t 0 1 hz wx
  unfold runI at this
  rw[if_pos ⟨by omega,by omega⟩] at this
  exact this
 have R3:∀ wx,Calls Tryz.prog 114 #[.string t,.int .i64 0,.int .i64 3] wx fun e w'=>e=.returned (.int .i64 (cls t 3 0:Nat))/\Below wx.heap.size wx w':=fun wx=>by
  have:=run_c t 0 3 hz wx
  unfold runI at this
  rw[if_pos ⟨by omega,by omega⟩] at this
  exact this
 have C:=fun wx=>Go.Proofs.Tryz.utf8_RuneCountInString t wx (by omega)
 have V:=fun wx=>reserved_c t wx
 have hb2:=hb.out
 unfold isN at hb2
 have rc:runeCount t<=t.size:=by rw[count_all];exact rs_length0 t
 generalize resv t.data.toList=rv at *
 generalize runeCount t=n at *
 generalize cls t 1 0=x1 at *
 generalize cls t 3 0=x3 at *
 clear hb
 have HB:=hid2 hb2
 clear hb2
 go_enter Tryz.func117,Tryz.ntmps117
 go_wp2_with fail
 refine(R1 _).mono ?_
 rintro e w1 ⟨rfl,b1⟩
 by_cases h1:x1=0
 ·subst h1
  go_wp2_with fail
  go_ret
  exact⟨by rw[HB.out];rfl,b1⟩
 ·have h1':((x1:Int)==0)=false:=beq_eq_false_iff_ne.2 (by omega)
  go_wp2_with fail
  refine(R3 _).mono ?_
  rintro e w2 ⟨rfl,b2⟩
  have b12:=below_on b1 b2 b1.size
  by_cases h3:x3=t.size
  ·have h3':((x3:Int) != (t.size:Int))=false:=by rw[h3];simp
   have H3:=hid2 h3
   clear h3
   go_wp2_with fail
   refine(C _).mono ?_
   rintro e w3 ⟨rfl,pos,rfl⟩
   have b3:Below w.heap.size w (w2.iter t pos):=b12.alloc b12.size _
   generalize w2.iter t pos=w3 at *
   by_cases h4:n<=32
   ·have h4':(n:Int)<=32:=by omega
    go_wp2_with fail
    refine(V _).mono ?_
    rintro e w4 ⟨rfl,rfl⟩
    go_wp2_with fail
    go_ret
    exact⟨by rw[HB.out,decide_eq_false h1,decide_eq_true H3.out,decide_eq_true h4];rfl,b3⟩
   ·have h4':¬(n:Int)<=32:=by omega
    go_wp2_with fail
    go_ret
    exact⟨by rw[HB.out,decide_eq_false h4];simp,b3⟩
  ·have h3':((x3:Int) != (t.size:Int))=true:=by simp;omega
   go_wp2_with fail
   go_ret
   exact⟨by rw[HB.out,decide_eq_false h3];simp,b12⟩
theorem rn_full {s:ByteArray}{p:Nat->Bool}:∀ i,i<=s.size->(rn s p i=s.size↔(rs s i).all (fun q=>p q.1)=true):=by
 refine rn_ind (s:=s) (p:=p) (fun i hi _=>?_) (fun i hi h ih _=>?_) (fun i hi h _=>?_)
 ·rw[rn_end hi,rs_end hi];simp
 ·rw[rn_yes hi h,rs_step hi,List.all_cons,h,Bool.true_and]
  exact ih (width_in s i hi)
 ·rw[rn_no hi h,rs_step hi,List.all_cons,h,Bool.false_and]
  constructor
  ·intro e;omega
  ·intro e;cases e
def brk:List UInt8:=[91,93,34,10]
def quo:List UInt8:=[34,10]
def txt (l:List UInt8)(s:ByteArray):Bool:=decide ((sd 10 11 s (rs s 0)).2=0)&&(decide ((rs s 0).length<=64)&&(rs s 0).all fun q=>nin l q.1)
end Go.Proofs.YtecdfnpbcabdnaaGreatDoor
