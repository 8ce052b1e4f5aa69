import Derived.Test.YtecdfnpbcabdnaaGreatDoorLxB
import Derived.Test.YtecdfnpbcabdnaaGreatDoorMgR
import Derived.Test.YtecdfnpbcabdnaaGreatDoorMgS
import Derived.Test.YtecdfnpbcabdnaaGreatDoorLxR
import Derived.Test.YtecdfnpbcabdnaaGreatDoorMiH
import Derived.Test.YtecdfnpbcabdnaaGreatDoorTrN
namespace Go.Proofs.YtecdfnpbcabdnaaGreatDoor
open Go.RowKit Go.Lib
def signs:List (List UInt8):=[[46,46],[60,61],[62,61],[59],[58],[44],[61],[40],[41],[123],[125],[43],[45],[42],[47],[60],[62]]
def sgn (l:List UInt8):Bool:=signs.contains l
theorem sgn_or (t:ByteArray):sgn t.data.toList=((t.toList==({data:=#[46,46]}:ByteArray).toList)||(t.toList==({data:=#[60,61]}:ByteArray).toList)||(t.toList==({data:=#[62,61]}:ByteArray).toList)||(t.toList==({data:=#[59]}:ByteArray).toList)||(t.toList==({data:=#[58]}:ByteArray).toList)||(t.toList==({data:=#[44]}:ByteArray).toList)||(t.toList==({data:=#[61]}:ByteArray).toList)||(t.toList==({data:=#[40]}:ByteArray).toList)||(t.toList==({data:=#[41]}:ByteArray).toList)||(t.toList==({data:=#[123]}:ByteArray).toList)||(t.toList==({data:=#[125]}:ByteArray).toList)||(t.toList==({data:=#[43]}:ByteArray).toList)||(t.toList==({data:=#[45]}:ByteArray).toList)||(t.toList==({data:=#[42]}:ByteArray).toList)||(t.toList==({data:=#[47]}:ByteArray).toList)||(t.toList==({data:=#[60]}:ByteArray).toList)||(t.toList==({data:=#[62]}:ByteArray).toList)||false):=by
 unfold sgn signs
 simp only[List.contains_cons,List.contains_nil,Lib.toList_data,Bool.or_assoc]
set_option maxHeartbeats 4000000 in
set_option maxRecDepth 20000 in
theorem isSign_c (t:ByteArray)(w:World):Calls Tryz.prog 122 #[.string t] w fun e w'=>e=.returned (.bool (sgn t.data.toList))/\w=w':=by
 obtain⟨r,hr⟩:∃ r:Bool,Hid (r=sgn t.data.toList):=⟨_,rfl⟩
 rw[<-hr.out]
 have hr2:=hr.out
 rw[sgn_or] at hr2
 clear hr
 go_enter Tryz.func122,Tryz.ntmps122
 generalize ({data:=#[46,46]}:ByteArray)=c0 at hr2 ⊢
 generalize ({data:=#[60,61]}:ByteArray)=c1 at hr2 ⊢
 generalize ({data:=#[62,61]}:ByteArray)=c2 at hr2 ⊢
 generalize ({data:=#[59]}:ByteArray)=c3 at hr2 ⊢
 generalize ({data:=#[58]}:ByteArray)=c4 at hr2 ⊢
 generalize ({data:=#[44]}:ByteArray)=c5 at hr2 ⊢
 generalize ({data:=#[61]}:ByteArray)=c6 at hr2 ⊢
 generalize ({data:=#[40]}:ByteArray)=c7 at hr2 ⊢
 generalize ({data:=#[41]}:ByteArray)=c8 at hr2 ⊢
 generalize ({data:=#[123]}:ByteArray)=c9 at hr2 ⊢
 generalize ({data:=#[125]}:ByteArray)=c10 at hr2 ⊢
 generalize ({data:=#[43]}:ByteArray)=c11 at hr2 ⊢
 generalize ({data:=#[45]}:ByteArray)=c12 at hr2 ⊢
 generalize ({data:=#[42]}:ByteArray)=c13 at hr2 ⊢
 generalize ({data:=#[47]}:ByteArray)=c14 at hr2 ⊢
 generalize ({data:=#[60]}:ByteArray)=c15 at hr2 ⊢
 generalize ({data:=#[62]}:ByteArray)=c16 at hr2 ⊢
 generalize f0:(t.toList==c0.toList)=b0 at hr2
 generalize f1:(t.toList==c1.toList)=b1 at hr2
 generalize f2:(t.toList==c2.toList)=b2 at hr2
 generalize f3:(t.toList==c3.toList)=b3 at hr2
 generalize f4:(t.toList==c4.toList)=b4 at hr2
 generalize f5:(t.toList==c5.toList)=b5 at hr2
 generalize f6:(t.toList==c6.toList)=b6 at hr2
 generalize f7:(t.toList==c7.toList)=b7 at hr2
 generalize f8:(t.toList==c8.toList)=b8 at hr2
 generalize f9:(t.toList==c9.toList)=b9 at hr2
 generalize f10:(t.toList==c10.toList)=b10 at hr2
 generalize f11:(t.toList==c11.toList)=b11 at hr2
 generalize f12:(t.toList==c12.toList)=b12 at hr2
 generalize f13:(t.toList==c13.toList)=b13 at hr2
 generalize f14:(t.toList==c14.toList)=b14 at hr2
 generalize f15:(t.toList==c15.toList)=b15 at hr2
 generalize f16:(t.toList==c16.toList)=b16 at hr2
 have HR:Hid _:=hr2
 clear hr2
 go_wp2_with fail
 all_goals go_ret
 all_goals refine⟨?_,rfl⟩
 all_goals rw[HR.out]
 all_goals clear f0 f1 f2 f3 f4 f5 f6 f7 f8 f9 f10 f11 f12 f13 f14 f15 f16
 all_goals simp_all
theorem cutnl_in (t:ByteArray)(k:Nat)(hk:k<=t.size)(hz:t.size<=1048576)(hi:indexByte t.data.toList 10=if k<t.size then (k:Int) else -1)(w:World):
 Calls Tryz.prog 143 #[.string t,.string ⟨#[10]⟩] w fun e w'=>e=.returned (.tuple #[.string (t.extract 0 k),.string (if k<t.size then t.extract (k+1) t.size else ⟨#[]⟩),.bool (decide (k<t.size))])/\∃ q,w'=w.drewN q:=by
 have hI:=fun wx=>Go.Proofs.Tryz.stringslite_Index_one t 10 wx
 rw[hi] at hI
 by_cases hlt:k<t.size
 ·rw[if_pos hlt] at hI
  have s1:=fun wx=>sl_h t k hk wx
  have s2:=fun wx=>sl_l t (k+1) hlt wx
  rw[show ((k+1:Nat):Int)=(k:Int)+1 by omega] at s2
  rw[if_pos hlt,decide_eq_true hlt]
  generalize t.extract 0 k=a at *
  generalize t.extract (k+1) t.size=b at *
  have hw1:IntKind.i64.wrap ((k:Int)+1)=(k:Int)+1:=by rw[IntKind.wrap_i64];omega
  clear hi
  go_enter Tryz.func143,Tryz.ntmps143
  go_wp2_with fail
  refine(hI _).mono ?_
  rintro e w1 ⟨rfl,rfl⟩
  go_wp2_with fail
  go_quiet (fail)
  go_wp2_with fail
  go_ret3
  exact⟨rfl,_,rfl⟩
 ·rw[if_neg hlt] at hI
  obtain rfl:k=t.size:=by omega
  rw[if_neg hlt,decide_eq_false hlt,show t.extract 0 t.size=t by simp]
  clear hi hlt hk hz
  go_enter Tryz.func143,Tryz.ntmps143
  go_wp2_with fail
  refine(hI _).mono ?_
  rintro e w1 ⟨rfl,rfl⟩
  go_wp2_with fail
  go_ret3
  exact⟨rfl,0,rfl⟩
theorem cutnl (t:ByteArray)(k:Nat)(hk:k<=t.size)(hz:t.size<=1048576)(hi:indexByte t.data.toList 10=if k<t.size then (k:Int) else -1)(w:World):
 Calls Tryz.prog 123 #[.string t,.string ⟨#[10]⟩] w fun e w'=>e=.returned (.tuple #[.string (t.extract 0 k),.string (if k<t.size then t.extract (k+1) t.size else ⟨#[]⟩),.bool (decide (k<t.size))])/\∃ q,w'=w.drewN q:=by
 have h:=cutnl_in t k hk hz hi w
 clear hk hz hi
 generalize t.extract 0 k=a at *
 generalize (if k<t.size then t.extract (k+1) t.size else ⟨#[]⟩)=b at *
 generalize decide (k<t.size)=f at *
 go_enter Tryz.func123,Tryz.ntmps123
 go_wp2_with fail
 refine h.mono ?_
 rintro e w1 ⟨rfl,q,rfl⟩
 clear h
 go_wp2_with fail
 go_ret3
 exact⟨rfl,q,rfl⟩
theorem cut_line (s:ByteArray)(i:Nat)(hi:i<=s.size)(hz:s.size<=1048576)(hv:Vd s i):∃ (a b:ByteArray) (f:Bool),a.size=lineEnd s i-i/\∀ w,
 Calls Tryz.prog 123 #[.string (s.extract i s.size),.string ⟨#[10]⟩] w fun e w'=>e=.returned (.tuple #[.string a,.string b,.bool f])/\∃ q,w'=w.drewN q:=by
 have h1:i<=lineEnd s i/\lineEnd s i<=s.size:=rn_in s (nin [10]) i hi
 have hts:=size_tail s i
 refine⟨_,_,_,?_,fun w=>cutnl (s.extract i s.size) (lineEnd s i-i) (by omega) (by omega) ?_ w⟩
 ·rw[size_front _ _ (by omega)]
 ·rw[<-indexAny_one,any_idx (by decide) i hi hv,hts]
  by_cases h:lineEnd s i<s.size
  ·rw[if_pos h,if_pos (by omega)]
  ·rw[if_neg h,if_neg (by omega)]
theorem hasPrefix_one (t:ByteArray)(c:UInt8)(w:World):Calls Tryz.prog 118 #[.string t,.string ⟨#[c]⟩] w fun e w'=>e=.returned (.bool (decide (0<t.size)&&t.get! 0==c))/\w'=w:=by
 refine(Go.Proofs.Tryz.strings_HasPrefix t ⟨#[c]⟩ w).mono ?_
 rintro e w' ⟨rfl,rfl⟩
 refine⟨?_,rfl⟩
 congr 2
 have e0:=gd t 0
 have e1:=Lib.size_eq t
 show List.isPrefixOf [c] t.data.toList=_
 rw[e0,e1]
 cases t.data.toList with
 | nil=>rfl
 | cons b r=>
   show (c==b&&List.isPrefixOf [] r)=_
   simp[Bool.beq_comm (a:=c)]
theorem prefix_at (s:ByteArray)(i:Nat)(_hi:i<=s.size)(c:UInt8)(hc:c≠0)(w:World):Calls Tryz.prog 118 #[.string (s.extract i s.size),.string ⟨#[c]⟩] w fun e w'=>e=.returned (.bool (s.get! i==c))/\w'=w:=by
 refine(hasPrefix_one _ c w).mono ?_
 rintro e w' ⟨rfl,rfl⟩
 refine⟨?_,rfl⟩
 congr 2
 rw[gd_tail,size_tail,Nat.add_zero]
 by_cases h:i<s.size
 ·rw[decide_eq_true (by omega)];rfl
 ·rw[decide_eq_false (by omega)]
  have:s.get! i≠c:=fun e=>h (get_in (by rw[e];exact hc))
  simp[this]
theorem run_at (s:ByteArray)(i:Nat)(c:Int)(hi:i<=s.size)(hz:s.size<=1048576)(w:World):Calls Tryz.prog 114 #[.string s,.int .i64 (i:Nat),.int .i64 c] w fun e w'=>e=.returned (.int .i64 (cls s c i:Nat))/\Below w.heap.size w w':=by
 refine(run_c s i c (by omega) w).mono ?_
 rintro e w' ⟨rfl,hb⟩
 refine⟨?_,hb⟩
 unfold runI
 rw[if_pos ⟨by omega,by omega⟩,Int.toNat_natCast]
 rfl
end Go.Proofs.YtecdfnpbcabdnaaGreatDoor
