import Derived.Test.YtecdfnpbcabdnaaGreatDoorLxB
import Derived.Test.YtecdfnpbcabdnaaGreatDoorMgR
namespace Go.Proofs.YtecdfnpbcabdnaaGreatDoor
open Go.RowKit Go.Lib
theorem resv_or (t:ByteArray):resv t.data.toList=((t.toList==({data:=#[112,111,108,105,99,121]}:ByteArray).toList)||(t.toList==({data:=#[109,101,116,114,105,99]}:ByteArray).toList)||(t.toList==({data:=#[114,101,112,108,105,99,97,115]}:ByteArray).toList)||(t.toList==({data:=#[115,116,101,112]}:ByteArray).toList)||(t.toList==({data:=#[99,111,111,108,100,111,119,110]}:ByteArray).toList)||(t.toList==({data:=#[117,112]}:ByteArray).toList)||(t.toList==({data:=#[100,111,119,110]}:ByteArray).toList)||(t.toList==({data:=#[108,101,116]}:ByteArray).toList)||(t.toList==({data:=#[103,117,97,114,100]}:ByteArray).toList)||(t.toList==({data:=#[116,104,101,110]}:ByteArray).toList)||(t.toList==({data:=#[100,101,99,105,100,101]}:ByteArray).toList)||(t.toList==({data:=#[104,111,108,100]}:ByteArray).toList)||(t.toList==({data:=#[116,111]}:ByteArray).toList)||(t.toList==({data:=#[98,121]}:ByteArray).toList)||(t.toList==({data:=#[108,97,100,100,101,114]}:ByteArray).toList)||(t.toList==({data:=#[101,108,115,101]}:ByteArray).toList)||(t.toList==({data:=#[111,114]}:ByteArray).toList)||(t.toList==({data:=#[97,110,100]}:ByteArray).toList)||(t.toList==({data:=#[110,111,116]}:ByteArray).toList)||(t.toList==({data:=#[116,114,117,101]}:ByteArray).toList)||(t.toList==({data:=#[102,97,108,115,101]}:ByteArray).toList)||(t.toList==({data:=#[105,102]}:ByteArray).toList)||(t.toList==({data:=#[109,105,110]}:ByteArray).toList)||(t.toList==({data:=#[109,97,120]}:ByteArray).toList)||(t.toList==({data:=#[101,105,116,104,101,114]}:ByteArray).toList)||(t.toList==({data:=#[97,98,115]}:ByteArray).toList)||(t.toList==({data:=#[99,101,105,108]}:ByteArray).toList)||(t.toList==({data:=#[102,108,111,111,114]}:ByteArray).toList)||(t.toList==({data:=#[115,117,109]}:ByteArray).toList)||(t.toList==({data:=#[97,118,103]}:ByteArray).toList)||(t.toList==({data:=#[108,111,119]}:ByteArray).toList)||(t.toList==({data:=#[104,105,103,104]}:ByteArray).toList)||(t.toList==({data:=#[99,111,117,110,116]}:ByteArray).toList)||(t.toList==({data:=#[114,97,110,107]}:ByteArray).toList)||(t.toList==({data:=#[99,114,111,110]}:ByteArray).toList)||false):=by
 unfold resv words
 simp only[List.contains_cons,List.contains_nil,Lib.toList_data,Bool.or_assoc]
set_option maxHeartbeats 4000000 in
set_option maxRecDepth 20000 in
theorem reserved_c (t:ByteArray)(w:World):Calls Tryz.prog 115 #[.string t] w fun e w'=>e=.returned (.bool (resv t.data.toList))/\w=w':=by
 obtain⟨r,hr⟩:∃ r:Bool,Hid (r=resv t.data.toList):=⟨_,rfl⟩
 rw[<-hr.out]
 have hr2:=hr.out
 rw[resv_or] at hr2
 clear hr
 go_enter Tryz.func115,Tryz.ntmps115
 generalize ({data:=#[112,111,108,105,99,121]}:ByteArray)=c0 at hr2 ⊢
 generalize ({data:=#[109,101,116,114,105,99]}:ByteArray)=c1 at hr2 ⊢
 generalize ({data:=#[114,101,112,108,105,99,97,115]}:ByteArray)=c2 at hr2 ⊢
 generalize ({data:=#[115,116,101,112]}:ByteArray)=c3 at hr2 ⊢
 generalize ({data:=#[99,111,111,108,100,111,119,110]}:ByteArray)=c4 at hr2 ⊢
 generalize ({data:=#[117,112]}:ByteArray)=c5 at hr2 ⊢
 generalize ({data:=#[100,111,119,110]}:ByteArray)=c6 at hr2 ⊢
 generalize ({data:=#[108,101,116]}:ByteArray)=c7 at hr2 ⊢
 generalize ({data:=#[103,117,97,114,100]}:ByteArray)=c8 at hr2 ⊢
 generalize ({data:=#[116,104,101,110]}:ByteArray)=c9 at hr2 ⊢
 generalize ({data:=#[100,101,99,105,100,101]}:ByteArray)=c10 at hr2 ⊢
 generalize ({data:=#[104,111,108,100]}:ByteArray)=c11 at hr2 ⊢
 generalize ({data:=#[116,111]}:ByteArray)=c12 at hr2 ⊢
 generalize ({data:=#[98,121]}:ByteArray)=c13 at hr2 ⊢
 generalize ({data:=#[108,97,100,100,101,114]}:ByteArray)=c14 at hr2 ⊢
 generalize ({data:=#[101,108,115,101]}:ByteArray)=c15 at hr2 ⊢
 generalize ({data:=#[111,114]}:ByteArray)=c16 at hr2 ⊢
 generalize ({data:=#[97,110,100]}:ByteArray)=c17 at hr2 ⊢
 generalize ({data:=#[110,111,116]}:ByteArray)=c18 at hr2 ⊢
 generalize ({data:=#[116,114,117,101]}:ByteArray)=c19 at hr2 ⊢
 generalize ({data:=#[102,97,108,115,101]}:ByteArray)=c20 at hr2 ⊢
 generalize ({data:=#[105,102]}:ByteArray)=c21 at hr2 ⊢
 generalize ({data:=#[109,105,110]}:ByteArray)=c22 at hr2 ⊢
 generalize ({data:=#[109,97,120]}:ByteArray)=c23 at hr2 ⊢
 generalize ({data:=#[101,105,116,104,101,114]}:ByteArray)=c24 at hr2 ⊢
 generalize ({data:=#[97,98,115]}:ByteArray)=c25 at hr2 ⊢
 generalize ({data:=#[99,101,105,108]}:ByteArray)=c26 at hr2 ⊢
 generalize ({data:=#[102,108,111,111,114]}:ByteArray)=c27 at hr2 ⊢
 generalize ({data:=#[115,117,109]}:ByteArray)=c28 at hr2 ⊢
 generalize ({data:=#[97,118,103]}:ByteArray)=c29 at hr2 ⊢
 generalize ({data:=#[108,111,119]}:ByteArray)=c30 at hr2 ⊢
 generalize ({data:=#[104,105,103,104]}:ByteArray)=c31 at hr2 ⊢
 generalize ({data:=#[99,111,117,110,116]}:ByteArray)=c32 at hr2 ⊢
 generalize ({data:=#[114,97,110,107]}:ByteArray)=c33 at hr2 ⊢
 generalize ({data:=#[99,114,111,110]}:ByteArray)=c34 at hr2 ⊢
 generalize f0:(t.toList==c0.toList)=b0 at hr2
 generalize f1:(t.toList==c1.toList)=b1 at hr2
 generalize f2:(t.toList==c2.toList)=b2 at hr2
 generalize f3:(t.toList==c3.toList)=b3 at hr2
 generalize f4:(t.toList==c4.toList)=b4 at hr2
 generalize f5:(t.toList==c5.toList)=b5 at hr2
 generalize f6:(t.toList==c6.toList)=b6 at hr2
 generalize f7:(t.toList==c7.toList)=b7 at hr2
 generalize f8:(t.toList==c8.toList)=b8 at hr2
 generalize f9:(t.toList==c9.toList)=b9 at hr2
 generalize f10:(t.toList==c10.toList)=b10 at hr2
 generalize f11:(t.toList==c11.toList)=b11 at hr2
 generalize f12:(t.toList==c12.toList)=b12 at hr2
 generalize f13:(t.toList==c13.toList)=b13 at hr2
 generalize f14:(t.toList==c14.toList)=b14 at hr2
 generalize f15:(t.toList==c15.toList)=b15 at hr2
 generalize f16:(t.toList==c16.toList)=b16 at hr2
 generalize f17:(t.toList==c17.toList)=b17 at hr2
 generalize f18:(t.toList==c18.toList)=b18 at hr2
 generalize f19:(t.toList==c19.toList)=b19 at hr2
 generalize f20:(t.toList==c20.toList)=b20 at hr2
 generalize f21:(t.toList==c21.toList)=b21 at hr2
 generalize f22:(t.toList==c22.toList)=b22 at hr2
 generalize f23:(t.toList==c23.toList)=b23 at hr2
 generalize f24:(t.toList==c24.toList)=b24 at hr2
 generalize f25:(t.toList==c25.toList)=b25 at hr2
 generalize f26:(t.toList==c26.toList)=b26 at hr2
 generalize f27:(t.toList==c27.toList)=b27 at hr2
 generalize f28:(t.toList==c28.toList)=b28 at hr2
 generalize f29:(t.toList==c29.toList)=b29 at hr2
 generalize f30:(t.toList==c30.toList)=b30 at hr2
 generalize f31:(t.toList==c31.toList)=b31 at hr2
 generalize f32:(t.toList==c32.toList)=b32 at hr2
 generalize f33:(t.toList==c33.toList)=b33 at hr2
 generalize f34:(t.toList==c34.toList)=b34 at hr2
 have HR:Hid _:=hr2
 clear hr2
 cases b0
 case true=>
  clear f1 f2 f3 f4 f5 f6 f7 f8 f9 f10 f11 f12 f13 f14 f15 f16 f17 f18 f19 f20 f21 f22 f23 f24 f25 f26 f27 f28 f29 f30 f31 f32 f33 f34
  go_wp2_with fail
  go_ret
  exact⟨by rw[HR.out];simp,rfl⟩
 cases b1
 case true=>
  clear f2 f3 f4 f5 f6 f7 f8 f9 f10 f11 f12 f13 f14 f15 f16 f17 f18 f19 f20 f21 f22 f23 f24 f25 f26 f27 f28 f29 f30 f31 f32 f33 f34
  go_wp2_with fail
  go_ret
  exact⟨by rw[HR.out];simp,rfl⟩
 cases b2
 case true=>
  clear f3 f4 f5 f6 f7 f8 f9 f10 f11 f12 f13 f14 f15 f16 f17 f18 f19 f20 f21 f22 f23 f24 f25 f26 f27 f28 f29 f30 f31 f32 f33 f34
  go_wp2_with fail
  go_ret
  exact⟨by rw[HR.out];simp,rfl⟩
 cases b3
 case true=>
  clear f4 f5 f6 f7 f8 f9 f10 f11 f12 f13 f14 f15 f16 f17 f18 f19 f20 f21 f22 f23 f24 f25 f26 f27 f28 f29 f30 f31 f32 f33 f34
  go_wp2_with fail
  go_ret
  exact⟨by rw[HR.out];simp,rfl⟩
 cases b4
 case true=>
  clear f5 f6 f7 f8 f9 f10 f11 f12 f13 f14 f15 f16 f17 f18 f19 f20 f21 f22 f23 f24 f25 f26 f27 f28 f29 f30 f31 f32 f33 f34
  go_wp2_with fail
  go_ret
  exact⟨by rw[HR.out];simp,rfl⟩
 cases b5
 case true=>
  clear f6 f7 f8 f9 f10 f11 f12 f13 f14 f15 f16 f17 f18 f19 f20 f21 f22 f23 f24 f25 f26 f27 f28 f29 f30 f31 f32 f33 f34
  go_wp2_with fail
  go_ret
  exact⟨by rw[HR.out];simp,rfl⟩
 cases b6
 case true=>
  clear f7 f8 f9 f10 f11 f12 f13 f14 f15 f16 f17 f18 f19 f20 f21 f22 f23 f24 f25 f26 f27 f28 f29 f30 f31 f32 f33 f34
  go_wp2_with fail
  go_ret
  exact⟨by rw[HR.out];simp,rfl⟩
 cases b7
 case true=>
  clear f8 f9 f10 f11 f12 f13 f14 f15 f16 f17 f18 f19 f20 f21 f22 f23 f24 f25 f26 f27 f28 f29 f30 f31 f32 f33 f34
  go_wp2_with fail
  go_ret
  exact⟨by rw[HR.out];simp,rfl⟩
 cases b8
 case true=>
  clear f9 f10 f11 f12 f13 f14 f15 f16 f17 f18 f19 f20 f21 f22 f23 f24 f25 f26 f27 f28 f29 f30 f31 f32 f33 f34
  go_wp2_with fail
  go_ret
  exact⟨by rw[HR.out];simp,rfl⟩
 cases b9
 case true=>
  clear f10 f11 f12 f13 f14 f15 f16 f17 f18 f19 f20 f21 f22 f23 f24 f25 f26 f27 f28 f29 f30 f31 f32 f33 f34
  go_wp2_with fail
  go_ret
  exact⟨by rw[HR.out];simp,rfl⟩
 cases b10
 case true=>
  clear f11 f12 f13 f14 f15 f16 f17 f18 f19 f20 f21 f22 f23 f24 f25 f26 f27 f28 f29 f30 f31 f32 f33 f34
  go_wp2_with fail
  go_ret
  exact⟨by rw[HR.out];simp,rfl⟩
 cases b11
 case true=>
  clear f12 f13 f14 f15 f16 f17 f18 f19 f20 f21 f22 f23 f24 f25 f26 f27 f28 f29 f30 f31 f32 f33 f34
  go_wp2_with fail
  go_ret
  exact⟨by rw[HR.out];simp,rfl⟩
 cases b12
 case true=>
  clear f13 f14 f15 f16 f17 f18 f19 f20 f21 f22 f23 f24 f25 f26 f27 f28 f29 f30 f31 f32 f33 f34
  go_wp2_with fail
  go_ret
  exact⟨by rw[HR.out];simp,rfl⟩
 cases b13
 case true=>
  clear f14 f15 f16 f17 f18 f19 f20 f21 f22 f23 f24 f25 f26 f27 f28 f29 f30 f31 f32 f33 f34
  go_wp2_with fail
  go_ret
  exact⟨by rw[HR.out];simp,rfl⟩
 cases b14
 case true=>
  clear f15 f16 f17 f18 f19 f20 f21 f22 f23 f24 f25 f26 f27 f28 f29 f30 f31 f32 f33 f34
  go_wp2_with fail
  go_ret
  exact⟨by rw[HR.out];simp,rfl⟩
 cases b15
 case true=>
  clear f16 f17 f18 f19 f20 f21 f22 f23 f24 f25 f26 f27 f28 f29 f30 f31 f32 f33 f34
  go_wp2_with fail
  go_ret
  exact⟨by rw[HR.out];simp,rfl⟩
 cases b16
 case true=>
  clear f17 f18 f19 f20 f21 f22 f23 f24 f25 f26 f27 f28 f29 f30 f31 f32 f33 f34
  go_wp2_with fail
  go_ret
  exact⟨by rw[HR.out];simp,rfl⟩
 cases b17
 case true=>
  clear f18 f19 f20 f21 f22 f23 f24 f25 f26 f27 f28 f29 f30 f31 f32 f33 f34
  go_wp2_with fail
  go_ret
  exact⟨by rw[HR.out];simp,rfl⟩
 cases b18
 case true=>
  clear f19 f20 f21 f22 f23 f24 f25 f26 f27 f28 f29 f30 f31 f32 f33 f34
  go_wp2_with fail
  go_ret
  exact⟨by rw[HR.out];simp,rfl⟩
 cases b19
 case true=>
  clear f20 f21 f22 f23 f24 f25 f26 f27 f28 f29 f30 f31 f32 f33 f34
  go_wp2_with fail
  go_ret
  exact⟨by rw[HR.out];simp,rfl⟩
 cases b20
 case true=>
  clear f21 f22 f23 f24 f25 f26 f27 f28 f29 f30 f31 f32 f33 f34
  go_wp2_with fail
  go_ret
  exact⟨by rw[HR.out];simp,rfl⟩
 cases b21
 case true=>
  clear f22 f23 f24 f25 f26 f27 f28 f29 f30 f31 f32 f33 f34
  go_wp2_with fail
  go_ret
  exact⟨by rw[HR.out];simp,rfl⟩
 cases b22
 case true=>
  clear f23 f24 f25 f26 f27 f28 f29 f30 f31 f32 f33 f34
  go_wp2_with fail
  go_ret
  exact⟨by rw[HR.out];simp,rfl⟩
 cases b23
 case true=>
  clear f24 f25 f26 f27 f28 f29 f30 f31 f32 f33 f34
  go_wp2_with fail
  go_ret
  exact⟨by rw[HR.out];simp,rfl⟩
 cases b24
 case true=>
  clear f25 f26 f27 f28 f29 f30 f31 f32 f33 f34
  go_wp2_with fail
  go_ret
  exact⟨by rw[HR.out];simp,rfl⟩
 cases b25
 case true=>
  clear f26 f27 f28 f29 f30 f31 f32 f33 f34
  go_wp2_with fail
  go_ret
  exact⟨by rw[HR.out];simp,rfl⟩
 cases b26
 case true=>
  clear f27 f28 f29 f30 f31 f32 f33 f34
  go_wp2_with fail
  go_ret
  exact⟨by rw[HR.out];simp,rfl⟩
 cases b27
 case true=>
  clear f28 f29 f30 f31 f32 f33 f34
  go_wp2_with fail
  go_ret
  exact⟨by rw[HR.out];simp,rfl⟩
 cases b28
 case true=>
  clear f29 f30 f31 f32 f33 f34
  go_wp2_with fail
  go_ret
  exact⟨by rw[HR.out];simp,rfl⟩
 cases b29
 case true=>
  clear f30 f31 f32 f33 f34
  go_wp2_with fail
  go_ret
  exact⟨by rw[HR.out];simp,rfl⟩
 cases b30
 case true=>
  clear f31 f32 f33 f34
  go_wp2_with fail
  go_ret
  exact⟨by rw[HR.out];simp,rfl⟩
 cases b31
 case true=>
  clear f32 f33 f34
  go_wp2_with fail
  go_ret
  exact⟨by rw[HR.out];simp,rfl⟩
 cases b32
 case true=>
  clear f33 f34
  go_wp2_with fail
  go_ret
  exact⟨by rw[HR.out];simp,rfl⟩
 cases b33
 case true=>
  clear f34
  go_wp2_with fail
  go_ret
  exact⟨by rw[HR.out];simp,rfl⟩
 cases b34
 case true=>
  go_wp2_with fail
  go_ret
  exact⟨by rw[HR.out];simp,rfl⟩
 go_wp2_with fail
 go_ret
 exact⟨by rw[HR.out];rfl,rfl⟩
end Go.Proofs.YtecdfnpbcabdnaaGreatDoor
