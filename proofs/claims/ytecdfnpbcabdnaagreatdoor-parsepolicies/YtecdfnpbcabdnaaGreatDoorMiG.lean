import Derived.Test.YtecdfnpbcabdnaaGreatDoorScI
import Derived.Lib.Strings
import Derived.Test.YtecdfnpbcabdnaaGreatDoorMgR
import Derived.OwnWalk
section
namespace Go.Proofs.YtecdfnpbcabdnaaGreatDoor
open Go.RowKit Go.Lib
def Lead (b n r0 least:Nat):Prop:=128<=b/\((b/32=6/\n=2/\r0=b%32/\least=128)\/(b/16=14/\n=3/\r0=b%16/\least=2048)\/(b/8=30/\n=4/\r0=b%8/\least=65536))
def acc (g:Nat->Nat)(r0:Nat):Nat->Option Nat
 | 0=>none
 | 1=>some r0
 | k+2=>(acc g r0 (k+1)).bind fun r=>if g (k+1)/64=2 then some (r*64+g (k+1)%64) else none
theorem acc_step {g:Nat->Nat}{r0 k r:Nat}(hk:1<=k)(h:acc g r0 k=some r):acc g r0 (k+1)=if g k/64=2 then some (r*64+g k%64) else none:=by
 obtain⟨k,rfl⟩:∃ j,k=j+1:=⟨k-1,by omega⟩
 simp only[acc,h,Option.bind_some]
theorem acc_none {g:Nat->Nat}{r0 k:Nat}(hk:1<=k)(h:acc g r0 k=none):∀ m,acc g r0 (k+m)=none
 | 0=>h
 | m+1=>by
   obtain⟨k,rfl⟩:∃ j,k=j+1:=⟨k-1,by omega⟩
   have:=acc_none hk h m
   rw[show k+1+(m+1)=(k+m)+2 by omega]
   rw[show k+1+m=k+m+1 by omega] at this
   simp only[acc,this,Option.bind_none]
theorem lead_short {b n r0 least m:Nat}{g:Nat->Nat}(hL:Lead b n r0 least)(h:m<n):noSeq (decodeN m b (g 1) (g 2) (g 3))=true:=by
 unfold decodeN
 obtain⟨h0,h1 | h1 | h1⟩:=hL
 all_goals (
  rw[if_neg (by omega),if_neg (by omega),if_neg (by omega),if_neg (by omega)]
  rfl)
theorem lead_none {b n r0 least m:Nat}{g:Nat->Nat}(hL:Lead b n r0 least)(h:acc g r0 n=none):noSeq (decodeN m b (g 1) (g 2) (g 3))=true:=by
 unfold decodeN
 obtain⟨h0,⟨h1,rfl,rfl,rfl⟩ | ⟨h1,rfl,rfl,rfl⟩ | ⟨h1,rfl,rfl,rfl⟩⟩:=hL
 ·simp only[acc,Option.bind_some] at h
  by_cases k1:g 1/64=2
  ·simp[k1] at h
  rw[if_neg (by omega),if_neg (by omega),if_neg (by omega),if_neg (by omega)]
  rfl
 ·simp only[acc,Option.bind_some] at h
  by_cases k1:g 1/64=2
  ·by_cases k2:g 2/64=2
   ·simp[k1,k2] at h
   rw[if_neg (by omega),if_neg (by omega),if_neg (by omega),if_neg (by omega)]
   rfl
  rw[if_neg (by omega),if_neg (by omega),if_neg (by omega),if_neg (by omega)]
  rfl
 ·simp only[acc,Option.bind_some] at h
  by_cases k1:g 1/64=2
  ·by_cases k2:g 2/64=2
   ·by_cases k3:g 3/64=2
    ·simp[k1,k2,k3] at h
    rw[if_neg (by omega),if_neg (by omega),if_neg (by omega),if_neg (by omega)]
    rfl
   rw[if_neg (by omega),if_neg (by omega),if_neg (by omega),if_neg (by omega)]
   rfl
  rw[if_neg (by omega),if_neg (by omega),if_neg (by omega),if_neg (by omega)]
  rfl
abbrev outR (r least:Nat):Prop:=r<least\/1114111<r\/(55296<=r/\r<=57343)
theorem lead_some {b n r0 least m:Nat}{g:Nat->Nat}(hL:Lead b n r0 least){r:Nat}(h:acc g r0 n=some r)(hm:n<=m):(outR r least->noSeq (decodeN m b (g 1) (g 2) (g 3))=true)/\(¬ outR r least->decodeN m b (g 1) (g 2) (g 3)=(r,n)):=by
 unfold decodeN
 obtain⟨h0,⟨h1,rfl,rfl,rfl⟩ | ⟨h1,rfl,rfl,rfl⟩ | ⟨h1,rfl,rfl,rfl⟩⟩:=hL
 ·simp only[acc,Option.bind_some,Nat.zero_add] at h
  by_cases k1:g 1/64=2
  ·simp only[if_pos k1,Option.some.injEq] at h
   rw[if_neg (by omega),if_pos (by omega)]
   constructor
   ·intro ho
    rw[if_neg (by omega)]
    rfl
   ·intro ho
    rw[if_pos (by omega),h]
  ·simp[k1] at h
 ·simp only[acc,Option.bind_some,Nat.zero_add,Nat.reduceAdd] at h
  by_cases k1:g 1/64=2
  ·by_cases k2:g 2/64=2
   ·simp only[if_pos k1,if_pos k2,Option.bind_some,Option.some.injEq] at h
    rw[if_neg (by omega),if_neg (by omega),if_pos (by omega)]
    constructor
    ·intro ho
     rw[if_neg (by omega)]
     rfl
    ·intro ho
     rw[if_pos (by omega)]
     exact Prod.ext (by simp only[];omega) rfl
   ·simp[k1,k2] at h
  ·simp[k1] at h
 ·simp only[acc,Option.bind_some,Nat.zero_add,Nat.reduceAdd] at h
  by_cases k1:g 1/64=2
  ·by_cases k2:g 2/64=2
   ·by_cases k3:g 3/64=2
    ·simp only[if_pos k1,if_pos k2,if_pos k3,Option.bind_some,Option.some.injEq] at h
     rw[if_neg (by omega),if_neg (by omega),if_neg (by omega),if_pos (by omega)]
     constructor
     ·intro ho
      rw[if_neg (by omega)]
      rfl
     ·intro ho
      rw[if_pos (by omega)]
      exact Prod.ext (by simp only[];omega) rfl
    ·simp[k1,k2,k3] at h
   ·simp[k1,k2] at h
  ·simp[k1] at h
theorem lead_not {b m:Nat}{g:Nat->Nat}(h0:128<=b)(h1:¬ b/32=6)(h2:¬ b/16=14)(h3:¬ b/8=30):noSeq (decodeN m b (g 1) (g 2) (g 3))=true:=by
 unfold decodeN
 rw[if_neg (by omega),if_neg (by omega),if_neg (by omega),if_neg (by omega)]
 rfl
def seqV (d:Nat×Nat):Nat×Nat:=if noSeq d then (0,0) else d
theorem gt_of (s:ByteArray)(k:Nat)(h:k<s.size):s[k]'h=s.get! k:=by
 cases s with
 | mk d=>exact(getElem!_pos d k h).symm
set_option maxHeartbeats 1000000 in
set_option maxRecDepth 10000 in
theorem seq_c (s:ByteArray)(i:Nat)(hi:i<s.size)(hz:s.size<=562949953421312)(w:World):Calls Tryz.prog 78 #[.string s,.int .i64 i] w fun e w'=>e=.returned (.tuple #[.int .i64 ((seqV (Utf8.decode s i)).1:Nat),.int .i64 ((seqV (Utf8.decode s i)).2:Nat)])/\w'=w:=by
 obtain⟨v,hv⟩:∃ v,Hid (v=seqV (Utf8.decode s i)):=⟨_,rfl⟩
 rw[<-hv.out]
 obtain⟨g,hg⟩:∃ g:Nat->Nat,Hid (∀ k,g k=(s.get! (i+k)).toNat):=⟨_,fun _=>rfl⟩
 have hd:Hid (Utf8.decode s i=decodeN (s.size-i) (g 0) (g 1) (g 2) (g 3)):=by
  show _=_
  rw[Lib.decode_at,hg.out,hg.out,hg.out,hg.out]
  rfl
 have hb:∀ k,g k<256:=fun k=>by rw[hg.out];exact(s.get! (i+k)).toNat_lt
 have hb0:=hb 0
 have hx:(s[i]'hi).toNat=g 0:=by rw[hg.out,gt_of];rfl
 have hi2:(i:Int)<(s.size:Int):=by omega
 by_cases c1:g 0<128
 ·have c1':(g 0:Int)<128:=by omega
  have hv0:v=(g 0,1):=by
   rw[hv.out,hd.out]
   unfold decodeN
   rw[if_pos c1]
   exact if_neg (by simp;omega)
  clear hv hd
  go_enter Tryz.func78,Tryz.ntmps78
  go_wp2_with fail
  go_ret2
  exact⟨by first | rfl|(rw[hv0];rfl),rfl⟩
 have c1':¬(g 0:Int)<128:=by omega
 by_cases c2:g 0/32=6
 ·-- 2 bytes
  have c2':((g 0:Int)/32==6)=true:=beq_iff_eq.2 (by omega)
  have hL:Hid (Lead (g 0) 2 (g 0%32) 128):=⟨by omega,.inl ⟨c2,rfl,rfl,rfl⟩⟩
  by_cases hn:i+2<=s.size
  ·have hn1:¬((s.size:Int)<(i:Int)+2):=by omega
   have hrest:Hid (∀ r,acc g (g 0%32) 2=some r->(outR r 128->v=(0,0))/\(¬ outR r 128->v=(r,2))):=fun r hr=>by
    have:=lead_some hL.out hr (m:=s.size-i) (by omega)
    rw[<-hd.out] at this
    exact⟨fun h=>by rw[hv.out];exact if_pos (this.1 h),fun h=>by rw[hv.out,this.2 h];exact if_neg (by simp)⟩
   have hnone:Hid (acc g (g 0%32) 2=none->v=(0,0)):=fun hr=>by
    have:=lead_none hL.out hr (m:=s.size-i)
    rw[<-hd.out] at this
    rw[hv.out]
    exact if_pos this
   clear hv hd hL
   go_enter Tryz.func78,Tryz.ntmps78
   go_wp2_with fail
   go_loop [8,10] (fun s8 s10=>∃ k r:Nat,s8=.int .i64 r/\s10=.int .i64 k/\1<=k/\k<=2/\r<64^k/\Hid (acc g (g 0%32) k=some r)) (fun _ s10=>match s10 with | .int _ k=>(2-k).toNat | _=>0)
   case atStart=>exact⟨1,g 0%32,congrArg _ (by omega),rfl,by omega,by omega,by omega,rfl⟩
   case round=>
    obtain⟨k,r,rfl,rfl,hk1,hk2,hr,HA⟩:=hrel
    by_cases hk:k<2
    ·have hkz:(k:Int)<2:=by omega
     have hik:i+k<s.size:=by omega
     have hxk:(s[i+k]'hik).toNat=g k:=by rw[hg.out,gt_of]
     have hbk:=hb k
     have hr4:r<64^4:=Nat.lt_of_lt_of_le hr (Nat.pow_le_pow_right (by omega) (by omega))
     have HR:Hid (r<64^k):=hr
     clear hr
     by_cases k64:g k/64=2
     ·have k64':((g k:Int)/64 != 2)=false:=by simp;omega
      go_wp2_with fail
      go_round
      case rel=>
       refine⟨k+1,r*64+g k%64,congrArg _ (by omega),rfl,by omega,by omega,?_,?_⟩
       ·have:=HR.out
        rw[Nat.pow_succ]
        omega
       ·show _=_
        rw[acc_step hk1 HA.out,if_pos k64]
      case measure=>simp only[];omega
     ·have k64':((g k:Int)/64 != 2)=true:=by simp;omega
      have hv0:v=(0,0):=hnone.out (by
       have h1:=acc_step hk1 HA.out
       rw[if_neg k64] at h1
       have h2:=acc_none (by omega) h1 (2-(k+1))
       rwa [show k+1+(2-(k+1))=2 by omega] at h2)
      clear hrest hnone HA
      go_wp2_with fail
      go_ret2
      exact⟨by first | rfl|(rw[hv0];rfl),rfl⟩
    ·obtain rfl:k=2:=by omega
     have hfin:Hid _:=hrest.out r HA.out
     clear HA hnone hrest hr
     go_wp2_with fail
     all_goals go_ret2
     all_goals first
      | exact⟨by rw[hfin.out.1 (by omega)];rfl,rfl⟩
      | exact⟨by rw[hfin.out.2 (by omega)];rfl,rfl⟩
  ·have hn1:(s.size:Int)<(i:Int)+2:=by omega
   have hv0:v=(0,0):=by
    rw[hv.out,hd.out]
    exact if_pos (lead_short hL.out (by omega))
   clear hv hd hL
   go_enter Tryz.func78,Tryz.ntmps78
   go_wp2_with fail
   go_ret2
   exact⟨by first | rfl|(rw[hv0];rfl),rfl⟩
 have c2':((g 0:Int)/32==6)=false:=beq_eq_false_iff_ne.2 (by omega)
 by_cases c3:g 0/16=14
 ·-- 3 bytes
  have c3':((g 0:Int)/16==14)=true:=beq_iff_eq.2 (by omega)
  have hL:Hid (Lead (g 0) 3 (g 0%16) 2048):=⟨by omega,.inr (.inl ⟨c3,rfl,rfl,rfl⟩)⟩
  by_cases hn:i+3<=s.size
  ·have hn1:¬((s.size:Int)<(i:Int)+3):=by omega
   have hrest:Hid (∀ r,acc g (g 0%16) 3=some r->(outR r 2048->v=(0,0))/\(¬ outR r 2048->v=(r,3))):=fun r hr=>by
    have:=lead_some hL.out hr (m:=s.size-i) (by omega)
    rw[<-hd.out] at this
    exact⟨fun h=>by rw[hv.out];exact if_pos (this.1 h),fun h=>by rw[hv.out,this.2 h];exact if_neg (by simp)⟩
   have hnone:Hid (acc g (g 0%16) 3=none->v=(0,0)):=fun hr=>by
    have:=lead_none hL.out hr (m:=s.size-i)
    rw[<-hd.out] at this
    rw[hv.out]
    exact if_pos this
   clear hv hd hL
   go_enter Tryz.func78,Tryz.ntmps78
   go_wp2_with fail
   go_loop [8,10] (fun s8 s10=>∃ k r:Nat,s8=.int .i64 r/\s10=.int .i64 k/\1<=k/\k<=3/\r<64^k/\Hid (acc g (g 0%16) k=some r)) (fun _ s10=>match s10 with | .int _ k=>(3-k).toNat | _=>0)
   case atStart=>exact⟨1,g 0%16,congrArg _ (by omega),rfl,by omega,by omega,by omega,rfl⟩
   case round=>
    obtain⟨k,r,rfl,rfl,hk1,hk2,hr,HA⟩:=hrel
    by_cases hk:k<3
    ·have hkz:(k:Int)<3:=by omega
     have hik:i+k<s.size:=by omega
     have hxk:(s[i+k]'hik).toNat=g k:=by rw[hg.out,gt_of]
     have hbk:=hb k
     have hr4:r<64^4:=Nat.lt_of_lt_of_le hr (Nat.pow_le_pow_right (by omega) (by omega))
     have HR:Hid (r<64^k):=hr
     clear hr
     by_cases k64:g k/64=2
     ·have k64':((g k:Int)/64 != 2)=false:=by simp;omega
      go_wp2_with fail
      go_round
      case rel=>
       refine⟨k+1,r*64+g k%64,congrArg _ (by omega),rfl,by omega,by omega,?_,?_⟩
       ·have:=HR.out
        rw[Nat.pow_succ]
        omega
       ·show _=_
        rw[acc_step hk1 HA.out,if_pos k64]
      case measure=>simp only[];omega
     ·have k64':((g k:Int)/64 != 2)=true:=by simp;omega
      have hv0:v=(0,0):=hnone.out (by
       have h1:=acc_step hk1 HA.out
       rw[if_neg k64] at h1
       have h2:=acc_none (by omega) h1 (3-(k+1))
       rwa [show k+1+(3-(k+1))=3 by omega] at h2)
      clear hrest hnone HA
      go_wp2_with fail
      go_ret2
      exact⟨by first | rfl|(rw[hv0];rfl),rfl⟩
    ·obtain rfl:k=3:=by omega
     have hfin:Hid _:=hrest.out r HA.out
     clear HA hnone hrest hr
     go_wp2_with fail
     all_goals go_ret2
     all_goals first
      | exact⟨by rw[hfin.out.1 (by omega)];rfl,rfl⟩
      | exact⟨by rw[hfin.out.2 (by omega)];rfl,rfl⟩
  ·have hn1:(s.size:Int)<(i:Int)+3:=by omega
   have hv0:v=(0,0):=by
    rw[hv.out,hd.out]
    exact if_pos (lead_short hL.out (by omega))
   clear hv hd hL
   go_enter Tryz.func78,Tryz.ntmps78
   go_wp2_with fail
   go_ret2
   exact⟨by first | rfl|(rw[hv0];rfl),rfl⟩
 have c3':((g 0:Int)/16==14)=false:=beq_eq_false_iff_ne.2 (by omega)
 by_cases c4:g 0/8=30
 ·-- 4 bytes
  have c4':((g 0:Int)/8==30)=true:=beq_iff_eq.2 (by omega)
  have hL:Hid (Lead (g 0) 4 (g 0%8) 65536):=⟨by omega,.inr (.inr ⟨c4,rfl,rfl,rfl⟩)⟩
  by_cases hn:i+4<=s.size
  ·have hn1:¬((s.size:Int)<(i:Int)+4):=by omega
   have hrest:Hid (∀ r,acc g (g 0%8) 4=some r->(outR r 65536->v=(0,0))/\(¬ outR r 65536->v=(r,4))):=fun r hr=>by
    have:=lead_some hL.out hr (m:=s.size-i) (by omega)
    rw[<-hd.out] at this
    exact⟨fun h=>by rw[hv.out];exact if_pos (this.1 h),fun h=>by rw[hv.out,this.2 h];exact if_neg (by simp)⟩
   have hnone:Hid (acc g (g 0%8) 4=none->v=(0,0)):=fun hr=>by
    have:=lead_none hL.out hr (m:=s.size-i)
    rw[<-hd.out] at this
    rw[hv.out]
    exact if_pos this
   clear hv hd hL
   go_enter Tryz.func78,Tryz.ntmps78
   go_wp2_with fail
   go_loop [8,10] (fun s8 s10=>∃ k r:Nat,s8=.int .i64 r/\s10=.int .i64 k/\1<=k/\k<=4/\r<64^k/\Hid (acc g (g 0%8) k=some r)) (fun _ s10=>match s10 with | .int _ k=>(4-k).toNat | _=>0)
   case atStart=>exact⟨1,g 0%8,congrArg _ (by omega),rfl,by omega,by omega,by omega,rfl⟩
   case round=>
    obtain⟨k,r,rfl,rfl,hk1,hk2,hr,HA⟩:=hrel
    by_cases hk:k<4
    ·have hkz:(k:Int)<4:=by omega
     have hik:i+k<s.size:=by omega
     have hxk:(s[i+k]'hik).toNat=g k:=by rw[hg.out,gt_of]
     have hbk:=hb k
     have hr4:r<64^4:=Nat.lt_of_lt_of_le hr (Nat.pow_le_pow_right (by omega) (by omega))
     have HR:Hid (r<64^k):=hr
     clear hr
     by_cases k64:g k/64=2
     ·have k64':((g k:Int)/64 != 2)=false:=by simp;omega
      go_wp2_with fail
      go_round
      case rel=>
       refine⟨k+1,r*64+g k%64,congrArg _ (by omega),rfl,by omega,by omega,?_,?_⟩
       ·have:=HR.out
        rw[Nat.pow_succ]
        omega
       ·show _=_
        rw[acc_step hk1 HA.out,if_pos k64]
      case measure=>simp only[];omega
     ·have k64':((g k:Int)/64 != 2)=true:=by simp;omega
      have hv0:v=(0,0):=hnone.out (by
       have h1:=acc_step hk1 HA.out
       rw[if_neg k64] at h1
       have h2:=acc_none (by omega) h1 (4-(k+1))
       rwa [show k+1+(4-(k+1))=4 by omega] at h2)
      clear hrest hnone HA
      go_wp2_with fail
      go_ret2
      exact⟨by first | rfl|(rw[hv0];rfl),rfl⟩
    ·obtain rfl:k=4:=by omega
     have hfin:Hid _:=hrest.out r HA.out
     clear HA hnone hrest hr
     go_wp2_with fail
     all_goals go_ret2
     all_goals first
      | exact⟨by rw[hfin.out.1 (by omega)];rfl,rfl⟩
      | exact⟨by rw[hfin.out.2 (by omega)];rfl,rfl⟩
  ·have hn1:(s.size:Int)<(i:Int)+4:=by omega
   have hv0:v=(0,0):=by
    rw[hv.out,hd.out]
    exact if_pos (lead_short hL.out (by omega))
   clear hv hd hL
   go_enter Tryz.func78,Tryz.ntmps78
   go_wp2_with fail
   go_ret2
   exact⟨by first | rfl|(rw[hv0];rfl),rfl⟩
 have c4':((g 0:Int)/8==30)=false:=beq_eq_false_iff_ne.2 (by omega)
 have hv0:v=(0,0):=by
  rw[hv.out,hd.out]
  exact if_pos (lead_not (by omega) c2 c3 c4)
 clear hv hd
 go_enter Tryz.func78,Tryz.ntmps78
 go_wp2_with fail
 go_ret2
 exact⟨by first | rfl|(rw[hv0];rfl),rfl⟩
end Go.Proofs.YtecdfnpbcabdnaaGreatDoor
end
section
namespace Go.Proofs.YtecdfnpbcabdnaaGreatDoor
open Go.RowKit
theorem own_on {w w':World}{B size:Nat}{e:TypeId}{v:Value}{n:Nat}{xs:List Value}(h:w.ownsRow B e size v n xs)(hb:Below w.heap.size w w'):w'.ownsRow B e size v n xs:=by
 obtain⟨h1,h2⟩:=h
 refine⟨h1,?_⟩
 rcases h2 with h2 | ⟨g,cap,cur,rfl,h3,h4,h5,h6,h7,h8⟩
 ·exact .inl h2
 ·exact .inr ⟨g,cap,cur,rfl,h3,(hb.block g (Array.getElem?_eq_some_iff.1 h4).1).trans h4,h5,h6,h7,h8⟩
theorem below_own {B B2 size:Nat}{e:TypeId}{W wr w':World}{v:Value}{n:Nat}{xs:List Value}(hbl:Below B W wr)(hs:B<=wr.heap.size)(o:Obj)(hB:B<=B2)(hown:wr.ownsRow B2 e size v n xs)(hg:(wr.alloc o).grownBy w' v.ownBlock):Below B W w':=
 (hbl.alloc hs o).grown hg (by simp;omega) (fun k hk=>Nat.le_trans hB (hown.lt k hk).1)
theorem own_val {w:World}{B size:Nat}{e:TypeId}{v:Value}{n:Nat}{xs:List Value}(h:w.ownsRow B e size v n xs):∃ a c,v=.slice a n c:=by
 rcases h.2 with ⟨rfl,rfl⟩ | ⟨g,cap,cur,rfl,_⟩
 ·exact⟨_,_,rfl⟩
 ·exact⟨_,_,rfl⟩
def pcs (l:List (Int×Int)):List Value:=l.flatMap fun p=>[.int .i64 p.1,.int .i64 p.2]
theorem pcs_snoc (l:List (Int×Int))(r p:Int):pcs (l++[(r,p)])=pcs l++[.int .i64 r,.int .i64 p]:=by simp[pcs]
theorem pcs_get:∀ (l:List (Int×Int)) (i:Nat) (p:Int×Int),l[i]? = some p->(pcs l)[2*i]? = some (.int .i64 p.1)/\(pcs l)[2*i+1]? = some (.int .i64 p.2)
 | [],_,_,h=>by simp at h
 | q::t,0,p,h=>by
   simp at h
   subst h
   exact⟨rfl,rfl⟩
 | q::t,i+1,p,h=>by
   have:=pcs_get t i p (by simpa using h)
   exact this
abbrev toI (l:List (Nat×Nat)):List (Int×Int):=l.map fun p=>((p.1:Int),(p.2:Int))
theorem info_pc:(Tryz.prog.info? 86).map (fun i=>(i.zero,i.size,i.bytes))=some (some (.agg #[.int .i64 0,.int .i64 0]),2,16):=by kernel_rfl
theorem cell_two_new (w:World)(a b:Value)(t:TypeId):∀ j u,[a,b][j]? = some u->(w.alloc (.cells #[a,b] t)).cell? ((⟨w.heap.size,0,none⟩:Addr).add j)=some u:=by
 intro j u hj
 match j,hj with
 | 0,hj=>simp at hj;subst hj;simp[Addr.add]
 | 1,hj=>simp at hj;subst hj;simp[Addr.add]
 | j+2,hj=>simp at hj
structure PcPost (s:ByteArray)(w:World)(e:Ending)(w':World):Prop where
 val:∃ v,e=.returned (.tuple #[v,.int .i64 ((sd 10 11 s (rs s 0)).1:Nat),.int .i64 (sd 10 11 s (rs s 0)).2])/\(if (sd 10 11 s (rs s 0)).2=0 then w'.ownsRow w.heap.size 86 2 v (rs s 0).length (pcs (toI (rs s 0))) else v=.slice none 0 0)
 bel:Below w.heap.size w w'
set_option maxHeartbeats 1000000 in
theorem pieces_c (s:ByteArray)(hz:s.size<=1048576)(w:World):Calls Tryz.prog 55 #[.string s] w (PcPost s w):=by
 obtain⟨i0,hi,hz0,hz1,hz2⟩:=info_parts info_pc
 go_enter Tryz.func55,Tryz.ntmps55
 go_wp2_with fail
 go_loopw [5,6] (fun v s6 wr=>∃ (pos:Nat) (l:List (Nat×Nat)),s6=.int .i64 pos/\pos<=s.size/\l.length<=pos/\Hid (l++rs s pos=rs s 0)/\wr.ownsRow w.heap.size 86 2 v l.length (pcs (toI l))/\Below w.heap.size w wr/\Hid (sd 10 11 s (rs s pos)=sd 10 11 s (rs s 0))) (fun _ s6 _=>match s6 with | .int _ p=>((s.size:Int)-p).toNat | _=>0)
 case atStart=>exact⟨0,[],rfl,by omega,by simp,rfl,World.ownsRow_nil _ _ _ _,Below.refl _ _,rfl⟩
 case round=>
  obtain⟨pos,l,rfl,hps,hll,HL,hown,hbw,HS⟩:=hrel
  by_cases hp:pos<s.size
  ·have hp1:(pos:Int)<(s.size:Int):=by omega
   have S:=seq_c s pos hp (by omega) wr
   have hwd:=width_pos s pos
   have hw4:=width_in s pos hp
   have HS':=HS.out
   have HL':=HL.out
   rw[rs_step hp] at HS' HL'
   simp only[sd] at HS'
   generalize hd:Utf8.decode s pos=d at *
   obtain⟨r,k⟩:=d
   simp only[] at *
   by_cases hn:noSeq (r,k)=true
   ·simp only[seqV,if_pos hn] at S
    have hf:flt 10 11 (r,k)=10:=if_pos hn
    rw[hf,if_neg (by decide)] at HS'
    have HE:Hid (sd 10 11 s (rs s 0)=(pos,10)):=HS'.symm
    clear HS HS' hd hn HL HL' hf
    go_wp2_with (go_at_call 78;refine S.mono ?_;rintro e w' ⟨rfl,rfl⟩)
    go_ret3
    exact⟨⟨_,by rw[HE.out];rfl,by rw[HE.out];rfl⟩,hbw⟩
   ·simp only[seqV,if_neg hn] at S
    have I:=rLetIn_c (r:Int) wr
    have hf:flt 10 11 (r,k)=if decide (InP (r:Int))=true then 0 else 11:=by unfold flt;rw[if_neg hn,lets_in]
    rw[hf] at HS'
    obtain⟨b,hb⟩:∃ b,Hid (b=decide (InP (r:Int))):=⟨_,rfl⟩
    rw[<-hb.out] at I HS'
    have k0:((k:Int)==0)=false:=beq_eq_false_iff_ne.2 (by omega)
    cases b with
    | false=>
      have HE:Hid (sd 10 11 s (rs s 0)=(pos,11)):=HS'.symm
      clear HS HS' hd hn HL HL' hf hb
      go_wp2_with (first
       | (go_at_call 78;refine S.mono ?_;rintro e w' ⟨rfl,rfl⟩)
       | (go_at_call 79;refine I.mono ?_;rintro e w' ⟨rfl,rfl⟩))
      go_ret3
      exact⟨⟨_,by rw[HE.out];rfl,by rw[HE.out];rfl⟩,hbw⟩
    | true=>
      have HE:Hid (sd 10 11 s (rs s (pos+k))=sd 10 11 s (rs s 0)):=HS'
      have HM:Hid ((l++[(r,pos)])++rs s (pos+k)=rs s 0):=by show _=_;rw[<-HL'];simp
      have hsz:=hbw.size
      have hkw:IntKind.i64.wrap ((pos:Int)+(k:Int))=((pos+k:Nat):Int):=by rw[IntKind.wrap_i64];omega
      clear HS HS' hd hn HL HL' hf hb
      go_wp2_with (first
       | (go_at_call 78;refine S.mono ?_;rintro e w' ⟨rfl,rfl⟩)
       | (go_at_call 79;refine I.mono ?_;rintro e w' ⟨rfl,rfl⟩)
       | (at_builtin;refine wpList_append_own _ rfl _ _ 82 rfl w.heap.size 86 i0 (.agg #[.int .i64 0,.int .i64 0]) 2 16 Tryz.underlying82 hi hz0 hz1 hz2 rfl (by decide) _ _ _ rfl (hown.alloc _) ⟨_,0,none⟩ 1 1 [.int .i64 (r:Int),.int .i64 (pos:Int)] rfl rfl ?c1 ?c2 ?c3 ?c4 ?c5 ?_))
      case c1=>exact cell_two_new _ _ _ _
      case c2=>intro u hu;simp at hu;rcases hu with rfl | rfl<;>rfl
      case c3=>unfold maxLen;omega
      case c4=>omega
      case c5=>simp;omega
      intro v' w1 hown' hgrow _
      have hown2:w1.ownsRow w.heap.size 86 2 v' (l++[(r,pos)]).length (pcs (toI (l++[(r,pos)]))):=by
       have e:toI (l++[(r,pos)])=toI l++[((r:Int),(pos:Int))]:=by simp[toI]
       rw[e,pcs_snoc,List.length_append]
       exact hown'
      have hbl2:=below_own hbw hsz _ (Nat.le_refl _) hown hgrow
      clear hown' hgrow
      go_wp2_with fail
      go_roundw
      case rel=>exact⟨pos+k,l++[(r,pos)],rfl,hw4,by simp;omega,HM.out,hown2,hbl2,HE.out⟩
      case measure=>simp only[];omega
  ·have hp1:¬(pos:Int)<(s.size:Int):=by omega
   have HS':=HS.out
   have HL':=HL.out
   rw[rs_end hp] at HS' HL'
   rw[List.append_nil] at HL'
   subst HL'
   have HE:Hid (sd 10 11 s (rs s 0)=(0,0)):=HS'.symm
   clear HS HS' HL
   go_wp2_with fail
   go_ret3
   exact⟨⟨_,by rw[HE.out];rfl,by rw[HE.out];exact hown⟩,hbw⟩
end Go.Proofs.YtecdfnpbcabdnaaGreatDoor
end
