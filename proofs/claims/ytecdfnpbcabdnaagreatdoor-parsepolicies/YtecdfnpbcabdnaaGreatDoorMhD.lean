import Derived.Test.YtecdfnpbcabdnaaGreatDoorMhA
import Derived.Test.YtecdfnpbcabdnaaGreatDoorMhB
import Derived.Test.YtecdfnpbcabdnaaGreatDoorMhC
namespace Go.Proofs.YtecdfnpbcabdnaaGreatDoor
open Go.RowKit Go.Lib
def TkPost (w:World)(B b g cap:Nat)(s:ByteArray)(I:Nat)(v:Value)(L:List Tk)(tr:TR)(e:Ending)(w':World):Prop:=
 match tr with
 | .ok te=>e=.returned (.int .i64 0)/\∃ I' v',Ct w B w' b g cap s I' v' (L++[te.1])/\Plc s I' te.2
 | .error k=>e=.returned (.int .i64 k)/\Ct w B w' b g cap s I v L
theorem cls3_1 {r:Int}(h:isC r 2=false):isC r 3=isC r 1:=by
 unfold isC at h ⊢
 simp only[Int.reduceEq,if_false,if_true] at h ⊢
 rw[decide_eq_false_iff_not] at h
 rw[Bool.eq_iff_iff,decide_eq_true_eq,decide_eq_true_eq]
 constructor
 ·rintro(h1 | h1)
  ·exact h1
  ·exact absurd h1 h
 ·exact .inl
theorem rAt_cls {s:ByteArray}{i:Nat}(hi:i<=s.size)(c:Int):isC (rAt s i) c=decide (i<cls s c i):=by
 unfold rAt
 by_cases h:i<s.size
 ·rw[if_pos h]
  rcases cls_step (c:=c) h with ⟨h1,h2⟩ | ⟨h1,h2⟩
  ·rw[h2,decide_eq_false (by omega)]
  ·rw[h2,decide_eq_true h1]
 ·have:cls s c i=s.size:=rn_end h
  rw[if_neg h,isC_minus,decide_eq_false (by omega)]
theorem stop_cls {s:ByteArray}{i:Nat}(hi:i<=s.size)(c:Int):isC (rAt s (cls s c i)) c=false:=by
 have hin:=cls_in s c i hi
 unfold rAt
 by_cases h:cls s c i<s.size
 ·rw[if_pos h]
  exact rn_stop s (fun r=>isC (r:Int) c) i h
 ·rw[if_neg h,isC_minus]
theorem numE_stop {s:ByteArray}{i:Nat}(hi:i<=s.size):isC (rAt s (numE s i)) 2=false:=by
 unfold numE
 split
 ·rename_i h
  exact stop_cls (get_in (by rw[h.1];decide)) 2
 ·exact stop_cls hi 2
theorem Ct.drewN {w W:World}{B b g cap I:Nat}{s:ByteArray}{v:Value}{L:List Tk}(h:Ct w B W b g cap s I v L)(q:Nat):Ct w B (W.drewN q) b g cap s I v L:=h.next (drewN_b2 W q)
theorem rd_at (x:ByteArray)(hx:x.size<=1048576)(w:World):Calls Tryz.prog 107 #[.string x] w fun e w'=>e=.returned (readV x.data.toList)/\w'=w:=by
 have:=rRead_any x.data.toList (by rw[<-Lib.size_eq];omega) w
 exact this.mono fun _ _ k=>⟨k.1,k.2.symm⟩
theorem sp_at (x:ByteArray)(hx:x.size<=1048576)(w:World):Calls Tryz.prog 108 #[.string x] w fun e w'=>e=.returned (spanR x.data.toList)/\Below w.heap.size w w':=rReadSpan_any x.data.toList (by rw[<-Lib.size_eq];omega) w
def endR (k:Int)(r:Int):Bool:=decide (r<0)||(decide (r=10)||(decide (k=8)&&(decide (r=91)||decide (r=34))))
theorem enc_ok {k:Int}{nv:List UInt8}{d:UInt8}{s:ByteArray}{i m:Nat}(h1:s.get! m=d)(h2:rn s (nin nv) (i+1)=m)(h3:(seg s (nin nv) (i+1)).length<=64):encT k nv d s i=.ok (⟨k,s.extract (i+1) m,0,i⟩,m+1):=by
 unfold encT
 rw[h2,if_pos ⟨h1,h3⟩]
theorem enc_no {k:Int}{nv:List UInt8}{d:UInt8}{s:ByteArray}{i:Nat}(h:¬(s.get! (rn s (nin nv) (i+1))=d/\(seg s (nin nv) (i+1)).length<=64)):encT k nv d s i=.error 12:=if_neg h
theorem Ct.piece' {w W:World}{B b g cap I K k:Nat}{s:ByteArray}{v:Value}{L:List Tk}(h:Ct w B W b g cap s I v L)(hp:Plc s K k):W.cell? ⟨g,K*2,none⟩=some (.int .i64 (rAt s k))/\W.cell? ⟨g,K*2+1,none⟩=some (.int .i64 (k:Nat)):=by
 have:=pcs_get _ _ _ hp.get
 rw[Nat.mul_comm] at this
 exact⟨h.pc.cell _ _ this.1,h.pc.cell _ _ this.2⟩
set_option maxHeartbeats 8000000 in
theorem between_r (w:World)(B:Nat)(W:World)(b g cap:Nat)(s:ByteArray)(hz:s.size<=1048576)(I i:Nat)(v:Value)(L:List Tk)(h:Ct w B W b g cap s I v L)(hp:Plc s I i)(hl:L.length<=16384)
 (kk st:Int) (nv:List UInt8) (d:UInt8) (hst:st=(d.toNat:Int)) (hd0:d≠0) (hd1:d.toNat<128) (hN:∀ r:Nat,nin nv r = !(decide ((r:Int)=st)||endR kk (r:Int))) (hp1:Plc s (I+1) (i+1)) (hv1:Vd s (i+1)) :
 Calls Tryz.prog 85 #[.pointer (some ⟨b,0,none⟩),.int .i64 kk,.int .i64 st] W (TkPost w B b g cap s I v L (encT kk nv d s i)):=by
 have H:=hid2 h
 obtain⟨c0,c1,c2,c3,f0,f1,f2,f3⟩:=h.box.four
 have hlt:=h.box.lt
 have hlg:=h.pc.lt
 have hll:=PL_len s
 have hrs:=rs_length0 s
 have hIl:=hp.le
 have HP:=hid2 hp
 have HP1:=hid2 hp1
 have HV1:=hid2 hv1
 have HN:=hid2 hN
 have HT:=hid2 (fun K k (hq:Plc s K k) (hik:i+1<=k) W' J (hc:Cu W' b s J v)=>text_c b s (I+1) J K (i+1) k v W' hc hp1 hq hik)
 have hw1:IntKind.i64.wrap ((I:Int)+1)=((I+1:Nat):Int):=by rw[IntKind.wrap_i64];omega
 generalize hPn:(PL s).length=nn at *
 generalize hEq:encT kk nv d s i=tr at *
 have HQ:=hid2 hEq
 clear h hp hp1 hv1 hN hEq
 go_enter Tryz.func85,Tryz.ntmps85
 go_wp2_with fail
 go_loop [7] (fun s7=>∃ K m t:Nat,s7=.int .i64 (K:Nat)/\K=I+1+t/\t<=64/\Hid (Plc s K m)/\Hid (Vd s m)/\i+1<=m/\Hid (rn s (nin nv) m=rn s (nin nv) (i+1))/\Hid ((seg s (nin nv) (i+1)).length=t+(seg s (nin nv) m).length)) (fun s7=>(rs s 0).length+1-(RowKit.intOf s7).toNat)
 case atStart=>exact⟨I+1,i+1,0,rfl,rfl,by omega,HP1,HV1,Nat.le_refl _,rfl,(Nat.zero_add _).symm⟩
 case round=>
  obtain⟨K,m,t,rfl,hK,ht,HPm,HVm,him,HR,HS⟩:=hrel
  obtain⟨r0,r1⟩:=H.out.piece' HPm.out
  have hKl:=HPm.out.le
  have hI2:(K:Int)<(nn:Int):=by omega
  have HK:=hid2 hK
  have hKb:(K:Int)<=1048577:=by omega
  have hIb:(I:Int)<=1048577:=by omega
  have hRs:=rAt_byte HVm.out d hd1 hd0
  rw[<-hst] at hRs
  clear hK hPn
  by_cases hq:rAt s m=st
  ·have n1:(rAt s m != st)=false:=by simp[hq]
   have hms:m<s.size:=get_in (by rw[hRs.1 hq];exact hd0)
   have hrr:(Utf8.decode s m).1=d.toNat:=by
    have:rAt s m=((Utf8.decode s m).1:Int):=if_pos hms
    rw[this,hst] at hq
    omega
   have hnf:nin nv (Utf8.decode s m).1=false:=by rw[HN.out,hrr,hst];simp
   have HE:Hid (tr=.ok (⟨kk,s.extract (i+1) m,0,i⟩,m+1)):=HQ.out.symm.trans (enc_ok (hRs.1 hq) (by rw[<-HR.out];exact rn_no hms hnf) (by rw[HS.out,seg_no hms hnf];simp;exact ht))
   have HP2:=HPm.out.step hms
   rw[dec_low (by rw[hRs.1 hq];exact hd1)] at HP2
   have HPn:=hid2 HP2
   have hTT:=hid2 (HT.out K m HPm.out him)
   have hw2:IntKind.i64.wrap ((K:Int)+1)=((K+1:Nat):Int):=by rw[IntKind.wrap_i64];omega
   generalize rAt s m=rr at *
   clear hrr hnf HR HS HT HP2 hRs hq
   go_wp2_with fail
   refine Calls.mono (hTT.out _ _ H.out.cu) ?_
   rintro r w8 ⟨rfl,q8,rfl⟩
   have H8:=hid2 (H.out.drewN q8)
   generalize World.drewN _ q8=W8 at *
   go_wp2_with fail
   refine Calls.mono (put_c w B W8 b g cap s I i (K+1) v L kk (s.extract (i+1) m) 0 H8.out HP.out hl) ?_
   rintro r w9 ⟨rfl,v9,C9⟩
   go_wp2_with fail
   go_ret
   unfold TkPost
   rw[HE.out]
   exact⟨rfl,K+1,v9,C9,HPn.out⟩
  ·have n1:(rAt s m != st)=true:=by simpa using hq
   have hge:¬ s.get! m=d:=fun hh=>hq (hRs.2 hh)
   have hER:Hid (endR kk (rAt s m)=true->tr=.error 12):=fun he=>by
    refine HQ.out.symm.trans (enc_no (fun hh=>hge ?_))
    have hrm:rn s (nin nv) m=m:=by
     by_cases hms:m<s.size
     ·refine rn_no hms ?_
      have h5:rAt s m=((Utf8.decode s m).1:Int):=if_pos hms
      rw[HN.out,<-h5,he]
      simp
     ·rw[rn_end hms]
      have:=HPm.out.inn
      omega
    rw[HR.out] at hrm
    rw[<-hrm]
    exact hh.1
   have hGO:Hid (endR kk (rAt s m)=false->m<s.size/\nin nv (Utf8.decode s m).1=true):=fun he=>by
    have hms:m<s.size:=by
     rcases Nat.lt_or_ge m s.size with hh | hh
     ·exact hh
     ·have h5:rAt s m = -1:=if_neg (by omega)
      rw[h5] at he
      simp[endR] at he
    refine⟨hms,?_⟩
    have h5:rAt s m=((Utf8.decode s m).1:Int):=if_pos hms
    rw[HN.out,<-h5,he,decide_eq_false hq]
    rfl
   have hLG:Hid (endR kk (rAt s m)=false->64<=t->tr=.error 12):=fun he ht2=>by
    obtain⟨g1,g2⟩:=hGO.out he
    refine HQ.out.symm.trans (enc_no (fun hh=>?_))
    have h6:=hh.2
    rw[HS.out,seg_yes g1 g2,List.length_cons] at h6
    omega
   have hw2:IntKind.i64.wrap ((K:Int)+1)=((K+1:Nat):Int):=by rw[IntKind.wrap_i64];omega
   have hw3:IntKind.i64.wrap ((I:Int)+64)=(I:Int)+64:=by rw[IntKind.wrap_i64];omega
   have fin:Hid (∀ w',tr=.error 12->w'=W->TkPost w B b g cap s I v L tr (.returned (.int .i64 12)) w'):=fun w' h1 h2=>by
    rw[h1,h2]
    exact⟨rfl,H.out⟩
   generalize rAt s m=rr at *
   clear hge hRs hq
   cases hend:endR kk rr with
   | true=>
     have htr:=hER.out hend
     have FIN:=hid2 (fin.out W htr rfl)
     have hx:(rr<0)\/(¬ rr<0/\rr=10)\/(¬ rr<0/\¬ rr=10/\kk=8/\rr=91)\/(¬ rr<0/\¬ rr=10/\kk=8/\¬ rr=91/\rr=34):=by
      unfold endR at hend
      simp only[Bool.or_eq_true,Bool.and_eq_true,decide_eq_true_eq] at hend
      omega
     clear fin hER hGO hLG hend htr
     rcases hx with h1 | ⟨h1,h2⟩ | ⟨h1,h2,rfl,rfl⟩ | ⟨h1,h2,rfl,h3,rfl⟩
     ·go_wp2_with fail
      go_ret
      exact FIN.out
     ·subst h2
      go_wp2_with fail
      go_ret
      exact FIN.out
     ·go_wp2_with fail
      go_ret
      exact FIN.out
     ·go_wp2_with fail
      go_ret
      exact FIN.out
   | false=>
     have hx:¬ rr<0/\¬ rr=10/\((kk=8/\¬ rr=91/\¬ rr=34)\/¬ kk=8):=by
      unfold endR at hend
      simp only[Bool.or_eq_false_iff,Bool.and_eq_false_iff,decide_eq_false_iff_not] at hend
      omega
     obtain⟨x1,x2,⟨rfl,x3,x4⟩ | x3⟩:=hx
     ·have y2:(rr==10)=false:=beq_eq_false_iff_ne.2 x2
      have y3:(rr==91)=false:=beq_eq_false_iff_ne.2 x3
      have y4:(rr==34)=false:=beq_eq_false_iff_ne.2 x4
      by_cases h64:64<=t
      ·have FIN:=hid2 (fin.out W (hLG.out hend h64) rfl)
       have h65:(I:Int)+64<(K:Int):=by have:=HK.out;omega
       clear fin hER hGO hLG hend h64
       go_wp2_with fail
       go_ret
       exact FIN.out
      ·obtain⟨g1,g2⟩:=hGO.out hend
       have h65:¬((I:Int)+64<(K:Int)):=by have:=HK.out;omega
       have P2:=hid2 (HPm.out.step g1)
       have V2:=hid2 (HVm.out.step g1).2.2
       have hwp:=width_pos s m
       have R2:Hid (rn s (nin nv) (m+(Utf8.decode s m).2)=rn s (nin nv) (i+1)):=by show _=_;rw[<-HR.out];exact(rn_yes g1 g2).symm
       have S2:Hid ((seg s (nin nv) (i+1)).length=(t+1)+(seg s (nin nv) (m+(Utf8.decode s m).2)).length):=by
        show _=_
        rw[HS.out,seg_yes g1 g2,List.length_cons]
        omega
       have hle2:=P2.out.le
       have K2:Hid (K+1=I+1+(t+1)):=by show _=_;rw[HK.out];omega
       clear fin hER hGO hLG hend g1 g2
       go_wp2_with fail
       go_round
       case rel=>exact⟨K+1,m+(Utf8.decode s m).2,t+1,rfl,K2.out,by omega,P2,V2,by omega,R2,S2⟩
       case measure=>simp[RowKit.intOf];omega
     ·have y2:(rr==10)=false:=beq_eq_false_iff_ne.2 x2
      have y3:(kk==8)=false:=beq_eq_false_iff_ne.2 x3
      by_cases h64:64<=t
      ·have FIN:=hid2 (fin.out W (hLG.out hend h64) rfl)
       have h65:(I:Int)+64<(K:Int):=by have:=HK.out;omega
       clear fin hER hGO hLG hend h64
       go_wp2_with fail
       go_ret
       exact FIN.out
      ·obtain⟨g1,g2⟩:=hGO.out hend
       have h65:¬((I:Int)+64<(K:Int)):=by have:=HK.out;omega
       have P2:=hid2 (HPm.out.step g1)
       have V2:=hid2 (HVm.out.step g1).2.2
       have hwp:=width_pos s m
       have R2:Hid (rn s (nin nv) (m+(Utf8.decode s m).2)=rn s (nin nv) (i+1)):=by show _=_;rw[<-HR.out];exact(rn_yes g1 g2).symm
       have S2:Hid ((seg s (nin nv) (i+1)).length=(t+1)+(seg s (nin nv) (m+(Utf8.decode s m).2)).length):=by
        show _=_
        rw[HS.out,seg_yes g1 g2,List.length_cons]
        omega
       have hle2:=P2.out.le
       have K2:Hid (K+1=I+1+(t+1)):=by show _=_;rw[HK.out];omega
       clear fin hER hGO hLG hend g1 g2
       go_wp2_with fail
       go_round
       case rel=>exact⟨K+1,m+(Utf8.decode s m).2,t+1,rfl,K2.out,by omega,P2,V2,by omega,R2,S2⟩
       case measure=>simp[RowKit.intOf];omega
theorem Ct.piece {w W:World}{B b g cap I K k:Nat}{s:ByteArray}{v:Value}{L:List Tk}(h:Ct w B W b g cap s I v L)(hp:Plc s K k):W.cell? ⟨g,K*2,none⟩=some (.int .i64 (rAt s k))/\W.cell? ⟨g,K*2+1,none⟩=some (.int .i64 (k:Nat)):=by
 have:=pcs_get _ _ _ hp.get
 rw[Nat.mul_comm] at this
 exact⟨h.pc.cell _ _ this.1,h.pc.cell _ _ this.2⟩
set_option maxHeartbeats 8000000 in
theorem rnum_AD (w:World)(B:Nat)(W:World)(b g cap:Nat)(s:ByteArray)(I i N1 e1:Nat)(v:Value)(L:List Tk)(h:Ct w B W b g cap s I v L)(hp:Plc s I i)(h1:Plc s N1 e1)(hl:L.length<=16384)(_hz:s.size<=1048576)(R1:∀ W' J,Cu W' b s J v->Calls Tryz.prog 80 #[.pointer (some ⟨b,0,none⟩),.int .i64 (I:Nat),.int .i64 2] W' fun e w'=>e=.returned (.int .i64 (N1:Nat))/\w'=W')(hd:(rAt s e1==46)=false)(C2:∀ W' J,Cu W' b s J v->Calls Tryz.prog 81 #[.pointer (some ⟨b,0,none⟩),.int .i64 (N1:Nat),.int .i64 1] W' fun e w'=>e=.returned (.bool true)/\w'=W')(N3:Nat)(R3:∀ W' J,Cu W' b s J v->Calls Tryz.prog 80 #[.pointer (some ⟨b,0,none⟩),.int .i64 (N1:Nat),.int .i64 3] W' fun e w'=>e=.returned (.int .i64 (N3:Nat))/\w'=W')(e:Nat)(x:ByteArray)(T:∀ W' J,Cu W' b s J v->Calls Tryz.prog 82 #[.pointer (some ⟨b,0,none⟩),.int .i64 (I:Nat),.int .i64 (N3:Nat)] W' fun r w'=>r=.returned (.string x)/\∃ q,w'=W'.drewN q)(he:Plc s N3 e)(hx:s.extract i e=x)(o:Option Nat)(RR:∀ wx,Calls Tryz.prog 108 #[.string x] wx fun r w'=>r=.returned (match o with | some v=>.tuple #[.int .i64 (v:Nat),.int .i64 0] | none=>.tuple #[.int .i64 0,.int .i64 13])/\Below wx.heap.size wx w'):
 Calls Tryz.prog 84 #[.pointer (some ⟨b,0,none⟩)] W (TkPost w B b g cap s I v L (valT 3 s i e o)):=by
 have H:=hid2 h
 obtain⟨c0,c1,c2,c3,f0,f1,f2,f3⟩:=h.box.four
 obtain⟨r0,r1⟩:=h.piece h1
 have hlt:=h.box.lt
 have hlg:=h.pc.lt
 have hll:=PL_len s
 have hrs:=rs_length0 s
 have hN1:=h1.le
 have hI2:(N1:Int)<(((PL s).length:Nat):Int):=by omega
 have HP:=hid2 hp
 have HE:=hid2 he
 have HT:=hid2 T
 have HRR:=hid2 RR
 have HR1:=hid2 R1
 have HC2:=hid2 C2
 have HR3:=hid2 R3
 generalize hPn:(PL s).length=nn at *
 generalize rAt s e1=rr at *
 clear h hp h1 he T RR R1 C2 R3
 cases o with
 | none=>
   go_enter Tryz.func84,Tryz.ntmps84
   go_wp2_with fail
   refine Calls.mono (HR1.out _ _ H.out.cu) ?_
   rintro r w1 ⟨rfl,rfl⟩
   go_wp2_with fail
   refine Calls.mono (HC2.out _ _ H.out.cu) ?_
   rintro r w4 ⟨rfl,rfl⟩
   go_wp2_with fail
   refine Calls.mono (HR3.out _ _ H.out.cu) ?_
   rintro r w5 ⟨rfl,rfl⟩
   go_wp2_with fail
   refine Calls.mono (HT.out _ _ H.out.cu) ?_
   rintro r w6 ⟨rfl,q6,rfl⟩
   have H6:=hid2 (H.out.drewN q6)
   generalize World.drewN _ q6=W6 at *
   go_wp2_with fail
   refine Calls.mono (HRR.out _) ?_
   rintro r w7 ⟨rfl,b7⟩
   have H7:=hid2 (H6.out.next b7)
   clear b7
   obtain⟨d0,d1,d2,d3,_⟩:=H7.out.box.four
   have dl:=H7.out.box.lt
   simp only[]
   go_wp2_with fail
   go_ret
   exact⟨rfl,H7.out⟩
 | some val=>
   go_enter Tryz.func84,Tryz.ntmps84
   go_wp2_with fail
   refine Calls.mono (HR1.out _ _ H.out.cu) ?_
   rintro r w1 ⟨rfl,rfl⟩
   go_wp2_with fail
   refine Calls.mono (HC2.out _ _ H.out.cu) ?_
   rintro r w4 ⟨rfl,rfl⟩
   go_wp2_with fail
   refine Calls.mono (HR3.out _ _ H.out.cu) ?_
   rintro r w5 ⟨rfl,rfl⟩
   go_wp2_with fail
   refine Calls.mono (HT.out _ _ H.out.cu) ?_
   rintro r w6 ⟨rfl,q6,rfl⟩
   have H6:=hid2 (H.out.drewN q6)
   generalize World.drewN _ q6=W6 at *
   go_wp2_with fail
   refine Calls.mono (HRR.out _) ?_
   rintro r w7 ⟨rfl,b7⟩
   have H7:=hid2 (H6.out.next b7)
   clear b7
   obtain⟨d0,d1,d2,d3,_⟩:=H7.out.box.four
   have dl:=H7.out.box.lt
   simp only[]
   go_wp2_with fail
   refine Calls.mono (HT.out _ _ H7.out.cu) ?_
   rintro r w8 ⟨rfl,q8,rfl⟩
   have H8:=hid2 (H7.out.drewN q8)
   generalize World.drewN _ q8=W8 at *
   go_wp2_with fail
   refine Calls.mono (put_c w B W8 b g cap s I i N3 v L 3 x (val:Nat) H8.out HP.out hl) ?_
   rintro r w9 ⟨rfl,v9,C9⟩
   go_wp2_with fail
   go_ret
   exact⟨rfl,N3,v9,by rw[hx];exact C9,HE.out⟩
set_option maxHeartbeats 8000000 in
theorem rnum_AN (w:World)(B:Nat)(W:World)(b g cap:Nat)(s:ByteArray)(I i N1 e1:Nat)(v:Value)(L:List Tk)(h:Ct w B W b g cap s I v L)(hp:Plc s I i)(h1:Plc s N1 e1)(hl:L.length<=16384)(_hz:s.size<=1048576)(R1:∀ W' J,Cu W' b s J v->Calls Tryz.prog 80 #[.pointer (some ⟨b,0,none⟩),.int .i64 (I:Nat),.int .i64 2] W' fun e w'=>e=.returned (.int .i64 (N1:Nat))/\w'=W')(hd:(rAt s e1==46)=false)(C2:∀ W' J,Cu W' b s J v->Calls Tryz.prog 81 #[.pointer (some ⟨b,0,none⟩),.int .i64 (N1:Nat),.int .i64 1] W' fun e w'=>e=.returned (.bool false)/\w'=W')(e:Nat)(x:ByteArray)(T:∀ W' J,Cu W' b s J v->Calls Tryz.prog 82 #[.pointer (some ⟨b,0,none⟩),.int .i64 (I:Nat),.int .i64 (N1:Nat)] W' fun r w'=>r=.returned (.string x)/\∃ q,w'=W'.drewN q)(he:Plc s N1 e)(hx:s.extract i e=x)(o:Option Nat)(RR:∀ wx,Calls Tryz.prog 107 #[.string x] wx fun r w'=>r=.returned (match o with | some v=>.tuple #[.int .i64 (v:Nat),.int .i64 0] | none=>.tuple #[.int .i64 0,.int .i64 13])/\Below wx.heap.size wx w'):
 Calls Tryz.prog 84 #[.pointer (some ⟨b,0,none⟩)] W (TkPost w B b g cap s I v L (valT 2 s i e o)):=by
 have H:=hid2 h
 obtain⟨c0,c1,c2,c3,f0,f1,f2,f3⟩:=h.box.four
 obtain⟨r0,r1⟩:=h.piece h1
 have hlt:=h.box.lt
 have hlg:=h.pc.lt
 have hll:=PL_len s
 have hrs:=rs_length0 s
 have hN1:=h1.le
 have hI2:(N1:Int)<(((PL s).length:Nat):Int):=by omega
 have HP:=hid2 hp
 have HE:=hid2 he
 have HT:=hid2 T
 have HRR:=hid2 RR
 have HR1:=hid2 R1
 have HC2:=hid2 C2
 generalize hPn:(PL s).length=nn at *
 generalize rAt s e1=rr at *
 clear h hp h1 he T RR R1 C2
 cases o with
 | none=>
   go_enter Tryz.func84,Tryz.ntmps84
   go_wp2_with fail
   refine Calls.mono (HR1.out _ _ H.out.cu) ?_
   rintro r w1 ⟨rfl,rfl⟩
   go_wp2_with fail
   refine Calls.mono (HC2.out _ _ H.out.cu) ?_
   rintro r w4 ⟨rfl,rfl⟩
   go_wp2_with fail
   refine Calls.mono (HT.out _ _ H.out.cu) ?_
   rintro r w6 ⟨rfl,q6,rfl⟩
   have H6:=hid2 (H.out.drewN q6)
   generalize World.drewN _ q6=W6 at *
   go_wp2_with fail
   refine Calls.mono (HRR.out _) ?_
   rintro r w7 ⟨rfl,b7⟩
   have H7:=hid2 (H6.out.next b7)
   clear b7
   obtain⟨d0,d1,d2,d3,_⟩:=H7.out.box.four
   have dl:=H7.out.box.lt
   simp only[]
   go_wp2_with fail
   go_ret
   exact⟨rfl,H7.out⟩
 | some val=>
   go_enter Tryz.func84,Tryz.ntmps84
   go_wp2_with fail
   refine Calls.mono (HR1.out _ _ H.out.cu) ?_
   rintro r w1 ⟨rfl,rfl⟩
   go_wp2_with fail
   refine Calls.mono (HC2.out _ _ H.out.cu) ?_
   rintro r w4 ⟨rfl,rfl⟩
   go_wp2_with fail
   refine Calls.mono (HT.out _ _ H.out.cu) ?_
   rintro r w6 ⟨rfl,q6,rfl⟩
   have H6:=hid2 (H.out.drewN q6)
   generalize World.drewN _ q6=W6 at *
   go_wp2_with fail
   refine Calls.mono (HRR.out _) ?_
   rintro r w7 ⟨rfl,b7⟩
   have H7:=hid2 (H6.out.next b7)
   clear b7
   obtain⟨d0,d1,d2,d3,_⟩:=H7.out.box.four
   have dl:=H7.out.box.lt
   simp only[]
   go_wp2_with fail
   refine Calls.mono (HT.out _ _ H7.out.cu) ?_
   rintro r w8 ⟨rfl,q8,rfl⟩
   have H8:=hid2 (H7.out.drewN q8)
   generalize World.drewN _ q8=W8 at *
   go_wp2_with fail
   refine Calls.mono (put_c w B W8 b g cap s I i N1 v L 2 x (val:Nat) H8.out HP.out hl) ?_
   rintro r w9 ⟨rfl,v9,C9⟩
   go_wp2_with fail
   go_ret
   exact⟨rfl,N1,v9,by rw[hx];exact C9,HE.out⟩
set_option maxHeartbeats 8000000 in
theorem rnum_BD (w:World)(B:Nat)(W:World)(b g cap:Nat)(s:ByteArray)(I i N1 e1:Nat)(v:Value)(L:List Tk)(h:Ct w B W b g cap s I v L)(hp:Plc s I i)(h1:Plc s N1 e1)(hl:L.length<=16384)(hz:s.size<=1048576)(R1:∀ W' J,Cu W' b s J v->Calls Tryz.prog 80 #[.pointer (some ⟨b,0,none⟩),.int .i64 (I:Nat),.int .i64 2] W' fun e w'=>e=.returned (.int .i64 (N1:Nat))/\w'=W')(hd:rAt s e1=46)(C1:∀ W' J,Cu W' b s J v->Calls Tryz.prog 81 #[.pointer (some ⟨b,0,none⟩),.int .i64 ((N1:Int)+1),.int .i64 2] W' fun e w'=>e=.returned (.bool false)/\w'=W')(C2:∀ W' J,Cu W' b s J v->Calls Tryz.prog 81 #[.pointer (some ⟨b,0,none⟩),.int .i64 (N1:Nat),.int .i64 1] W' fun e w'=>e=.returned (.bool true)/\w'=W')(N3:Nat)(R3:∀ W' J,Cu W' b s J v->Calls Tryz.prog 80 #[.pointer (some ⟨b,0,none⟩),.int .i64 (N1:Nat),.int .i64 3] W' fun e w'=>e=.returned (.int .i64 (N3:Nat))/\w'=W')(e:Nat)(x:ByteArray)(T:∀ W' J,Cu W' b s J v->Calls Tryz.prog 82 #[.pointer (some ⟨b,0,none⟩),.int .i64 (I:Nat),.int .i64 (N3:Nat)] W' fun r w'=>r=.returned (.string x)/\∃ q,w'=W'.drewN q)(he:Plc s N3 e)(hx:s.extract i e=x)(o:Option Nat)(RR:∀ wx,Calls Tryz.prog 108 #[.string x] wx fun r w'=>r=.returned (match o with | some v=>.tuple #[.int .i64 (v:Nat),.int .i64 0] | none=>.tuple #[.int .i64 0,.int .i64 13])/\Below wx.heap.size wx w'):
 Calls Tryz.prog 84 #[.pointer (some ⟨b,0,none⟩)] W (TkPost w B b g cap s I v L (valT 3 s i e o)):=by
 have H:=hid2 h
 obtain⟨c0,c1,c2,c3,f0,f1,f2,f3⟩:=h.box.four
 obtain⟨r0,r1⟩:=h.piece h1
 have hlt:=h.box.lt
 have hlg:=h.pc.lt
 have hll:=PL_len s
 have hrs:=rs_length0 s
 have hN1:=h1.le
 have hI2:(N1:Int)<(((PL s).length:Nat):Int):=by omega
 have HP:=hid2 hp
 have HE:=hid2 he
 have HT:=hid2 T
 have HRR:=hid2 RR
 have HR1:=hid2 R1
 have HC2:=hid2 C2
 have HC1:=hid2 C1
 have hw1:IntKind.i64.wrap ((N1:Int)+1)=(N1:Int)+1:=by rw[IntKind.wrap_i64];omega
 rw[hd] at r0
 have HR3:=hid2 R3
 generalize hPn:(PL s).length=nn at *
 generalize rAt s e1=rr at *
 clear h hp h1 he T RR R1 C2 C1 R3
 cases o with
 | none=>
   go_enter Tryz.func84,Tryz.ntmps84
   go_wp2_with fail
   refine Calls.mono (HR1.out _ _ H.out.cu) ?_
   rintro r w1 ⟨rfl,rfl⟩
   go_wp2_with fail
   refine Calls.mono (HC1.out _ _ H.out.cu) ?_
   rintro r w2 ⟨rfl,rfl⟩
   go_wp2_with fail
   refine Calls.mono (HC2.out _ _ H.out.cu) ?_
   rintro r w4 ⟨rfl,rfl⟩
   go_wp2_with fail
   refine Calls.mono (HR3.out _ _ H.out.cu) ?_
   rintro r w5 ⟨rfl,rfl⟩
   go_wp2_with fail
   refine Calls.mono (HT.out _ _ H.out.cu) ?_
   rintro r w6 ⟨rfl,q6,rfl⟩
   have H6:=hid2 (H.out.drewN q6)
   generalize World.drewN _ q6=W6 at *
   go_wp2_with fail
   refine Calls.mono (HRR.out _) ?_
   rintro r w7 ⟨rfl,b7⟩
   have H7:=hid2 (H6.out.next b7)
   clear b7
   obtain⟨d0,d1,d2,d3,_⟩:=H7.out.box.four
   have dl:=H7.out.box.lt
   simp only[]
   go_wp2_with fail
   go_ret
   exact⟨rfl,H7.out⟩
 | some val=>
   go_enter Tryz.func84,Tryz.ntmps84
   go_wp2_with fail
   refine Calls.mono (HR1.out _ _ H.out.cu) ?_
   rintro r w1 ⟨rfl,rfl⟩
   go_wp2_with fail
   refine Calls.mono (HC1.out _ _ H.out.cu) ?_
   rintro r w2 ⟨rfl,rfl⟩
   go_wp2_with fail
   refine Calls.mono (HC2.out _ _ H.out.cu) ?_
   rintro r w4 ⟨rfl,rfl⟩
   go_wp2_with fail
   refine Calls.mono (HR3.out _ _ H.out.cu) ?_
   rintro r w5 ⟨rfl,rfl⟩
   go_wp2_with fail
   refine Calls.mono (HT.out _ _ H.out.cu) ?_
   rintro r w6 ⟨rfl,q6,rfl⟩
   have H6:=hid2 (H.out.drewN q6)
   generalize World.drewN _ q6=W6 at *
   go_wp2_with fail
   refine Calls.mono (HRR.out _) ?_
   rintro r w7 ⟨rfl,b7⟩
   have H7:=hid2 (H6.out.next b7)
   clear b7
   obtain⟨d0,d1,d2,d3,_⟩:=H7.out.box.four
   have dl:=H7.out.box.lt
   simp only[]
   go_wp2_with fail
   refine Calls.mono (HT.out _ _ H7.out.cu) ?_
   rintro r w8 ⟨rfl,q8,rfl⟩
   have H8:=hid2 (H7.out.drewN q8)
   generalize World.drewN _ q8=W8 at *
   go_wp2_with fail
   refine Calls.mono (put_c w B W8 b g cap s I i N3 v L 3 x (val:Nat) H8.out HP.out hl) ?_
   rintro r w9 ⟨rfl,v9,C9⟩
   go_wp2_with fail
   go_ret
   exact⟨rfl,N3,v9,by rw[hx];exact C9,HE.out⟩
set_option maxHeartbeats 8000000 in
theorem rnum_BN (w:World)(B:Nat)(W:World)(b g cap:Nat)(s:ByteArray)(I i N1 e1:Nat)(v:Value)(L:List Tk)(h:Ct w B W b g cap s I v L)(hp:Plc s I i)(h1:Plc s N1 e1)(hl:L.length<=16384)(hz:s.size<=1048576)(R1:∀ W' J,Cu W' b s J v->Calls Tryz.prog 80 #[.pointer (some ⟨b,0,none⟩),.int .i64 (I:Nat),.int .i64 2] W' fun e w'=>e=.returned (.int .i64 (N1:Nat))/\w'=W')(hd:rAt s e1=46)(C1:∀ W' J,Cu W' b s J v->Calls Tryz.prog 81 #[.pointer (some ⟨b,0,none⟩),.int .i64 ((N1:Int)+1),.int .i64 2] W' fun e w'=>e=.returned (.bool false)/\w'=W')(C2:∀ W' J,Cu W' b s J v->Calls Tryz.prog 81 #[.pointer (some ⟨b,0,none⟩),.int .i64 (N1:Nat),.int .i64 1] W' fun e w'=>e=.returned (.bool false)/\w'=W')(e:Nat)(x:ByteArray)(T:∀ W' J,Cu W' b s J v->Calls Tryz.prog 82 #[.pointer (some ⟨b,0,none⟩),.int .i64 (I:Nat),.int .i64 (N1:Nat)] W' fun r w'=>r=.returned (.string x)/\∃ q,w'=W'.drewN q)(he:Plc s N1 e)(hx:s.extract i e=x)(o:Option Nat)(RR:∀ wx,Calls Tryz.prog 107 #[.string x] wx fun r w'=>r=.returned (match o with | some v=>.tuple #[.int .i64 (v:Nat),.int .i64 0] | none=>.tuple #[.int .i64 0,.int .i64 13])/\Below wx.heap.size wx w'):
 Calls Tryz.prog 84 #[.pointer (some ⟨b,0,none⟩)] W (TkPost w B b g cap s I v L (valT 2 s i e o)):=by
 have H:=hid2 h
 obtain⟨c0,c1,c2,c3,f0,f1,f2,f3⟩:=h.box.four
 obtain⟨r0,r1⟩:=h.piece h1
 have hlt:=h.box.lt
 have hlg:=h.pc.lt
 have hll:=PL_len s
 have hrs:=rs_length0 s
 have hN1:=h1.le
 have hI2:(N1:Int)<(((PL s).length:Nat):Int):=by omega
 have HP:=hid2 hp
 have HE:=hid2 he
 have HT:=hid2 T
 have HRR:=hid2 RR
 have HR1:=hid2 R1
 have HC2:=hid2 C2
 have HC1:=hid2 C1
 have hw1:IntKind.i64.wrap ((N1:Int)+1)=(N1:Int)+1:=by rw[IntKind.wrap_i64];omega
 rw[hd] at r0
 generalize hPn:(PL s).length=nn at *
 generalize rAt s e1=rr at *
 clear h hp h1 he T RR R1 C2 C1
 cases o with
 | none=>
   go_enter Tryz.func84,Tryz.ntmps84
   go_wp2_with fail
   refine Calls.mono (HR1.out _ _ H.out.cu) ?_
   rintro r w1 ⟨rfl,rfl⟩
   go_wp2_with fail
   refine Calls.mono (HC1.out _ _ H.out.cu) ?_
   rintro r w2 ⟨rfl,rfl⟩
   go_wp2_with fail
   refine Calls.mono (HC2.out _ _ H.out.cu) ?_
   rintro r w4 ⟨rfl,rfl⟩
   go_wp2_with fail
   refine Calls.mono (HT.out _ _ H.out.cu) ?_
   rintro r w6 ⟨rfl,q6,rfl⟩
   have H6:=hid2 (H.out.drewN q6)
   generalize World.drewN _ q6=W6 at *
   go_wp2_with fail
   refine Calls.mono (HRR.out _) ?_
   rintro r w7 ⟨rfl,b7⟩
   have H7:=hid2 (H6.out.next b7)
   clear b7
   obtain⟨d0,d1,d2,d3,_⟩:=H7.out.box.four
   have dl:=H7.out.box.lt
   simp only[]
   go_wp2_with fail
   go_ret
   exact⟨rfl,H7.out⟩
 | some val=>
   go_enter Tryz.func84,Tryz.ntmps84
   go_wp2_with fail
   refine Calls.mono (HR1.out _ _ H.out.cu) ?_
   rintro r w1 ⟨rfl,rfl⟩
   go_wp2_with fail
   refine Calls.mono (HC1.out _ _ H.out.cu) ?_
   rintro r w2 ⟨rfl,rfl⟩
   go_wp2_with fail
   refine Calls.mono (HC2.out _ _ H.out.cu) ?_
   rintro r w4 ⟨rfl,rfl⟩
   go_wp2_with fail
   refine Calls.mono (HT.out _ _ H.out.cu) ?_
   rintro r w6 ⟨rfl,q6,rfl⟩
   have H6:=hid2 (H.out.drewN q6)
   generalize World.drewN _ q6=W6 at *
   go_wp2_with fail
   refine Calls.mono (HRR.out _) ?_
   rintro r w7 ⟨rfl,b7⟩
   have H7:=hid2 (H6.out.next b7)
   clear b7
   obtain⟨d0,d1,d2,d3,_⟩:=H7.out.box.four
   have dl:=H7.out.box.lt
   simp only[]
   go_wp2_with fail
   refine Calls.mono (HT.out _ _ H7.out.cu) ?_
   rintro r w8 ⟨rfl,q8,rfl⟩
   have H8:=hid2 (H7.out.drewN q8)
   generalize World.drewN _ q8=W8 at *
   go_wp2_with fail
   refine Calls.mono (put_c w B W8 b g cap s I i N1 v L 2 x (val:Nat) H8.out HP.out hl) ?_
   rintro r w9 ⟨rfl,v9,C9⟩
   go_wp2_with fail
   go_ret
   exact⟨rfl,N1,v9,by rw[hx];exact C9,HE.out⟩
set_option maxHeartbeats 8000000 in
theorem rnum_CD (w:World)(B:Nat)(W:World)(b g cap:Nat)(s:ByteArray)(I i N1 e1:Nat)(v:Value)(L:List Tk)(h:Ct w B W b g cap s I v L)(hp:Plc s I i)(h1:Plc s N1 e1)(hl:L.length<=16384)(hz:s.size<=1048576)(R1:∀ W' J,Cu W' b s J v->Calls Tryz.prog 80 #[.pointer (some ⟨b,0,none⟩),.int .i64 (I:Nat),.int .i64 2] W' fun e w'=>e=.returned (.int .i64 (N1:Nat))/\w'=W')(hd:rAt s e1=46)(C1:∀ W' J,Cu W' b s J v->Calls Tryz.prog 81 #[.pointer (some ⟨b,0,none⟩),.int .i64 ((N1:Int)+1),.int .i64 2] W' fun e w'=>e=.returned (.bool true)/\w'=W')(N2:Nat)(R2:∀ W' J,Cu W' b s J v->Calls Tryz.prog 80 #[.pointer (some ⟨b,0,none⟩),.int .i64 ((N1:Int)+1),.int .i64 2] W' fun e w'=>e=.returned (.int .i64 (N2:Nat))/\w'=W')(C2:∀ W' J,Cu W' b s J v->Calls Tryz.prog 81 #[.pointer (some ⟨b,0,none⟩),.int .i64 (N2:Nat),.int .i64 1] W' fun e w'=>e=.returned (.bool true)/\w'=W')(N3:Nat)(R3:∀ W' J,Cu W' b s J v->Calls Tryz.prog 80 #[.pointer (some ⟨b,0,none⟩),.int .i64 (N2:Nat),.int .i64 3] W' fun e w'=>e=.returned (.int .i64 (N3:Nat))/\w'=W')(e:Nat)(x:ByteArray)(T:∀ W' J,Cu W' b s J v->Calls Tryz.prog 82 #[.pointer (some ⟨b,0,none⟩),.int .i64 (I:Nat),.int .i64 (N3:Nat)] W' fun r w'=>r=.returned (.string x)/\∃ q,w'=W'.drewN q)(he:Plc s N3 e)(hx:s.extract i e=x)(o:Option Nat)(RR:∀ wx,Calls Tryz.prog 108 #[.string x] wx fun r w'=>r=.returned (match o with | some v=>.tuple #[.int .i64 (v:Nat),.int .i64 0] | none=>.tuple #[.int .i64 0,.int .i64 13])/\Below wx.heap.size wx w'):
 Calls Tryz.prog 84 #[.pointer (some ⟨b,0,none⟩)] W (TkPost w B b g cap s I v L (valT 3 s i e o)):=by
 have H:=hid2 h
 obtain⟨c0,c1,c2,c3,f0,f1,f2,f3⟩:=h.box.four
 obtain⟨r0,r1⟩:=h.piece h1
 have hlt:=h.box.lt
 have hlg:=h.pc.lt
 have hll:=PL_len s
 have hrs:=rs_length0 s
 have hN1:=h1.le
 have hI2:(N1:Int)<(((PL s).length:Nat):Int):=by omega
 have HP:=hid2 hp
 have HE:=hid2 he
 have HT:=hid2 T
 have HRR:=hid2 RR
 have HR1:=hid2 R1
 have HC2:=hid2 C2
 have HC1:=hid2 C1
 have hw1:IntKind.i64.wrap ((N1:Int)+1)=(N1:Int)+1:=by rw[IntKind.wrap_i64];omega
 rw[hd] at r0
 have HR2:=hid2 R2
 have HR3:=hid2 R3
 generalize hPn:(PL s).length=nn at *
 generalize rAt s e1=rr at *
 clear h hp h1 he T RR R1 C2 C1 R2 R3
 cases o with
 | none=>
   go_enter Tryz.func84,Tryz.ntmps84
   go_wp2_with fail
   refine Calls.mono (HR1.out _ _ H.out.cu) ?_
   rintro r w1 ⟨rfl,rfl⟩
   go_wp2_with fail
   refine Calls.mono (HC1.out _ _ H.out.cu) ?_
   rintro r w2 ⟨rfl,rfl⟩
   go_wp2_with fail
   refine Calls.mono (HR2.out _ _ H.out.cu) ?_
   rintro r w3 ⟨rfl,rfl⟩
   go_wp2_with fail
   refine Calls.mono (HC2.out _ _ H.out.cu) ?_
   rintro r w4 ⟨rfl,rfl⟩
   go_wp2_with fail
   refine Calls.mono (HR3.out _ _ H.out.cu) ?_
   rintro r w5 ⟨rfl,rfl⟩
   go_wp2_with fail
   refine Calls.mono (HT.out _ _ H.out.cu) ?_
   rintro r w6 ⟨rfl,q6,rfl⟩
   have H6:=hid2 (H.out.drewN q6)
   generalize World.drewN _ q6=W6 at *
   go_wp2_with fail
   refine Calls.mono (HRR.out _) ?_
   rintro r w7 ⟨rfl,b7⟩
   have H7:=hid2 (H6.out.next b7)
   clear b7
   obtain⟨d0,d1,d2,d3,_⟩:=H7.out.box.four
   have dl:=H7.out.box.lt
   simp only[]
   go_wp2_with fail
   go_ret
   exact⟨rfl,H7.out⟩
 | some val=>
   go_enter Tryz.func84,Tryz.ntmps84
   go_wp2_with fail
   refine Calls.mono (HR1.out _ _ H.out.cu) ?_
   rintro r w1 ⟨rfl,rfl⟩
   go_wp2_with fail
   refine Calls.mono (HC1.out _ _ H.out.cu) ?_
   rintro r w2 ⟨rfl,rfl⟩
   go_wp2_with fail
   refine Calls.mono (HR2.out _ _ H.out.cu) ?_
   rintro r w3 ⟨rfl,rfl⟩
   go_wp2_with fail
   refine Calls.mono (HC2.out _ _ H.out.cu) ?_
   rintro r w4 ⟨rfl,rfl⟩
   go_wp2_with fail
   refine Calls.mono (HR3.out _ _ H.out.cu) ?_
   rintro r w5 ⟨rfl,rfl⟩
   go_wp2_with fail
   refine Calls.mono (HT.out _ _ H.out.cu) ?_
   rintro r w6 ⟨rfl,q6,rfl⟩
   have H6:=hid2 (H.out.drewN q6)
   generalize World.drewN _ q6=W6 at *
   go_wp2_with fail
   refine Calls.mono (HRR.out _) ?_
   rintro r w7 ⟨rfl,b7⟩
   have H7:=hid2 (H6.out.next b7)
   clear b7
   obtain⟨d0,d1,d2,d3,_⟩:=H7.out.box.four
   have dl:=H7.out.box.lt
   simp only[]
   go_wp2_with fail
   refine Calls.mono (HT.out _ _ H7.out.cu) ?_
   rintro r w8 ⟨rfl,q8,rfl⟩
   have H8:=hid2 (H7.out.drewN q8)
   generalize World.drewN _ q8=W8 at *
   go_wp2_with fail
   refine Calls.mono (put_c w B W8 b g cap s I i N3 v L 3 x (val:Nat) H8.out HP.out hl) ?_
   rintro r w9 ⟨rfl,v9,C9⟩
   go_wp2_with fail
   go_ret
   exact⟨rfl,N3,v9,by rw[hx];exact C9,HE.out⟩
set_option maxHeartbeats 8000000 in
theorem rnum_CN (w:World)(B:Nat)(W:World)(b g cap:Nat)(s:ByteArray)(I i N1 e1:Nat)(v:Value)(L:List Tk)(h:Ct w B W b g cap s I v L)(hp:Plc s I i)(h1:Plc s N1 e1)(hl:L.length<=16384)(hz:s.size<=1048576)(R1:∀ W' J,Cu W' b s J v->Calls Tryz.prog 80 #[.pointer (some ⟨b,0,none⟩),.int .i64 (I:Nat),.int .i64 2] W' fun e w'=>e=.returned (.int .i64 (N1:Nat))/\w'=W')(hd:rAt s e1=46)(C1:∀ W' J,Cu W' b s J v->Calls Tryz.prog 81 #[.pointer (some ⟨b,0,none⟩),.int .i64 ((N1:Int)+1),.int .i64 2] W' fun e w'=>e=.returned (.bool true)/\w'=W')(N2:Nat)(R2:∀ W' J,Cu W' b s J v->Calls Tryz.prog 80 #[.pointer (some ⟨b,0,none⟩),.int .i64 ((N1:Int)+1),.int .i64 2] W' fun e w'=>e=.returned (.int .i64 (N2:Nat))/\w'=W')(C2:∀ W' J,Cu W' b s J v->Calls Tryz.prog 81 #[.pointer (some ⟨b,0,none⟩),.int .i64 (N2:Nat),.int .i64 1] W' fun e w'=>e=.returned (.bool false)/\w'=W')(e:Nat)(x:ByteArray)(T:∀ W' J,Cu W' b s J v->Calls Tryz.prog 82 #[.pointer (some ⟨b,0,none⟩),.int .i64 (I:Nat),.int .i64 (N2:Nat)] W' fun r w'=>r=.returned (.string x)/\∃ q,w'=W'.drewN q)(he:Plc s N2 e)(hx:s.extract i e=x)(o:Option Nat)(RR:∀ wx,Calls Tryz.prog 107 #[.string x] wx fun r w'=>r=.returned (match o with | some v=>.tuple #[.int .i64 (v:Nat),.int .i64 0] | none=>.tuple #[.int .i64 0,.int .i64 13])/\Below wx.heap.size wx w'):
 Calls Tryz.prog 84 #[.pointer (some ⟨b,0,none⟩)] W (TkPost w B b g cap s I v L (valT 2 s i e o)):=by
 have H:=hid2 h
 obtain⟨c0,c1,c2,c3,f0,f1,f2,f3⟩:=h.box.four
 obtain⟨r0,r1⟩:=h.piece h1
 have hlt:=h.box.lt
 have hlg:=h.pc.lt
 have hll:=PL_len s
 have hrs:=rs_length0 s
 have hN1:=h1.le
 have hI2:(N1:Int)<(((PL s).length:Nat):Int):=by omega
 have HP:=hid2 hp
 have HE:=hid2 he
 have HT:=hid2 T
 have HRR:=hid2 RR
 have HR1:=hid2 R1
 have HC2:=hid2 C2
 have HC1:=hid2 C1
 have hw1:IntKind.i64.wrap ((N1:Int)+1)=(N1:Int)+1:=by rw[IntKind.wrap_i64];omega
 rw[hd] at r0
 have HR2:=hid2 R2
 generalize hPn:(PL s).length=nn at *
 generalize rAt s e1=rr at *
 clear h hp h1 he T RR R1 C2 C1 R2
 cases o with
 | none=>
   go_enter Tryz.func84,Tryz.ntmps84
   go_wp2_with fail
   refine Calls.mono (HR1.out _ _ H.out.cu) ?_
   rintro r w1 ⟨rfl,rfl⟩
   go_wp2_with fail
   refine Calls.mono (HC1.out _ _ H.out.cu) ?_
   rintro r w2 ⟨rfl,rfl⟩
   go_wp2_with fail
   refine Calls.mono (HR2.out _ _ H.out.cu) ?_
   rintro r w3 ⟨rfl,rfl⟩
   go_wp2_with fail
   refine Calls.mono (HC2.out _ _ H.out.cu) ?_
   rintro r w4 ⟨rfl,rfl⟩
   go_wp2_with fail
   refine Calls.mono (HT.out _ _ H.out.cu) ?_
   rintro r w6 ⟨rfl,q6,rfl⟩
   have H6:=hid2 (H.out.drewN q6)
   generalize World.drewN _ q6=W6 at *
   go_wp2_with fail
   refine Calls.mono (HRR.out _) ?_
   rintro r w7 ⟨rfl,b7⟩
   have H7:=hid2 (H6.out.next b7)
   clear b7
   obtain⟨d0,d1,d2,d3,_⟩:=H7.out.box.four
   have dl:=H7.out.box.lt
   simp only[]
   go_wp2_with fail
   go_ret
   exact⟨rfl,H7.out⟩
 | some val=>
   go_enter Tryz.func84,Tryz.ntmps84
   go_wp2_with fail
   refine Calls.mono (HR1.out _ _ H.out.cu) ?_
   rintro r w1 ⟨rfl,rfl⟩
   go_wp2_with fail
   refine Calls.mono (HC1.out _ _ H.out.cu) ?_
   rintro r w2 ⟨rfl,rfl⟩
   go_wp2_with fail
   refine Calls.mono (HR2.out _ _ H.out.cu) ?_
   rintro r w3 ⟨rfl,rfl⟩
   go_wp2_with fail
   refine Calls.mono (HC2.out _ _ H.out.cu) ?_
   rintro r w4 ⟨rfl,rfl⟩
   go_wp2_with fail
   refine Calls.mono (HT.out _ _ H.out.cu) ?_
   rintro r w6 ⟨rfl,q6,rfl⟩
   have H6:=hid2 (H.out.drewN q6)
   generalize World.drewN _ q6=W6 at *
   go_wp2_with fail
   refine Calls.mono (HRR.out _) ?_
   rintro r w7 ⟨rfl,b7⟩
   have H7:=hid2 (H6.out.next b7)
   clear b7
   obtain⟨d0,d1,d2,d3,_⟩:=H7.out.box.four
   have dl:=H7.out.box.lt
   simp only[]
   go_wp2_with fail
   refine Calls.mono (HT.out _ _ H7.out.cu) ?_
   rintro r w8 ⟨rfl,q8,rfl⟩
   have H8:=hid2 (H7.out.drewN q8)
   generalize World.drewN _ q8=W8 at *
   go_wp2_with fail
   refine Calls.mono (put_c w B W8 b g cap s I i N2 v L 2 x (val:Nat) H8.out HP.out hl) ?_
   rintro r w9 ⟨rfl,v9,C9⟩
   go_wp2_with fail
   go_ret
   exact⟨rfl,N2,v9,by rw[hx];exact C9,HE.out⟩
theorem number_r (w:World)(B:Nat)(W:World)(b g cap:Nat)(s:ByteArray)(hz:s.size<=1048576)(I i:Nat)(v:Value)(L:List Tk)(h:Ct w B W b g cap s I v L)(hp:Plc s I i)(hv:Vd s i)(hl:L.length<=16384):
 Calls Tryz.prog 84 #[.pointer (some ⟨b,0,none⟩)] W (TkPost w B b g cap s I v L (numT s i)):=by
 have hin:=cls_in s 2 i hp.inn
 have h1:Plc s _ (cls s 2 i):=hp.run (fun r=>isC (r:Int) 2)
 have hE:=numE_in (s:=s) (i:=i) hp.inn
 have hB:=cls_in s 3 (numE s i) hE.2
 have hstop:=cls3_1 (numE_stop (s:=s) (i:=i) hp.inn)
 rw[rAt_cls hE.2 3] at hstop
 have h46:=rAt_byte (rn_vd (fun r=>isC (r:Int) 2) i hv) 46 (by decide) (by decide)
 have rdn:∀ e,e<=s.size->∀ wx,Calls Tryz.prog 107 #[.string (s.extract i e)] wx fun r w'=>r=.returned (match readN (s.extract i e).data.toList with | some v=>.tuple #[.int .i64 (v:Nat),.int .i64 0] | none=>.tuple #[.int .i64 0,.int .i64 13])/\Below wx.heap.size wx w':=
  fun e he wx=>(rd_at (s.extract i e) (by rw[size_cut s i e he];omega) wx).mono fun _ _ k=>⟨k.1,by rw[k.2];exact Below.refl _ _⟩
 have spn:∀ e,e<=s.size->∀ wx,Calls Tryz.prog 108 #[.string (s.extract i e)] wx fun r w'=>r=.returned (match spanN (s.extract i e).data.toList with | some v=>.tuple #[.int .i64 (v:Nat),.int .i64 0] | none=>.tuple #[.int .i64 0,.int .i64 13])/\Below wx.heap.size wx w':=
  fun e he wx=>sp_at (s.extract i e) (by rw[size_cut s i e he];omega) wx
 have R1:=fun W' J hc=>run_r b s hz I J i v 2 W' hc hp
 have txt:=fun K e (hk:Plc s K e) (hle:i<=e) W' J hc=>text_c b s I J K i e v W' hc hp hk hle
 unfold numT
 by_cases hd:s.get! (cls s 2 i)=46
 ·have hj:=get_in (s:=s) (i:=cls s 2 i) (by rw[hd];decide)
  have hd':rAt s (cls s 2 i)=46:=h46.2 hd
  have h2:Plc s (I+(seg s (fun r=>isC (r:Int) 2) i).length+1) (cls s 2 i+1):=by
   have:=h1.step hj
   rw[dec_low (by rw[hd];decide)] at this
   exact this
  have h3:=h2.run (fun r=>isC (r:Int) 2)
  have C1:=fun W' J hc=>class_c b s _ J _ v 2 W' hc h2
  have R2:=fun W' J hc=>run_r b s hz _ J _ v 2 W' hc h2
  rw[rAt_cls hj 2] at C1
  simp only[Int.natCast_add,Int.natCast_one] at C1 R2
  by_cases hpl:cls s 2 i+1<cls s 2 (cls s 2 i+1)
  ·have hN:numE s i=cls s 2 (cls s 2 i+1):=if_pos ⟨hd,hpl⟩
   rw[decide_eq_true hpl] at C1
   rw[hN] at hB hstop hE ⊢
   have C2:=fun W' J hc=>class_c b s _ J _ v 1 W' hc h3
   have R3:=fun W' J hc=>run_r b s hz _ J _ v 3 W' hc h3
   have h4:=h3.run (fun r=>isC (r:Int) 3)
   by_cases hb:cls s 2 (cls s 2 i+1)<cls s 3 (cls s 2 (cls s 2 i+1))
   ·rw[if_pos hb]
    rw[decide_eq_true hb] at hstop
    rw[show isC (rAt s (rn s (fun r=>isC (r:Int) 2) (cls s 2 i+1))) 1=true from hstop.symm] at C2
    exact rnum_CD w B W b g cap s I i _ _ v L h hp h1 hl hz R1 hd' C1 _ R2 C2 _ R3 _ _ (txt _ (cls s 3 (cls s 2 (cls s 2 i+1))) h4 (by omega)) h4 rfl _ (spn _ hB.2)
   ·rw[if_neg hb]
    rw[decide_eq_false hb] at hstop
    rw[show isC (rAt s (rn s (fun r=>isC (r:Int) 2) (cls s 2 i+1))) 1=false from hstop.symm] at C2
    exact rnum_CN w B W b g cap s I i _ _ v L h hp h1 hl hz R1 hd' C1 _ R2 C2 _ _ (txt _ (cls s 2 (cls s 2 i+1)) h3 (by omega)) h3 rfl _ (rdn _ hE.2)
  ·have hN:numE s i=cls s 2 i:=if_neg (fun hh=>hpl hh.2)
   rw[decide_eq_false hpl] at C1
   rw[hN] at hB hstop hE ⊢
   have C2:=fun W' J hc=>class_c b s _ J _ v 1 W' hc h1
   have R3:=fun W' J hc=>run_r b s hz _ J _ v 3 W' hc h1
   have h4:=h1.run (fun r=>isC (r:Int) 3)
   by_cases hb:cls s 2 i<cls s 3 (cls s 2 i)
   ·rw[if_pos hb]
    rw[decide_eq_true hb] at hstop
    rw[<-hstop] at C2
    exact rnum_BD w B W b g cap s I i _ _ v L h hp h1 hl hz R1 hd' C1 C2 _ R3 _ _ (txt _ (cls s 3 (cls s 2 i)) h4 (by omega)) h4 rfl _ (spn _ hB.2)
   ·rw[if_neg hb]
    rw[decide_eq_false hb] at hstop
    rw[<-hstop] at C2
    exact rnum_BN w B W b g cap s I i _ _ v L h hp h1 hl hz R1 hd' C1 C2 _ _ (txt _ (cls s 2 i) h1 (by omega)) h1 rfl _ (rdn _ hE.2)
 ·have hd':(rAt s (cls s 2 i)==46)=false:=beq_eq_false_iff_ne.2 (fun hh=>hd (h46.1 hh))
  have hN:numE s i=cls s 2 i:=if_neg (fun hh=>hd hh.1)
  rw[hN] at hB hstop hE ⊢
  have C2:=fun W' J hc=>class_c b s _ J _ v 1 W' hc h1
  have R3:=fun W' J hc=>run_r b s hz _ J _ v 3 W' hc h1
  have h4:=h1.run (fun r=>isC (r:Int) 3)
  by_cases hb:cls s 2 i<cls s 3 (cls s 2 i)
  ·rw[if_pos hb]
   rw[decide_eq_true hb] at hstop
   rw[<-hstop] at C2
   exact rnum_AD w B W b g cap s I i _ _ v L h hp h1 hl hz R1 hd' C2 _ R3 _ _ (txt _ (cls s 3 (cls s 2 i)) h4 (by omega)) h4 rfl _ (spn _ hB.2)
  ·rw[if_neg hb]
   rw[decide_eq_false hb] at hstop
   rw[<-hstop] at C2
   exact rnum_AN w B W b g cap s I i _ _ v L h hp h1 hl hz R1 hd' C2 _ _ (txt _ (cls s 2 i) h1 (by omega)) h1 rfl _ (rdn _ hE.2)
end Go.Proofs.YtecdfnpbcabdnaaGreatDoor
