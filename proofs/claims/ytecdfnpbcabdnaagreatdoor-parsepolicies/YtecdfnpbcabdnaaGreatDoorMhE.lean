import Derived.Test.YtecdfnpbcabdnaaGreatDoorMhD
import Derived.Test.YtecdfnpbcabdnaaGreatDoorMgA
namespace Go.Proofs.YtecdfnpbcabdnaaGreatDoor
open Go.RowKit Go.Lib
abbrev sgA:ByteArray:=⟨#[59,58,44,61,40,41,123,125,43,45,42,47,60,62]⟩
theorem sg_one (a:UInt8):one a=true↔∃ k,k<14/\sgA.get! k=a:=by
 have e:one a=sgA.data.toList.contains a:=rfl
 rw[e,List.contains_iff_mem,List.mem_iff_getElem?]
 constructor
 ·rintro⟨k,hk⟩
  have hl:k<14:=(List.getElem?_eq_some_iff.1 hk).1
  refine⟨k,hl,?_⟩
  rw[gd,hk]
  rfl
 ·rintro⟨k,hk,he⟩
  refine⟨k,?_⟩
  rw[<-he]
  exact toL_get sgA k hk
theorem sg_low:∀ k,k<14->(sgA.get! k).toNat<128/\sgA.get! k≠0:=by decide
theorem sg_cut {s:ByteArray}{i k:Nat}(hk:k<14)(hi:i<s.size)(h:sgA.get! k=s.get! i):sgA.extract k (k+1)=s.extract i (i+1):=by
 apply ByteArray.ext
 apply Array.ext'
 rw[cut_one s i hi,cut_one sgA k hk,h]
theorem sg_two {s:ByteArray}{i:Nat}(hi:i<s.size)(hv:Vd s i):two (s.get! i) (s.get! (i+1))=true↔((rAt s i=46/\rAt s (i+(Utf8.decode s i).2)=46)\/(rAt s i=60/\rAt s (i+(Utf8.decode s i).2)=61)\/(rAt s i=62/\rAt s (i+(Utf8.decode s i).2)=61)):=by
 have a1:rAt s i=46↔s.get! i=46:=rAt_byte hv 46 (by decide) (by decide)
 have a2:rAt s i=60↔s.get! i=60:=rAt_byte hv 60 (by decide) (by decide)
 have a3:rAt s i=62↔s.get! i=62:=rAt_byte hv 62 (by decide) (by decide)
 rw[a1,a2,a3]
 unfold two
 simp only[Bool.or_eq_true,Bool.and_eq_true,beq_iff_eq]
 by_cases hl:(s.get! i).toNat<128
 ·have hv1:=(hv.step hi).2.2
  rw[dec_low hl] at hv1 ⊢
  have b1:rAt s (i+1)=46↔s.get! (i+1)=46:=rAt_byte hv1 46 (by decide) (by decide)
  have b2:rAt s (i+1)=61↔s.get! (i+1)=61:=rAt_byte hv1 61 (by decide) (by decide)
  simp only[b1,b2]
  constructor
  ·rintro(h | ⟨h | h,h2⟩)
   ·exact .inl h
   ·exact .inr (.inl ⟨h,h2⟩)
   ·exact .inr (.inr ⟨h,h2⟩)
  ·rintro(h | h | h)
   ·exact .inl h
   ·exact .inr ⟨.inl h.1,h.2⟩
   ·exact .inr ⟨.inr h.1,h.2⟩
 ·have n:∀ c:UInt8,c.toNat<128->s.get! i≠c:=fun c hc hh=>hl (by rw[hh];exact hc)
  have n1:=n 46 (by decide)
  have n2:=n 60 (by decide)
  have n3:=n 62 (by decide)
  constructor
  ·rintro(h | ⟨h | h,_⟩)
   ·exact absurd h.1 n1
   ·exact absurd h n2
   ·exact absurd h n3
  ·rintro(h | h | h)
   ·exact absurd h.1 n1
   ·exact absurd h.1 n2
   ·exact absurd h.1 n3
set_option maxHeartbeats 8000000 in
theorem sign_two (w:World)(B:Nat)(W:World)(b g cap:Nat)(s:ByteArray)(hz:s.size<=1048576)(I i:Nat)(v:Value)(L:List Tk)(h:Ct w B W b g cap s I v L)(hp:Plc s I i)(hl:L.length<=16384)(hi:i<s.size)(hv:Vd s i)(htw:two (s.get! i) (s.get! (i+1))=true):
 Calls Tryz.prog 86 #[.pointer (some ⟨b,0,none⟩)] W (TkPost w B b g cap s I v L (sigT s i)):=by
 have H:=hid2 h
 obtain⟨c0,c1,c2,c3,f0,f1,f2,f3⟩:=h.box.four
 have hlt:=h.box.lt
 have hlg:=h.pc.lt
 have hll:=PL_len s
 have hrs:=rs_length0 s
 have hIl:=hp.le
 have HP:=hid2 hp
 have hp1:=hp.step hi
 have hIl1:=hp1.le
 obtain⟨r0,r1⟩:=h.piece' hp
 obtain⟨q0,q1⟩:=h.piece' hp1
 have hI2:(I:Int)<(((PL s).length:Nat):Int):=by omega
 have hI3:(I:Int)+1<(((PL s).length:Nat):Int):=by omega
 have hw1:IntKind.i64.wrap ((I:Int)+1)=((I+1:Nat):Int):=by rw[IntKind.wrap_i64];omega
 have hw2:IntKind.i64.wrap ((I:Int)+2)=((I+2:Nat):Int):=by rw[IntKind.wrap_i64];omega
 have h2:=sg_two hi hv
 have hRs:∀ c:UInt8,c.toNat<128->c≠0->(rAt s i=(c.toNat:Int)↔s.get! i=c):=fun c x1 x2=>rAt_byte hv c x1 x2
 have hcs:=h2.1 htw
 have hin:=two_in htw
 have hlow:(s.get! i).toNat<128:=by
  rcases hcs with h3 | h3 | h3
  ·rw[(hRs 46 (by decide) (by decide)).1 h3.1];decide
  ·rw[(hRs 60 (by decide) (by decide)).1 h3.1];decide
  ·rw[(hRs 62 (by decide) (by decide)).1 h3.1];decide
 have hv1:=(hv.step hi).2.2
 rw[dec_low hlow] at hv1 hp1 hcs q0 q1
 simp only[] at hv1 hp1 hcs q0 q1
 have hlow1:(s.get! (i+1)).toNat<128:=by
  unfold two at htw
  simp only[Bool.or_eq_true,Bool.and_eq_true,beq_iff_eq] at htw
  rcases htw with ⟨_,h3⟩ | ⟨_,h3⟩<;>(rw[h3];decide)
 have hp2:=hp1.step (by omega)
 rw[dec_low hlow1] at hp2
 have HP2:=hid2 hp2
 have HT:=hid2 (fun W' J (hc:Cu W' b s J v)=>text_c b s I J (I+2) i (i+2) v W' hc hp hp2 (by omega))
 have HE:Hid (sigT s i=.ok (⟨5,s.extract i (i+2),0,i⟩,i+2)):=by show _=_;unfold sigT;rw[htw];rfl
 generalize hPn:(PL s).length=nn at *
 generalize s.extract i (i+2)=x at *
 have HP1:=hid2 hp1
 clear h hp hp1 hp2 htw h2 hv hv1 hRs q1 r1
 have hcs2:∃ a c:Int,rAt s i=a/\rAt s (i+1)=c/\((a=46/\c=46)\/(a=60/\c=61)\/(a=62/\c=61)):=⟨_,_,rfl,rfl,hcs⟩
 clear hcs
 obtain⟨a,c,ea,ec,hcs⟩:=hcs2
 rw[ea] at r0
 have HA:=hid2 ec
 clear ea ec q0
 rcases hcs with ⟨rfl,rfl⟩ | ⟨rfl,rfl⟩ | ⟨rfl,rfl⟩
 all_goals
  go_enter Tryz.func86,Tryz.ntmps86
  go_wp2_with fail
  go_quiet (fail)
  have H1:=hid2 (H.out.drewN nq)
  generalize W.drewN nq=W1 at *
  clear r0 c0 c1 c2 c3 f0 f1 f2 f3 hlt hlg
  obtain⟨c0,c1,c2,c3,f0,f1,f2,f3⟩:=H1.out.box.four
  obtain⟨q0,_⟩:=H1.out.piece' HP1.out
  rw[HA.out] at q0
  have hlt:=H1.out.box.lt
  have hlg:=H1.out.pc.lt
  rw[hPn] at c1
  go_wp2_with fail
  go_quiet (fail)
  have H2:=hid2 (H1.out.drewN nq)
  generalize W1.drewN nq=W2 at *
  clear q0 c0 c1 c2 c3 f0 f1 f2 f3 hlt hlg
  obtain⟨c0,c1,c2,c3,f0,f1,f2,f3⟩:=H2.out.box.four
  have hlt:=H2.out.box.lt
  go_wp2_with fail
  go_region_with (first
   | (go_at_call 82;refine Calls.mono (HT.out _ _ (H2.out.next (Below.refl _ _).drew).cu) ?_;rintro r w8 ⟨rfl,q8,rfl⟩)
   | (go_at_call 58;refine Calls.mono (put_c w B _ b g cap s I i (I+2) v L 5 x 0 (H2.out.drewN _) HP.out hl) ?_;rintro r w9 ⟨rfl,v9,C9⟩;have K9:=hid2 C9;clear C9))
  all_goals go_wp2_with fail
  all_goals go_ret
  all_goals (unfold TkPost;rw[HE.out];exact⟨rfl,I+2,v9,K9.out,HP2.out⟩)
theorem get_bang (A:ByteArray)(j:Nat)(h:j<A.size):A.get! j=A[j]:=by
 cases A with
 | mk bs=>exact getElem!_pos bs j h
set_option maxHeartbeats 8000000 in
theorem sign_one (w:World)(B:Nat)(W:World)(b g cap:Nat)(s:ByteArray)(hz:s.size<=1048576)(I i:Nat)(v:Value)(L:List Tk)(h:Ct w B W b g cap s I v L)(hp:Plc s I i)(hl:L.length<=16384)(hi:i<s.size)(hv:Vd s i)(htw:two (s.get! i) (s.get! (i+1))=false):
 Calls Tryz.prog 86 #[.pointer (some ⟨b,0,none⟩)] W (TkPost w B b g cap s I v L (sigT s i)):=by
 have H:=hid2 h
 obtain⟨c0,c1,c2,c3,f0,f1,f2,f3⟩:=h.box.four
 have hlt:=h.box.lt
 have hlg:=h.pc.lt
 have hll:=PL_len s
 have hrs:=rs_length0 s
 have hIl:=hp.le
 have HP:=hid2 hp
 have hp1:=hp.step hi
 have hIl1:=hp1.le
 obtain⟨r0,r1⟩:=h.piece' hp
 obtain⟨q0,q1⟩:=h.piece' hp1
 have hI2:(I:Int)<(((PL s).length:Nat):Int):=by omega
 have hI3:(I:Int)+1<(((PL s).length:Nat):Int):=by omega
 have hw1:IntKind.i64.wrap ((I:Int)+1)=((I+1:Nat):Int):=by rw[IntKind.wrap_i64];omega
 have hw2:IntKind.i64.wrap ((I:Int)+2)=((I+2:Nat):Int):=by rw[IntKind.wrap_i64];omega
 have h2:=sg_two hi hv
 have hRs:∀ c:UInt8,c.toNat<128->c≠0->(rAt s i=(c.toNat:Int)↔s.get! i=c):=fun c x1 x2=>rAt_byte hv c x1 x2
 have HF:Hid (∀ k,k<14->rAt s i=((sgA.get! k).toNat:Int)->sigT s i=.ok (⟨5,sgA.extract k (k+1),0,i⟩,i+1)/\Plc s (I+1) (i+1)):=fun k hk he=>by
  have hb:=(hRs _ (sg_low k hk).1 (sg_low k hk).2).1 he
  have hp2:=hp1
  rw[dec_low (by rw[hb];exact(sg_low k hk).1)] at hp2
  refine⟨?_,hp2⟩
  unfold sigT
  rw[htw,if_neg (by decide),if_pos ((sg_one _).2 ⟨k,hk,hb.symm⟩),sg_cut hk hi hb.symm]
 have HN:Hid ((∀ k,k<14->rAt s i≠((sgA.get! k).toNat:Int))->sigT s i=.error 12):=fun hh=>by
  unfold sigT
  rw[htw,if_neg (by decide),if_neg (fun h1=>by
   obtain⟨k,hk,he⟩:=(sg_one _).1 h1
   exact hh k hk ((hRs _ (sg_low k hk).1 (sg_low k hk).2).2 he.symm))]
 have HP1:=hid2 hp1
 have hcs:∃ a c:Int,rAt s i=a/\rAt s (i+(Utf8.decode s i).2)=c/\((a=46/\(c==46)=false)\/(a=60/\(c==61)=false)\/(a=62/\(c==61)=false)\/((a==46)=false/\(a==60)=false/\(a==62)=false)):=by
  refine⟨_,_,rfl,rfl,?_⟩
  simp only[beq_eq_false_iff_ne]
  have:¬ _:=fun hh=>Bool.false_ne_true (htw.symm.trans (h2.2 hh))
  omega
 generalize hPn:(PL s).length=nn at *
 generalize sigT s i=tr at *
 clear h hp hp1 htw h2 hRs q1 r1 q0
 obtain⟨a,c,ea,ec,hcs⟩:=hcs
 rw[ea] at r0 HF HN
 have HA:=hid2 ec
 obtain⟨rr,hrr⟩:∃ rr:Int,Hid (rr=a):=⟨a,rfl⟩
 rw[<-hrr.out] at HF HN
 obtain⟨A,hA⟩:∃ A:ByteArray,Hid (A=sgA):=⟨_,rfl⟩
 have hAz:A.size=14:=by rw[hA.out];rfl
 rw[<-hA.out] at HF HN
 clear ea ec hv
 rcases hcs with ⟨rfl,x1⟩ | ⟨rfl,x1⟩ | ⟨rfl,x1⟩ | ⟨x1,x2,x3⟩
 all_goals
  go_enter Tryz.func86,Tryz.ntmps86
  go_wp2_with fail
  go_quiet (fail)
  have H1:=hid2 (H.out.drewN nq)
  generalize W.drewN nq=W1 at *
  clear r0 c0 c1 c2 c3 f0 f1 f2 f3 hlt hlg
  obtain⟨c0,c1,c2,c3,f0,f1,f2,f3⟩:=H1.out.box.four
  obtain⟨q0,_⟩:=H1.out.piece' HP1.out
  rw[HA.out] at q0
  have hlt:=H1.out.box.lt
  have hlg:=H1.out.pc.lt
  rw[hPn] at c1
  go_wp2_with fail
  go_quiet (fail)
  have H2:=hid2 (H1.out.drewN nq)
  generalize W1.drewN nq=W2 at *
  clear q0 c0 c1 c2 c3 f0 f1 f2 f3 hlt hlg
  obtain⟨c0,c1,c2,c3,f0,f1,f2,f3⟩:=H2.out.box.four
  have hlt:=H2.out.box.lt
  go_wp2_with fail
  rw[show (ByteArray.mk #[59,58,44,61,40,41,123,125,43,45,42,47,60,62])=A from hA.out.symm]
  go_loop [6] (fun s6=>∃ j:Nat,s6=.int .i64 (j:Nat)/\j<=14/\Hid (∀ k,k<j->rr≠((A.get! k).toNat:Int))) (fun s6=>14-(RowKit.intOf s6).toNat)
  case atStart=>exact⟨0,rfl,by omega,fun k hk=>by omega⟩
  case round=>
   obtain⟨j,rfl,hj,HJ⟩:=hrel
   by_cases hj2:j<14
   ·have hj3:(j:Int)<14:=by omega
    have hj4:(j:Int)<(A.size:Int):=by omega
    have hjA:j<A.size:=by omega
    obtain⟨u,hu⟩:∃ u:UInt8,A[j]=u:=⟨_,rfl⟩
    have hgu:A.get! j=u:=(get_bang A j hjA).trans hu
    have hb8:=u.toNat_lt
    have hw8:wrap64 (u.toNat:Int)=(u.toNat:Int):=by unfold wrap64;omega
    have hwj:IntKind.i64.wrap ((j:Int)+1)=(j:Int)+1:=by rw[IntKind.wrap_i64];omega
    have hsl:=fun wx=>sl_lh A j (j+1) (by omega) (by omega) wx
    rw[show ((j+1:Nat):Int)=(j:Int)+1 by omega] at hsl
    have HFj:=hid2 (HF.out j hj2)
    have HJ3:Hid (rr≠(u.toNat:Int)->∀ k,k<j+1->rr≠((A.get! k).toNat:Int)):=fun hq k hk=>by
     rcases Nat.lt_or_ge k j with h1 | h1
     ·exact HJ.out k h1
     ·obtain rfl:k=j:=by omega
      rw[hgu]
      exact hq
    rw[hgu] at HFj
    generalize A.extract j (j+1)=x at *
    have hrr2:=hrr.out
    by_cases hq:rr=(u.toNat:Int)
    ·obtain⟨hE,hPn1⟩:=HFj.out hq
     have HPn:=hid2 hPn1
     subst hE
     have hq2:(u.toNat:Int)=_:=hq.symm.trans hrr2
     have n1:=beq_iff_eq.2 hq2
     try subst hq2
     clear hq HFj HJ HJ3 HF HN hPn1 hrr2 hgu hb8
     go_wp2_with fail
     go_region_with (first
      | (go_at_call 58;refine Calls.mono (put_c w B _ b g cap s I i (I+1) v L 5 x 0 (H2.out.next (Below.refl _ _).drew) HP.out hl) ?_;rintro r w9 ⟨rfl,v9,C9⟩;have K9:=hid2 C9;clear C9))
     all_goals go_wp2_with fail
     all_goals go_ret
     all_goals exact⟨rfl,I+1,v9,K9.out,HPn.out⟩
    ·have hq2:¬(u.toNat:Int)=_:=fun hh=>hq (hrr2.trans hh.symm)
     have n1:=beq_eq_false_iff_ne.2 hq2
     have HJ2:=hid2 (HJ3.out hq)
     clear hq HFj HJ HJ3 HF HN hrr2 hq2 hgu hb8
     go_wp2_with fail
     go_round
     case rel=>exact⟨j+1,rfl,by omega,HJ2⟩
     case measure=>simp[RowKit.intOf];omega
   ·obtain rfl:j=14:=by omega
    have hE:=HN.out (fun k hk=>HJ.out k hk)
    subst hE
    go_wp2_with fail
    go_ret
    exact⟨rfl,H2.out⟩
end Go.Proofs.YtecdfnpbcabdnaaGreatDoor
