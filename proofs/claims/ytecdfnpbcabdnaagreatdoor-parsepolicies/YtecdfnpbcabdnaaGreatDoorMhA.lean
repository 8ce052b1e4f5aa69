import Derived.Test.YtecdfnpbcabdnaaGreatDoorMiL
import Derived.Test.YtecdfnpbcabdnaaGreatDoorMgD
import Derived.Deep.RegionLaw
namespace Go.Proofs.YtecdfnpbcabdnaaGreatDoor
open Go.RowKit Go.Lib
structure Ct (w:World)(B:Nat)(W:World)(b g cap:Nat)(s:ByteArray)(I:Nat)(v:Value)(L:List Tk):Prop where
 box:Box W b [.string s,.slice (some ⟨g,0,none⟩) (PL s).length cap,.int .i64 (I:Nat),v]
 pc:Box W g (pcs (PL s))
 own:Toks W B v L
 bel:Below w.heap.size w W
 wb:w.heap.size<=b
 bB:b<B
 gB:g<B
 ne:g≠b
 BW:B<=W.heap.size
theorem Ct.next {w W W':World}{B b g cap I:Nat}{s:ByteArray}{v:Value}{L:List Tk}(h:Ct w B W b g cap s I v L)(k:Below W.heap.size W W'):Ct w B W' b g cap s I v L:=
 ⟨h.box.next k,h.pc.next k,own_on h.own k,below_on h.bel k h.bel.size,h.wb,h.bB,h.gB,h.ne,Nat.le_trans h.BW k.size⟩
theorem Ct.cu {w W:World}{B b g cap I:Nat}{s:ByteArray}{v:Value}{L:List Tk}(h:Ct w B W b g cap s I v L):Cu W b s I v:=⟨g,cap,h.box,h.pc,h.ne⟩
theorem Ct.goTo {w W:World}{B b g cap I:Nat}{s:ByteArray}{v:Value}{L:List Tk}(h:Ct w B W b g cap s I v L)(E:Nat):Ct w B (W.setCell ⟨b,2,none⟩ (.int .i64 (E:Nat))) b g cap s E v L:=
 ⟨h.box.set 2 (by simp) _,h.pc.other h.ne,own_turn h.own (Turn.set (S:=[b]) _ _ _ (by simp)) (by have:=h.bB;simp;omega),h.bel.setCell h.wb _,h.wb,h.bB,h.gB,h.ne,by simpa using h.BW⟩
theorem Ct.added {w W W':World}{B b g cap I:Nat}{s:ByteArray}{v v':Value}{L L':List Tk}(h:Ct w B W b g cap s I v L)(k:Below B W W')(o:Toks W' B v' L'):Ct w B (W'.setCell ⟨b,3,none⟩ v') b g cap s I v' L':=by
 have h1:=h.bB
 have h2:=h.gB
 have h3:=h.wb
 exact⟨(h.box.later k h1).set 3 (by simp) _,(h.pc.later k h2).other h.ne,own_turn o (Turn.set (S:=[b]) _ _ _ (by simp)) (by simp;omega),(h.bel.trans (k.mono (by omega))).setCell h.wb _,h.wb,h.bB,h.gB,h.ne,by simpa using Nat.le_trans h.BW k.size⟩
theorem step_append_tk {ops:Array Oper}{o:Oper}{a:Act}{w:World}{K:Act->World->Prop}{Q:Exit->Act->World->Prop}{E:Prop}(w0:World)(B:Nat)(hgd:o.guard=none)(s x:Operand)
 (hop:o.op=Op.call {callee:=Callee.builtin Builtin.append,args:=#[s,x],argTypes:=#[49,49]}) (v:Value) (L:List Tk) (k:Int) (y:ByteArray) (n:Int) (i:Nat) (hw:w=w0.alloc (.cells #[.int .i64 k,.string y,.int .i64 n,.int .i64 (i:Nat)] 47)) (hs:a.eval s=v) (h:Toks w0 B v L) (hl:L.length<=16384) (hB:B<=w0.heap.size)
 (hx:a.eval x=.slice (some ⟨w0.heap.size,0,none⟩) 1 1)
 (hK:∀ a' c' w',Toks w' B (.slice a' (L.length+1) c') (L++[⟨k,y,n,i⟩])->Below B w0 w'->K (a.put o.dst (.slice a' (L.length+1) c')) w') :
 if Region.wanted o (yielded ops a.tmps)=true then Oper.wp Tryz.prog o a w K Q else E:=by
 have hwd:Region.wanted o (yielded ops a.tmps)=true:=by simp[Region.wanted,hgd]
 rw[if_pos hwd]
 subst hw
 obtain⟨i0,hi,hz0,hz1,hz2⟩:=info_parts info_tk
 obtain⟨v',w',hrun,ho,hg,_⟩:=run_append_own (P:=Tryz.prog) (w0.alloc (.cells #[.int .i64 k,.string y,.int .i64 n,.int .i64 (i:Nat)] 47)) B 49 o.type 47 i0 (.agg #[.int .i64 0,.string ⟨#[]⟩,.int .i64 0,.int .i64 0]) 4 40 Tryz.underlying49 hi hz0 hz1 hz2 rfl (by decide) v L.length (tks L) (h.alloc _) ⟨w0.heap.size,0,none⟩ 1 1 [.int .i64 k,.string y,.int .i64 n,.int .i64 (i:Nat)] rfl (cell_four_new _ _ _ _ _ _) (by intro u hu;simp at hu;rcases hu with rfl | rfl | rfl | rfl<;>rfl) (by unfold maxLen;omega) (by omega) (by simp;omega)
 obtain⟨a',c',rfl⟩:=own_val ho
 unfold Oper.wp
 simp[execOp,hop,resolve,invoke,builtin,hs,hx,hrun,Result.andThen]
 refine hK a' c' w' ?_ (below_own (Below.refl _ _) hB _ (Nat.le_refl _) h hg)
 show w'.ownsRow _ _ _ _ (L++[(⟨k,y,n,i⟩:Tk)]).length _
 rw[tks_snoc,List.length_append]
 exact ho
set_option maxHeartbeats 4000000 in
theorem text_c (b:Nat)(s:ByteArray)(I J K i k:Nat)(lv:Value)(w:World)(h:Cu w b s J lv)(hp:Plc s I i)(hq:Plc s K k)(hik:i<=k):
 Calls Tryz.prog 82 #[.pointer (some ⟨b,0,none⟩),.int .i64 (I:Nat),.int .i64 (K:Nat)] w fun e w'=>e=.returned (.string (s.extract i k))/\∃ q,w'=w.drewN q:=by
 obtain⟨g,cap,hb,hg,_⟩:=h.box
 obtain⟨c0,c1,c2,c3,_⟩:=hb.four
 have hlt:=hb.lt
 have hlg:=hg.lt
 have g1:=hg.cell (2*I+1) _ (pcs_get _ _ _ hp.get).2
 have g2:=hg.cell (2*K+1) _ (pcs_get _ _ _ hq.get).2
 have hl:=PL_len s
 have hI2:(I:Int)<(((PL s).length:Nat):Int):=by have:=hp.le;omega
 have hK2:(K:Int)<(((PL s).length:Nat):Int):=by have:=hq.le;omega
 have hs:=fun wx=>sl_lh s i k hik hq.inn wx
 rw[Nat.mul_comm] at g1 g2
 generalize s.extract i k=x at *
 generalize (PL s).length=n at *
 clear h hb hg hp hq hl
 go_enter Tryz.func82,Tryz.ntmps82
 go_wp2_with fail
 go_quiet (fail)
 go_wp2_with fail
 go_ret
 exact⟨rfl,_,rfl⟩
set_option maxHeartbeats 4000000 in
theorem put_c (w:World)(B:Nat)(W:World)(b g cap:Nat)(s:ByteArray)(I i E:Nat)(v:Value)(L:List Tk)(k:Int)(y:ByteArray)(n:Int)(h:Ct w B W b g cap s I v L)(hp:Plc s I i)(hl:L.length<=16384):
 Calls Tryz.prog 58 #[.pointer (some ⟨b,0,none⟩),.int .i64 k,.string y,.int .i64 n,.int .i64 (E:Nat)] W fun e w'=>e=.returned (.int .i64 0)/\∃ v',Ct w B w' b g cap s E v' (L++[⟨k,y,n,i⟩]):=by
 obtain⟨c0,c1,c2,c3,f0,f1,f2,f3⟩:=h.box.four
 have hlt:=h.box.lt
 have hlg:=h.pc.lt
 have g1:=h.pc.cell (2*I+1) _ (pcs_get _ _ _ hp.get).2
 have hll:=PL_len s
 have hI2:(I:Int)<(((PL s).length:Nat):Int):=by have:=hp.le;omega
 rw[Nat.mul_comm] at g1
 have H:=hid2 h
 obtain⟨va,vc,hvv⟩:=own_val h.own
 subst hvv
 clear h hp hll
 generalize hPn:(PL s).length=nn at *
 go_enter Tryz.func58,Tryz.ntmps58
 go_wp2_with fail
 go_region_law (refine step_append_tk W.drew B rfl (.tmp 15) (.tmp 31) rfl (.slice va L.length vc) L k y n i rfl (by simp[Act.eval]) (H.out.next (Below.refl _ _).drew).own hl (H.out.next (Below.refl _ _).drew).BW (by simp[Act.eval]) ?_;intro a2 c2' w2 o2 k2;have X:=(H.out.next (Below.refl _ _).drew);obtain⟨d0,d1,d2,d3,e0,e1,e2,e3⟩:=(X.box.later k2 X.bB).four;have l2:=(X.box.later k2 X.bB).lt;have A2:=hid2 (X.added k2 o2);clear X o2 k2)
 all_goals go_wp2_with fail
 all_goals go_ret
 all_goals exact⟨rfl,_,A2.out.goTo E⟩
theorem rAt_byte {s:ByteArray}{i:Nat}(hv:Vd s i)(c:UInt8)(hc:c.toNat<128)(h0:c≠0):rAt s i=(c.toNat:Int)↔s.get! i=c:=by
 unfold rAt
 by_cases hi:i<s.size
 ·rw[if_pos hi]
  have:=byte_rune (hv.step hi).1 hc
  constructor
  ·intro h
   exact UInt8.toNat_inj.1 (this.1 (by omega))
  ·intro h
   have h2:=this.2 (by rw[h])
   omega
 ·rw[if_neg hi]
  constructor
  ·intro h;omega
  ·intro h
   exact absurd (get_in (by rw[h];exact h0)) hi
def cuI (w:World)(b:Nat):Nat:=match w.cell? ⟨b,2,none⟩ with
 | some (.int _ n)=>n.toNat
 | _=>0
theorem cuI_of {w W:World}{B b g cap I:Nat}{s:ByteArray}{v:Value}{L:List Tk}(h:Ct w B W b g cap s I v L):cuI W b=I:=by
 unfold cuI
 rw[h.box.cell 2 _ rfl]
 exact Int.toNat_natCast I
theorem Ct.at_ {w W:World}{B b g cap I i:Nat}{s:ByteArray}{v:Value}{L:List Tk}(h:Ct w B W b g cap s I v L)(hp:Plc s I i):W.cell? ⟨g,I*2,none⟩=some (.int .i64 (rAt s i))/\W.cell? ⟨g,I*2+1,none⟩=some (.int .i64 (i:Nat)):=by
 have:=pcs_get _ _ _ hp.get
 rw[Nat.mul_comm] at this
 exact⟨h.pc.cell _ _ this.1,h.pc.cell _ _ this.2⟩
set_option maxHeartbeats 8000000 in
theorem skip_r (w:World)(B:Nat)(W:World)(b g cap:Nat)(s:ByteArray)(hz:s.size<=1048576)(I i:Nat)(v:Value)(L:List Tk)(h:Ct w B W b g cap s I v L)(hp:Plc s I i)(hv:Vd s i):
 Calls Tryz.prog 56 #[.pointer (some ⟨b,0,none⟩)] W fun e w'=>e=.returned (.tuple #[])/\∃ I',Ct w B w' b g cap s I' v L/\Plc s I' (skp s i):=by
 have HR:=hid2 (fun W' J (h:Cu W' b s J v) I i (hp:Plc s I i)=>run_r b s hz I J i v 4 W' h hp)
 have H:=hid2 h
 have HP:=hid2 hp
 have HV:=hid2 hv
 clear h hp hv
 go_enter Tryz.func56,Tryz.ntmps56
 go_wp2_with fail
 go_loopw [] (fun wr=>∃ K k:Nat,Hid (Ct w B wr b g cap s K v L)/\Hid (Plc s K k)/\Hid (Vd s k)/\Hid (skp s k=skp s i)) (fun wr=>(rs s 0).length+1-cuI wr b)
 case atStart=>exact⟨I,i,H,HP,HV,rfl⟩
 case round=>
  obtain⟨K,k,HC,HK,HVk,HS⟩:=hrel
  clear H HP HV
  have HIc:=hid2 (cuI_of HC.out)
  obtain⟨c0,c1,c2,c3,f0,f1,f2,f3⟩:=HC.out.box.four
  have hlt:=HC.out.box.lt
  have hR:=hid2 (HR.out wr K HC.out.cu K k HK.out)
  have HK2:=hid2 (HK.out.run (fun r=>isC (r:Int) 4))
  have HV2:Hid (Vd s (cls s 4 k)):=rn_vd _ _ HVk.out
  have hsk:=skp_eq HK.out.inn
  obtain⟨K2,hK2⟩:∃ K2,K2=K+(seg s (fun r=>isC (r:Int) 4) k).length:=⟨_,rfl⟩
  have hKK:K<=K2:=by omega
  rw[<-hK2] at hR HK2
  obtain⟨k2,hk2⟩:∃ k2,k2=cls s 4 k:=⟨_,rfl⟩
  rw[<-hk2] at hsk HV2
  have HK3:Hid (Plc s K2 k2):=by rw[hk2];exact HK2.out
  have HSK:=hid2 hsk
  clear HK2 hsk hk2 hK2
  go_wp2_with fail
  refine Calls.mono hR.out ?_
  rintro e w1 ⟨rfl,rfl⟩
  go_wp2_with fail
  have C1:=hid2 (HC.out.goTo K2)
  generalize w1.setCell ⟨b,2,none⟩ (.int .i64 (K2:Nat))=W1 at *
  clear c0 c1 c2 c3 f0 f1 f2 f3 hlt HC hR
  obtain⟨c0,c1,c2,c3,f0,f1,f2,f3⟩:=C1.out.box.four
  obtain⟨r0,r1⟩:=C1.out.at_ HK3.out
  have hlt:=C1.out.box.lt
  have hlg:=C1.out.pc.lt
  have hl:=PL_len s
  have hI2:(K2:Int)<(((PL s).length:Nat):Int):=by have:=HK3.out.le;omega
  have h35:=rAt_byte HV2.out 35 (by decide) (by decide)
  have hle:=HK3.out.le
  have hrs:=rs_length0 s
  generalize hPn:(PL s).length=nn at *
  by_cases hq:s.get! k2=35
  ·have hr:rAt s k2=35:=h35.2 hq
   have hlp:=line_past hq
   have hsk:=HSK.out
   rw[if_pos hq] at hsk
   have HS2:=hid2 (hsk.symm.trans HS.out)
   rw[hr] at r0
   clear h35 hsk HS HSK hr hq
   go_wp2_with fail
   go_quiet (fail)
   have C2:=hid2 (C1.out.next (drewN_b2 W1 nq))
   generalize W1.drewN nq=W2 at *
   clear c0 c1 c2 c3 f0 f1 f2 f3 r0 r1 C1
   go_wp2_with fail
   go_loopw [] (fun wr=>∃ M m:Nat,K2<=M/\Hid (Ct w B wr b g cap s M v L)/\Hid (Plc s M m)/\Hid (Vd s m)/\Hid (lineEnd s m=lineEnd s k2)/\Hid (M=K2->m=k2)) (fun wr=>(rs s 0).length+1-cuI wr b)
   case atStart=>exact⟨K2,k2,Nat.le_refl _,C2,HK3,HV2,rfl,fun _=>rfl⟩
   case round=>
    obtain⟨M,m,hM,HCm,HPm,HVm,HLm,HE⟩:=hrel
    clear C2
    have HIm:=hid2 (cuI_of HCm.out)
    obtain⟨c0,c1,c2,c3,f0,f1,f2,f3⟩:=HCm.out.box.four
    obtain⟨r0,r1⟩:=HCm.out.at_ HPm.out
    have hltm:=HCm.out.box.lt
    have hlgm:=HCm.out.pc.lt
    have hI3:(M:Int)<(nn:Int):=by have:=HPm.out.le;omega
    have hlem:=HPm.out.le
    rw[hPn] at c1
    by_cases hgo:rAt s m≠10/\0<=rAt s m
    ·have hms:m<s.size:=by
      rcases Nat.lt_or_ge m s.size with hh | hh
      ·exact hh
      ·have:=hgo.2
       unfold rAt at this
       rw[if_neg (by omega)] at this
       omega
     have HP2:=hid2 (HPm.out.step hms)
     have HV3:=hid2 (HVm.out.step hms).2.2
     have hL2:Hid (lineEnd s (m+(Utf8.decode s m).2)=lineEnd s k2):=by
      show _=_
      rw[<-HLm.out]
      refine(rn_yes (p:=nin [10]) hms ?_).symm
      have:=hgo.1
      unfold rAt at this
      rw[if_pos hms] at this
      simp[nin]
      omega
     have n1:(rAt s m != 10)=true:=by simpa using hgo.1
     have n2:(0:Int)<=rAt s m:=hgo.2
     have n3:decide ((0:Int)<=rAt s m)=true:=decide_eq_true n2
     have hle2:=HP2.out.le
     have hnw:IntKind.i64.wrap ((M:Int)+1)=((M+1:Nat):Int):=by rw[IntKind.wrap_i64];omega
     generalize rAt s m=rr at *
     clear hgo HPm HVm HLm HE
     go_wp2_with fail
     go_quiet (fail)
     have C3:=hid2 (HCm.out.next (drewN_b2 _ nq))
     generalize World.drewN _ nq=W3 at *
     clear c0 c1 c2 c3 f0 f1 f2 f3 r0 r1 HCm
     obtain⟨c0,c1,c2,c3,f0,f1,f2,f3⟩:=C3.out.box.four
     go_wp2_with fail
     go_roundw
     case rel=>exact⟨M+1,_,by omega,C3.out.goTo (M+1),HP2,HV3,hL2,fun h=>by omega⟩
     case measure=>
      have hm:cuI (W3.setCell ⟨b,2,none⟩ (.int .i64 ((M:Int)+1))) b=M+1:=cuI_of (C3.out.goTo (M+1))
      rw[hm,HIm.out]
      omega
    ·have hml:lineEnd s m=m:=by
      by_cases hms:m<s.size
      ·refine rn_no (p:=nin [10]) hms ?_
       have hh:rAt s m=((Utf8.decode s m).1:Int):=if_pos hms
       have h10:rAt s m=10:=by
        rcases Int.lt_or_le (rAt s m) 0 with h0 | h0
        ·rw[hh] at h0;omega
        ·exact Classical.byContradiction fun hn=>hgo ⟨hn,h0⟩
       have h11:(Utf8.decode s m).1=10:=by rw[hh] at h10;omega
       simp[nin,h11]
      ·rw[show lineEnd s m=s.size from rn_end hms]
       have:=HPm.out.inn
       omega
     have hmk:m=lineEnd s k2:=by rw[<-HLm.out,hml]
     have hMK:K2<M:=by
      rcases Nat.lt_or_ge K2 M with hh | hh
      ·exact hh
      ·have:=HE.out (by omega)
       omega
     have HS3:Hid (skp s m=skp s i):=by rw[hmk];exact HS2.out
     clear hml hmk HLm HE HS2
     by_cases h10:rAt s m=10
     ·have n1:(rAt s m != 10)=false:=by simp[h10]
      generalize rAt s m=rr at *
      clear hgo h10
      go_wp2_with fail
      go_quiet (fail)
      have C3:=hid2 (HCm.out.next (drewN_b2 _ nq))
      generalize World.drewN _ nq=W3 at *
      go_wp2_with fail
      go_roundw
      case rel=>exact⟨M,m,C3,HPm,HVm,HS3⟩
      case measure=>rw[cuI_of C3.out,HIc.out];omega
     ·have n1:(rAt s m != 10)=true:=by simpa using h10
      have n2:¬((0:Int)<=rAt s m):=fun hh=>hgo ⟨h10,hh⟩
      have n3:decide ((0:Int)<=rAt s m)=false:=decide_eq_false n2
      generalize rAt s m=rr at *
      clear hgo h10
      go_wp2_with fail
      go_quiet (fail)
      have C3:=hid2 (HCm.out.next (drewN_b2 _ nq))
      generalize World.drewN _ nq=W3 at *
      go_wp2_with fail
      go_roundw
      case rel=>exact⟨M,m,C3,HPm,HVm,HS3⟩
      case measure=>rw[cuI_of C3.out,HIc.out];omega
  ·have hr:rAt s k2≠35:=fun h=>hq (h35.1 h)
   have n1:(rAt s k2 != 35)=true:=by simpa using hr
   have hsk:=HSK.out
   rw[if_neg hq] at hsk
   have HS2:=hid2 (hsk.symm.trans HS.out)
   generalize rAt s k2=rr at *
   clear h35 hsk HS HSK hr hq
   go_wp2_with fail
   go_quiet (fail)
   have C2:=hid2 (C1.out.next (drewN_b2 W1 nq))
   go_wp2_with fail
   refine bodyPost_ret (v:=.tuple #[]) (by simp[results,Tryz.results56,go_sem]) rfl ⟨rfl,K2,C2.out,?_⟩
   rw[<-HS2.out]
   exact HK3.out
end Go.Proofs.YtecdfnpbcabdnaaGreatDoor
