import Derived.Test.YtecdfnpbcabdnaaGreatDoorMhE
import Derived.Test.YtecdfnpbcabdnaaGreatDoorMiL
import Derived.Test.YtecdfnpbcabdnaaGreatDoorMhD
import Derived.Test.YtecdfnpbcabdnaaGreatDoorMgD
namespace Go.Proofs.YtecdfnpbcabdnaaGreatDoor
open Go.RowKit Go.Lib
def tokL (s:ByteArray)(i:Nat)(L:List Tk):TR:=if L.length=16384 then .error 14 else tok s i
theorem TkPost.val {w:World}{B b g cap:Nat}{s:ByteArray}{I:Nat}{v:Value}{L:List Tk}{tr:TR}{e:Ending}{w':World}(h:TkPost w B b g cap s I v L tr e w'):∃ k,e=.returned (.int .i64 k):=by
 unfold TkPost at h
 cases tr with
 | ok te=>exact⟨_,h.1⟩
 | error k=>exact⟨_,h.1⟩
theorem nin4 (r:Nat):nin [34,10] r = !(decide ((r:Int)=34)||endR 4 (r:Int)):=by
 unfold nin endR
 simp only[List.any_cons,List.any_nil]
 congr 1
 rw[Bool.eq_iff_iff]
 simp
 omega
theorem nin8 (r:Nat):nin [91,93,34,10] r = !(decide ((r:Int)=93)||endR 8 (r:Int)):=by
 unfold nin endR
 simp only[List.any_cons,List.any_nil]
 congr 1
 rw[Bool.eq_iff_iff]
 simp
 omega
theorem sign_r (w:World)(B:Nat)(W:World)(b g cap:Nat)(s:ByteArray)(hz:s.size<=1048576)(I i:Nat)(v:Value)(L:List Tk)(h:Ct w B W b g cap s I v L)(hp:Plc s I i)(hl:L.length<=16384)(hi:i<s.size)(hv:Vd s i):
 Calls Tryz.prog 86 #[.pointer (some ⟨b,0,none⟩)] W (TkPost w B b g cap s I v L (sigT s i)):=by
 cases htw:two (s.get! i) (s.get! (i+1)) with
 | true=>exact sign_two w B W b g cap s hz I i v L h hp hl hi hv htw
 | false=>exact sign_one w B W b g cap s hz I i v L h hp hl hi hv htw
set_option maxHeartbeats 8000000 in
theorem token_r (w:World)(B:Nat)(W:World)(b g cap:Nat)(s:ByteArray)(hz:s.size<=1048576)(I i:Nat)(v:Value)(L:List Tk)(h:Ct w B W b g cap s I v L)(hp:Plc s I i)(hl:L.length<=16384)(hi:i<s.size)(hv:Vd s i):
 Calls Tryz.prog 57 #[.pointer (some ⟨b,0,none⟩)] W (TkPost w B b g cap s I v L (tokL s i L)):=by
 obtain⟨va,vc,hvv⟩:=own_val h.own
 subst hvv
 have H:=hid2 h
 have HP:=hid2 hp
 obtain⟨c0,c1,c2,c3,f0,f1,f2,f3⟩:=h.box.four
 have hlt:=h.box.lt
 have hlg:=h.pc.lt
 have hll:=PL_len s
 have hrs:=rs_length0 s
 have hIl:=hp.le
 obtain⟨r0,r1⟩:=h.piece' hp
 have hI2:(I:Int)<(((PL s).length:Nat):Int):=by omega
 by_cases hL:L.length=16384
 ·have HE:Hid (tokL s i L=.error 14):=if_pos hL
  have FIN:Hid (TkPost w B b g cap s I (.slice va L.length vc) L (tokL s i L) (.returned (.int .i64 14)) W):=by
   show TkPost _ _ _ _ _ _ _ _ _ _ _ _
   rw[HE.out]
   exact⟨rfl,h⟩
  generalize TkPost w B b g cap s I (.slice va L.length vc) L (tokL s i L)=Post at *
  rw[hL] at c3
  clear h hp hL hl
  go_enter Tryz.func57,Tryz.ntmps57
  go_wp2_with fail
  exact FIN.out
 ·have hL3:((L.length:Int)==16384)=false:=beq_eq_false_iff_ne.2 (by omega)
  have HE:Hid (tokL s i L=tok s i):=if_neg hL
  rw[HE.out]
  have k1:=rAt_cls hp.inn 1
  have k2:=rAt_cls hp.inn 2
  have hc1:=cls_in s 1 i hp.inn
  have hc2:=cls_in s 2 i hp.inn
  have C1:=fun W' J (hc:Cu W' b s J (.slice va L.length vc))=>class_c b s I J i (.slice va L.length vc) 1 W' hc hp
  have C2:=fun W' J (hc:Cu W' b s J (.slice va L.length vc))=>class_c b s I J i (.slice va L.length vc) 2 W' hc hp
  by_cases h1:cls s 1 i≠i
  ·rw[k1,decide_eq_true (by omega)] at C1
   have HC1:=hid2 C1
   have hc3:=cls_in s 3 i hp.inn
   have hN:Plc s (I+(seg s (fun r=>isC (r:Int) 3) i).length) (cls s 3 i):=Plc.run (fun r=>isC (r:Int) 3) i I hp
   have HN:=hid2 hN
   have HR:=hid2 (fun W' J (hc:Cu W' b s J (.slice va L.length vc))=>run_r b s hz I J i (.slice va L.length vc) 3 W' hc hp)
   have HT:=hid2 (fun W' J (hc:Cu W' b s J (.slice va L.length vc))=>text_c b s I J _ i (cls s 3 i) (.slice va L.length vc) W' hc hp hN hc3.1)
   have HV:=hid2 (fun wx=>rReserved_c (s.extract i (cls s 3 i)) wx)
   have hT:tok s i=wordT s i:=if_pos h1
   rw[hT]
   have W1:Hid (resv (s.extract i (cls s 3 i)).data.toList=true->wordT s i=.ok (⟨6,s.extract i (cls s 3 i),0,i⟩,cls s 3 i)):=fun hh=>if_pos hh
   have W2:Hid (resv (s.extract i (cls s 3 i)).data.toList=false->(seg s (fun r=>isC (r:Int) 3) i).length<=32->wordT s i=.ok (⟨1,s.extract i (cls s 3 i),0,i⟩,cls s 3 i)):=fun hh h2=>by
    unfold wordT
    rw[hh,if_neg (by decide),if_pos h2]
   have W3:Hid (resv (s.extract i (cls s 3 i)).data.toList=false->¬(seg s (fun r=>isC (r:Int) 3) i).length<=32->wordT s i=.error 12):=fun hh h2=>by
    unfold wordT
    rw[hh,if_neg (by decide),if_neg h2]
   have hNl:=hN.le
   generalize resv (s.extract i (cls s 3 i)).data.toList=rv at *
   generalize s.extract i (cls s 3 i)=x at *
   generalize cls s 3 i=e at *
   generalize wordT s i=tr at *
   generalize (seg s (fun r=>isC (r:Int) 3) i).length=m at *
   have hw:IntKind.i64.wrap (((I+m:Nat):Int)-(I:Int))=(m:Int):=by rw[IntKind.wrap_i64];omega
   generalize hNm:I+m=N at *
   generalize hPn:(PL s).length=nn at *
   clear h hp C1 C2 k1 k2 hN hT h1
   cases rv with
   | true=>
     have hE:=W1.out rfl
     subst hE
     clear W1 W2 W3
     go_enter Tryz.func57,Tryz.ntmps57
     go_wp2_with fail
     refine Calls.mono (HC1.out _ _ H.out.cu) ?_
     rintro r w1 ⟨rfl,rfl⟩
     go_wp2_with fail
     refine Calls.mono (HR.out _ _ H.out.cu) ?_
     rintro r w2 ⟨rfl,rfl⟩
     go_wp2_with fail
     refine Calls.mono (HT.out _ _ H.out.cu) ?_
     rintro r w3 ⟨rfl,q3,rfl⟩
     have H3:=hid2 (H.out.drewN q3)
     generalize World.drewN _ q3=W3 at *
     go_wp2_with fail
     refine Calls.mono (HV.out _) ?_
     rintro r w4 ⟨rfl,b4⟩
     have H4:=hid2 (H3.out.next b4)
     clear b4
     go_wp2_with fail
     refine Calls.mono (put_c w B w4 b g cap s I i N _ L 6 x 0 H4.out HP.out hl) ?_
     rintro r w5 ⟨rfl,v5,C5⟩
     go_wp2_with fail
     go_ret
     exact⟨rfl,N,v5,C5,HN.out⟩
   | false=>
     by_cases hm:m<=32
     ·have hE:=W2.out rfl hm
      subst hE
      have hm2:¬((32:Int)<(m:Int)):=by omega
      clear W1 W2 W3
      go_enter Tryz.func57,Tryz.ntmps57
      go_wp2_with fail
      refine Calls.mono (HC1.out _ _ H.out.cu) ?_
      rintro r w1 ⟨rfl,rfl⟩
      go_wp2_with fail
      refine Calls.mono (HR.out _ _ H.out.cu) ?_
      rintro r w2 ⟨rfl,rfl⟩
      go_wp2_with fail
      refine Calls.mono (HT.out _ _ H.out.cu) ?_
      rintro r w3 ⟨rfl,q3,rfl⟩
      have H3:=hid2 (H.out.drewN q3)
      generalize World.drewN _ q3=W3 at *
      go_wp2_with fail
      refine Calls.mono (HV.out _) ?_
      rintro r w4 ⟨rfl,b4⟩
      have H4:=hid2 (H3.out.next b4)
      obtain⟨d0,d1,d2,d3,_⟩:=H4.out.box.four
      have dl:=H4.out.box.lt
      clear b4
      go_wp2_with fail
      refine Calls.mono (put_c w B w4 b g cap s I i N _ L 1 x 0 H4.out HP.out hl) ?_
      rintro r w5 ⟨rfl,v5,C5⟩
      go_wp2_with fail
      go_ret
      exact⟨rfl,N,v5,C5,HN.out⟩
     ·have hE:=W3.out rfl hm
      subst hE
      have hm2:(32:Int)<(m:Int):=by omega
      clear W1 W2 W3
      go_enter Tryz.func57,Tryz.ntmps57
      go_wp2_with fail
      refine Calls.mono (HC1.out _ _ H.out.cu) ?_
      rintro r w1 ⟨rfl,rfl⟩
      go_wp2_with fail
      refine Calls.mono (HR.out _ _ H.out.cu) ?_
      rintro r w2 ⟨rfl,rfl⟩
      go_wp2_with fail
      refine Calls.mono (HT.out _ _ H.out.cu) ?_
      rintro r w3 ⟨rfl,q3,rfl⟩
      have H3:=hid2 (H.out.drewN q3)
      generalize World.drewN _ q3=W3 at *
      go_wp2_with fail
      refine Calls.mono (HV.out _) ?_
      rintro r w4 ⟨rfl,b4⟩
      have H4:=hid2 (H3.out.next b4)
      obtain⟨d0,d1,d2,d3,_⟩:=H4.out.box.four
      have dl:=H4.out.box.lt
      clear b4
      go_wp2_with fail
      go_ret
      exact⟨rfl,H4.out⟩
  ·rw[k1,decide_eq_false (by omega)] at C1
   have HC1:=hid2 C1
   by_cases h2:cls s 2 i≠i
   ·rw[k2,decide_eq_true (by omega)] at C2
    have HC2:=hid2 C2
    have hT:tok s i=numT s i:=by unfold tok;rw[if_neg h1,if_pos h2]
    rw[hT]
    have HF:=hid2 (number_r w B W b g cap s hz I i (.slice va L.length vc) L h hp hv hl)
    generalize hPn:(PL s).length=nn at *
    clear h hp C1 C2 k1 k2 hT h1 h2
    go_enter Tryz.func57,Tryz.ntmps57
    go_wp2_with fail
    refine Calls.mono (HC1.out _ _ H.out.cu) ?_
    rintro r w1 ⟨rfl,rfl⟩
    go_wp2_with fail
    refine Calls.mono (HC2.out _ _ H.out.cu) ?_
    rintro r w2 ⟨rfl,rfl⟩
    go_wp2_with fail
    refine Calls.mono HF.out ?_
    intro r w3 hh
    obtain⟨k,rfl⟩:=hh.val
    have K:=hid2 hh
    clear hh
    go_wp2_with fail
    go_ret
    exact K.out
   ·rw[k2,decide_eq_false (by omega)] at C2
    have HC2:=hid2 C2
    have e34:rAt s i=34↔s.get! i=34:=rAt_byte hv 34 (by decide) (by decide)
    have e91:rAt s i=91↔s.get! i=91:=rAt_byte hv 91 (by decide) (by decide)
    by_cases h34:s.get! i=34
    ·have hT:tok s i=encT 4 [34,10] 34 s i:=by unfold tok;rw[if_neg h1,if_neg h2,if_pos h34]
     rw[hT]
     have hlow:(s.get! i).toNat<128:=by rw[h34];decide
     have hp1:=hp.step hi
     rw[dec_low hlow] at hp1
     have hv1:=vd_low hv (by rw[h34];decide) hlow
     have HF:=hid2 (fun W' (h':Ct w B W' b g cap s I (.slice va L.length vc) L)=>between_r w B W' b g cap s hz I i (.slice va L.length vc) L h' hp hl 4 34 [34,10] 34 rfl (by decide) (by decide) nin4 hp1 hv1)
     have q1:(rAt s i==34)=true:=by simpa using e34.2 h34
     have q2:=e34.2 h34
     rw[q2] at r0
     generalize hPn:(PL s).length=nn at *
     clear h hp C1 C2 k1 k2 hT h1 h2 e34 e91 q1 q2 hp1 hv1
     go_enter Tryz.func57,Tryz.ntmps57
     go_wp2_with fail
     refine Calls.mono (HC1.out _ _ H.out.cu) ?_
     rintro r w1 ⟨rfl,rfl⟩
     go_wp2_with fail
     refine Calls.mono (HC2.out _ _ H.out.cu) ?_
     rintro r w2 ⟨rfl,rfl⟩
     go_wp2_with fail
     go_quiet (fail)
     have H1:=hid2 (H.out.drewN nq)
     generalize World.drewN _ nq=W1 at *
     go_wp2_with fail
     refine Calls.mono (HF.out _ H1.out) ?_
     intro r w3 hh
     obtain⟨k,rfl⟩:=hh.val
     have K:=hid2 hh
     clear hh
     go_wp2_with fail
     go_ret
     exact K.out
    ·have q1:(rAt s i==34)=false:=beq_eq_false_iff_ne.2 (fun hh=>h34 (e34.1 hh))
     by_cases h91:s.get! i=91
     ·have hT:tok s i=encT 8 [91,93,34,10] 93 s i:=by unfold tok;rw[if_neg h1,if_neg h2,if_neg h34,if_pos h91]
      rw[hT]
      have hlow:(s.get! i).toNat<128:=by rw[h91];decide
      have hp1:=hp.step hi
      rw[dec_low hlow] at hp1
      have hv1:=vd_low hv (by rw[h91];decide) hlow
      have HF:=hid2 (fun W' (h':Ct w B W' b g cap s I (.slice va L.length vc) L)=>between_r w B W' b g cap s hz I i (.slice va L.length vc) L h' hp hl 8 93 [91,93,34,10] 93 rfl (by decide) (by decide) nin8 hp1 hv1)
      have HQ:=hid2 (e91.2 h91)
      have q2:=e91.2 h91
      rw[q2] at r0
      generalize hPn:(PL s).length=nn at *
      clear h hp C1 C2 k1 k2 hT h1 h2 e34 e91 q1 q2 hp1 hv1
      go_enter Tryz.func57,Tryz.ntmps57
      go_wp2_with fail
      refine Calls.mono (HC1.out _ _ H.out.cu) ?_
      rintro r w1 ⟨rfl,rfl⟩
      go_wp2_with fail
      refine Calls.mono (HC2.out _ _ H.out.cu) ?_
      rintro r w2 ⟨rfl,rfl⟩
      go_wp2_with fail
      go_quiet (fail)
      have H1:=hid2 (H.out.drewN nq)
      generalize World.drewN _ nq=W1 at *
      clear r0 r1 c0 c1 c2 c3 f0 f1 f2 f3 hlt hlg
      obtain⟨c0,c1,c2,c3,f0,f1,f2,f3⟩:=H1.out.box.four
      have hlt:=H1.out.box.lt
      have hlg:=H1.out.pc.lt
      obtain⟨r0,_⟩:=H1.out.piece' HP.out
      rw[HQ.out] at r0
      rw[hPn] at c1
      go_wp2_with fail
      go_quiet (fail)
      have H2:=hid2 (H1.out.drewN nq)
      generalize World.drewN _ nq=W2 at *
      go_wp2_with fail
      refine Calls.mono (HF.out _ H2.out) ?_
      intro r w3 hh
      obtain⟨k,rfl⟩:=hh.val
      have K:=hid2 hh
      clear hh
      go_wp2_with fail
      go_ret
      exact K.out
     ·have hT:tok s i=sigT s i:=by unfold tok;rw[if_neg h1,if_neg h2,if_neg h34,if_neg h91]
      rw[hT]
      have HF:=hid2 (fun W' (h':Ct w B W' b g cap s I (.slice va L.length vc) L)=>sign_r w B W' b g cap s hz I i (.slice va L.length vc) L h' hp hl hi hv)
      have q3:(rAt s i==91)=false:=beq_eq_false_iff_ne.2 (fun hh=>h91 (e91.1 hh))
      obtain⟨rr,hrr⟩:∃ rr,rAt s i=rr:=⟨_,rfl⟩
      have HQ:=hid2 hrr
      rw[hrr] at r0 q1 q3
      generalize hPn:(PL s).length=nn at *
      clear h hp C1 C2 k1 k2 hT h1 h2 e34 e91 hrr
      go_enter Tryz.func57,Tryz.ntmps57
      go_wp2_with fail
      refine Calls.mono (HC1.out _ _ H.out.cu) ?_
      rintro r w1 ⟨rfl,rfl⟩
      go_wp2_with fail
      refine Calls.mono (HC2.out _ _ H.out.cu) ?_
      rintro r w2 ⟨rfl,rfl⟩
      go_wp2_with fail
      go_quiet (fail)
      have H1:=hid2 (H.out.drewN nq)
      generalize World.drewN _ nq=W1 at *
      clear r0 r1 c0 c1 c2 c3 f0 f1 f2 f3 hlt hlg
      obtain⟨c0,c1,c2,c3,f0,f1,f2,f3⟩:=H1.out.box.four
      have hlt:=H1.out.box.lt
      have hlg:=H1.out.pc.lt
      obtain⟨r0,_⟩:=H1.out.piece' HP.out
      rw[HQ.out] at r0
      rw[hPn] at c1
      go_wp2_with fail
      go_quiet (fail)
      have H2:=hid2 (H1.out.drewN nq)
      generalize World.drewN _ nq=W2 at *
      go_wp2_with fail
      refine Calls.mono (HF.out _ H2.out) ?_
      intro r w3 hh
      obtain⟨k,rfl⟩:=hh.val
      have K:=hid2 hh
      clear hh
      go_wp2_with fail
      go_ret
      exact K.out
def cuP (w:World)(b g:Nat):Nat:=match w.cell? ⟨g,cuI w b*2+1,none⟩ with
 | some (.int _ n)=>n.toNat
 | _=>0
theorem cuP_of {w W:World}{B b g cap I i:Nat}{s:ByteArray}{v:Value}{L:List Tk}(h:Ct w B W b g cap s I v L)(hp:Plc s I i):cuP W b g=i:=by
 unfold cuP
 rw[cuI_of h,(h.at_ hp).2]
 exact Int.toNat_natCast i
theorem tokL_ok {s:ByteArray}{i:Nat}{L:List Tk}{te:Tk×Nat}(h:tokL s i L=.ok te):L.length≠16384/\tok s i=.ok te:=by
 unfold tokL at h
 split at h
 ·cases h
 ·rename_i h1
  exact⟨h1,h⟩
theorem lex_err {s:ByteArray}{i:Nat}{L:List Tk}{k:Int}(hi:i<=s.size)(hs:skp s i<s.size)(h:tokL s (skp s i) L=.error k):lexS s i L=([],skp s i,k)/\k≠0:=by
 unfold tokL at h
 split at h
 ·rename_i h1
  cases h
  exact⟨lex_many hi hs h1,by decide⟩
 ·rename_i h1
  exact⟨lex_no hi hs h1 h,tok_err _ h⟩
set_option maxHeartbeats 8000000 in
theorem rCut_c (s:ByteArray)(w:World):Calls Tryz.prog 54 #[.string s] w (CutP s w):=by
 obtain⟨i0,hi,hz0,hz1,hz2⟩:=info_parts info_pc
 obtain⟨res,hres⟩:∃ res,Hid (res=cutS s):=⟨_,rfl⟩
 have hP:Hid (∀ v w',(if res.2.2=0 then Toks w' w.heap.size v res.1 else v=.slice none 0 0)->Below w.heap.size w w'->CutP s w (.returned (.tuple #[v,.int .i64 (res.2.1:Nat),.int .i64 res.2.2])) w'):=fun v w' h1 h2=>by
  unfold CutP
  rw[<-hres.out]
  exact⟨v,rfl,h1,h2⟩
 by_cases hlong:1048576<s.size
 ·have hr:Hid (res=([],0,2)):=by show _=_;rw[hres.out];exact if_pos hlong
  have hl:(1048576:Int)<(s.size:Int):=by omega
  clear hres
  generalize CutP s w=Post at *
  go_enter Tryz.func54,Tryz.ntmps54
  go_wp2_with fail
  go_ret3
  have:=hP.out (.slice none 0 0) w (by rw[hr.out];rfl) (Below.refl _ _)
  rw[hr.out] at this
  exact this
 ·have hl:¬((1048576:Int)<(s.size:Int)):=by omega
  have hzs:s.size<=1048576:=by omega
  have HC:=hid2 (pieces_c s hzs w)
  by_cases hs:(sd 10 11 s (rs s 0)).2=0
  ·have hr:Hid (res=lexS s 0 []):=by show _=_;rw[hres.out];exact cut_ok hzs hs
   have HV:Hid (Vd s 0):=hs
   have hpl:=sd_place _ hs
   have hrs:=rs_length0 s
   obtain⟨nn,HPn⟩:∃ nn,Hid ((PL s).length=nn):=⟨_,rfl⟩
   have HLL:Hid (nn=(rs s 0).length+1):=HPn.out.symm.trans (PL_len s)
   have HPL:Hid (pcs (PL s)=pcs (toI (rs s 0))++[.int .i64 (-1),.int .i64 (s.size:Int)]):=by show _=_;unfold PL;rw[pcs_snoc]
   generalize CutP s w=Post at *
   clear hres
   go_enter Tryz.func54,Tryz.ntmps54
   go_wp2_with fail
   refine Calls.mono HC.out ?_
   rintro r w1 ⟨⟨v,rfl,hv⟩,b1⟩
   rw[if_pos hs] at hv
   rw[hpl,hs]
   have hsz:=b1.size
   clear HC hs hpl
   obtain⟨va,vc,rfl⟩:=own_val hv
   go_wp2_with (at_builtin;refine wpList_append_own _ rfl _ _ 82 rfl w.heap.size 86 i0 (.agg #[.int .i64 0,.int .i64 0]) 2 16 Tryz.underlying82 hi hz0 hz1 hz2 rfl (by decide) _ _ _ rfl (hv.alloc _) ⟨_,0,none⟩ 1 1 [.int .i64 (-1),.int .i64 (s.size:Int)] rfl rfl ?c1 ?c2 ?c3 ?c4 ?c5 ?_)
   case c1=>exact cell_two_new _ _ _ _
   case c2=>intro u hu;simp at hu;rcases hu with rfl | rfl<;>rfl
   case c3=>unfold maxLen;omega
   case c4=>omega
   case c5=>simp;omega
   intro v' w2 hown' hgrow _
   have b2:=below_own b1 hsz _ (Nat.le_refl _) hv hgrow
   have hown:w2.ownsRow w.heap.size 86 2 v' nn (pcs (PL s)):=by
    rw[HLL.out,HPL.out]
    exact hown'
   obtain⟨g,cap,rfl,hgw,hgb⟩:∃ g cap,v'=.slice (some ⟨g,0,none⟩) nn cap/\w.heap.size<=g/\Box w2 g (pcs (PL s)):=by
    obtain⟨h1,⟨h2,h3⟩ | ⟨g,cap,cur,h2,h3,h4,h5,h6,h7,h8⟩⟩:=hown
    ·have:=HLL.out;omega
    ·exact⟨g,cap,h2,h3,(Box.ofBlock h4).part (by rw[<-h8];exact List.take_prefix _ _)⟩
   have hgl:=hgb.lt
   have hs2:=b2.size
   have HG:=hid2 hgb
   have HB2:=hid2 b2
   clear hown' hgrow hv hown hgb b1 b2
   go_wp2_with fail
   have hm:Hid (Ct w (w2.heap.size+1) (w2.alloc (.cells #[.string s,.slice (some ⟨g,0,none⟩) nn cap,.int .i64 0,.slice none 0 0] 89)) w2.heap.size g cap s 0 (.slice none 0 0) []):=
    ⟨by rw[HPn.out];exact Box.new w2 [.string s,.slice (some ⟨g,0,none⟩) nn cap,.int .i64 0,.slice none 0 0] 89,HG.out.next ((Below.refl _ _).alloc (Nat.le_refl _) _),⟨rfl,.inl ⟨rfl,rfl⟩⟩,HB2.out.alloc hs2 _,hs2,by omega,by omega,by omega,by simp⟩
   have hgb2:g<w2.heap.size:=hgl
   generalize hbe:w2.heap.size=b at *
   go_loopw [7] (fun s7 wr=>∃ (k7:Int) (I i:Nat) (v:Value) (L:List Tk),s7=.int .i64 k7/\Hid (Ct w (b+1) wr b g cap s I v L)/\Hid (Plc s I i)/\Hid (Vd s i)/\L.length<=16384/\Hid (res=lexS s i L)) (fun _ wr=>s.size-cuP wr b g)
   case atStart=>exact⟨0,0,0,.slice none 0 0,[],rfl,hm,Plc.start s,HV,by simp,hr⟩
   case round=>
    obtain⟨k7,I,i,v,L,rfl,HCt,HPi,HVi,hLl,HR⟩:=hrel
    clear hm HV hr HG HB2
    have HIc:=hid2 (cuP_of HCt.out HPi.out)
    have hsk:=skp_in i HPi.out.inn
    have HVj:=hid2 (skp_vd i HPi.out.inn HVi.out)
    have hin:=HPi.out.inn
    go_wp2_with fail
    refine Calls.mono (skip_r w (b+1) wr b g cap s hzs I i v L HCt.out HPi.out HVi.out) ?_
    rintro r w3 ⟨rfl,J,C3,P3⟩
    have H3:=hid2 C3
    have HPj:=hid2 P3
    clear C3 P3
    obtain⟨c0,c1,c2,c3,f0,f1,f2,f3⟩:=H3.out.box.four
    have hlt:=H3.out.box.lt
    have hlg:=H3.out.pc.lt
    obtain⟨r0,r1⟩:=H3.out.piece' HPj.out
    have hJl:=HPj.out.le
    have hJ2:(J:Int)<(nn:Int):=by have:=HLL.out;omega
    rw[HPn.out] at c1
    by_cases hlt2:skp s i<s.size
    ·have hrr:rAt s (skp s i)=((Utf8.decode s (skp s i)).1:Int):=if_pos hlt2
     rw[hrr] at r0
     have hn0:¬(((Utf8.decode s (skp s i)).1:Int)<0):=by omega
     have hn1:decide (((Utf8.decode s (skp s i)).1:Int)<0)=false:=decide_eq_false hn0
     have HTK:=hid2 (fun W' (h':Ct w (b+1) W' b g cap s J v L)=>token_r w (b+1) W' b g cap s hzs J (skp s i) v L h' HPj.out hLl hlt2 HVj.out)
     have E3:=hid2 (fun k (ht:tokL s (skp s i) L=.error k)=>lex_err hin hlt2 ht)
     have E4:=hid2 (fun t e (ht:tokL s (skp s i) L=.ok (t,e))=>lex_ok hin HVi.out hlt2 (tokL_ok ht).1 (tokL_ok ht).2)
     have EP:=hid2 (fun t e (ht:tokL s (skp s i) L=.ok (t,e))=>tok_past hlt2 HVj.out (tokL_ok ht).2)
     have EL:=hid2 (fun te (ht:tokL s (skp s i) L=.ok te)=>(tokL_ok ht).1)
     generalize hrx:(Utf8.decode s (skp s i)).1=rx at *
     generalize hjj:skp s i=j at *
     generalize htr:tokL s j L=tr at *
     clear hrr hrx
     go_wp2_with fail
     go_quiet (fail)
     have H4:=hid2 (H3.out.drewN nq)
     generalize World.drewN _ nq=W4 at *
     clear r0 r1 c0 c1 c2 c3 f0 f1 f2 f3 hlt hlg
     go_wp2_with fail
     refine Calls.mono (HTK.out _ H4.out) ?_
     intro r w5 hh
     cases tr with
     | ok te=>
       obtain⟨t,e⟩:=te
       obtain⟨rfl,J2,v2,C5,P5⟩:=hh
       have H5:=hid2 C5
       have HP5:=hid2 P5
       have HRR:=hid2 (HR.out.trans (E4.out t e rfl))
       have hep:=EP.out t e rfl
       have hne:=EL.out _ rfl
       have HLE:Hid ((L++[t]).length<=16384):=by show _<=_;rw[List.length_append];simp;omega
       clear C5 P5 E3 E4 EP EL HTK
       go_wp2_with fail
       go_roundw
       case rel=>exact⟨0,J2,e,v2,L++[t],rfl,H5,HP5,hep.2.2,HLE.out,HRR⟩
       case measure=>rw[cuP_of H5.out HP5.out,HIc.out];omega
     | error k=>
       obtain⟨rfl,C5⟩:=hh
       have H5:=hid2 C5
       obtain⟨e1,e2⟩:=E3.out k rfl
       have HRR:=hid2 (HR.out.trans e1)
       have hk2:(k != 0)=true:=by simpa using e2
       have FIN:=hid2 (fun q=>hP.out (.slice none 0 0) (w5.drewN q) (by rw[HRR.out];exact(if_neg e2).mpr rfl) (C5.drewN q).bel)
       rw[HRR.out] at FIN
       clear C5 E3 E4 EP EL HTK e1 e2 HR
       obtain⟨c0,c1,c2,c3,f0,f1,f2,f3⟩:=H5.out.box.four
       have hlt:=H5.out.box.lt
       have hlg:=H5.out.pc.lt
       obtain⟨r0,r1⟩:=H5.out.piece' HPj.out
       rw[HPn.out] at c1
       go_wp2_with fail
       go_quiet (fail)
       go_wp2_with fail
       go_ret3
       exact FIN.out _
    ·have hjj:skp s i=s.size:=by omega
     have hrr:rAt s (skp s i) = -1:=if_neg hlt2
     rw[hrr] at r0
     have HRR:=hid2 (HR.out.trans (lex_end hin hlt2))
     rw[hjj] at HPj r1
     clear hrr HR
     go_wp2_with fail
     go_quiet (fail)
     have H4:=hid2 (H3.out.drewN nq)
     generalize World.drewN _ nq=W4 at *
     clear r0 r1 c0 c1 c2 c3 f0 f1 f2 f3 hlt hlg
     obtain⟨c0,c1,c2,c3,f0,f1,f2,f3⟩:=H4.out.box.four
     have hlt:=H4.out.box.lt
     go_wp2_with fail
     refine Calls.mono (put_c w (b+1) W4 b g cap s J s.size J v L 7 (ofL []) 0 H4.out HPj.out hLl) ?_
     rintro r w5 ⟨rfl,v5,C5⟩
     have H5:=hid2 C5
     have FIN:=hid2 (hP.out v5 w5 (by rw[HRR.out];exact own_mono C5.own (by have:=C5.wb;omega)) C5.bel)
     rw[HRR.out] at FIN
     clear C5 c0 c1 c2 c3 f0 f1 f2 f3 hlt
     obtain⟨c0,c1,c2,c3,f0,f1,f2,f3⟩:=H5.out.box.four
     have hlt:=H5.out.box.lt
     go_wp2_with fail
     go_ret3
     exact FIN.out
  ·have hr:Hid (res=([],sd 10 11 s (rs s 0))):=by show _=_;rw[hres.out];unfold cutS;rw[if_neg hlong,if_neg hs]
   have hs2:((sd 10 11 s (rs s 0)).2 != 0)=true:=by simpa using hs
   have HF:=hid2 (fun w1 (b1:Below w.heap.size w w1)=>hP.out (.slice none 0 0) w1 (by rw[hr.out,if_neg hs]) b1)
   rw[hr.out] at HF
   clear hres hr hP
   generalize CutP s w=Post at *
   go_enter Tryz.func54,Tryz.ntmps54
   go_wp2_with fail
   refine Calls.mono HC.out ?_
   rintro r w1 ⟨⟨v,rfl,hv⟩,b1⟩
   rw[if_neg hs] at hv
   subst hv
   generalize (sd 10 11 s (rs s 0)).1=pl at *
   generalize (sd 10 11 s (rs s 0)).2=ee at *
   go_wp2_with fail
   go_ret3
   exact HF.out _ b1
end Go.Proofs.YtecdfnpbcabdnaaGreatDoor
