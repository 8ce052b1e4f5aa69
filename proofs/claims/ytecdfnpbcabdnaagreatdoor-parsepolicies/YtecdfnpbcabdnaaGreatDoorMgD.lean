import Derived.Test.YtecdfnpbcabdnaaGreatDoorMgA
import Derived.Test.YtecdfnpbcabdnaaGreatDoorMgC
import Derived.Test.YtecdfnpbcabdnaaGreatDoorMgB
import Derived.Test.YtecdfnpbcabdnaaGreatDoorMiG
namespace Go.Proofs.YtecdfnpbcabdnaaGreatDoor
open Go.RowKit Go.Lib
theorem str_eta (x:ByteArray):Value.string x=strV x.data.toList:=rfl
theorem read_at (x:ByteArray)(hx:x.size<=1048576)(w:World):Calls Tryz.prog 119 #[.string x] w fun e w'=>e=.returned (readV x.data.toList)/\Below w.heap.size w w':=by
 rw[str_eta]
 exact Read_any _ (by rw[<-Lib.size_eq];omega) w
theorem span_at (x:ByteArray)(hx:x.size<=1048576)(w:World):Calls Tryz.prog 120 #[.string x] w fun e w'=>e=.returned (spanR x.data.toList)/\Below w.heap.size w w':=by
 rw[str_eta]
 refine(ReadSpan_any _ (by rw[<-Lib.size_eq];omega) w).mono ?_
 rintro e w' ⟨rfl,rfl⟩
 exact⟨rfl,Below.refl _ _⟩
set_option maxHeartbeats 4000000 in
theorem number_none (b i:Nat)(s:ByteArray)(w:World)(h:Rdr w b s i)(R:∀ wx,Calls Tryz.prog 114 #[.string s,.int .i64 (i:Nat),.int .i64 2] wx fun e w'=>e=.returned (.int .i64 (i:Nat))/\Below wx.heap.size wx w'):
 Calls Tryz.prog 91 #[.pointer (some ⟨b,0,none⟩)] w fun e w'=>e=.returned (.tuple #[noV,.int .i64 0])/\Moved w b s i w':=by
 have ST:=hid2 (St.made h 47)
 have hlt:=h.lt
 have R2:=hid2 R
 clear h R
 go_enter Tryz.func91,Tryz.ntmps91
 go_wp2_with fail
 obtain⟨c0,c1,f0,f1⟩:=ST.out.rd.two
 generalize w.alloc _=W at *
 go_region_held3 (fun w'=>w'.cell? ⟨b,0,none⟩=some (.string s)/\w'.cell? ⟨b,1,none⟩=some (.int .i64 (i:Nat))) (simp[go_sem, *]) (first|(go_at_call 114;refine Calls.mono (R2.out _) ?_;rintro r w1 ⟨rfl,b1⟩;have S1:=hid2 (ST.out.next (below_on (Below.refl _ _).drew b1 (Nat.le_refl _)));obtain⟨m0,m1,_,_⟩:=S1.out.rd.two;obtain⟨m2,m3,m4,m5,m6,m7,m8,m9⟩:=S1.out.rb.four;have ml:=S1.out.rd.lt;clear b1))
 clear c0 c1 f0 f1
 go_wp2_with fail
 refine bodyPost_ret (v:=.tuple #[noV,.int .i64 0]) (by simp[results,Tryz.results91,go_sem, *];rfl) rfl ⟨rfl,?_⟩
 exact(S1.out.set _ _ _ _).stay
set_option maxHeartbeats 8000000 in
theorem number_AD (b i e1:Nat)(s:ByteArray)(hz:s.size<=1048576)(hie:i<e1)(hez:e1<=s.size)(w:World)(h:Rdr w b s i)(R:∀ wx,Calls Tryz.prog 114 #[.string s,.int .i64 (i:Nat),.int .i64 2] wx fun e w'=>e=.returned (.int .i64 (e1:Nat))/\Below wx.heap.size wx w')
 (hd:(s.get! e1==46)=false) (bh:Nat) (hbh:e1<bh) (hbz:bh<=s.size) (RB:∀ wx,Calls Tryz.prog 114 #[.string s,.int .i64 (e1:Nat),.int .i64 3] wx fun e w'=>e=.returned (.int .i64 (bh:Nat))/\Below wx.heap.size wx w') (o:Option Nat)
 (RR:∀ wx,Calls Tryz.prog 120 #[.string (s.extract i bh)] wx fun e w'=>e=.returned (match o with | some v=>.tuple #[.int .i64 (v:Nat),.int .i64 0] | none=>.tuple #[.int .i64 0,.int .i64 13])/\Below wx.heap.size wx w') :
 Calls Tryz.prog 91 #[.pointer (some ⟨b,0,none⟩)] w (CutPost w b s i true (valT 3 s i bh o)):=by
 have ST:=hid2 (St.made h 47)
 have hlt:=h.lt
 have R2:=hid2 R
 have HP:=prefix_at s e1 hez 46 (by decide)
 rw[hd] at HP
 have HPX:=hid2 HP
 have HRB:=hid2 RB
 have s1:=fun wx=>sl_l s e1 hez wx
 have s2:=fun wx=>sl_lh s i bh (by omega) (by omega) wx
 have hxz:(s.extract i bh).size<=1048576:=by rw[size_cut s i _ (by omega)];omega
 have T:=hid2 (fun (n:Int) w' (hw:Rdr w' b s i)=>take_c b i bh s (s.extract i bh) 3 n hxz w' hw)
 generalize hgx:s.extract i bh=x at *
 have HX:=hid2 hgx
 clear hgx
 have HRR:=hid2 RR
 have hne:((e1:Int)==(i:Int))=false:=beq_eq_false_iff_ne.2 (by omega)
 have hq2:((e1:Nat):Int)<(bh:Int):=by omega
 clear h R HP RB RR hd hbh
 cases o with
 | none=>
   go_enter Tryz.func91,Tryz.ntmps91
   go_wp2_with fail
   obtain⟨c0,c1,f0,f1⟩:=ST.out.rd.two
   generalize w.alloc _=W at *
   go_region_held3 (fun w'=>w'.cell? ⟨b,0,none⟩=some (.string s)/\w'.cell? ⟨b,1,none⟩=some (.int .i64 (i:Nat))) (simp[go_sem, *]) (first|(go_at_call 114;refine Calls.mono (R2.out _) ?_;rintro r w1 ⟨rfl,b1⟩;have S1:=hid2 (ST.out.next (below_on (Below.refl _ _).drew b1 (Nat.le_refl _)));obtain⟨m0,m1,_,_⟩:=S1.out.rd.two;obtain⟨m2,m3,m4,m5,m6,m7,m8,m9⟩:=S1.out.rb.four;have ml:=S1.out.rd.lt;clear b1))
   clear c0 c1 f0 f1
   go_wp2_with fail
   refine Calls.mono (HPX.out _) ?_
   rintro r w2 ⟨rfl,rfl⟩
   go_wp2_with fail
   refine Calls.mono (HRB.out _) ?_
   rintro r w4 ⟨rfl,b4⟩
   have S4:=hid2 (S1.out.next b4)
   obtain⟨k0,k1,_,_⟩:=S4.out.rd.two
   have kl:=S4.out.rd.lt
   clear b4
   go_wp2_with fail
   go_quiet (fail)
   have S5:=hid2 (S4.out.next (drewN_b2 w4 nq))
   generalize w4.drewN nq=W5 at *
   clear k0 k1 kl
   go_wp2_with fail
   refine Calls.mono (HRR.out _) ?_
   rintro r w6 ⟨rfl,b6⟩
   have S6:=hid2 (S5.out.next b6)
   clear b6
   simp only[]
   obtain⟨p0,p1,p2,p3,g0,g1,g2,g3⟩:=S6.out.rb.four
   have bl:=S6.out.rb.lt
   go_wp2_with fail
   refine bodyPost_ret (v:=.tuple #[noV,.int .i64 13]) (by simp[results,Tryz.results91,go_sem, *];rfl) rfl ⟨rfl,?_⟩
   exact(S6.out.set _ _ _ _).stay
 | some v=>
   go_enter Tryz.func91,Tryz.ntmps91
   go_wp2_with fail
   obtain⟨c0,c1,f0,f1⟩:=ST.out.rd.two
   generalize w.alloc _=W at *
   go_region_held3 (fun w'=>w'.cell? ⟨b,0,none⟩=some (.string s)/\w'.cell? ⟨b,1,none⟩=some (.int .i64 (i:Nat))) (simp[go_sem, *]) (first|(go_at_call 114;refine Calls.mono (R2.out _) ?_;rintro r w1 ⟨rfl,b1⟩;have S1:=hid2 (ST.out.next (below_on (Below.refl _ _).drew b1 (Nat.le_refl _)));obtain⟨m0,m1,_,_⟩:=S1.out.rd.two;obtain⟨m2,m3,m4,m5,m6,m7,m8,m9⟩:=S1.out.rb.four;have ml:=S1.out.rd.lt;clear b1))
   clear c0 c1 f0 f1
   go_wp2_with fail
   refine Calls.mono (HPX.out _) ?_
   rintro r w2 ⟨rfl,rfl⟩
   go_wp2_with fail
   refine Calls.mono (HRB.out _) ?_
   rintro r w4 ⟨rfl,b4⟩
   have S4:=hid2 (S1.out.next b4)
   obtain⟨k0,k1,_,_⟩:=S4.out.rd.two
   have kl:=S4.out.rd.lt
   clear b4
   go_wp2_with fail
   go_quiet (fail)
   have S5:=hid2 (S4.out.next (drewN_b2 w4 nq))
   generalize w4.drewN nq=W5 at *
   clear k0 k1 kl
   go_wp2_with fail
   refine Calls.mono (HRR.out _) ?_
   rintro r w6 ⟨rfl,b6⟩
   have S6:=hid2 (S5.out.next b6)
   clear b6
   simp only[]
   go_wp2_with fail
   refine Calls.mono (T.out _ _ S6.out.rd) ?_
   rintro r w7 ⟨rfl,M7⟩
   obtain⟨bx,fin⟩:=S6.out.took M7
   obtain⟨p0,p1,p2,p3,g0,g1,g2,g3⟩:=bx.four
   have bl:=bx.lt
   have FIN:=hid2 fin
   clear bx fin M7
   unfold tkv
   go_wp2_with fail
   refine bodyPost_ret (v:=.tuple #[tkV ⟨3,x,(v:Int),i⟩,.int .i64 0]) (by simp[results,Tryz.results91,go_sem, *];rfl) rfl ⟨by rw[HX.out],?_⟩
   exact FIN.out _ _ _ _
set_option maxHeartbeats 8000000 in
theorem number_AN (b i e1:Nat)(s:ByteArray)(hz:s.size<=1048576)(hie:i<e1)(hez:e1<=s.size)(w:World)(h:Rdr w b s i)(R:∀ wx,Calls Tryz.prog 114 #[.string s,.int .i64 (i:Nat),.int .i64 2] wx fun e w'=>e=.returned (.int .i64 (e1:Nat))/\Below wx.heap.size wx w')
 (hd:(s.get! e1==46)=false) (bh:Nat) (hbh:¬ e1<bh) (_hbz:bh<=s.size) (RB:∀ wx,Calls Tryz.prog 114 #[.string s,.int .i64 (e1:Nat),.int .i64 3] wx fun e w'=>e=.returned (.int .i64 (bh:Nat))/\Below wx.heap.size wx w') (o:Option Nat)
 (RR:∀ wx,Calls Tryz.prog 119 #[.string (s.extract i e1)] wx fun e w'=>e=.returned (match o with | some v=>.tuple #[.int .i64 (v:Nat),.int .i64 0] | none=>.tuple #[.int .i64 0,.int .i64 13])/\Below wx.heap.size wx w') :
 Calls Tryz.prog 91 #[.pointer (some ⟨b,0,none⟩)] w (CutPost w b s i true (valT 2 s i e1 o)):=by
 have ST:=hid2 (St.made h 47)
 have hlt:=h.lt
 have R2:=hid2 R
 have HP:=prefix_at s e1 hez 46 (by decide)
 rw[hd] at HP
 have HPX:=hid2 HP
 have HRB:=hid2 RB
 have s1:=fun wx=>sl_l s e1 hez wx
 have s2:=fun wx=>sl_lh s i e1 (by omega) (by omega) wx
 have hxz:(s.extract i e1).size<=1048576:=by rw[size_cut s i _ (by omega)];omega
 have T:=hid2 (fun (n:Int) w' (hw:Rdr w' b s i)=>take_c b i e1 s (s.extract i e1) 2 n hxz w' hw)
 generalize hgx:s.extract i e1=x at *
 have HX:=hid2 hgx
 clear hgx
 have HRR:=hid2 RR
 have hne:((e1:Int)==(i:Int))=false:=beq_eq_false_iff_ne.2 (by omega)
 have hq2:¬(((e1:Nat):Int)<(bh:Int)):=by omega
 clear h R HP RB RR hd hbh
 cases o with
 | none=>
   go_enter Tryz.func91,Tryz.ntmps91
   go_wp2_with fail
   obtain⟨c0,c1,f0,f1⟩:=ST.out.rd.two
   generalize w.alloc _=W at *
   go_region_held3 (fun w'=>w'.cell? ⟨b,0,none⟩=some (.string s)/\w'.cell? ⟨b,1,none⟩=some (.int .i64 (i:Nat))) (simp[go_sem, *]) (first|(go_at_call 114;refine Calls.mono (R2.out _) ?_;rintro r w1 ⟨rfl,b1⟩;have S1:=hid2 (ST.out.next (below_on (Below.refl _ _).drew b1 (Nat.le_refl _)));obtain⟨m0,m1,_,_⟩:=S1.out.rd.two;obtain⟨m2,m3,m4,m5,m6,m7,m8,m9⟩:=S1.out.rb.four;have ml:=S1.out.rd.lt;clear b1))
   clear c0 c1 f0 f1
   go_wp2_with fail
   refine Calls.mono (HPX.out _) ?_
   rintro r w2 ⟨rfl,rfl⟩
   go_wp2_with fail
   refine Calls.mono (HRB.out _) ?_
   rintro r w4 ⟨rfl,b4⟩
   have S4:=hid2 (S1.out.next b4)
   obtain⟨k0,k1,_,_⟩:=S4.out.rd.two
   have kl:=S4.out.rd.lt
   clear b4
   go_wp2_with fail
   go_quiet (fail)
   have S5:=hid2 (S4.out.next (drewN_b2 w4 nq))
   generalize w4.drewN nq=W5 at *
   clear k0 k1 kl
   go_wp2_with fail
   refine Calls.mono (HRR.out _) ?_
   rintro r w6 ⟨rfl,b6⟩
   have S6:=hid2 (S5.out.next b6)
   clear b6
   simp only[]
   obtain⟨p0,p1,p2,p3,g0,g1,g2,g3⟩:=S6.out.rb.four
   have bl:=S6.out.rb.lt
   go_wp2_with fail
   refine bodyPost_ret (v:=.tuple #[noV,.int .i64 13]) (by simp[results,Tryz.results91,go_sem, *];rfl) rfl ⟨rfl,?_⟩
   exact(S6.out.set _ _ _ _).stay
 | some v=>
   go_enter Tryz.func91,Tryz.ntmps91
   go_wp2_with fail
   obtain⟨c0,c1,f0,f1⟩:=ST.out.rd.two
   generalize w.alloc _=W at *
   go_region_held3 (fun w'=>w'.cell? ⟨b,0,none⟩=some (.string s)/\w'.cell? ⟨b,1,none⟩=some (.int .i64 (i:Nat))) (simp[go_sem, *]) (first|(go_at_call 114;refine Calls.mono (R2.out _) ?_;rintro r w1 ⟨rfl,b1⟩;have S1:=hid2 (ST.out.next (below_on (Below.refl _ _).drew b1 (Nat.le_refl _)));obtain⟨m0,m1,_,_⟩:=S1.out.rd.two;obtain⟨m2,m3,m4,m5,m6,m7,m8,m9⟩:=S1.out.rb.four;have ml:=S1.out.rd.lt;clear b1))
   clear c0 c1 f0 f1
   go_wp2_with fail
   refine Calls.mono (HPX.out _) ?_
   rintro r w2 ⟨rfl,rfl⟩
   go_wp2_with fail
   refine Calls.mono (HRB.out _) ?_
   rintro r w4 ⟨rfl,b4⟩
   have S4:=hid2 (S1.out.next b4)
   obtain⟨k0,k1,_,_⟩:=S4.out.rd.two
   have kl:=S4.out.rd.lt
   clear b4
   go_wp2_with fail
   go_quiet (fail)
   have S5:=hid2 (S4.out.next (drewN_b2 w4 nq))
   generalize w4.drewN nq=W5 at *
   clear k0 k1 kl
   go_wp2_with fail
   refine Calls.mono (HRR.out _) ?_
   rintro r w6 ⟨rfl,b6⟩
   have S6:=hid2 (S5.out.next b6)
   clear b6
   simp only[]
   go_wp2_with fail
   refine Calls.mono (T.out _ _ S6.out.rd) ?_
   rintro r w7 ⟨rfl,M7⟩
   obtain⟨bx,fin⟩:=S6.out.took M7
   obtain⟨p0,p1,p2,p3,g0,g1,g2,g3⟩:=bx.four
   have bl:=bx.lt
   have FIN:=hid2 fin
   clear bx fin M7
   unfold tkv
   go_wp2_with fail
   refine bodyPost_ret (v:=.tuple #[tkV ⟨2,x,(v:Int),i⟩,.int .i64 0]) (by simp[results,Tryz.results91,go_sem, *];rfl) rfl ⟨by rw[HX.out],?_⟩
   exact FIN.out _ _ _ _
set_option maxHeartbeats 8000000 in
theorem number_BD (b i e1:Nat)(s:ByteArray)(hz:s.size<=1048576)(hie:i<e1)(hez:e1<=s.size)(w:World)(h:Rdr w b s i)(R:∀ wx,Calls Tryz.prog 114 #[.string s,.int .i64 (i:Nat),.int .i64 2] wx fun e w'=>e=.returned (.int .i64 (e1:Nat))/\Below wx.heap.size wx w')
 (hd:(s.get! e1==46)=true) (pl:Nat) (hpl:¬ e1+1<pl) (_hpz:pl<=s.size) (RP:∀ wx,Calls Tryz.prog 114 #[.string s,.int .i64 ((e1:Int)+1),.int .i64 2] wx fun e w'=>e=.returned (.int .i64 (pl:Nat))/\Below wx.heap.size wx w') (bh:Nat) (hbh:e1<bh) (hbz:bh<=s.size) (RB:∀ wx,Calls Tryz.prog 114 #[.string s,.int .i64 (e1:Nat),.int .i64 3] wx fun e w'=>e=.returned (.int .i64 (bh:Nat))/\Below wx.heap.size wx w') (o:Option Nat)
 (RR:∀ wx,Calls Tryz.prog 120 #[.string (s.extract i bh)] wx fun e w'=>e=.returned (match o with | some v=>.tuple #[.int .i64 (v:Nat),.int .i64 0] | none=>.tuple #[.int .i64 0,.int .i64 13])/\Below wx.heap.size wx w') :
 Calls Tryz.prog 91 #[.pointer (some ⟨b,0,none⟩)] w (CutPost w b s i true (valT 3 s i bh o)):=by
 have ST:=hid2 (St.made h 47)
 have hlt:=h.lt
 have R2:=hid2 R
 have HP:=prefix_at s e1 hez 46 (by decide)
 rw[hd] at HP
 have HPX:=hid2 HP
 have HRB:=hid2 RB
 have s1:=fun wx=>sl_l s e1 hez wx
 have s2:=fun wx=>sl_lh s i bh (by omega) (by omega) wx
 have hxz:(s.extract i bh).size<=1048576:=by rw[size_cut s i _ (by omega)];omega
 have T:=hid2 (fun (n:Int) w' (hw:Rdr w' b s i)=>take_c b i bh s (s.extract i bh) 3 n hxz w' hw)
 generalize hgx:s.extract i bh=x at *
 have HX:=hid2 hgx
 clear hgx
 have HRR:=hid2 RR
 have hne:((e1:Int)==(i:Int))=false:=beq_eq_false_iff_ne.2 (by omega)
 have HRP:=hid2 RP
 have hw1:IntKind.i64.wrap ((e1:Int)+1)=(e1:Int)+1:=by rw[IntKind.wrap_i64];omega
 have hq:¬((e1:Int)+1<(pl:Int)):=by omega
 clear hpl RP
 have hq2:((e1:Nat):Int)<(bh:Int):=by omega
 clear h R HP RB RR hd hbh
 cases o with
 | none=>
   go_enter Tryz.func91,Tryz.ntmps91
   go_wp2_with fail
   obtain⟨c0,c1,f0,f1⟩:=ST.out.rd.two
   generalize w.alloc _=W at *
   go_region_held3 (fun w'=>w'.cell? ⟨b,0,none⟩=some (.string s)/\w'.cell? ⟨b,1,none⟩=some (.int .i64 (i:Nat))) (simp[go_sem, *]) (first|(go_at_call 114;refine Calls.mono (R2.out _) ?_;rintro r w1 ⟨rfl,b1⟩;have S1:=hid2 (ST.out.next (below_on (Below.refl _ _).drew b1 (Nat.le_refl _)));obtain⟨m0,m1,_,_⟩:=S1.out.rd.two;obtain⟨m2,m3,m4,m5,m6,m7,m8,m9⟩:=S1.out.rb.four;have ml:=S1.out.rd.lt;clear b1))
   clear c0 c1 f0 f1
   go_wp2_with fail
   refine Calls.mono (HPX.out _) ?_
   rintro r w2 ⟨rfl,rfl⟩
   go_wp2_with fail
   refine Calls.mono (HRP.out _) ?_
   rintro r w3 ⟨rfl,b3⟩
   have S3:=hid2 (S1.out.next b3)
   obtain⟨n0,n1,_,_⟩:=S3.out.rd.two
   have nl:=S3.out.rd.lt
   clear b3 m0 m1 m2 m3 m4 m5 m6 m7 m8 m9 ml
   go_wp2_with fail
   refine Calls.mono (HRB.out _) ?_
   rintro r w4 ⟨rfl,b4⟩
   have S4:=hid2 (S3.out.next b4)
   obtain⟨k0,k1,_,_⟩:=S4.out.rd.two
   have kl:=S4.out.rd.lt
   clear b4
   go_wp2_with fail
   go_quiet (fail)
   have S5:=hid2 (S4.out.next (drewN_b2 w4 nq))
   generalize w4.drewN nq=W5 at *
   clear k0 k1 kl
   go_wp2_with fail
   refine Calls.mono (HRR.out _) ?_
   rintro r w6 ⟨rfl,b6⟩
   have S6:=hid2 (S5.out.next b6)
   clear b6
   simp only[]
   obtain⟨p0,p1,p2,p3,g0,g1,g2,g3⟩:=S6.out.rb.four
   have bl:=S6.out.rb.lt
   go_wp2_with fail
   refine bodyPost_ret (v:=.tuple #[noV,.int .i64 13]) (by simp[results,Tryz.results91,go_sem, *];rfl) rfl ⟨rfl,?_⟩
   exact(S6.out.set _ _ _ _).stay
 | some v=>
   go_enter Tryz.func91,Tryz.ntmps91
   go_wp2_with fail
   obtain⟨c0,c1,f0,f1⟩:=ST.out.rd.two
   generalize w.alloc _=W at *
   go_region_held3 (fun w'=>w'.cell? ⟨b,0,none⟩=some (.string s)/\w'.cell? ⟨b,1,none⟩=some (.int .i64 (i:Nat))) (simp[go_sem, *]) (first|(go_at_call 114;refine Calls.mono (R2.out _) ?_;rintro r w1 ⟨rfl,b1⟩;have S1:=hid2 (ST.out.next (below_on (Below.refl _ _).drew b1 (Nat.le_refl _)));obtain⟨m0,m1,_,_⟩:=S1.out.rd.two;obtain⟨m2,m3,m4,m5,m6,m7,m8,m9⟩:=S1.out.rb.four;have ml:=S1.out.rd.lt;clear b1))
   clear c0 c1 f0 f1
   go_wp2_with fail
   refine Calls.mono (HPX.out _) ?_
   rintro r w2 ⟨rfl,rfl⟩
   go_wp2_with fail
   refine Calls.mono (HRP.out _) ?_
   rintro r w3 ⟨rfl,b3⟩
   have S3:=hid2 (S1.out.next b3)
   obtain⟨n0,n1,_,_⟩:=S3.out.rd.two
   have nl:=S3.out.rd.lt
   clear b3 m0 m1 m2 m3 m4 m5 m6 m7 m8 m9 ml
   go_wp2_with fail
   refine Calls.mono (HRB.out _) ?_
   rintro r w4 ⟨rfl,b4⟩
   have S4:=hid2 (S3.out.next b4)
   obtain⟨k0,k1,_,_⟩:=S4.out.rd.two
   have kl:=S4.out.rd.lt
   clear b4
   go_wp2_with fail
   go_quiet (fail)
   have S5:=hid2 (S4.out.next (drewN_b2 w4 nq))
   generalize w4.drewN nq=W5 at *
   clear k0 k1 kl
   go_wp2_with fail
   refine Calls.mono (HRR.out _) ?_
   rintro r w6 ⟨rfl,b6⟩
   have S6:=hid2 (S5.out.next b6)
   clear b6
   simp only[]
   go_wp2_with fail
   refine Calls.mono (T.out _ _ S6.out.rd) ?_
   rintro r w7 ⟨rfl,M7⟩
   obtain⟨bx,fin⟩:=S6.out.took M7
   obtain⟨p0,p1,p2,p3,g0,g1,g2,g3⟩:=bx.four
   have bl:=bx.lt
   have FIN:=hid2 fin
   clear bx fin M7
   unfold tkv
   go_wp2_with fail
   refine bodyPost_ret (v:=.tuple #[tkV ⟨3,x,(v:Int),i⟩,.int .i64 0]) (by simp[results,Tryz.results91,go_sem, *];rfl) rfl ⟨by rw[HX.out],?_⟩
   exact FIN.out _ _ _ _
set_option maxHeartbeats 8000000 in
theorem number_BN (b i e1:Nat)(s:ByteArray)(hz:s.size<=1048576)(hie:i<e1)(hez:e1<=s.size)(w:World)(h:Rdr w b s i)(R:∀ wx,Calls Tryz.prog 114 #[.string s,.int .i64 (i:Nat),.int .i64 2] wx fun e w'=>e=.returned (.int .i64 (e1:Nat))/\Below wx.heap.size wx w')
 (hd:(s.get! e1==46)=true) (pl:Nat) (hpl:¬ e1+1<pl) (_hpz:pl<=s.size) (RP:∀ wx,Calls Tryz.prog 114 #[.string s,.int .i64 ((e1:Int)+1),.int .i64 2] wx fun e w'=>e=.returned (.int .i64 (pl:Nat))/\Below wx.heap.size wx w') (bh:Nat) (hbh:¬ e1<bh) (_hbz:bh<=s.size) (RB:∀ wx,Calls Tryz.prog 114 #[.string s,.int .i64 (e1:Nat),.int .i64 3] wx fun e w'=>e=.returned (.int .i64 (bh:Nat))/\Below wx.heap.size wx w') (o:Option Nat)
 (RR:∀ wx,Calls Tryz.prog 119 #[.string (s.extract i e1)] wx fun e w'=>e=.returned (match o with | some v=>.tuple #[.int .i64 (v:Nat),.int .i64 0] | none=>.tuple #[.int .i64 0,.int .i64 13])/\Below wx.heap.size wx w') :
 Calls Tryz.prog 91 #[.pointer (some ⟨b,0,none⟩)] w (CutPost w b s i true (valT 2 s i e1 o)):=by
 have ST:=hid2 (St.made h 47)
 have hlt:=h.lt
 have R2:=hid2 R
 have HP:=prefix_at s e1 hez 46 (by decide)
 rw[hd] at HP
 have HPX:=hid2 HP
 have HRB:=hid2 RB
 have s1:=fun wx=>sl_l s e1 hez wx
 have s2:=fun wx=>sl_lh s i e1 (by omega) (by omega) wx
 have hxz:(s.extract i e1).size<=1048576:=by rw[size_cut s i _ (by omega)];omega
 have T:=hid2 (fun (n:Int) w' (hw:Rdr w' b s i)=>take_c b i e1 s (s.extract i e1) 2 n hxz w' hw)
 generalize hgx:s.extract i e1=x at *
 have HX:=hid2 hgx
 clear hgx
 have HRR:=hid2 RR
 have hne:((e1:Int)==(i:Int))=false:=beq_eq_false_iff_ne.2 (by omega)
 have HRP:=hid2 RP
 have hw1:IntKind.i64.wrap ((e1:Int)+1)=(e1:Int)+1:=by rw[IntKind.wrap_i64];omega
 have hq:¬((e1:Int)+1<(pl:Int)):=by omega
 clear hpl RP
 have hq2:¬(((e1:Nat):Int)<(bh:Int)):=by omega
 clear h R HP RB RR hd hbh
 cases o with
 | none=>
   go_enter Tryz.func91,Tryz.ntmps91
   go_wp2_with fail
   obtain⟨c0,c1,f0,f1⟩:=ST.out.rd.two
   generalize w.alloc _=W at *
   go_region_held3 (fun w'=>w'.cell? ⟨b,0,none⟩=some (.string s)/\w'.cell? ⟨b,1,none⟩=some (.int .i64 (i:Nat))) (simp[go_sem, *]) (first|(go_at_call 114;refine Calls.mono (R2.out _) ?_;rintro r w1 ⟨rfl,b1⟩;have S1:=hid2 (ST.out.next (below_on (Below.refl _ _).drew b1 (Nat.le_refl _)));obtain⟨m0,m1,_,_⟩:=S1.out.rd.two;obtain⟨m2,m3,m4,m5,m6,m7,m8,m9⟩:=S1.out.rb.four;have ml:=S1.out.rd.lt;clear b1))
   clear c0 c1 f0 f1
   go_wp2_with fail
   refine Calls.mono (HPX.out _) ?_
   rintro r w2 ⟨rfl,rfl⟩
   go_wp2_with fail
   refine Calls.mono (HRP.out _) ?_
   rintro r w3 ⟨rfl,b3⟩
   have S3:=hid2 (S1.out.next b3)
   obtain⟨n0,n1,_,_⟩:=S3.out.rd.two
   have nl:=S3.out.rd.lt
   clear b3 m0 m1 m2 m3 m4 m5 m6 m7 m8 m9 ml
   go_wp2_with fail
   refine Calls.mono (HRB.out _) ?_
   rintro r w4 ⟨rfl,b4⟩
   have S4:=hid2 (S3.out.next b4)
   obtain⟨k0,k1,_,_⟩:=S4.out.rd.two
   have kl:=S4.out.rd.lt
   clear b4
   go_wp2_with fail
   go_quiet (fail)
   have S5:=hid2 (S4.out.next (drewN_b2 w4 nq))
   generalize w4.drewN nq=W5 at *
   clear k0 k1 kl
   go_wp2_with fail
   refine Calls.mono (HRR.out _) ?_
   rintro r w6 ⟨rfl,b6⟩
   have S6:=hid2 (S5.out.next b6)
   clear b6
   simp only[]
   obtain⟨p0,p1,p2,p3,g0,g1,g2,g3⟩:=S6.out.rb.four
   have bl:=S6.out.rb.lt
   go_wp2_with fail
   refine bodyPost_ret (v:=.tuple #[noV,.int .i64 13]) (by simp[results,Tryz.results91,go_sem, *];rfl) rfl ⟨rfl,?_⟩
   exact(S6.out.set _ _ _ _).stay
 | some v=>
   go_enter Tryz.func91,Tryz.ntmps91
   go_wp2_with fail
   obtain⟨c0,c1,f0,f1⟩:=ST.out.rd.two
   generalize w.alloc _=W at *
   go_region_held3 (fun w'=>w'.cell? ⟨b,0,none⟩=some (.string s)/\w'.cell? ⟨b,1,none⟩=some (.int .i64 (i:Nat))) (simp[go_sem, *]) (first|(go_at_call 114;refine Calls.mono (R2.out _) ?_;rintro r w1 ⟨rfl,b1⟩;have S1:=hid2 (ST.out.next (below_on (Below.refl _ _).drew b1 (Nat.le_refl _)));obtain⟨m0,m1,_,_⟩:=S1.out.rd.two;obtain⟨m2,m3,m4,m5,m6,m7,m8,m9⟩:=S1.out.rb.four;have ml:=S1.out.rd.lt;clear b1))
   clear c0 c1 f0 f1
   go_wp2_with fail
   refine Calls.mono (HPX.out _) ?_
   rintro r w2 ⟨rfl,rfl⟩
   go_wp2_with fail
   refine Calls.mono (HRP.out _) ?_
   rintro r w3 ⟨rfl,b3⟩
   have S3:=hid2 (S1.out.next b3)
   obtain⟨n0,n1,_,_⟩:=S3.out.rd.two
   have nl:=S3.out.rd.lt
   clear b3 m0 m1 m2 m3 m4 m5 m6 m7 m8 m9 ml
   go_wp2_with fail
   refine Calls.mono (HRB.out _) ?_
   rintro r w4 ⟨rfl,b4⟩
   have S4:=hid2 (S3.out.next b4)
   obtain⟨k0,k1,_,_⟩:=S4.out.rd.two
   have kl:=S4.out.rd.lt
   clear b4
   go_wp2_with fail
   go_quiet (fail)
   have S5:=hid2 (S4.out.next (drewN_b2 w4 nq))
   generalize w4.drewN nq=W5 at *
   clear k0 k1 kl
   go_wp2_with fail
   refine Calls.mono (HRR.out _) ?_
   rintro r w6 ⟨rfl,b6⟩
   have S6:=hid2 (S5.out.next b6)
   clear b6
   simp only[]
   go_wp2_with fail
   refine Calls.mono (T.out _ _ S6.out.rd) ?_
   rintro r w7 ⟨rfl,M7⟩
   obtain⟨bx,fin⟩:=S6.out.took M7
   obtain⟨p0,p1,p2,p3,g0,g1,g2,g3⟩:=bx.four
   have bl:=bx.lt
   have FIN:=hid2 fin
   clear bx fin M7
   unfold tkv
   go_wp2_with fail
   refine bodyPost_ret (v:=.tuple #[tkV ⟨2,x,(v:Int),i⟩,.int .i64 0]) (by simp[results,Tryz.results91,go_sem, *];rfl) rfl ⟨by rw[HX.out],?_⟩
   exact FIN.out _ _ _ _
set_option maxHeartbeats 8000000 in
theorem number_CD (b i e1:Nat)(s:ByteArray)(hz:s.size<=1048576)(hie:i<e1)(hez:e1<=s.size)(w:World)(h:Rdr w b s i)(R:∀ wx,Calls Tryz.prog 114 #[.string s,.int .i64 (i:Nat),.int .i64 2] wx fun e w'=>e=.returned (.int .i64 (e1:Nat))/\Below wx.heap.size wx w')
 (hd:(s.get! e1==46)=true) (pl:Nat) (hpl:e1+1<pl) (_hpz:pl<=s.size) (RP:∀ wx,Calls Tryz.prog 114 #[.string s,.int .i64 ((e1:Int)+1),.int .i64 2] wx fun e w'=>e=.returned (.int .i64 (pl:Nat))/\Below wx.heap.size wx w') (bh:Nat) (hbh:pl<bh) (hbz:bh<=s.size) (RB:∀ wx,Calls Tryz.prog 114 #[.string s,.int .i64 (pl:Nat),.int .i64 3] wx fun e w'=>e=.returned (.int .i64 (bh:Nat))/\Below wx.heap.size wx w') (o:Option Nat)
 (RR:∀ wx,Calls Tryz.prog 120 #[.string (s.extract i bh)] wx fun e w'=>e=.returned (match o with | some v=>.tuple #[.int .i64 (v:Nat),.int .i64 0] | none=>.tuple #[.int .i64 0,.int .i64 13])/\Below wx.heap.size wx w') :
 Calls Tryz.prog 91 #[.pointer (some ⟨b,0,none⟩)] w (CutPost w b s i true (valT 3 s i bh o)):=by
 have ST:=hid2 (St.made h 47)
 have hlt:=h.lt
 have R2:=hid2 R
 have HP:=prefix_at s e1 hez 46 (by decide)
 rw[hd] at HP
 have HPX:=hid2 HP
 have HRB:=hid2 RB
 have s1:=fun wx=>sl_l s e1 hez wx
 have s2:=fun wx=>sl_lh s i bh (by omega) (by omega) wx
 have hxz:(s.extract i bh).size<=1048576:=by rw[size_cut s i _ (by omega)];omega
 have T:=hid2 (fun (n:Int) w' (hw:Rdr w' b s i)=>take_c b i bh s (s.extract i bh) 3 n hxz w' hw)
 generalize hgx:s.extract i bh=x at *
 have HX:=hid2 hgx
 clear hgx
 have HRR:=hid2 RR
 have hne:((e1:Int)==(i:Int))=false:=beq_eq_false_iff_ne.2 (by omega)
 have HRP:=hid2 RP
 have hw1:IntKind.i64.wrap ((e1:Int)+1)=(e1:Int)+1:=by rw[IntKind.wrap_i64];omega
 have hq:(e1:Int)+1<(pl:Int):=by omega
 clear hpl RP
 have hq2:((pl:Nat):Int)<(bh:Int):=by omega
 clear h R HP RB RR hd hbh
 cases o with
 | none=>
   go_enter Tryz.func91,Tryz.ntmps91
   go_wp2_with fail
   obtain⟨c0,c1,f0,f1⟩:=ST.out.rd.two
   generalize w.alloc _=W at *
   go_region_held3 (fun w'=>w'.cell? ⟨b,0,none⟩=some (.string s)/\w'.cell? ⟨b,1,none⟩=some (.int .i64 (i:Nat))) (simp[go_sem, *]) (first|(go_at_call 114;refine Calls.mono (R2.out _) ?_;rintro r w1 ⟨rfl,b1⟩;have S1:=hid2 (ST.out.next (below_on (Below.refl _ _).drew b1 (Nat.le_refl _)));obtain⟨m0,m1,_,_⟩:=S1.out.rd.two;obtain⟨m2,m3,m4,m5,m6,m7,m8,m9⟩:=S1.out.rb.four;have ml:=S1.out.rd.lt;clear b1))
   clear c0 c1 f0 f1
   go_wp2_with fail
   refine Calls.mono (HPX.out _) ?_
   rintro r w2 ⟨rfl,rfl⟩
   go_wp2_with fail
   refine Calls.mono (HRP.out _) ?_
   rintro r w3 ⟨rfl,b3⟩
   have S3:=hid2 (S1.out.next b3)
   obtain⟨n0,n1,_,_⟩:=S3.out.rd.two
   have nl:=S3.out.rd.lt
   clear b3 m0 m1 m2 m3 m4 m5 m6 m7 m8 m9 ml
   go_wp2_with fail
   refine Calls.mono (HRB.out _) ?_
   rintro r w4 ⟨rfl,b4⟩
   have S4:=hid2 (S3.out.next b4)
   obtain⟨k0,k1,_,_⟩:=S4.out.rd.two
   have kl:=S4.out.rd.lt
   clear b4
   go_wp2_with fail
   go_quiet (fail)
   have S5:=hid2 (S4.out.next (drewN_b2 w4 nq))
   generalize w4.drewN nq=W5 at *
   clear k0 k1 kl
   go_wp2_with fail
   refine Calls.mono (HRR.out _) ?_
   rintro r w6 ⟨rfl,b6⟩
   have S6:=hid2 (S5.out.next b6)
   clear b6
   simp only[]
   obtain⟨p0,p1,p2,p3,g0,g1,g2,g3⟩:=S6.out.rb.four
   have bl:=S6.out.rb.lt
   go_wp2_with fail
   refine bodyPost_ret (v:=.tuple #[noV,.int .i64 13]) (by simp[results,Tryz.results91,go_sem, *];rfl) rfl ⟨rfl,?_⟩
   exact(S6.out.set _ _ _ _).stay
 | some v=>
   go_enter Tryz.func91,Tryz.ntmps91
   go_wp2_with fail
   obtain⟨c0,c1,f0,f1⟩:=ST.out.rd.two
   generalize w.alloc _=W at *
   go_region_held3 (fun w'=>w'.cell? ⟨b,0,none⟩=some (.string s)/\w'.cell? ⟨b,1,none⟩=some (.int .i64 (i:Nat))) (simp[go_sem, *]) (first|(go_at_call 114;refine Calls.mono (R2.out _) ?_;rintro r w1 ⟨rfl,b1⟩;have S1:=hid2 (ST.out.next (below_on (Below.refl _ _).drew b1 (Nat.le_refl _)));obtain⟨m0,m1,_,_⟩:=S1.out.rd.two;obtain⟨m2,m3,m4,m5,m6,m7,m8,m9⟩:=S1.out.rb.four;have ml:=S1.out.rd.lt;clear b1))
   clear c0 c1 f0 f1
   go_wp2_with fail
   refine Calls.mono (HPX.out _) ?_
   rintro r w2 ⟨rfl,rfl⟩
   go_wp2_with fail
   refine Calls.mono (HRP.out _) ?_
   rintro r w3 ⟨rfl,b3⟩
   have S3:=hid2 (S1.out.next b3)
   obtain⟨n0,n1,_,_⟩:=S3.out.rd.two
   have nl:=S3.out.rd.lt
   clear b3 m0 m1 m2 m3 m4 m5 m6 m7 m8 m9 ml
   go_wp2_with fail
   refine Calls.mono (HRB.out _) ?_
   rintro r w4 ⟨rfl,b4⟩
   have S4:=hid2 (S3.out.next b4)
   obtain⟨k0,k1,_,_⟩:=S4.out.rd.two
   have kl:=S4.out.rd.lt
   clear b4
   go_wp2_with fail
   go_quiet (fail)
   have S5:=hid2 (S4.out.next (drewN_b2 w4 nq))
   generalize w4.drewN nq=W5 at *
   clear k0 k1 kl
   go_wp2_with fail
   refine Calls.mono (HRR.out _) ?_
   rintro r w6 ⟨rfl,b6⟩
   have S6:=hid2 (S5.out.next b6)
   clear b6
   simp only[]
   go_wp2_with fail
   refine Calls.mono (T.out _ _ S6.out.rd) ?_
   rintro r w7 ⟨rfl,M7⟩
   obtain⟨bx,fin⟩:=S6.out.took M7
   obtain⟨p0,p1,p2,p3,g0,g1,g2,g3⟩:=bx.four
   have bl:=bx.lt
   have FIN:=hid2 fin
   clear bx fin M7
   unfold tkv
   go_wp2_with fail
   refine bodyPost_ret (v:=.tuple #[tkV ⟨3,x,(v:Int),i⟩,.int .i64 0]) (by simp[results,Tryz.results91,go_sem, *];rfl) rfl ⟨by rw[HX.out],?_⟩
   exact FIN.out _ _ _ _
set_option maxHeartbeats 8000000 in
theorem number_CN (b i e1:Nat)(s:ByteArray)(hz:s.size<=1048576)(hie:i<e1)(hez:e1<=s.size)(w:World)(h:Rdr w b s i)(R:∀ wx,Calls Tryz.prog 114 #[.string s,.int .i64 (i:Nat),.int .i64 2] wx fun e w'=>e=.returned (.int .i64 (e1:Nat))/\Below wx.heap.size wx w')
 (hd:(s.get! e1==46)=true) (pl:Nat) (hpl:e1+1<pl) (hpz:pl<=s.size) (RP:∀ wx,Calls Tryz.prog 114 #[.string s,.int .i64 ((e1:Int)+1),.int .i64 2] wx fun e w'=>e=.returned (.int .i64 (pl:Nat))/\Below wx.heap.size wx w') (bh:Nat) (hbh:¬ pl<bh) (_hbz:bh<=s.size) (RB:∀ wx,Calls Tryz.prog 114 #[.string s,.int .i64 (pl:Nat),.int .i64 3] wx fun e w'=>e=.returned (.int .i64 (bh:Nat))/\Below wx.heap.size wx w') (o:Option Nat)
 (RR:∀ wx,Calls Tryz.prog 119 #[.string (s.extract i pl)] wx fun e w'=>e=.returned (match o with | some v=>.tuple #[.int .i64 (v:Nat),.int .i64 0] | none=>.tuple #[.int .i64 0,.int .i64 13])/\Below wx.heap.size wx w') :
 Calls Tryz.prog 91 #[.pointer (some ⟨b,0,none⟩)] w (CutPost w b s i true (valT 2 s i pl o)):=by
 have ST:=hid2 (St.made h 47)
 have hlt:=h.lt
 have R2:=hid2 R
 have HP:=prefix_at s e1 hez 46 (by decide)
 rw[hd] at HP
 have HPX:=hid2 HP
 have HRB:=hid2 RB
 have s1:=fun wx=>sl_l s e1 hez wx
 have s2:=fun wx=>sl_lh s i pl (by omega) (by omega) wx
 have hxz:(s.extract i pl).size<=1048576:=by rw[size_cut s i _ (by omega)];omega
 have T:=hid2 (fun (n:Int) w' (hw:Rdr w' b s i)=>take_c b i pl s (s.extract i pl) 2 n hxz w' hw)
 generalize hgx:s.extract i pl=x at *
 have HX:=hid2 hgx
 clear hgx
 have HRR:=hid2 RR
 have hne:((e1:Int)==(i:Int))=false:=beq_eq_false_iff_ne.2 (by omega)
 have HRP:=hid2 RP
 have hw1:IntKind.i64.wrap ((e1:Int)+1)=(e1:Int)+1:=by rw[IntKind.wrap_i64];omega
 have hq:(e1:Int)+1<(pl:Int):=by omega
 clear hpl RP
 have hq2:¬(((pl:Nat):Int)<(bh:Int)):=by omega
 clear h R HP RB RR hd hbh
 cases o with
 | none=>
   go_enter Tryz.func91,Tryz.ntmps91
   go_wp2_with fail
   obtain⟨c0,c1,f0,f1⟩:=ST.out.rd.two
   generalize w.alloc _=W at *
   go_region_held3 (fun w'=>w'.cell? ⟨b,0,none⟩=some (.string s)/\w'.cell? ⟨b,1,none⟩=some (.int .i64 (i:Nat))) (simp[go_sem, *]) (first|(go_at_call 114;refine Calls.mono (R2.out _) ?_;rintro r w1 ⟨rfl,b1⟩;have S1:=hid2 (ST.out.next (below_on (Below.refl _ _).drew b1 (Nat.le_refl _)));obtain⟨m0,m1,_,_⟩:=S1.out.rd.two;obtain⟨m2,m3,m4,m5,m6,m7,m8,m9⟩:=S1.out.rb.four;have ml:=S1.out.rd.lt;clear b1))
   clear c0 c1 f0 f1
   go_wp2_with fail
   refine Calls.mono (HPX.out _) ?_
   rintro r w2 ⟨rfl,rfl⟩
   go_wp2_with fail
   refine Calls.mono (HRP.out _) ?_
   rintro r w3 ⟨rfl,b3⟩
   have S3:=hid2 (S1.out.next b3)
   obtain⟨n0,n1,_,_⟩:=S3.out.rd.two
   have nl:=S3.out.rd.lt
   clear b3 m0 m1 m2 m3 m4 m5 m6 m7 m8 m9 ml
   go_wp2_with fail
   refine Calls.mono (HRB.out _) ?_
   rintro r w4 ⟨rfl,b4⟩
   have S4:=hid2 (S3.out.next b4)
   obtain⟨k0,k1,_,_⟩:=S4.out.rd.two
   have kl:=S4.out.rd.lt
   clear b4
   go_wp2_with fail
   go_quiet (fail)
   have S5:=hid2 (S4.out.next (drewN_b2 w4 nq))
   generalize w4.drewN nq=W5 at *
   clear k0 k1 kl
   go_wp2_with fail
   refine Calls.mono (HRR.out _) ?_
   rintro r w6 ⟨rfl,b6⟩
   have S6:=hid2 (S5.out.next b6)
   clear b6
   simp only[]
   obtain⟨p0,p1,p2,p3,g0,g1,g2,g3⟩:=S6.out.rb.four
   have bl:=S6.out.rb.lt
   go_wp2_with fail
   refine bodyPost_ret (v:=.tuple #[noV,.int .i64 13]) (by simp[results,Tryz.results91,go_sem, *];rfl) rfl ⟨rfl,?_⟩
   exact(S6.out.set _ _ _ _).stay
 | some v=>
   go_enter Tryz.func91,Tryz.ntmps91
   go_wp2_with fail
   obtain⟨c0,c1,f0,f1⟩:=ST.out.rd.two
   generalize w.alloc _=W at *
   go_region_held3 (fun w'=>w'.cell? ⟨b,0,none⟩=some (.string s)/\w'.cell? ⟨b,1,none⟩=some (.int .i64 (i:Nat))) (simp[go_sem, *]) (first|(go_at_call 114;refine Calls.mono (R2.out _) ?_;rintro r w1 ⟨rfl,b1⟩;have S1:=hid2 (ST.out.next (below_on (Below.refl _ _).drew b1 (Nat.le_refl _)));obtain⟨m0,m1,_,_⟩:=S1.out.rd.two;obtain⟨m2,m3,m4,m5,m6,m7,m8,m9⟩:=S1.out.rb.four;have ml:=S1.out.rd.lt;clear b1))
   clear c0 c1 f0 f1
   go_wp2_with fail
   refine Calls.mono (HPX.out _) ?_
   rintro r w2 ⟨rfl,rfl⟩
   go_wp2_with fail
   refine Calls.mono (HRP.out _) ?_
   rintro r w3 ⟨rfl,b3⟩
   have S3:=hid2 (S1.out.next b3)
   obtain⟨n0,n1,_,_⟩:=S3.out.rd.two
   have nl:=S3.out.rd.lt
   clear b3 m0 m1 m2 m3 m4 m5 m6 m7 m8 m9 ml
   go_wp2_with fail
   refine Calls.mono (HRB.out _) ?_
   rintro r w4 ⟨rfl,b4⟩
   have S4:=hid2 (S3.out.next b4)
   obtain⟨k0,k1,_,_⟩:=S4.out.rd.two
   have kl:=S4.out.rd.lt
   clear b4
   go_wp2_with fail
   go_quiet (fail)
   have S5:=hid2 (S4.out.next (drewN_b2 w4 nq))
   generalize w4.drewN nq=W5 at *
   clear k0 k1 kl
   go_wp2_with fail
   refine Calls.mono (HRR.out _) ?_
   rintro r w6 ⟨rfl,b6⟩
   have S6:=hid2 (S5.out.next b6)
   clear b6
   simp only[]
   go_wp2_with fail
   refine Calls.mono (T.out _ _ S6.out.rd) ?_
   rintro r w7 ⟨rfl,M7⟩
   obtain⟨bx,fin⟩:=S6.out.took M7
   obtain⟨p0,p1,p2,p3,g0,g1,g2,g3⟩:=bx.four
   have bl:=bx.lt
   have FIN:=hid2 fin
   clear bx fin M7
   unfold tkv
   go_wp2_with fail
   refine bodyPost_ret (v:=.tuple #[tkV ⟨2,x,(v:Int),i⟩,.int .i64 0]) (by simp[results,Tryz.results91,go_sem, *];rfl) rfl ⟨by rw[HX.out],?_⟩
   exact FIN.out _ _ _ _
theorem number_c (b i:Nat)(s:ByteArray)(hi:i<s.size)(hz:s.size<=1048576)(w:World)(h:Rdr w b s i):
 Calls Tryz.prog 91 #[.pointer (some ⟨b,0,none⟩)] w (CutPost w b s i (decide (cls s 2 i≠i)) (numT s i)):=by
 have R:=fun wx=>run_at s i 2 (by omega) hz wx
 have hin:=cls_in s 2 i (by omega)
 by_cases h1:cls s 2 i=i
 ·rw[h1] at R
  refine(number_none b i s w h R).mono ?_
  intro e w' hh
  unfold CutPost
  rw[if_neg (by simp[h1])]
  exact hh
 ·have own:decide (cls s 2 i≠i)=true:=by simp[h1]
  rw[own]
  have hlt:i<cls s 2 i:=by omega
  have spn:∀ e,e<=s.size->∀ wx,Calls Tryz.prog 120 #[.string (s.extract i e)] wx fun r w'=>r=.returned (match spanN (s.extract i e).data.toList with | some v=>.tuple #[.int .i64 (v:Nat),.int .i64 0] | none=>.tuple #[.int .i64 0,.int .i64 13])/\Below wx.heap.size wx w':=
   fun e he wx=>span_at (s.extract i e) (by rw[size_cut s i e he];omega) wx
  have rdn:∀ e,e<=s.size->∀ wx,Calls Tryz.prog 119 #[.string (s.extract i e)] wx fun r w'=>r=.returned (match readN (s.extract i e).data.toList with | some v=>.tuple #[.int .i64 (v:Nat),.int .i64 0] | none=>.tuple #[.int .i64 0,.int .i64 13])/\Below wx.heap.size wx w':=
   fun e he wx=>read_at (s.extract i e) (by rw[size_cut s i e he];omega) wx
  have hE:=numE_in (s:=s) (i:=i) (by omega)
  have hB:=cls_in s 3 (numE s i) hE.2
  have RB:=fun wx=>run_at s (numE s i) 3 hE.2 hz wx
  unfold numT
  by_cases hd:s.get! (cls s 2 i)=46
  ·have hj:=get_in (s:=s) (i:=cls s 2 i) (by rw[hd];decide)
   have hd':(s.get! (cls s 2 i)==46)=true:=by rw[hd];rfl
   have hP:=cls_in s 2 (cls s 2 i+1) hj
   have RP:=fun wx=>run_at s (cls s 2 i+1) 2 hj hz wx
   rw[show ((cls s 2 i+1:Nat):Int)=((cls s 2 i:Nat):Int)+1 by omega] at RP
   by_cases hpl:cls s 2 i+1<cls s 2 (cls s 2 i+1)
   ·have hN:numE s i=cls s 2 (cls s 2 i+1):=if_pos ⟨hd,hpl⟩
    rw[hN] at RB hB ⊢
    by_cases hb:cls s 2 (cls s 2 i+1)<cls s 3 (cls s 2 (cls s 2 i+1))
    ·rw[if_pos hb]
     exact number_CD b i _ s hz hlt hin.2 w h R hd' _ hpl hP.2 RP _ hb hB.2 RB _ (spn _ hB.2)
    ·rw[if_neg hb]
     exact number_CN b i _ s hz hlt hin.2 w h R hd' _ hpl hP.2 RP _ hb hB.2 RB _ (rdn _ hP.2)
   ·have hN:numE s i=cls s 2 i:=if_neg (fun hh=>hpl hh.2)
    rw[hN] at RB hB ⊢
    by_cases hb:cls s 2 i<cls s 3 (cls s 2 i)
    ·rw[if_pos hb]
     exact number_BD b i _ s hz hlt hin.2 w h R hd' _ hpl hP.2 RP _ hb hB.2 RB _ (spn _ hB.2)
    ·rw[if_neg hb]
     exact number_BN b i _ s hz hlt hin.2 w h R hd' _ hpl hP.2 RP _ hb hB.2 RB _ (rdn _ hin.2)
  ·have hd':(s.get! (cls s 2 i)==46)=false:=beq_eq_false_iff_ne.2 hd
   have hN:numE s i=cls s 2 i:=if_neg (fun hh=>hd hh.1)
   rw[hN] at RB hB ⊢
   by_cases hb:cls s 2 i<cls s 3 (cls s 2 i)
   ·rw[if_pos hb]
    exact number_AD b i _ s hz hlt hin.2 w h R hd' _ hb hB.2 RB _ (spn _ hB.2)
   ·rw[if_neg hb]
    exact number_AN b i _ s hz hlt hin.2 w h R hd' _ hb hB.2 RB _ (rdn _ hin.2)
theorem enc_kind {k:Int}{nv:List UInt8}{d:UInt8}{s:ByteArray}{i:Nat}{te:Tk×Nat}(hk:k≠0)(h:encT k nv d s i=.ok te):te.1.kind≠0:=by
 unfold encT at h
 split at h
 ·cases h;exact hk
 ·cases h
theorem enc_err {k:Int}{nv:List UInt8}{d:UInt8}{s:ByteArray}{i:Nat}{e:Int}(h:encT k nv d s i=.error e):e≠0:=by
 unfold encT at h
 split at h
 ·cases h
 ·cases h;decide
theorem word_kind {s:ByteArray}{i:Nat}{te:Tk×Nat}(h:wordT s i=.ok te):te.1.kind≠0:=by
 unfold wordT at h
 split at h
 ·cases h;simp
 ·split at h
  ·cases h;simp
  ·cases h
theorem word_err {s:ByteArray}{i:Nat}{e:Int}(h:wordT s i=.error e):e≠0:=by
 unfold wordT at h
 split at h
 ·cases h
 ·split at h
  ·cases h
  ·cases h;decide
theorem val_kind {k:Int}{s:ByteArray}{i e:Nat}{o:Option Nat}{te:Tk×Nat}(hk:k≠0)(h:valT k s i e o=.ok te):te.1.kind≠0:=by
 cases o with
 | none=>cases h
 | some v=>cases h;exact hk
theorem val_err {k:Int}{s:ByteArray}{i e:Nat}{o:Option Nat}{q:Int}(h:valT k s i e o=.error q):q≠0:=by
 cases o with
 | none=>cases h;decide
 | some v=>cases h
theorem num_kind {s:ByteArray}{i:Nat}{te:Tk×Nat}(h:numT s i=.ok te):te.1.kind≠0:=by
 unfold numT at h
 split at h
 ·exact val_kind (by decide) h
 ·exact val_kind (by decide) h
theorem num_err {s:ByteArray}{i:Nat}{e:Int}(h:numT s i=.error e):e≠0:=by
 unfold numT at h
 split at h
 ·exact val_err h
 ·exact val_err h
theorem sig_kind {s:ByteArray}{i:Nat}{te:Tk×Nat}(h:sigT s i=.ok te):te.1.kind≠0:=by
 unfold sigT at h
 split at h
 ·cases h;simp
 ·split at h
  ·cases h;simp
  ·cases h
theorem sig_own {s:ByteArray}{i:Nat}(h:(two (s.get! i) (s.get! (i+1))||one (s.get! i))=true):∃ te,sigT s i=.ok te:=by
 unfold sigT
 split
 ·exact⟨_,rfl⟩
 ·split
  ·exact⟨_,rfl⟩
  ·rename_i h1 h2
   rw[Bool.or_eq_true] at h
   rcases h with h | h
   ·exact absurd h h1
   ·exact absurd h h2
theorem sig_none {s:ByteArray}{i:Nat}(h:(two (s.get! i) (s.get! (i+1))||one (s.get! i))=false):sigT s i=.error 12:=by
 rw[Bool.or_eq_false_iff] at h
 unfold sigT
 rw[if_neg (by rw[h.1];decide),if_neg (by rw[h.2];decide)]
def cutsV (b:Nat):List Value:=[.func (.func 90) #[.pointer (some ⟨b,0,none⟩)] #[],.func (.func 91) #[.pointer (some ⟨b,0,none⟩)] #[],.func (.func 92) #[.pointer (some ⟨b,0,none⟩)] #[],.func (.func 93) #[.pointer (some ⟨b,0,none⟩)] #[],.func (.func 94) #[.pointer (some ⟨b,0,none⟩)] #[]]
structure Sf (w W:World)(b g i:Nat)(s:ByteArray)(vs:List Value):Prop where
 rd:Rdr W b s i
 rb:Box W w.heap.size vs
 cu:Box W g (cutsV b)
 trn:Turn [b] w W
 lt:b<w.heap.size
 gb:g≠b
 gl:g<w.heap.size
theorem Sf.made {w:World}{b g i:Nat}{s:ByteArray}(h:Rdr w b s i)(c:Box w g (cutsV b))(hg:g≠b)(t:TypeId):Sf w (w.alloc (.cells zs.toArray t)) b g i s zs:=
 have k:Below w.heap.size w (w.alloc (.cells zs.toArray t)):=(Below.refl _ _).alloc (Nat.le_refl _) _
 ⟨h.next k,Box.new w zs t,c.next k,Turn.of_below k,h.lt,hg,c.lt⟩
theorem Sf.next {w W W':World}{b g i:Nat}{s:ByteArray}{vs:List Value}(h:Sf w W b g i s vs)(k:Below W.heap.size W W'):Sf w W' b g i s vs:=⟨h.rd.next k,h.rb.next k,h.cu.next k,h.trn.andBelow k,h.lt,h.gb,h.gl⟩
theorem Sf.moved {w W W':World}{b g i e:Nat}{s:ByteArray}{vs:List Value}(h:Sf w W b g i s vs)(m:Moved W b s e W'):Sf w W' b g e s vs:=by
 have hn:w.heap.size∉[b]:=by have:=h.lt;simp;omega
 exact⟨m.1,h.rb.turn m.2 hn,h.cu.turn m.2 (by simpa using h.gb),h.trn.trans m.2 (fun i hi=>.inl hi),h.lt,h.gb,h.gl⟩
theorem Sf.fin {w W:World}{b g i:Nat}{s:ByteArray}{u0 u1 u2 u3:Value}(h:Sf w W b g i s [u0,u1,u2,u3])(v0 v1 v2 v3:Value):Moved w b s i ((((W.setCell ⟨w.heap.size,0,none⟩ v0).setCell ⟨w.heap.size,1,none⟩ v1).setCell ⟨w.heap.size,2,none⟩ v2).setCell ⟨w.heap.size,3,none⟩ v3):=by
 have hn:b≠w.heap.size:=by have:=h.lt;omega
 have t2:Below w.heap.size W ((((W.setCell ⟨w.heap.size,0,none⟩ v0).setCell ⟨w.heap.size,1,none⟩ v1).setCell ⟨w.heap.size,2,none⟩ v2).setCell ⟨w.heap.size,3,none⟩ v3):=below_four (Below.refl _ _) (Nat.le_refl _) _ _ _ _
 have t3:=h.trn
 exact⟨((((h.rd.other hn).other hn).other hn).other hn),t2.os.trans t3.os,t2.tape.trans t3.tape,t2.output.trans t3.output,Nat.le_trans t3.size t2.size,fun k hk hn=>(t2.block k hk).trans (t3.block k hk hn)⟩
theorem cut_ways {W w2:World}{b i:Nat}{s:ByteArray}{own:Bool}{tr:TR}{r:Ending}(hk:∀ te,tr=.ok te->te.1.kind≠0)(he:own=true->∀ e,tr=.error e->e≠0)(hh:CutPost W b s i own tr r w2):
 (∃ (k:Int) (x:ByteArray) (n:Int) (a e:Nat),own=true/\tr=.ok (⟨k,x,n,a⟩,e)/\k≠0/\r=.returned (.tuple #[.agg #[.int .i64 k,.string x,.int .i64 n,.int .i64 (a:Nat)],.int .i64 0])/\Moved W b s e w2) \/
 (∃ e:Int,own=true/\tr=.error e/\e≠0/\r=.returned (.tuple #[.agg #[.int .i64 0,.string ⟨#[]⟩,.int .i64 0,.int .i64 0],.int .i64 e])/\Moved W b s i w2) \/
 (own=false/\r=.returned (.tuple #[.agg #[.int .i64 0,.string ⟨#[]⟩,.int .i64 0,.int .i64 0],.int .i64 0])/\Moved W b s i w2):=by
 unfold CutPost at hh
 split at hh
 ·rename_i ho
  split at hh
  ·rename_i te
   exact .inl ⟨te.1.kind,te.1.text,te.1.n,te.1.at_,te.2,ho,rfl,hk _ rfl,hh.1,hh.2⟩
  ·rename_i e
   exact .inr (.inl ⟨e,ho,rfl,he ho _ rfl,hh.1,hh.2⟩)
 ·rename_i ho
  exact .inr (.inr ⟨by simpa using ho,hh.1,hh.2⟩)
set_option maxHeartbeats 16000000 in
theorem firstOf_c (b g i c:Nat)(s:ByteArray)(hi:i<s.size)(hz:s.size<=1048576)(hv:Vd s i)(w:World)(h:Rdr w b s i)(hc:Box w g (cutsV b))(hg:g≠b):
 Calls Tryz.prog 96 #[.slice (some ⟨g,0,none⟩) 5 c] w (CutPost w b s i true (tok s i)):=by
 have SF:=hid2 (Sf.made h hc hg 47)
 have hlt:=h.lt
 have hlg:=hc.lt
 have K0:=hid2 (fun W (hw:Rdr W b s i)=>nameOrWord_c b i s hi hz hv W hw)
 have K1:=hid2 (fun W (hw:Rdr W b s i)=>number_c b i s hi hz W hw)
 have K2:=hid2 (fun W (hw:Rdr W b s i)=>quoted_c b i s hi hz hv W hw)
 have K3:=hid2 (fun W (hw:Rdr W b s i)=>bracket_c b i s hi hz hv W hw)
 have K4:=hid2 (fun W (hw:Rdr W b s i)=>sign_c b i s hi hz W hw)
 have W0:=hid2 (fun W w2 r hh=>cut_ways (W:=W) (w2:=w2) (b:=b) (i:=i) (s:=s) (own:=decide (cls s 1 i≠i)) (tr:=wordT s i) (r:=r) (fun _=>word_kind) (fun _ _=>word_err) hh)
 have W1:=hid2 (fun W w2 r hh=>cut_ways (W:=W) (w2:=w2) (b:=b) (i:=i) (s:=s) (own:=decide (cls s 2 i≠i)) (tr:=numT s i) (r:=r) (fun _=>num_kind) (fun _ _=>num_err) hh)
 have W2:=hid2 (fun W w2 r hh=>cut_ways (W:=W) (w2:=w2) (b:=b) (i:=i) (s:=s) (own:=decide (s.get! i=34)) (tr:=encT 4 [34,10] 34 s i) (r:=r) (fun _=>enc_kind (by decide)) (fun _ _=>enc_err) hh)
 have W3:=hid2 (fun W w2 r hh=>cut_ways (W:=W) (w2:=w2) (b:=b) (i:=i) (s:=s) (own:=decide (s.get! i=91)) (tr:=encT 8 [91,93,34,10] 93 s i) (r:=r) (fun _=>enc_kind (by decide)) (fun _ _=>enc_err) hh)
 have W4:=hid2 (fun W w2 r hh=>cut_ways (W:=W) (w2:=w2) (b:=b) (i:=i) (s:=s) (own:=(two (s.get! i) (s.get! (i+1))||one (s.get! i))) (tr:=sigT s i) (r:=r) (fun _=>sig_kind) (fun ho e he=>by obtain⟨te,ht⟩:=sig_own ho;rw[ht] at he;cases he) hh)
 have Q0:Hid (decide (cls s 1 i≠i)=true->tok s i=wordT s i):=fun h=>if_pos (by simpa using h)
 have Q1:Hid (decide (cls s 1 i≠i)=false->decide (cls s 2 i≠i)=true->tok s i=numT s i):=fun h0 h=>by
  unfold tok
  rw[if_neg (by simpa using h0),if_pos (by simpa using h)]
 have Q2:Hid (decide (cls s 1 i≠i)=false->decide (cls s 2 i≠i)=false->decide (s.get! i=34)=true->tok s i=encT 4 [34,10] 34 s i):=fun h0 h1 h=>by
  unfold tok
  rw[if_neg (by simpa using h0),if_neg (by simpa using h1),if_pos (by simpa using h)]
 have Q3:Hid (decide (cls s 1 i≠i)=false->decide (cls s 2 i≠i)=false->decide (s.get! i=34)=false->decide (s.get! i=91)=true->tok s i=encT 8 [91,93,34,10] 93 s i):=fun h0 h1 h2 h=>by
  unfold tok
  rw[if_neg (by simpa using h0),if_neg (by simpa using h1),if_neg (by simpa using h2),if_pos (by simpa using h)]
 have Q4:Hid (decide (cls s 1 i≠i)=false->decide (cls s 2 i≠i)=false->decide (s.get! i=34)=false->decide (s.get! i=91)=false->tok s i=sigT s i):=fun h0 h1 h2 h3=>by
  unfold tok
  rw[if_neg (by simpa using h0),if_neg (by simpa using h1),if_neg (by simpa using h2),if_neg (by simpa using h3)]
 have Q5:Hid ((two (s.get! i) (s.get! (i+1))||one (s.get! i))=false->sigT s i=.error 12):=sig_none
 generalize decide (cls s 1 i≠i)=o0 at *
 generalize decide (cls s 2 i≠i)=o1 at *
 generalize decide (s.get! i=34)=o2 at *
 generalize decide (s.get! i=91)=o3 at *
 generalize (two (s.get! i) (s.get! (i+1))||one (s.get! i))=o4 at *
 generalize wordT s i=t0 at *
 generalize numT s i=t1 at *
 generalize encT 4 [34,10] 34 s i=t2 at *
 generalize encT 8 [91,93,34,10] 93 s i=t3 at *
 generalize sigT s i=t4 at *
 generalize tok s i=tr at *
 clear h hc hv hi
 go_enter Tryz.func96,Tryz.ntmps96
 go_wp2_with fail
 generalize w.alloc _=WW at *
 go_loopw [10] (fun s10 wr=>∃ j:Nat,s10=.int .i64 (j:Nat)/\j<=5/\Hid (Sf w wr b g i s zs)/\Hid (1<=j->o0=false)/\Hid (2<=j->o1=false)/\Hid (3<=j->o2=false)/\Hid (4<=j->o3=false)/\Hid (5<=j->o4=false)) (fun s10 _=>5-(RowKit.intOf s10).toNat)
 case atStart=>exact⟨0,rfl,by omega,SF,fun h=>by omega,fun h=>by omega,fun h=>by omega,fun h=>by omega,fun h=>by omega⟩
 case round=>
  obtain⟨j,rfl,hj,HS,N0,N1,N2,N3,N4⟩:=hrel
  clear SF
  have blr:=HS.out.rb.lt
  rcases(show j=0\/j=1\/j=2\/j=3\/j=4\/j=5 by omega) with rfl | rfl | rfl | rfl | rfl | rfl
  ·have hcell:=HS.out.cu.cell 0 _ rfl
   go_wp2_with fail
   refine Calls.mono (K0.out _ HS.out.rd) ?_
   intro r w2 hh
   rcases W0.out _ _ _ hh with ⟨k,x,n,a,e,ho,ht,hk,rfl,m⟩ | ⟨e,ho,ht,hk,rfl,m⟩ | ⟨ho,rfl,m⟩
   ·have S2:=hid2 (HS.out.moved m)
    have hq:=Q0.out  ho
    rw[ht] at hq
    have HQ:=hid2 hq
    have hk2:(k != 0)=true:=by simpa using hk
    obtain⟨p0,p1,p2,p3,g0,g1,g2,g3⟩:=S2.out.rb.four
    have bl:=S2.out.rb.lt
    clear hh m ht hq hcell
    go_wp2_with fail
    refine bodyPost_ret (v:=.tuple #[.agg #[.int .i64 k,.string x,.int .i64 n,.int .i64 (a:Nat)],.int .i64 0]) (by simp[results,Tryz.results96,go_sem, *]) rfl ?_
    unfold CutPost
    rw[HQ.out]
    exact⟨rfl,(S2.out.fin _ _ _ _).below ((Below.refl _ _).alloc (Nat.le_refl _) _)⟩
   ·have S2:=hid2 (HS.out.moved m)
    have hq:=Q0.out  ho
    rw[ht] at hq
    have HQ:=hid2 hq
    have hk2:(e != 0)=true:=by simpa using hk
    obtain⟨p0,p1,p2,p3,g0,g1,g2,g3⟩:=S2.out.rb.four
    have bl:=S2.out.rb.lt
    clear hh m ht hq hcell
    go_wp2_with fail
    refine bodyPost_ret (v:=.tuple #[noV,.int .i64 e]) (by simp[results,Tryz.results96,go_sem, *];rfl) rfl ?_
    unfold CutPost
    rw[HQ.out]
    exact⟨rfl,(S2.out.fin _ _ _ _).below ((Below.refl _ _).alloc (Nat.le_refl _) _)⟩
   ·have S2:=hid2 (HS.out.moved m)
    have HO:=hid2 ho
    clear hh m hcell
    go_wp2_with fail
    go_roundw
    case rel=>exact⟨1,rfl,by omega,S2.out.next ((Below.refl _ _).alloc (Nat.le_refl _) _),fun _=>HO.out,fun h=>by omega,fun h=>by omega,fun h=>by omega,fun h=>by omega⟩
    case measure=>simp[RowKit.intOf]
  ·have hcell:=HS.out.cu.cell 1 _ rfl
   have z0:=N0.out (by omega)
   go_wp2_with fail
   refine Calls.mono (K1.out _ HS.out.rd) ?_
   intro r w2 hh
   rcases W1.out _ _ _ hh with ⟨k,x,n,a,e,ho,ht,hk,rfl,m⟩ | ⟨e,ho,ht,hk,rfl,m⟩ | ⟨ho,rfl,m⟩
   ·have S2:=hid2 (HS.out.moved m)
    have hq:=Q1.out z0 ho
    rw[ht] at hq
    have HQ:=hid2 hq
    have hk2:(k != 0)=true:=by simpa using hk
    obtain⟨p0,p1,p2,p3,g0,g1,g2,g3⟩:=S2.out.rb.four
    have bl:=S2.out.rb.lt
    clear hh m ht hq hcell
    go_wp2_with fail
    refine bodyPost_ret (v:=.tuple #[.agg #[.int .i64 k,.string x,.int .i64 n,.int .i64 (a:Nat)],.int .i64 0]) (by simp[results,Tryz.results96,go_sem, *]) rfl ?_
    unfold CutPost
    rw[HQ.out]
    exact⟨rfl,(S2.out.fin _ _ _ _).below ((Below.refl _ _).alloc (Nat.le_refl _) _)⟩
   ·have S2:=hid2 (HS.out.moved m)
    have hq:=Q1.out z0 ho
    rw[ht] at hq
    have HQ:=hid2 hq
    have hk2:(e != 0)=true:=by simpa using hk
    obtain⟨p0,p1,p2,p3,g0,g1,g2,g3⟩:=S2.out.rb.four
    have bl:=S2.out.rb.lt
    clear hh m ht hq hcell
    go_wp2_with fail
    refine bodyPost_ret (v:=.tuple #[noV,.int .i64 e]) (by simp[results,Tryz.results96,go_sem, *];rfl) rfl ?_
    unfold CutPost
    rw[HQ.out]
    exact⟨rfl,(S2.out.fin _ _ _ _).below ((Below.refl _ _).alloc (Nat.le_refl _) _)⟩
   ·have S2:=hid2 (HS.out.moved m)
    have HO:=hid2 ho
    clear hh m hcell
    go_wp2_with fail
    go_roundw
    case rel=>exact⟨2,rfl,by omega,S2.out.next ((Below.refl _ _).alloc (Nat.le_refl _) _),fun _=>z0,fun _=>HO.out,fun h=>by omega,fun h=>by omega,fun h=>by omega⟩
    case measure=>simp[RowKit.intOf]
  ·have hcell:=HS.out.cu.cell 2 _ rfl
   have z0:=N0.out (by omega)
   have z1:=N1.out (by omega)
   go_wp2_with fail
   refine Calls.mono (K2.out _ HS.out.rd) ?_
   intro r w2 hh
   rcases W2.out _ _ _ hh with ⟨k,x,n,a,e,ho,ht,hk,rfl,m⟩ | ⟨e,ho,ht,hk,rfl,m⟩ | ⟨ho,rfl,m⟩
   ·have S2:=hid2 (HS.out.moved m)
    have hq:=Q2.out z0 z1 ho
    rw[ht] at hq
    have HQ:=hid2 hq
    have hk2:(k != 0)=true:=by simpa using hk
    obtain⟨p0,p1,p2,p3,g0,g1,g2,g3⟩:=S2.out.rb.four
    have bl:=S2.out.rb.lt
    clear hh m ht hq hcell
    go_wp2_with fail
    refine bodyPost_ret (v:=.tuple #[.agg #[.int .i64 k,.string x,.int .i64 n,.int .i64 (a:Nat)],.int .i64 0]) (by simp[results,Tryz.results96,go_sem, *]) rfl ?_
    unfold CutPost
    rw[HQ.out]
    exact⟨rfl,(S2.out.fin _ _ _ _).below ((Below.refl _ _).alloc (Nat.le_refl _) _)⟩
   ·have S2:=hid2 (HS.out.moved m)
    have hq:=Q2.out z0 z1 ho
    rw[ht] at hq
    have HQ:=hid2 hq
    have hk2:(e != 0)=true:=by simpa using hk
    obtain⟨p0,p1,p2,p3,g0,g1,g2,g3⟩:=S2.out.rb.four
    have bl:=S2.out.rb.lt
    clear hh m ht hq hcell
    go_wp2_with fail
    refine bodyPost_ret (v:=.tuple #[noV,.int .i64 e]) (by simp[results,Tryz.results96,go_sem, *];rfl) rfl ?_
    unfold CutPost
    rw[HQ.out]
    exact⟨rfl,(S2.out.fin _ _ _ _).below ((Below.refl _ _).alloc (Nat.le_refl _) _)⟩
   ·have S2:=hid2 (HS.out.moved m)
    have HO:=hid2 ho
    clear hh m hcell
    go_wp2_with fail
    go_roundw
    case rel=>exact⟨3,rfl,by omega,S2.out.next ((Below.refl _ _).alloc (Nat.le_refl _) _),fun _=>z0,fun _=>z1,fun _=>HO.out,fun h=>by omega,fun h=>by omega⟩
    case measure=>simp[RowKit.intOf]
  ·have hcell:=HS.out.cu.cell 3 _ rfl
   have z0:=N0.out (by omega)
   have z1:=N1.out (by omega)
   have z2:=N2.out (by omega)
   go_wp2_with fail
   refine Calls.mono (K3.out _ HS.out.rd) ?_
   intro r w2 hh
   rcases W3.out _ _ _ hh with ⟨k,x,n,a,e,ho,ht,hk,rfl,m⟩ | ⟨e,ho,ht,hk,rfl,m⟩ | ⟨ho,rfl,m⟩
   ·have S2:=hid2 (HS.out.moved m)
    have hq:=Q3.out z0 z1 z2 ho
    rw[ht] at hq
    have HQ:=hid2 hq
    have hk2:(k != 0)=true:=by simpa using hk
    obtain⟨p0,p1,p2,p3,g0,g1,g2,g3⟩:=S2.out.rb.four
    have bl:=S2.out.rb.lt
    clear hh m ht hq hcell
    go_wp2_with fail
    refine bodyPost_ret (v:=.tuple #[.agg #[.int .i64 k,.string x,.int .i64 n,.int .i64 (a:Nat)],.int .i64 0]) (by simp[results,Tryz.results96,go_sem, *]) rfl ?_
    unfold CutPost
    rw[HQ.out]
    exact⟨rfl,(S2.out.fin _ _ _ _).below ((Below.refl _ _).alloc (Nat.le_refl _) _)⟩
   ·have S2:=hid2 (HS.out.moved m)
    have hq:=Q3.out z0 z1 z2 ho
    rw[ht] at hq
    have HQ:=hid2 hq
    have hk2:(e != 0)=true:=by simpa using hk
    obtain⟨p0,p1,p2,p3,g0,g1,g2,g3⟩:=S2.out.rb.four
    have bl:=S2.out.rb.lt
    clear hh m ht hq hcell
    go_wp2_with fail
    refine bodyPost_ret (v:=.tuple #[noV,.int .i64 e]) (by simp[results,Tryz.results96,go_sem, *];rfl) rfl ?_
    unfold CutPost
    rw[HQ.out]
    exact⟨rfl,(S2.out.fin _ _ _ _).below ((Below.refl _ _).alloc (Nat.le_refl _) _)⟩
   ·have S2:=hid2 (HS.out.moved m)
    have HO:=hid2 ho
    clear hh m hcell
    go_wp2_with fail
    go_roundw
    case rel=>exact⟨4,rfl,by omega,S2.out.next ((Below.refl _ _).alloc (Nat.le_refl _) _),fun _=>z0,fun _=>z1,fun _=>z2,fun _=>HO.out,fun h=>by omega⟩
    case measure=>simp[RowKit.intOf]
  ·have hcell:=HS.out.cu.cell 4 _ rfl
   have z0:=N0.out (by omega)
   have z1:=N1.out (by omega)
   have z2:=N2.out (by omega)
   have z3:=N3.out (by omega)
   go_wp2_with fail
   refine Calls.mono (K4.out _ HS.out.rd) ?_
   intro r w2 hh
   rcases W4.out _ _ _ hh with ⟨k,x,n,a,e,ho,ht,hk,rfl,m⟩ | ⟨e,ho,ht,hk,rfl,m⟩ | ⟨ho,rfl,m⟩
   ·have S2:=hid2 (HS.out.moved m)
    have hq:=Q4.out z0 z1 z2 z3
    rw[ht] at hq
    have HQ:=hid2 hq
    have hk2:(k != 0)=true:=by simpa using hk
    obtain⟨p0,p1,p2,p3,g0,g1,g2,g3⟩:=S2.out.rb.four
    have bl:=S2.out.rb.lt
    clear hh m ht hq hcell
    go_wp2_with fail
    refine bodyPost_ret (v:=.tuple #[.agg #[.int .i64 k,.string x,.int .i64 n,.int .i64 (a:Nat)],.int .i64 0]) (by simp[results,Tryz.results96,go_sem, *]) rfl ?_
    unfold CutPost
    rw[HQ.out]
    exact⟨rfl,(S2.out.fin _ _ _ _).below ((Below.refl _ _).alloc (Nat.le_refl _) _)⟩
   ·have S2:=hid2 (HS.out.moved m)
    have hq:=Q4.out z0 z1 z2 z3
    rw[ht] at hq
    have HQ:=hid2 hq
    have hk2:(e != 0)=true:=by simpa using hk
    obtain⟨p0,p1,p2,p3,g0,g1,g2,g3⟩:=S2.out.rb.four
    have bl:=S2.out.rb.lt
    clear hh m ht hq hcell
    go_wp2_with fail
    refine bodyPost_ret (v:=.tuple #[noV,.int .i64 e]) (by simp[results,Tryz.results96,go_sem, *];rfl) rfl ?_
    unfold CutPost
    rw[HQ.out]
    exact⟨rfl,(S2.out.fin _ _ _ _).below ((Below.refl _ _).alloc (Nat.le_refl _) _)⟩
   ·have S2:=hid2 (HS.out.moved m)
    have HO:=hid2 ho
    clear hh m hcell
    go_wp2_with fail
    go_roundw
    case rel=>exact⟨5,rfl,by omega,S2.out.next ((Below.refl _ _).alloc (Nat.le_refl _) _),fun _=>z0,fun _=>z1,fun _=>z2,fun _=>z3,fun _=>HO.out⟩
    case measure=>simp[RowKit.intOf]
  ·have z0:=N0.out (by omega)
   have z1:=N1.out (by omega)
   have z2:=N2.out (by omega)
   have z3:=N3.out (by omega)
   have z4:=N4.out (by omega)
   have hq:=Q4.out z0 z1 z2 z3
   rw[Q5.out z4] at hq
   have HQ:=hid2 hq
   obtain⟨p0,p1,p2,p3,g0,g1,g2,g3⟩:=HS.out.rb.four
   clear hq z0 z1 z2 z3 z4
   go_wp2_with fail
   refine bodyPost_ret (v:=.tuple #[noV,.int .i64 12]) (by simp[results,Tryz.results96,go_sem, *];rfl) rfl ?_
   unfold CutPost
   rw[HQ.out]
   exact⟨rfl,HS.out.fin _ _ _ _⟩
def tkc (t:Tk):List Value:=[.int .i64 t.kind,.string t.text,.int .i64 t.n,.int .i64 (t.at_:Nat)]
def tks (L:List Tk):List Value:=L.flatMap tkc
theorem tks_snoc (L:List Tk)(t:Tk):tks (L++[t])=tks L++tkc t:=by simp[tks]
theorem info_tk:(Tryz.prog.info? 47).map (fun i=>(i.zero,i.size,i.bytes))=some (some (.agg #[.int .i64 0,.string ⟨#[]⟩,.int .i64 0,.int .i64 0]),4,40):=by kernel_rfl
abbrev Toks (w:World)(B:Nat)(v:Value)(L:List Tk):Prop:=w.ownsRow B 47 4 v L.length (tks L)
theorem own_turn {S:List Nat}{w w':World}{B size:Nat}{e:TypeId}{v:Value}{n:Nat}{xs:List Value}(h:w.ownsRow B e size v n xs)(t:Turn S w w')(hS:∀ k∈S,k<B):w'.ownsRow B e size v n xs:=by
 have hl:=h.lt
 obtain⟨h1,h2⟩:=h
 refine⟨h1,?_⟩
 rcases h2 with h2 | ⟨g,cap,cur,rfl,h3,h4,h5,h6,h7,h8⟩
 ·exact .inl h2
 ·exact .inr ⟨g,cap,cur,rfl,h3,(t.block g (Array.getElem?_eq_some_iff.1 h4).1 (fun hm=>by have:=hS g hm;have:=(hl g rfl).1;omega)).trans h4,h5,h6,h7,h8⟩
theorem cell_four_new (w:World)(a b c d:Value)(t:TypeId):∀ j u,[a,b,c,d][j]? = some u->(w.alloc (.cells #[a,b,c,d] t)).cell? ((⟨w.heap.size,0,none⟩:Addr).add j)=some u:=by
 intro j u hj
 match j,hj with
 | 0,hj=>simp at hj;subst hj;simp[Addr.add]
 | 1,hj=>simp at hj;subst hj;simp[Addr.add]
 | 2,hj=>simp at hj;subst hj;simp[Addr.add]
 | 3,hj=>simp at hj;subst hj;simp[Addr.add]
 | j+4,hj=>simp at hj
theorem own_mono {w:World}{B B' size:Nat}{e:TypeId}{v:Value}{n:Nat}{xs:List Value}(h:w.ownsRow B e size v n xs)(hB:B'<=B):w.ownsRow B' e size v n xs:=by
 have hl:=h.lt
 obtain⟨h1,h2⟩:=h
 refine⟨h1,?_⟩
 rcases h2 with h2 | ⟨g,cap,cur,rfl,h3,h4,h5,h6,h7,h8⟩
 ·exact .inl h2
 ·exact .inr ⟨g,cap,cur,rfl,Nat.le_trans hB h3,h4,h5,h6,h7,h8⟩
def AllPost (w:World)(b:Nat)(s:ByteArray)(res:List Tk×Nat×Int)(e:Ending)(w':World):Prop:=
 ∃ v,e=.returned (.tuple #[v,.int .i64 res.2.2])/\(if res.2.2=0 then Toks w' w.heap.size v res.1 else v=.slice none 0 0)/\(∃ at_:Nat,Rdr w' b s at_/\(res.2.2≠0->at_=res.2.1))/\Turn [b] w w'
structure Sa (w W:World)(b g i:Nat)(s:ByteArray)(v:Value)(L:List Tk):Prop where
 rd:Rdr W b s i
 cu:Box W g (cutsV b)
 own:Toks W (w.heap.size+1) v L
 trn:Turn [b] w W
 lt:b<w.heap.size
 ge:g=w.heap.size
theorem Sa.next {w W W':World}{b g i:Nat}{s:ByteArray}{v:Value}{L:List Tk}(h:Sa w W b g i s v L)(k:Below W.heap.size W W'):Sa w W' b g i s v L:=⟨h.rd.next k,h.cu.next k,own_on h.own k,h.trn.andBelow k,h.lt,h.ge⟩
theorem Sa.moved {w W W':World}{b g i e:Nat}{s:ByteArray}{v:Value}{L:List Tk}(h:Sa w W b g i s v L)(m:Moved W b s e W'):Sa w W' b g e s v L:=by
 have hb:=h.lt
 have hg:=h.ge
 exact⟨m.1,h.cu.turn m.2 (by simp;omega),own_turn h.own m.2 (by simp;omega),h.trn.trans m.2 (fun i hi=>.inl hi),h.lt,h.ge⟩
theorem Sa.room {w W:World}{b g i:Nat}{s:ByteArray}{v:Value}{L:List Tk}(h:Sa w W b g i s v L):w.heap.size+1<=W.heap.size:=by have:=h.cu.lt;have:=h.ge;omega
theorem Sa.grown {w W w1:World}{b g i:Nat}{s:ByteArray}{v v':Value}{L L':List Tk}(h:Sa w W b g i s v L)(k:Below (w.heap.size+1) W w1)(o:Toks w1 (w.heap.size+1) v' L'):Sa w w1 b g i s v' L':=by
 have hb:=h.lt
 have hg:=h.ge
 have t3:=h.trn
 exact⟨h.rd.later k (by omega),h.cu.later k (by omega),o,⟨k.os.trans t3.os,k.tape.trans t3.tape,k.output.trans t3.output,Nat.le_trans t3.size k.size,fun x hx hn=>(k.block x (by omega)).trans (t3.block x hx hn)⟩,h.lt,h.ge⟩
theorem tok_kind {s:ByteArray}{i:Nat}:∀ te,tok s i=.ok te->te.1.kind≠0:=by
 intro te h
 unfold tok at h
 split at h
 ·exact word_kind h
 ·split at h
  ·exact num_kind h
  ·split at h
   ·exact enc_kind (by decide) h
   ·split at h
    ·exact enc_kind (by decide) h
    ·exact sig_kind h
theorem sig_err {s:ByteArray}{i:Nat}{e:Int}(h:sigT s i=.error e):e≠0:=by
 unfold sigT at h
 split at h
 ·cases h
 ·split at h
  ·cases h
  ·cases h;decide
theorem tok_err {s:ByteArray}{i:Nat}:∀ e,tok s i=.error e->e≠0:=by
 intro e h
 unfold tok at h
 split at h
 ·exact word_err h
 ·split at h
  ·exact num_err h
  ·split at h
   ·exact enc_err h
   ·split at h
    ·exact enc_err h
    ·exact sig_err h
set_option maxHeartbeats 16000000 in
theorem all_c (b:Nat)(s:ByteArray)(hz:s.size<=1048576)(hv:Vd s 0)(w:World)(h:Rdr w b s 0):
 Calls Tryz.prog 64 #[.pointer (some ⟨b,0,none⟩)] w (AllPost w b s (lexS s 0 [])):=by
 obtain⟨i0,hi,hz0,hz1,hz2⟩:=info_parts info_tk
 have hlt:=h.lt
 obtain⟨res,hres⟩:∃ res,Hid (res=lexS s 0 []):=⟨_,rfl⟩
 rw[<-hres.out]
 have H:=hid2 h
 have HK:=hid2 (fun i (hi:i<=s.size) (hv:Vd s i) W (hw:Rdr W b s i)=>skip_c b i s hi hz hv W hw)
 have HV:=hid2 hv
 clear h hv
 go_enter Tryz.func64,Tryz.ntmps64
 go_wp2_with fail
 have S0:Hid (Sa w (w.alloc (.cells #[.func (.func 90) #[.pointer (some ⟨b,0,none⟩)] #[],.func (.func 91) #[.pointer (some ⟨b,0,none⟩)] #[],.func (.func 92) #[.pointer (some ⟨b,0,none⟩)] #[],.func (.func 93) #[.pointer (some ⟨b,0,none⟩)] #[],.func (.func 94) #[.pointer (some ⟨b,0,none⟩)] #[]] 123)) b w.heap.size 0 s (.slice none 0 0) []):=
  ⟨H.out.next ((Below.refl _ _).alloc (Nat.le_refl _) _),Box.new w (cutsV b) _,World.ownsRow_nil _ _ _ _,Turn.of_below ((Below.refl _ _).alloc (Nat.le_refl _) _),hlt,rfl⟩
 generalize w.alloc _=W0 at *
 refine Calls.mono (HK.out 0 (by omega) HV.out W0 S0.out.rd) ?_
 rintro r w1 ⟨rfl,m1⟩
 have S1:=hid2 (S0.out.moved m1)
 clear m1 S0 H
 go_wp2_with fail
 go_loopw [5] (fun v wr=>∃ (i:Nat) (L:List Tk),i<=s.size/\L.length<=16384/\Hid (Vd s i)/\Hid (res=lexS s i L)/\Hid (Sa w wr b w.heap.size (skp s i) s v L)) (fun _ wr=>s.size-rdAt wr b)
 case atStart=>exact⟨0,[],by omega,by simp,HV,hres,S1⟩
 case round=>
  obtain⟨i,L,hil,hL,HVi,HR,HS⟩:=hrel
  clear S1 hres HV
  have hsk:=skp_in i hil
  have hvj:=skp_vd i hil HVi.out
  have E1:=hid2 (fun h=>lex_end (s:=s) (L:=L) hil h)
  have E2:=hid2 (fun h hL=>lex_many (s:=s) (L:=L) hil h hL)
  have E3:=hid2 (fun e h hL ht=>lex_no (s:=s) (L:=L) (e:=e) hil h hL ht)
  have E4:=hid2 (fun t e h hL ht=>lex_ok (s:=s) (L:=L) (t:=t) (e:=e) hil HVi.out h hL ht)
  have HP:=hid2 (fun t e h ht=>tok_past (s:=s) (i:=skp s i) (t:=t) (e:=e) h hvj ht)
  have HF:=hid2 (fun h W hw hc=>firstOf_c b w.heap.size (skp s i) 5 s h hz hvj W hw hc (by omega))
  have hkk:Hid (∀ te,tok s (skp s i)=.ok te->te.1.kind≠0):=tok_kind
  have hke:Hid (∀ e,tok s (skp s i)=.error e->e≠0):=tok_err
  generalize skp s i=j at *
  obtain⟨c0,c1,f0,f1⟩:=HS.out.rd.two
  have bl:=HS.out.rd.lt
  have HAt:=hid2 (rdAt_of HS.out.rd)
  obtain⟨va,vc,hvv⟩:=own_val HS.out.own
  subst hvv
  by_cases hlt2:j<s.size
  ·have hlt3:(j:Int)<(s.size:Int):=by omega
   by_cases hL2:L.length=16384
   ·have hE:=E2.out hlt2 hL2
    have HRR:=hid2 (HR.out.trans hE)
    have hL3:((L.length:Int)==16384)=true:=by simp[hL2]
    have hL4:(L.length:Int)=16384:=by omega
    clear E1 E2 E3 E4 HP HF hE HR hkk hke hvj
    go_wp2_with fail
    go_quiet (fail)
    have S2:=hid2 (HS.out.next (drewN_b2 wr nq))
    go_wp2_with fail
    go_ret2
    exact⟨_,by rw[HRR.out];rfl,by rw[HRR.out];rfl,⟨j,S2.out.rd,by rw[HRR.out];simp⟩,S2.out.trn⟩
   ·have hL3:((L.length:Int)==16384)=false:=beq_eq_false_iff_ne.2 (by omega)
    replace HF:=HF.out hlt2
    have HFF:=hid2 HF
    clear HF
    go_wp2_with fail
    go_quiet (fail)
    have S2:=hid2 (HS.out.next (drewN_b2 wr nq))
    generalize wr.drewN nq=W2 at *
    clear c0 c1 f0 f1
    go_wp2_with fail
    refine Calls.mono (HFF.out _ S2.out.rd S2.out.cu) ?_
    intro r w3 hh
    rcases cut_ways hkk.out (fun _=>hke.out) hh with ⟨k,x,n,a,e,ho,ht,hk,rfl,m⟩ | ⟨e,ho,ht,hk,rfl,m⟩ | ⟨ho,rfl,m⟩
    ·have S3:=hid2 (S2.out.moved m)
     have hp:=HP.out _ _ hlt2 ht
     have HRR:=hid2 (HR.out.trans (E4.out _ _ hlt2 hL2 ht))
     clear hh m E1 E2 E3 E4 HP HFF HR hkk hke hvj ht
     obtain⟨d0,d1,_,_⟩:=S3.out.rd.two
     have rm:=S3.out.room
     go_wp2_with (at_builtin;refine wpList_append_own _ rfl _ _ 49 rfl (w.heap.size+1) 47 i0 (.agg #[.int .i64 0,.string ⟨#[]⟩,.int .i64 0,.int .i64 0]) 4 40 Tryz.underlying49 hi hz0 hz1 hz2 rfl (by decide) _ _ _ rfl ((S3.out.own.alloc _).alloc _) ⟨_,0,none⟩ 1 1 [.int .i64 k,.string x,.int .i64 n,.int .i64 (a:Nat)] rfl rfl ?c1 ?c2 ?c3 ?c4 ?c5 ?_)
     case c1=>intro jj u hu;have:=cell_four_new (w3.alloc (.cells #[.int .i64 k,.string x,.int .i64 n,.int .i64 (a:Nat)] 47)) (.int .i64 k) (.string x) (.int .i64 n) (.int .i64 (a:Nat)) 47 jj u hu;simpa using this
     case c2=>intro u hu;simp at hu;rcases hu with rfl | rfl | rfl | rfl<;>rfl
     case c3=>unfold maxLen;omega
     case c4=>omega
     case c5=>simp;omega
     intro v' w4 hown' hgrow _
     have S3':=S3.out.next ((Below.refl _ _).alloc (Nat.le_refl _) (.cells #[.int .i64 k,.string x,.int .i64 n,.int .i64 (a:Nat)] 47))
     have ow:Toks w4 (w.heap.size+1) v' (L++[⟨k,x,n,a⟩]):=by
      show w4.ownsRow _ _ _ _ (L++[(⟨k,x,n,a⟩:Tk)]).length _
      rw[tks_snoc,List.length_append]
      exact hown'
     have S4:=hid2 (S3'.grown (below_own (Below.refl _ _) S3'.room _ (Nat.le_refl _) S3'.own hgrow) ow)
     have hle:(L++[(⟨k,x,n,a⟩:Tk)]).length<=16384:=by simp;omega
     have HLE:=hid2 hle
     clear hown' hgrow S3' ow S3 hle d0 d1
     go_wp2_with fail
     refine Calls.mono (HK.out e hp.2.1 hp.2.2 _ S4.out.rd) ?_
     rintro r w5 ⟨rfl,m5⟩
     have S5:=hid2 (S4.out.moved m5)
     have hse:=skp_in e hp.2.1
     clear m5 S4
     go_wp2_with fail
     go_roundw
     case rel=>exact⟨e,L++[⟨k,x,n,a⟩],hp.2.1,HLE.out,hp.2.2,HRR,S5⟩
     case measure=>rw[rdAt_of S5.out.rd,HAt.out];omega
    ·have S3:=hid2 (S2.out.moved m)
     have HRR:=hid2 (HR.out.trans (E3.out _ hlt2 hL2 ht))
     have hk2:(e != 0)=true:=by simpa using hk
     clear hh m E1 E2 E3 E4 HP HFF HR hkk hke hvj ht
     go_wp2_with fail
     go_ret2
     have S4:=S3.out.next ((Below.refl _ _).alloc (Nat.le_refl _) (.cells #[.int .i64 0,.string ⟨#[]⟩,.int .i64 0,.int .i64 0] 47))
     exact⟨_,by rw[HRR.out];rfl,by rw[HRR.out];exact(if_neg hk).mpr rfl,⟨j,S4.rd,by rw[HRR.out];simp⟩,S4.trn⟩
    ·cases ho
  ·obtain rfl:j=s.size:=by omega
   have hlt3:¬((s.size:Int)<(s.size:Int)):=by omega
   have HRR:=hid2 (HR.out.trans (E1.out hlt2))
   clear E1 E2 E3 E4 HP HF HR hkk hke hvj
   go_wp2_with fail
   go_quiet (fail)
   have S2:=hid2 (HS.out.next (drewN_b2 wr nq))
   generalize wr.drewN nq=W2 at *
   clear c0 c1 f0 f1
   obtain⟨c0,c1,f0,f1⟩:=S2.out.rd.two
   have rm:=S2.out.room
   go_wp2_with (at_builtin;refine wpList_append_own _ rfl _ _ 49 rfl (w.heap.size+1) 47 i0 (.agg #[.int .i64 0,.string ⟨#[]⟩,.int .i64 0,.int .i64 0]) 4 40 Tryz.underlying49 hi hz0 hz1 hz2 rfl (by decide) _ _ _ rfl (S2.out.own.alloc _) ⟨_,0,none⟩ 1 1 [.int .i64 7,.string ⟨#[]⟩,.int .i64 0,.int .i64 (s.size:Nat)] rfl rfl ?c1 ?c2 ?c3 ?c4 ?c5 ?_)
   case c1=>intro jj u hu;have:=cell_four_new W2 (.int .i64 7) (.string ⟨#[]⟩) (.int .i64 0) (.int .i64 (s.size:Nat)) 47 jj u hu;simpa using this
   case c2=>intro u hu;simp at hu;rcases hu with rfl | rfl | rfl | rfl<;>rfl
   case c3=>unfold maxLen;omega
   case c4=>omega
   case c5=>simp;omega
   intro v' w4 hown' hgrow _
   have ow:Toks w4 (w.heap.size+1) v' (L++[⟨7,ofL [],0,s.size⟩]):=by
    show w4.ownsRow _ _ _ _ (L++[(⟨7,ofL [],0,s.size⟩:Tk)]).length _
    rw[tks_snoc,List.length_append]
    exact hown'
   have S4:=hid2 (S2.out.grown (below_own (Below.refl _ _) S2.out.room _ (Nat.le_refl _) S2.out.own hgrow) ow)
   clear hown' hgrow ow S2
   go_wp2_with fail
   go_ret2
   exact⟨_,by rw[HRR.out];rfl,by rw[HRR.out];exact own_mono S4.out.own (by omega),⟨s.size,S4.out.rd,by rw[HRR.out];simp⟩,S4.out.trn⟩
theorem lexF_place (s:ByteArray):∀ (f i:Nat) (L:List Tk),(lexF s f i L).2.2=0->(lexF s f i L).2.1=0
 | 0,_,_,_=>rfl
 | f+1,i,L,h=>by
   simp only[lexF] at h ⊢
   split
   ·rename_i h1
    rw[if_pos h1] at h
    split
    ·rename_i h2
     rw[if_pos h2] at h
     cases h
    ·rename_i h2
     rw[if_neg h2] at h
     cases ht:tok s (skp s i) with
     | error e=>
       rw[ht] at h
       exact absurd h (tok_err _ ht)
     | ok te=>
       rw[ht] at h
       exact lexF_place s f _ _ h
   ·rfl
theorem lexS_place {s:ByteArray}{i:Nat}{L:List Tk}(h:(lexS s i L).2.2=0):(lexS s i L).2.1=0:=lexF_place s _ _ _ h
def CutP (s:ByteArray)(w:World)(e:Ending)(w':World):Prop:=
 ∃ v,e=.returned (.tuple #[v,.int .i64 ((cutS s).2.1:Nat),.int .i64 (cutS s).2.2])/\(if (cutS s).2.2=0 then Toks w' w.heap.size v (cutS s).1 else v=.slice none 0 0)/\Below w.heap.size w w'
set_option maxHeartbeats 4000000 in
theorem cut_c (s:ByteArray)(hz:s.size<=562949953421312)(w:World)(hT:TabsAt w):Calls Tryz.prog 41 #[.string s] w (CutP s w):=by
 obtain⟨res,hres⟩:∃ res,Hid (res=cutS s):=⟨_,rfl⟩
 have hP:Hid (∀ v w',(if res.2.2=0 then Toks w' w.heap.size v res.1 else v=.slice none 0 0)->Below w.heap.size w w'->CutP s w (.returned (.tuple #[v,.int .i64 (res.2.1:Nat),.int .i64 res.2.2])) w'):=fun v w' h1 h2=>by
  unfold CutP
  rw[<-hres.out]
  exact⟨v,rfl,h1,h2⟩
 by_cases hlong:1048576<s.size
 ·have hr:Hid (res=([],0,2)):=by show _=_;rw[hres.out];exact if_pos hlong
  have hl:(1048576:Int)<(s.size:Int):=by omega
  clear hres
  generalize CutP s w=Post at *
  go_enter Tryz.func41,Tryz.ntmps41
  go_wp2_with fail
  go_ret3
  have:=hP.out (.slice none 0 0) w (by rw[hr.out];rfl) (Below.refl _ _)
  rw[hr.out] at this
  exact this
 ·have hl:¬((1048576:Int)<(s.size:Int)):=by omega
  have HC:=hid2 (check_c s hz w hT)
  by_cases hs:(sd 10 11 s (rs s 0)).2=0
  ·have hr:Hid (res=lexS s 0 []):=by show _=_;rw[hres.out];exact cut_ok (by omega) hs
   rw[chkV_ok hs] at HC
   have HA:=hid2 (fun W b (h:Rdr W b s 0)=>all_c b s (by omega) hs W h)
   have hpl:Hid (res.2.2=0->res.2.1=0):=fun h=>by rw[hr.out] at h ⊢;exact lexS_place h
   rw[<-hr.out] at HA
   clear hres hs hr hT
   generalize (rs s 0).length=nn at *
   generalize CutP s w=Post at *
   go_enter Tryz.func41,Tryz.ntmps41
   go_wp2_with fail
   refine Calls.mono HC.out ?_
   rintro r w1 ⟨rfl,b1⟩
   go_wp2_with fail
   have hb:Hid (Rdr (w1.alloc (.cells #[.string s,.int .i64 0] 97)) w1.heap.size s 0):=Box.new w1 [.string s,.int .i64 0] 97
   have b2:Below w.heap.size w (w1.alloc (.cells #[.string s,.int .i64 0] 97)):=b1.alloc b1.size _
   have hz2:(w1.alloc (.cells #[.string s,.int .i64 0] 97)).heap.size=w1.heap.size+1:=by simp
   have hge:=b1.size
   generalize w1.alloc _=W2 at *
   refine Calls.mono (HA.out _ _ hb.out) ?_
   rintro r w3 ⟨v,rfl,hv,⟨at_,hrd,hat⟩,htr⟩
   have hB:Hid (Below w.heap.size w w3):=b2.trans (htr.below (by simp;omega) (by omega))
   obtain⟨c0,c1,_,_⟩:=hrd.two
   have bl:=hrd.lt
   have HV:=hid2 hv
   clear hv hrd htr HA HC b2 hb b1
   by_cases he:res.2.2=0
   ·have hpp:=hpl.out he
    have HF:=hid2 (hP.out v w3 (by rw[if_pos he];have:=HV.out;rw[if_pos he] at this;exact own_mono this (by omega)) hB.out)
    rw[he,hpp] at HF
    have he2:(res.2.2 != 0)=false:=by simp[he]
    clear hP HV
    rw[he]
    go_wp2_with fail
    go_ret3
    exact HF.out
   ·have hpp:=hat he
    have hv2:=HV.out
    rw[if_neg he] at hv2
    subst hv2
    have HF:=hid2 (fun q=>hP.out (.slice none 0 0) (w3.drewN q) (by rw[if_neg he]) (below_on hB.out (drewN_b2 w3 q) hB.out.size))
    have he2:(res.2.2 != 0)=true:=by simpa using he
    clear hP HV hat hpl
    generalize res.2.2=ee at *
    go_wp2_with fail
    go_quiet (fail)
    go_wp2_with fail
    go_ret3
    exact HF.out _
  ·have hr:Hid (res=([],sd 10 11 s (rs s 0))):=by show _=_;rw[hres.out];unfold cutS;rw[if_neg hlong,if_neg hs]
   have hcv:=chkV_no (s:=s) (p:=(sd 10 11 s (rs s 0)).1) (e:=(sd 10 11 s (rs s 0)).2) rfl hs
   rw[hcv] at HC
   have hs2:((sd 10 11 s (rs s 0)).2 != 0)=true:=by simpa using hs
   have HF:=hid2 (fun w1 (b1:Below w.heap.size w w1)=>hP.out (.slice none 0 0) w1 (by rw[hr.out,if_neg hs]) b1)
   rw[hr.out] at HF
   clear hres hr hT hP hcv
   generalize (sd 10 11 s (rs s 0)).1=pl at *
   generalize (sd 10 11 s (rs s 0)).2=ee at *
   generalize CutP s w=Post at *
   go_enter Tryz.func41,Tryz.ntmps41
   go_wp2_with fail
   refine Calls.mono HC.out ?_
   rintro r w1 ⟨rfl,b1⟩
   go_wp2_with fail
   go_ret3
   exact HF.out _ b1
end Go.Proofs.YtecdfnpbcabdnaaGreatDoor
