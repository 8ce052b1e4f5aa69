import Derived.Test.YtbddbnjhmdbkbaaGreatDoorCbKdY
import Derived.Test.YtbddbnjhmdbkbaaGreatDoorCbKeE
namespace Go.Proofs.YtbddbnjhmdbkbaaGreatDoor
open Go.RowKit
theorem a7Q {q:Co->Co->Bool}{p:PlP}{G:PgP}{er:Int}(h:a1y q p=(G,er))(he:er≠0):G=pg0:=by
 unfold a1y at h
 split at h
 ·exact(Prod.mk.inj h).1.symm
 ·split at h
  ·exact(Prod.mk.inj h).1.symm
  ·exact absurd (Prod.mk.inj h).2.symm he
theorem a7P {q:Co->Co->Bool}{p:PlP}{G:PgP}(h:a1y q p=(G,0)):G.C.length<=16384/\G.K.length<=16384:=by
 unfold a1y at h
 by_cases hf:a0O q p=false
 ·rw[if_pos hf] at h
  exact absurd (Prod.mk.inj h).2 (by decide)
 ·rw[if_neg hf] at h
  by_cases hl:a1j (a0C p)=true
  ·rw[if_pos hl] at h
   exact absurd (Prod.mk.inj h).2 (by decide)
  ·rw[if_neg hl] at h
   obtain rfl:=(Prod.mk.inj h).1
   unfold a1j at hl
   simp only[Bool.or_eq_true,decide_eq_true_eq,not_or] at hl
   omega
theorem a7O {q:Co->Co->Bool}{p:PlP}{G:PgP}(h:a1y q p=(G,0)):p.loc<=256:=by
 unfold a1y at h
 by_cases hf:a0O q p=false
 ·rw[if_pos hf] at h
  exact absurd (Prod.mk.inj h).2 (by decide)
 ·have hf':a0O q p=true:=by simpa using hf
  unfold a0O at hf'
  simp only[Bool.and_eq_true] at hf'
  exact(of_decide_eq_true hf'.1.1.1.1.1).2.2.2.2
theorem a9I (op:Int)(w:World)(h:op=29\/op=30\/op=31):Calls Tryz.prog 21 #[.int .i64 op] w fun e w'=>e=.returned (.bool true)/\w'=w:=by
 rcases h with rfl | rfl | rfl
 all_goals
  go_enter Tryz.func21,Tryz.ntmps21
  go_wp2_with fail
  go_ret
  exact⟨rfl,rfl⟩
set_option maxHeartbeats 4000000 in
set_option maxRecDepth 20000 in
theorem a3P (HEm:a9t)(p:PlP)(v:PlV)(w:World)(hs:a3a w p v)(hp:PWt p)(hF:a1M w)(hP:a4m w w.heap.size)(hm:p.wins.length*32<=140737488355328/\p.crons.length*40<=140737488355328/\C64 p.mets.length):
 Calls Tryz.prog 6 #[plV p v] w fun r w'=>r=.returned (.bool true)/\Below w.heap.size w w':=by
 classical
 obtain⟨q,hq⟩:∃ q:Co->Co->Bool,∀ a b,q a b=true↔a=b:=⟨fun a b=>decide (a=b),fun a b=>by simp⟩
 have hPW:∀ W,Below w.heap.size w W->a4m W W.heap.size:=fun W hW=>⟨ZA hP.lt hW.size,ZA hP.lw hW.size,(hP.next hW).at'⟩
 have HAw:=a0a (fun W (hW:Below w.heap.size w W)=>a7f HEm W (hF.later hW) (hPW W hW))
 have HFw:=a0a (fun W (hW:Below w.heap.size w W)=>a8X p v W (hs.next hW) hp.gs)
 have HPl:=a0a (fun W (hW:Below w.heap.size w W)=>HEm q hq p v W (hs.next hW) (hF.later hW) (hPW W hW) hm.1 hm.2.1 hm.2.2)
 obtain⟨a1,c1,a2,c2,a3,c3,a4,c4,a5,c5,rfl,g1,g2,g3,g4⟩:=hs.shapes
 have B0:=a0a (a0t w (.cells (plL p ⟨.slice a1 p.mets.length c1,.slice a2 p.wins.length c2,.slice a3 p.crons.length c3,.slice a4 p.gs.length c4,.slice a5 p.fin.parts.length c5⟩).toArray 32))
 have HY0:=a0a (Box.new w (plL p ⟨.slice a1 p.mets.length c1,.slice a2 p.wins.length c2,.slice a3 p.crons.length c3,.slice a4 p.gs.length c4,.slice a5 p.fin.parts.length c5⟩) 32)
 clear hs hF hp hP hm hq g1 g2 g3 g4 hPW HEm
 obtain⟨Q,er,hR⟩:∃ Q er,Hid (a1y q p=(Q,er)):=⟨_,_,rfl⟩
 rw[hR.out] at HPl
 dsimp only at HPl
 go_enter Tryz.func6,Tryz.ntmps6
 go_wp2_with fail
 refine ZF (HAw.out _ B0.out) ?_
 rintro e w1 ⟨rfl,b1⟩
 have B1:=kb B0 b1
 replace HY0:=kn HY0 b1
 clear b1 B0
 obtain⟨x0,x1,x2,x3,x4,x5,x6,x7,x8,x9,x10,x11,x12,x13⟩:=Box.c14 HY0.out
 have xl:=HY0.out.lt
 go_wp2_with fail
 refine ZF (HFw.out _ B1.out) ?_
 rintro e w2 ⟨rfl,b2⟩
 have B2:=kb B1 b2
 replace HY0:=kn HY0 b2
 clear b2 B1 x0 x1 x2 x3 x4 x5 x6 x7 x8 x9 x10 x11 x12 x13 xl HFw
 cases hfw:a9W p with
 | false=>
   go_wp2_with fail
   refine ZF (HAw.out _ B2.out) ?_
   rintro e w3 ⟨rfl,b3⟩
   have B3:=kb B2 b3
   clear b3
   go_wp2_with fail
   go_ret
   exact⟨rfl,B3.out⟩
 | true=>
   clear HAw hfw
   obtain⟨x0,x1,x2,x3,x4,x5,x6,x7,x8,x9,x10,x11,x12,x13⟩:=Box.c14 HY0.out
   have xl:=HY0.out.lt
   go_wp2_with fail
   refine ZF (HPl.out _ B2.out) ?_
   rintro r w3 ⟨u,rfl,pu,b3⟩
   have B3:=kb B2 b3
   replace HY0:=kn HY0 b3
   obtain⟨ak,ck,e1⟩:=a0k pu.k
   obtain⟨aw,cw,e2⟩:=a0k pu.wi
   obtain⟨ar,cr,e3⟩:=a0k pu.cr
   obtain⟨ac,cc,e4⟩:=a0k pu.c
   obtain⟨vk,vw,vr,vc⟩:=u
   simp only at e1 e2 e3 e4
   subst e1 e2 e3 e4
   have HPu:=a0a pu
   clear pu b3 B2 x0 x1 x2 x3 x4 x5 x6 x7 x8 x9 x10 x11 x12 x13 xl HPl
   have HB4:=a0a (fun o=>B3.out.alloc B3.out.size o)
   by_cases her:er=0
   ·subst her
    obtain⟨hG,hloc,hall,hlast⟩:=a9a hR.out
    have HAll:=a0a hall
    have HLen:=a0a (a7P hR.out)
    have HLoc:=a0a (a7O hR.out)
    have HRd:Hid ((∀ (i:Nat) (x:Ins),Q.C[i]? = some x->∃ g,ac=some ⟨g,0,none⟩/\g<w3.heap.size/\w3.cell? ⟨g,i*2,none⟩=some (.int .i64 x.1)/\w3.cell? ⟨g,i*2+1,none⟩=some (.int .i64 x.2))/\∀ (i:Nat) (y:Int),Q.K[i]? = some y->∃ g,ak=some ⟨g,0,none⟩/\g<w3.heap.size/\w3.cell? ⟨g,i,none⟩=some (.int .i64 y)):=a0a (by
     refine⟨fun i x hx=>?_,fun i y hy=>?_⟩
     ·obtain⟨h1,⟨h2,h3⟩ | ⟨g,cap,cur,h2,h3,h4,h5,h6,h7,h8⟩⟩:=HPu.out.c
      ·have:=(List.getElem?_eq_some_iff.1 hx).1;omega
      ·have BX:Box w3 g (flI Q.C):=(Box.ofBlock h4).part (by rw[<-h8];exact List.take_prefix _ _)
       exact⟨g,(Value.slice.inj h2).1,BX.lt,BX.cell _ _ (a3l Q.C i x hx).1,BX.cell _ _ (a3l Q.C i x hx).2⟩
     ·obtain⟨h1,⟨h2,h3⟩ | ⟨g,cap,cur,h2,h3,h4,h5,h6,h7,h8⟩⟩:=HPu.out.k
      ·have:=(List.getElem?_eq_some_iff.1 hy).1;omega
      ·have BX:Box w3 g (flK Q.K):=(Box.ofBlock h4).part (by rw[<-h8];exact List.take_prefix _ _)
       exact⟨g,(Value.slice.inj h2).1,BX.lt,BX.cell i _ (by simp[flK,hy])⟩)
    obtain⟨N,hN⟩:∃ N,Hid (N=Q.C.length):=⟨_,a0a rfl⟩
    obtain⟨M,hM⟩:∃ M,Hid (M=Q.K.length):=⟨_,a0a rfl⟩
    have hNs:N<=9223372036854775807:=by
     have h:=HPu.out.c
     obtain⟨h1,⟨h2,h3⟩ | ⟨g,cap,cur,h2,h3,h4,h5,h6,h7,h8⟩⟩:=h
     ·rw[hN.out,h3];omega
     ·have h9:cap<=9223372036854775807:=h6
      rw[hN.out];omega
    have hMs:M<=9223372036854775807:=by
     have h:=HPu.out.k
     obtain⟨h1,⟨h2,h3⟩ | ⟨g,cap,cur,h2,h3,h4,h5,h6,h7,h8⟩⟩:=h
     ·rw[hM.out,h3];omega
     ·have h9:cap<=9223372036854775807:=h6
      rw[hM.out];omega
    obtain⟨lx,hlx,hlo⟩:=hlast
    have hC0:0<Q.C.length:=by
     cases hc:Q.C with
     | nil=>rw[hc] at hlx;cases hlx
     | cons a r=>simp
    have HLx:Hid (Q.C[Q.C.length-1]? = some lx):=a0a (by rw[<-List.getLast?_eq_getElem?];exact hlx)
    have HLo:=a0a hlo
    have HGm:Hid (Q.met=p.mets.length/\Q.ru=p.ru/\Q.loc=p.loc):=a0a (by rw[hG];exact⟨rfl,rfl,rfl⟩)
    have HLc:=a0a hloc
    clear hR hG hlx hlo hall hloc HB4 hC0
    have HB3:=a0a B3.out
    obtain⟨Qm,Qr,QK,Qw,Qc,Ql,Qh,QC⟩:=Q
    dsimp only at *
    obtain⟨g1,g2,g3⟩:Qm=(p.mets.length:Int)/\Qr=p.ru/\Ql=p.loc:=HGm.out
    clear HGm
    subst g1 g2 g3
    rw[<-hN.out,<-hM.out]
    have HK3:=a0a (a0t w3 (.cells #[.int .i64 (p.mets.length:Nat),.int .i64 p.ru.mn,.int .i64 p.ru.mx,.int .i64 p.ru.st,.int .i64 p.ru.up,.int .i64 p.ru.dn,.slice ak M ck,.slice aw Qw.length cw,.slice ar Qc.length cr,.int .i64 p.loc,.int .i64 Qh,.slice ac N cc] 55))
    have HB5:=a0a (a0c HB3.out HK3.out HB3.out.size)
    have HYq:=a0a (Box.new w3 [.int .i64 (p.mets.length:Nat),.int .i64 p.ru.mn,.int .i64 p.ru.mx,.int .i64 p.ru.st,.int .i64 p.ru.up,.int .i64 p.ru.dn,.slice ak M ck,.slice aw Qw.length cw,.slice ar Qc.length cr,.int .i64 p.loc,.int .i64 Qh,.slice ac N cc] 55)
    have HYp:=a0a (HY0.out.next HK3.out)
    obtain⟨v0,v1,v2,v3⟩:=Box.c4 HYp.out
    have v4:=HYp.out.cell 4 _ rfl
    have v5:=HYp.out.cell 5 _ rfl
    have v8:=HYp.out.cell 8 _ rfl
    have vl:=HYp.out.lt
    have q0:=HYq.out.cell 0 _ rfl
    have q11:=HYq.out.cell 11 _ rfl
    have hN0':((N:Int)==0)=false:=by have h:=(List.getElem?_eq_some_iff.1 HLx.out).1;have:=hN.out;simp;omega
    have hNp:N≠0:=by have h:=(List.getElem?_eq_some_iff.1 HLx.out).1;have:=hN.out;omega
    have hw1:IntKind.i64.wrap ((N:Int)-1)=(N:Int)-1:=by rw[IntKind.wrap_i64];omega
    obtain⟨g,rfl,hgl,lc0,lc1⟩:=HRd.out.1 _ _ HLx.out
    rw[<-hN.out] at lc0 lc1
    go_wp2_with fail
    refine ZF (a9I lx.1 _ HLo.out) ?_
    rintro e wz ⟨rfl,hwz⟩
    subst hwz
    go_wp2_with fail
    generalize hX:(w3.alloc _)=X3 at *
    clear hX v0 v1 v2 v3 v4 v5 v8 vl q0 q11 lc0 lc1 hgl hNp
    go_loopw [6] (fun i wr=>∃ (j:Nat),i=.int .i64 (j:Nat)/\j<=N/\Hid (Below X3.heap.size X3 wr)) (fun i _=>match i with | .int _ z=>((N:Int)-z).toNat | _=>0)
    case atStart=>exact⟨0,rfl,Nat.zero_le _,a0a (ZE _ _)⟩
    case round=>
     obtain⟨j,rfl,hj,HW⟩:=hrel
     by_cases hlt:j<N
     ·have hlt':(j:Int)<(N:Int):=by omega
      have hwj:IntKind.i64.wrap ((j:Int)+1)=(j:Int)+1:=by rw[IntKind.wrap_i64];omega
      have hjl:j<QC.length:=by rw[<-hN.out];exact hlt
      have hxx:QC[j]? = some QC[j]:=List.getElem?_eq_getElem hjl
      generalize QC[j]=x at hxx
      obtain⟨xo,xa⟩:=x
      have HIn:Hid (a5p p.loc.toNat (N-1) QK j (xo,xa)):=a0a (by have h:=HAll.out j _ hxx;rw[<-hN.out] at h;exact h)
      obtain⟨g',hgg,hgl,e0,e1⟩:=HRd.out.1 j _ hxx
      obtain rfl:g=g':=by have:=Option.some.inj hgg;exact(Addr.mk.inj this).1
      have HKr:Hid (Below w3.heap.size w3 wr):=a0a (a0c HK3.out HW.out HK3.out.size)
      have y0:=a0j HKr.out e0
      have y1:=a0j HKr.out e1
      have gl:g<wr.heap.size:=ZA hgl HKr.out.size
      have hja:((j:Int)).toNat=j:=by omega
      have ba:=a0t wr (.cells #[.int .i64 xo,.int .i64 xa] 61)
      have HWa:=kb HW ba
      have Yq:=HYq.out.next HW.out
      have x6:=Yq.cell 6 _ rfl
      have x11:=Yq.cell 11 _ rfl
      have xl:=Yq.lt
      have Yp:=HYp.out.next HW.out
      have v8:=Yp.cell 8 _ rfl
      have vl:=Yp.lt
      clear hxx hgg e0 e1 hgl ba hjl Yq Yp
      by_cases hjm:xo=23\/xo=24\/xo=25\/xo=26
      ·obtain⟨h1,h2⟩:=HIn.out.jump hjm
       simp only at h1 h2
       have hn1:¬ xa<=(j:Int):=by omega
       have hn2:¬(N:Int)<=xa:=by omega
       have hn1':decide (xa<=(j:Int))=false:=by simp;omega
       have hn2':decide ((N:Int)<=xa)=false:=by simp;omega
       clear h1 h2
       rcases hjm with rfl | rfl | rfl | rfl
       all_goals
        go_wp2_with fail
        exact⟨⟨j+1,by go_num,by omega,HWa⟩,by simp;omega⟩
      ·by_cases h27:xo=27
       ·subst h27
        obtain⟨nn,to,n1,n2,t1,t2,hxa⟩:=HIn.out.have_ rfl
        simp only at hxa
        have hto:to<16384:=by have:=HLen.out.1;have:=hN.out;omega
        have hlc2:nn<p.loc:=by have:=HLc.out;omega
        have hlc3:p.loc<=256:=HLoc.out
        subst hxa
        have hq1:wrap64 ((nn*16384+to).tdiv 16384)=nn:=by
         rw[Int.tdiv_eq_ediv_of_nonneg (by omega)]
         have:(nn*16384+to)/16384=nn:=by omega
         rw[this]
         unfold wrap64
         omega
        have hq2:to%16384=to:=by omega
        have hn1:¬ to<=(j:Int):=by omega
        have hn2:¬(N:Int)<=to:=by omega
        have hn3:¬ p.loc<=nn:=by omega
        have hn1':decide (to<=(j:Int))=false:=by simp;omega
        have hn2':decide ((N:Int)<=to)=false:=by simp;omega
        clear hto t1 t2 hjm
        go_wp2_with fail
        exact⟨⟨j+1,by go_num,by omega,HWa⟩,by simp;omega⟩
       ·by_cases h1:xo=1
        ·subst h1
         obtain⟨kk,hk,vv,hv,-⟩:=HIn.out.num rfl
         simp only at hk
         have hkM:kk<M:=by rw[hM.out];exact(List.getElem?_eq_some_iff.1 hv).1
         subst hk
         have hk0:¬(kk:Int)<0:=by omega
         have hk1:¬(M:Int)<=(kk:Int):=by omega
         have hk1':decide ((M:Int)<=(kk:Int))=false:=by simp;omega
         clear hjm h27 hv
         go_wp2_with fail
         exact⟨⟨j+1,by go_num,by omega,HWa⟩,by simp;omega⟩
        ·by_cases h11:xo=11
         ·subst h11
          obtain⟨kk,hk,hkM⟩:=HIn.out.scale rfl
          simp only at hk
          subst hk
          rw[<-hM.out] at hkM
          have hwM:IntKind.i64.wrap ((M:Int)-1)=(M:Int)-1:=by rw[IntKind.wrap_i64];omega
          have hk0:¬(kk:Int)<0:=by omega
          have hk1:¬(M:Int)-1<=(kk:Int):=by omega
          have hk1':decide ((M:Int)-1<=(kk:Int))=false:=by simp;omega
          clear hjm h27 h1 hkM
          go_wp2_with fail
          exact⟨⟨j+1,by go_num,by omega,HWa⟩,by simp;omega⟩
         ·have c1:(xo==27)=false:=by simpa using h27
          have c2:(xo==23)=false:=by simp;omega
          have c3:(xo==24)=false:=by simp;omega
          have c4:(xo==25)=false:=by simp;omega
          have c5:(xo==26)=false:=by simp;omega
          have c6:(xo==1)=false:=by simpa using h1
          have c7:(xo==11)=false:=by simpa using h11
          clear hjm h27 h1 h11
          go_wp2_with fail
          exact⟨⟨j+1,by go_num,by omega,HWa⟩,by simp;omega⟩
     ·have hlt':¬(j:Int)<(N:Int):=by omega
      go_wp2_with fail
      go_ret
      exact⟨rfl,a0c HB5.out HW.out HB5.out.size⟩
   ·have her':(er != 0)=true:=by simpa using her
    obtain rfl:=a7Q hR.out her
    have HSm:=a0a (fun W (hW:Below w3.heap.size w3 W)=>a7m pg0 _ ⟨.slice none 0 0,.slice none 0 0,.slice none 0 0,.slice none 0 0⟩ W (HPu.out.rd.next hW) (a3f W 0).rd)
    have HA3:=a0a (fun o=>a0t w3 o)
    go_wp2_with fail
    refine ZF (HSm.out _ (HA3.out _)) ?_
    rintro e w4 ⟨rfl,b4⟩
    have B4:=a0a (a0c (HB4.out _) b4 (HB4.out _).size)
    clear b4
    go_wp2_with fail
    go_ret
    exact⟨rfl,B4.out⟩
end Go.Proofs.YtbddbnjhmdbkbaaGreatDoor
