import Derived.Test.YtecdfnpbcabdnaaGreatDoorMgB
import Derived.Test.YtecdfnpbcabdnaaGreatDoorMgC
import Derived.Test.YtecdfnpbcabdnaaGreatDoorMhB
import Derived.Test.YtecdfnpbcabdnaaGreatDoorMiH
import Derived.Lib.ParseIntBCases
import Derived.Lib.AtoiErrMem
namespace Go.Proofs.YtecdfnpbcabdnaaGreatDoor
open Go.RowKit
theorem foldl_ge (W:List UInt8)(n:Nat):n<=W.foldl vstep n:=by
 rw[foldl_val]
 have:1<=10^W.length:=Nat.one_le_pow _ _ (by decide)
 have:n*1<=n*10^W.length:=Nat.mul_le_mul_left _ this
 omega
theorem parseM (W:List UInt8)(M:Nat)(hM:999999<=M):∀ acc,W.all isD=true->W.foldl vstep acc<=999999->Lib.parseUintM M acc W=.ok (W.foldl vstep acc):=by
 induction W with
 | nil=>intro acc _ _;rfl
 | cons c r ih=>
   intro acc ha hv
   rw[List.all_cons,Bool.and_eq_true] at ha
   have hc:=isD_iff.1 ha.1
   rw[List.foldl_cons] at hv ⊢
   have h1:=foldl_ge r (vstep acc c)
   have e:vstep acc c=acc*10+(c.toNat-48):=rfl
   rw[Lib.parseUintM,if_pos hc,if_neg (by omega),if_neg (by omega),<-e]
   exact ih _ ha.2 hv
theorem parse_digits (W:List UInt8)(ha:W.all isD=true)(hn:W≠[])(hv:val W<=999999):Lib.parseIntB 64 W=.ok (val W:Int):=by
 cases W with
 | nil=>exact absurd rfl hn
 | cons c r=>
   have ha':=ha
   rw[List.all_cons,Bool.and_eq_true] at ha'
   have hc:=isD_iff.1 ha'.1
   have hp:Lib.parseUintB 64 (c::r)=.ok (val (c::r)):=by
    unfold Lib.parseUintB
    rw[if_neg (by simp)]
    exact parseM (c::r) _ (by decide) 0 ha hv
   rw[Lib.parseIntB_plain 64 c r (by omega) (by omega),hp]
   show (if 2^(64-1)<=val (c::r) then _ else _)=_
   rw[if_neg]
   have:(2:Nat)^(64-1)=9223372036854775808:=by decide
   omega
theorem parse_any (W:List UInt8)(ha:W.all isD=true)(hn:W≠[])(hv:val W<=999999)(hz:W.length<=6)(w:World):
 Calls Tryz.prog 126 #[strV W,.int .i64 10,.int .i64 64] w fun e w'=>e=.returned (.tuple #[.int .i64 (val W:Nat),.nilIface])/\Below w.heap.size w w':=by
 refine(Go.Proofs.Tryz.strconv_ParseInt_10_at64_ok ⟨W.toArray⟩ (by rw[Lib.size_mk];omega) (val W:Int) (parse_digits W ha hn hv) w).mono ?_
 rintro e w' ⟨h,hw⟩
 refine⟨h,?_⟩
 rcases hw with rfl | ⟨t,rfl⟩
 ·exact Below.refl _ _
 ·exact Lib.bytesWorld_below _ _ _
def digW (l:List UInt8)(k:Nat):List UInt8:=(l.drop k).take (runL l k)
theorem digW_eq (l:List UInt8)(k:Nat):digW l k=(l.drop k).takeWhile isD:=by
 unfold digW runL
 have:=List.takeWhile_append_dropWhile (p:=isD) (l:=l.drop k)
 conv=>lhs;rw[<-this]
 conv=>lhs;lhs;rw[this]
 rw[List.take_left]
theorem digW_all (l:List UInt8)(k:Nat):(digW l k).all isD=true:=by rw[digW_eq];exact run_all _
theorem digW_len (l:List UInt8)(k:Nat):(digW l k).length=runL l k:=by rw[digW_eq];rfl
theorem digW_split (l:List UInt8)(k:Nat):l.drop k=digW l k++l.drop (k+runL l k):=by
 unfold digW
 rw[<-List.drop_drop,List.take_append_drop]
theorem digW_rest (l:List UInt8)(k:Nat):l.drop (k+runL l k)=(l.drop k).dropWhile isD:=by
 have h1:=digW_split l k
 have h2:=split_run (l.drop k)
 rw[<-digW_eq] at h2
 exact List.append_cancel_left (h1.symm.trans h2)
theorem runL_le (l:List UInt8)(k:Nat)(h:k<=l.length):k+runL l k<=l.length:=by
 have:=congrArg List.length (digW_split l k)
 rw[List.length_append,digW_len,List.length_drop,List.length_drop] at this
 omega
theorem digW_head (l:List UInt8)(k:Nat)(h:k<l.length)(hf:1<=runL l k):(digW l k).head? = some l[k]:=by
 have e:=digW_split l k
 rw[List.drop_eq_getElem_cons h] at e
 have hl:=digW_len l k
 cases hd:digW l k with
 | nil=>rw[hd] at hl;simp at hl;omega
 | cons b t=>rw[hd] at e;rw[List.cons_append] at e;injection e with e1 _;rw[e1];rfl
section
variable {l:List UInt8} {k sm nx:Nat}
theorem At10.none_run (h:At10 l k sm 0 nx)(hk:k<l.length)(hf:runL l k<1):spanR l=.tuple #[.int .i64 0,.int .i64 13]:=by
 refine h.no hk ?_ (.inr rfl)
 cases hd:isD l[k] with
 | false=>rfl
 | true=>rw[runL_yes l k hk hd] at hf;omega
theorem At10.by_run (h:At10 l k sm 0 nx)(hk:k<l.length)(hf:1<=runL l k):spanN l=if l[k]=48\/6<runL l k then none else sp sm (val (digW l k)) nx (l.drop (k+runL l k)):=by
 rw[h.e,digW_split l k,sp_run sm nx _ _ (digW_all l k) (by intro e;have:=digW_len l k;rw[e] at this;simp at this;omega),digW_head l k hk hf,digW_len]
 simp only[Option.some.injEq]
theorem At10.bad_run (h:At10 l k sm 0 nx)(hk:k<l.length)(hf:1<=runL l k)(hb:l[k]=48\/6<runL l k):spanR l=.tuple #[.int .i64 0,.int .i64 13]:=
 spanR_no (by rw[h.by_run hk hf,if_pos hb])
theorem val_ne (hk:k<l.length)(hf:1<=runL l k)(h48:l[k]≠48):val (digW l k)≠0:=by
 refine val_pos _ (digW_all l k) (by intro e;have:=digW_len l k;rw[e] at this;simp at this;omega) ?_
 rw[digW_head l k hk hf]
 exact fun e=>h48 (Option.some.inj e)
theorem At10.end_run (h:At10 l k sm 0 nx)(hk:k<l.length)(hf:1<=runL l k)(he:l.length<=k+runL l k):spanR l=.tuple #[.int .i64 0,.int .i64 13]:=by
 by_cases hb:l[k]=48\/6<runL l k
 ·exact h.bad_run hk hf hb
 ·refine spanR_no ?_
  rw[h.by_run hk hf,if_neg hb,List.drop_of_length_le he,sp_nil,if_neg]
  rintro⟨h0,_⟩
  exact val_ne hk hf (fun e=>hb (.inl e)) h0
theorem At10.letter (_h:At10 l k sm 0 nx)(he:k+runL l k<l.length):isD l[k+runL l k]=false:=by
 have h1:=digW_rest l k
 rw[List.drop_eq_getElem_cons he] at h1
 exact drop_head (l.drop k) _ _ h1.symm
theorem At10.no_part (h:At10 l k sm 0 nx)(hk:k<l.length)(hf:1<=runL l k)(hg:¬(l[k]=48\/6<runL l k))(he:k+runL l k<l.length)(hp:Go.Proofs.YtecdfnpbcabdnaaGreatDoor.part l[k+runL l k].toNat nx=none):spanR l=.tuple #[.int .i64 0,.int .i64 13]:=
 spanR_no (by rw[h.by_run hk hf,if_neg hg,List.drop_eq_getElem_cons he,sp_no _ _ _ _ _ (h.letter he) (.inl hp)])
theorem At10.one_part {j:Nat}(h:At10 l k sm 0 nx)(hk:k<l.length)(hf:1<=runL l k)(hg:¬(l[k]=48\/6<runL l k))(he:k+runL l k<l.length)(hp:Go.Proofs.YtecdfnpbcabdnaaGreatDoor.part l[k+runL l k].toNat nx=some j):
 At10 l (k+(runL l k+1)) (sm+val (digW l k)*wrt j) 0 (j+1)/\val (digW l k)<=999999:=by
 have hv:val (digW l k)<=999999:=val_six _ (digW_all l k) (by rw[digW_len];omega)
 have hn:=val_ne hk hf (fun e=>hg (.inl e))
 obtain⟨h1,h2,_⟩:=part_some hp
 have h3:val (digW l k)*wrt j<=999999*86400:=Nat.mul_le_mul hv (wrt_le j)
 have h4:=h.s
 have h5:nx*86399913600<=j*86399913600:=Nat.mul_le_mul_right _ h1
 exact⟨⟨by omega,by omega,by omega,by rw[h.by_run hk hf,if_neg hg,List.drop_eq_getElem_cons he,sp_part _ _ _ _ _ _ (h.letter he) hp hn,Nat.add_assoc]⟩,hv⟩
end
abbrev wcells:List Value:=[.int .i64 86400,.int .i64 3600,.int .i64 60,.int .i64 1]
theorem wcell (j:Nat)(h:j<4):wcells[j]? = some (.int .i64 (wrt j:Nat)):=by
 rcases four h with rfl | rfl | rfl | rfl<;>rfl
theorem lett (j:Nat)(h:j<4)(w:World):(Instr.index 9 (.string ⟨#[100,104,109,115]⟩) (.int .i64 j)).run Tryz.prog w=.ok (.int .u8 (ltr j:Nat)) w:=by
 have:=idx_at [100,104,109,115] j (by simpa using h) w
 rcases four h with rfl | rfl | rfl | rfl<;>exact this
theorem below_n {B:Nat}{a w:World}(h:Below B a w)(n:Nat):Below B a (w.drewN n):=⟨h.os,h.tape,h.output,h.size,h.block⟩
theorem box_n {w:World}{g:Nat}{vs:List Value}(h:Box w g vs)(n:Nat):Box (w.drewN n) g vs:=h.next (drewN_b w n)
set_option maxHeartbeats 8000000 in
set_option maxRecDepth 20000 in
theorem rReadSpan_any (l:List UInt8)(hz:l.length<=281474976710656)(w:World):
 Calls Tryz.prog 108 #[strV l] w fun e w'=>e=.returned (spanR l)/\Below w.heap.size w w':=by
 obtain⟨xb,l0⟩:=one_box w 162 wcells
 go_enter Tryz.func108,Tryz.ntmps108
 go_wp2_with fail
 go_loopw [4,5,6] (fun n x i wr=>∃ k sm nx:Nat,n=.int .i64 sm/\x=.int .i64 nx/\i=.int .i64 k/\k<=l.length/\Hid (At10 l k sm 0 nx)/\Hid (Box wr w.heap.size wcells)/\Below w.heap.size w wr) (fun _ _ i _=>l.length-(intOf i).toNat)
 case atStart=>exact⟨0,0,0,rfl,rfl,rfl,Nat.zero_le _,(⟨by decide,by decide,by decide,rfl⟩:At10 l 0 0 0 0),xb,l0⟩
 case round=>
  clear xb l0
  obtain⟨k,sm,nx,rfl,rfl,rfl,hk,hA,hB,bl⟩:=hrel
  have bx:=hA.out.x
  have bs:sm<=345599654400:=by
   have h1:=hA.out.s
   have:nx*86399913600<=4*86399913600:=Nat.mul_le_mul_right _ bx
   omega
  by_cases hlt:k<l.length
  ·have k1:(k:Int)<(l.length:Int):=by omega
   have hr:=fun wx=>run_any l k hz hk wx
   have hfl:=runL_le l k hk
   have q1:=hA.out.none_run hlt
   have q2:=hA.out.bad_run hlt
   have q3:=hA.out.end_run hlt
   have q4:=hA.out.no_part hlt
   have q5:=fun j=>hA.out.one_part (j:=j) hlt
   have hix:=fun wx=>idx_at l k hlt wx
   have h48:l[k]=48↔l[k].toNat=48:=by
    constructor
    ·intro h;rw[h];rfl
    ·intro h;exact UInt8.toNat_inj.1 h
   rw[h48] at q2 q4 q5
   by_cases c1:runL l k<1
   ·have HQ:Hid _:=q1 c1
    have c1':((runL l k:Nat):Int)<1:=by omega
    clear q1 q2 q3 q4 q5 hA h48
    generalize runL l k=f at *
    go_wp2_with fail
    refine(hr _).mono ?_
    rintro e w1 ⟨rfl,rfl⟩
    go_wp2_with fail
    go_ret2
    exact⟨by rw[HQ.out];rfl,bl⟩
   ·have c1':¬((runL l k:Nat):Int)<1:=by omega
    by_cases c2:6<runL l k
    ·have HQ:Hid _:=q2 (by omega) (.inr c2)
     have c2':(6:Int)<((runL l k:Nat):Int):=by omega
     clear q1 q2 q3 q4 q5 hA h48
     generalize runL l k=f at *
     go_wp2_with fail
     refine(hr _).mono ?_
     rintro e w1 ⟨rfl,rfl⟩
     go_wp2_with fail
     go_ret2
     exact⟨by rw[HQ.out];rfl,bl⟩
    ·have c2':¬(6:Int)<((runL l k:Nat):Int):=by omega
     by_cases c3:l[k].toNat=48
     ·have HQ:Hid _:=q2 (by omega) (.inl c3)
      rw[c3] at hix
      clear q1 q2 q3 q4 q5 hA h48 c3
      generalize runL l k=f at *
      go_wp2_with fail
      refine(hr _).mono ?_
      rintro e w1 ⟨rfl,rfl⟩
      go_wp2_with fail
      go_ret2
      exact⟨by rw[HQ.out];rfl,bl⟩
     ·have c3':((l[k].toNat:Int)==48)=false:=beq_eq_false_iff_ne.2 (by omega)
      by_cases c4:l.length<=k+runL l k
      ·have HQ:Hid _:=q3 (by omega) c4
       have c4':(l.length:Int)<=(k:Int)+((runL l k:Nat):Int):=by omega
       clear q1 q2 q3 q4 q5 hA h48 c3
       generalize runL l k=f at *
       generalize l[k].toNat=b at *
       go_wp2_with fail
       refine(hr _).mono ?_
       rintro e w1 ⟨rfl,rfl⟩
       go_wp2_with fail
       go_ret2
       exact⟨by rw[HQ.out];rfl,bl⟩
      ·have c4':¬(l.length:Int)<=(k:Int)+((runL l k:Nat):Int):=by omega
       have hkf:k+runL l k<l.length:=by omega
       replace q4:=q4 (by omega) (by omega) hkf
       replace q5:=fun j=>q5 j (by omega) (by omega) hkf
       have hic:=fun wx=>idx_at l (k+runL l k) hkf wx
       rw[Int.natCast_add] at hic
       have hsl:=fun wx=>slice_lh l k (k+runL l k) (by omega) (by omega) wx
       rw[show k+runL l k-k=runL l k by omega,Int.natCast_add] at hsl
       change ∀ wx,(Instr.slice 9 (strV l) (some (.int .i64 (k:Nat))) (some (.int .i64 ((k:Int)+(runL l k:Nat)))) none).run Tryz.prog wx=.ok (strV (digW l k)) wx at hsl
       have hpa:=fun (hv:val (digW l k)<=999999) wx=>parse_any (digW l k) (digW_all l k) (by intro e;have:=digW_len l k;rw[e] at this;simp at this;omega) hv (by rw[digW_len];omega) wx
       clear q1 q2 q3 hA h48 c3
       generalize l[k].toNat=b at *
       generalize l[k+runL l k].toNat=c at *
       generalize val (digW l k)=v at *
       generalize digW l k=W at *
       generalize runL l k=f at *
       have HA:Hid (decide ((f:Int)<1)=false):=decide_eq_false c1'
       have HB:Hid (decide ((6:Int)<(f:Int))=false):=decide_eq_false c2'
       have HC:Hid (decide ((l.length:Int)<=(k:Int)+(f:Int))=false):=decide_eq_false c4'
       have Q4:Hid _:=q4
       have Q5:Hid _:=q5
       have HPA:Hid _:=hpa
       clear q4 q5 hpa
       go_wp2_with fail
       refine(hr _).mono ?_
       rintro e w1 ⟨rfl,rfl⟩
       go_wp2_with fail
       simp only[HA.out,HB.out,HC.out,Bool.or_false]
       go_loopw [5] (fun x w2=>∃ m:Nat,x=.int .i64 m/\m<=4/\Hid (part c nx=part c m)/\Hid (Box w2 w.heap.size wcells)/\Below w.heap.size w w2) (fun x _=>4-(intOf x).toNat)
       case atStart=>exact⟨nx,rfl,bx,(rfl:part c nx=part c nx),hB,bl⟩
       case round=>
        clear hB bl
        obtain⟨m,rfl,hm,hp,hB,bl⟩:=hrel
        by_cases m4:m<4
        ·have hlt2:=fun wx=>lett m m4 wx
         have m1:(m:Int)<4:=by omega
         by_cases hc:c=ltr m
         ·have hpj:part c nx=some m:=by rw[hp.out,hc];exact part_hit m m m4 (Nat.le_refl _)
          obtain⟨hA2,hv⟩:=Q5.out m hpj
          have hpa:=HPA.out hv
          have hwl:=wrt_le m
          have hmul:v*wrt m<=999999*86400:=Nat.mul_le_mul hv hwl
          have emul:(v:Int)*(wrt m:Int)=((v*wrt m:Nat):Int):=by simp
          have hcc:((ltr m:Int) != (c:Int))=false:=bne_eq_false_iff_eq.2 (by rw[hc])
          have hm5:((m:Int)==4)=false:=beq_eq_false_iff_ne.2 (by omega)
          have HC2:Hid _:=hc
          have HA2:Hid _:=hA2
          have HP:Hid _:=hpj
          clear hc hA2 hpj hp
          generalize ltr m=cl at *
          go_wp2_with fail
          go_quiet (fail)
          have bl:=below_n bl nq
          have hB:Hid _:=box_n hB.out nq
          go_wp2_with fail
          refine(hpa _).mono ?_
          rintro e w3 ⟨rfl,b3⟩
          have hB:Hid _:=hB.out.next b3
          have bl:=bl.trans (b3.mono bl.size)
          have hcell:=hB.out.cell m _ (wcell m m4)
          generalize hM:v*wrt m=M at *
          generalize wrt m=Y at *
          have HMM:Hid _:=hM
          clear hM
          go_wp2_with fail
          go_roundw
          case rel=>exact⟨k+(f+1),sm+M,m+1,by go_num,by go_num,by go_num,by omega,HA2,hB,bl⟩
          case measure=>simp[intOf];omega
         ·have hp2:Hid (part c nx=part c (m+1)):=(hp.out.trans (part_miss c m m4 hc):part c nx=part c (m+1))
          have hcc:((ltr m:Int) != (c:Int))=true:=bne_iff_ne.2 (by omega)
          clear hp hc
          generalize ltr m=cl at *
          go_wp2_with fail
          go_quiet (fail)
          have bl:=below_n bl nq
          have hB:Hid _:=box_n hB.out nq
          go_wp2_with fail
          go_roundw
          case rel=>exact⟨m+1,by go_num,by omega,hp2,hB,bl⟩
          case measure=>simp[intOf];omega
        ·obtain rfl:m=4:=by omega
         have HQ:Hid _:=Q4.out (hp.out.trans (part_four c 4 (by decide)))
         clear hp m4 hm
         go_wp2_with fail
         go_quiet (fail)
         have bl:=below_n bl nq
         go_wp2_with fail
         go_ret2
         exact⟨by rw[HQ.out];rfl,bl⟩
  ·have e:k=l.length:=by omega
   subst e
   have q1:=hA.out.end_no
   have q2:=hA.out.end_ok
   by_cases hc:1<=sm/\sm<=604800
   ·have HQ:Hid _:=q2 ⟨rfl,hc⟩
    clear q1 q2 hA
    obtain⟨h1,h2⟩:=hc
    go_wp2_with fail
    go_ret2
    exact⟨by rw[HQ.out];rfl,bl⟩
   ·have HQ:Hid _:=q1 (fun h=>hc h.2)
    clear q1 q2 hA
    by_cases h1:sm<1
    ·have h2:(sm:Int)<1:=by omega
     clear hc
     go_wp2_with fail
     go_ret2
     exact⟨by rw[HQ.out];rfl,bl⟩
    ·have h2:¬(sm:Int)<1:=by omega
     have h3:(604800:Int)<(sm:Int):=by omega
     clear hc
     go_wp2_with fail
     go_ret2
     exact⟨by rw[HQ.out];rfl,bl⟩
end Go.Proofs.YtecdfnpbcabdnaaGreatDoor
