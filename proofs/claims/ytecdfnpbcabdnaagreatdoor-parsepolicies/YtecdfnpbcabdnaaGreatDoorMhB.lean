import Derived.Test.YtecdfnpbcabdnaaGreatDoorMgC
namespace Go.Proofs.YtecdfnpbcabdnaaGreatDoor
open Go.RowKit
def runL (l:List UInt8)(i:Nat):Nat:=((l.drop i).takeWhile isD).length
theorem runL_yes (l:List UInt8)(i:Nat)(h:i<l.length)(hd:isD l[i]=true):runL l i=runL l (i+1)+1:=by
 unfold runL
 rw[List.drop_eq_getElem_cons h,List.takeWhile_cons,if_pos hd,List.length_cons]
theorem runL_no (l:List UInt8)(i:Nat)(h:i<l.length)(hd:isD l[i]=false):runL l i=0:=by
 unfold runL
 rw[List.drop_eq_getElem_cons h,List.takeWhile_cons,if_neg (by simp[hd])]
 rfl
theorem runL_end (l:List UInt8)(i:Nat)(h:l.length<=i):runL l i=0:=by
 unfold runL
 rw[List.drop_of_length_le h]
 rfl
set_option maxHeartbeats 1000000 in
theorem run_any (l:List UInt8)(i:Nat)(hz:l.length<=281474976710656)(hi:i<=l.length)(w:World):
 Calls Tryz.prog 124 #[strV l,.int .i64 i] w fun e w'=>e=.returned (.int .i64 (runL l i:Nat))/\w=w':=by
 go_enter Tryz.func124,Tryz.ntmps124
 go_wp2_with fail
 go_loopw [5] (fun n wr=>∃ k:Nat,n=.int .i64 k/\i+k<=l.length/\Hid (runL l i=k+runL l (i+k))/\w=wr) (fun n _=>l.length-(intOf n).toNat)
 case atStart=>exact⟨0,rfl,by omega,(by rw[Nat.zero_add];rfl:runL l i=0+runL l (i+0)),rfl⟩
 case round=>
  obtain⟨k,rfl,hk,hR,rfl⟩:=hrel
  by_cases hlt:i+k<l.length
  ·have hix:=fun wx=>idx_at l (i+k) hlt wx
   have k1:(i:Int)+(k:Int)<(l.length:Int):=by omega
   have y1:=runL_yes l (i+k) hlt
   have y2:=runL_no l (i+k) hlt
   have yd:isD l[i+k]=true↔48<=l[i+k].toNat/\l[i+k].toNat<=57:=isD_iff
   rw[Int.natCast_add] at hix
   generalize l[i+k].toNat=b at *
   cases hb:isD l[i+k] with
   | true=>
     obtain⟨d1,d2⟩:=yd.1 hb
     have HR:Hid (runL l i=(k+1)+runL l (i+(k+1))):=by
      have:=hR.out
      rw[y1 hb] at this
      have e:i+k+1=i+(k+1):=by omega
      rw[e] at this
      exact(by omega:runL l i=(k+1)+runL l (i+(k+1)))
     clear hR y1 y2 yd hb
     go_wp2_with fail
     go_roundw
     case rel=>exact⟨k+1,by go_num,by omega,HR,trivial⟩
     case measure=>simp[intOf];omega
   | false=>
     have HR:Hid (runL l i=k):=by
      have:=hR.out
      rw[y2 hb] at this
      exact(by omega:runL l i=k)
     have hn:¬(48<=b/\b<=57):=fun h=>by rw[yd.2 h] at hb;cases hb
     clear hR y1 y2 yd hb
     by_cases d1:48<=b
     ·have d2:¬(b:Int)<=57:=by omega
      clear hn
      go_wp2_with fail
      go_ret
      exact⟨by rw[HR.out];rfl,rfl⟩
     ·clear hn
      go_wp2_with fail
      go_ret
      exact⟨by rw[HR.out];rfl,rfl⟩
  ·have k1:¬(i:Int)+(k:Int)<(l.length:Int):=by omega
   have HR:Hid (runL l i=k):=by
    have:=hR.out
    rw[runL_end l (i+k) (by omega)] at this
    exact this
   clear hR
   go_wp2_with fail
   go_ret
   exact⟨by rw[HR.out];rfl,rfl⟩
def moreV (n:Nat)(b:Nat):Value:=if n*10+(b-48)<9223372036854775808 then .tuple #[.int .i64 (n*10+(b-48):Nat),.bool true] else .tuple #[.int .i64 0,.bool false]
theorem more_any (n b:Nat)(hn:n<9223372036854775808)(h1:48<=b)(h2:b<=57)(w:World):
 Calls Tryz.prog 125 #[.int .i64 n,.int .u8 b] w fun e w'=>e=.returned (moreV n b)/\w=w':=by
 obtain⟨v,rfl⟩:∃ v,b=48+v:=⟨b-48,by omega⟩
 have hv:v<=9:=by omega
 have e0:((48+v:Nat):Int)-48=(v:Int):=by omega
 unfold moreV
 rw[show 48+v-48=v by omega]
 have e1:IntKind.u8.wrap (((48+v:Nat):Int)-48)=(v:Int):=by rw[IntKind.wrap_u8];omega
 by_cases h:n*10+v<9223372036854775808
 ·rw[if_pos h]
  have k1:¬(9223372036854775807-(v:Int))/10<(n:Int):=by omega
  go_enter Tryz.func125,Tryz.ntmps125
  go_wp2_with fail
  go_ret2
  refine⟨?_,rfl⟩
  show Ending.returned (.tuple #[.int .i64 (10*(n:Int)+(48+(v:Int)-48)),.bool true])=_
  rw[show 10*(n:Int)+(48+(v:Int)-48)=(n:Int)*10+(v:Int) by omega]
  try rfl
 ·rw[if_neg h]
  have k1:(9223372036854775807-(v:Int))/10<(n:Int):=by omega
  go_enter Tryz.func125,Tryz.ntmps125
  go_wp2_with fail
  go_ret2
  exact⟨rfl,rfl⟩
theorem moreV_yes {n b:Nat}(h:n*10+(b-48)<9223372036854775808):moreV n b=.tuple #[.int .i64 (n*10+(b-48):Nat),.bool true]:=if_pos h
theorem moreV_no {n b:Nat}(h:¬ n*10+(b-48)<9223372036854775808):moreV n b=.tuple #[.int .i64 0,.bool false]:=if_neg h
structure Dig10 (L:List UInt8)(j n:Nat)(ok:Bool):Prop where
 yes:ok=true->n=val (L.take j)/\n<9223372036854775808
 no:ok=false->9223372036854775808<=val L/\n=0
theorem Dig10.next {L:List UInt8}{j n:Nat}(h:Dig10 L j n true)(hj:j<L.length):(∃ m,moreV n L[j].toNat=.tuple #[.int .i64 (m:Nat),.bool true]/\Dig10 L (j+1) m true)\/(moreV n L[j].toNat=.tuple #[.int .i64 ((0:Nat):Int),.bool false]/\Dig10 L (j+1) 0 false):=by
 obtain⟨e,_⟩:=h.yes rfl
 have hs:=val_take_succ L j hj
 rw[<-e] at hs
 by_cases hl:n*10+(L[j].toNat-48)<9223372036854775808
 ·exact .inl ⟨_,moreV_yes hl,⟨fun _=>⟨hs.symm,hl⟩,fun h=>by cases h⟩⟩
 ·refine .inr ⟨moreV_no hl,⟨fun h=>(by cases h),fun _=>⟨?_,rfl⟩⟩⟩
  have:=val_take L (j+1)
  omega
structure Lay10 (l L:List UInt8)(k f:Nat):Prop where
 len:L.length=k+6
 dig:∀ j (h:j<L.length),48<=L[j].toNat/\L[j].toNat<=57
 f6:f<=6
 kl:k<=l.length
 fl:0<f->k+f+1=l.length
 one:∀ j (h:j<L.length) (_:j<k) (h2:j<l.length),l[j]=L[j]
 two:∀ j (h:j<L.length) (_:k<=j) (_:j<k+f) (h2:j+1<l.length),l[j+1]=L[j]
 three:∀ j (h:j<L.length),k+f<=j->L[j]=48
def limV (L:List UInt8):Value:=if val L<9223372036854775808 then .tuple #[.int .i64 (val L:Nat),.int .i64 0] else .tuple #[.int .i64 0,.int .i64 13]
theorem limV_ok {L:List UInt8}{m:Nat}(h:m=val L)(hm:m<9223372036854775808):limV L=.tuple #[.int .i64 (m:Nat),.int .i64 0]:=by
 subst h;exact if_pos hm
theorem limV_no {L:List UInt8}(h:9223372036854775808<=val L):limV L=.tuple #[.int .i64 0,.int .i64 13]:=if_neg (by omega)
set_option maxHeartbeats 4000000 in
theorem rRead_bare (l L:List UInt8)(k f:Nat)(hz:l.length<=281474976710656)(hL:Lay10 l L k f)(hk:1<=k)(h0:1<k->∀ h:0<l.length,l[0].toNat≠48)(hrun:runL l 0=k)(hkl:k=l.length)(hf:f=0)(w:World):
 Calls Tryz.prog 107 #[strV l] w fun e w'=>e=.returned (limV L)/\w=w':=by
 have hl0:0<l.length:=by have:=hL.kl;omega
 have hr:∀ wx,Calls Tryz.prog 124 #[strV l,.int .i64 0] wx fun e w'=>e=.returned (.int .i64 (k:Nat))/\wx=w':=fun wx=>by
  have:=run_any l 0 hz (by omega) wx
  rw[hrun] at this
  exact this
 have hkl2:¬(k:Int)<(l.length:Int):=by omega
 subst hf
 have HKL3:Hid (decide (k<l.length)=false):=decide_eq_false (by omega:¬ k<l.length)
 have HKL:Hid _:=hkl
 clear hkl
 have hix:∀ wx,(Instr.index 9 (strV l) (.int .i64 0)).run Tryz.prog wx=.ok (.int .u8 (l[0].toNat:Nat)) wx:=fun wx=>idx_at l 0 hl0 wx
 have h00:1<k->l[0].toNat≠48:=fun h=>h0 h hl0
 have klb:=hL.kl
 have f6:=hL.f6
 have HL:Hid _:=hL
 have hk0:((k:Int)==0)=false:=beq_eq_false_iff_ne.2 (by omega)
 have hz1:1<k->((l[0].toNat:Int)==48)=false:=fun h=>beq_eq_false_iff_ne.2 (by have:=h00 h;omega)
 clear hL hrun h0 h00
 generalize l[0].toNat=b0 at *
 by_cases hk1:1<k
 ·have hz1:=hz1 hk1
  have hk3:decide ((1:Int)<(k:Int))=true:=decide_eq_true (by omega)
  go_enter Tryz.func107,Tryz.ntmps107
  go_wp2_with fail
  refine(hr _).mono ?_
  rintro e w1 ⟨rfl,rfl⟩
  go_wp2_with fail
  simp only[HKL3.out]
  go_loopw [6,7,8] (fun n o i wr=>∃ (j m:Nat) (b:Bool),n=.int .i64 m/\o=.bool b/\i=.int .i64 j/\j<=k+6/\Hid (Dig10 L j m b)/\w=wr) (fun _ _ i _=>(k+6)-(intOf i).toNat)
  case atStart=>exact⟨0,0,true,rfl,rfl,rfl,Nat.zero_le _,(⟨fun _=>⟨rfl,by decide⟩,fun h=>by cases h⟩:Dig10 L 0 0 true),rfl⟩
  case round=>
   obtain⟨j,m,b,rfl,rfl,rfl,hj,hD,rfl⟩:=hrel
   cases b with
   | false=>
     have HF:Hid _:=limV_no (hD.out.no rfl).1
     obtain rfl:=(hD.out.no rfl).2
     clear hD
     by_cases hlt:j<k+6
     ·have k1:(j:Int)<(k:Int)+6:=by omega
      go_wp2_with fail
      go_ret2
      exact⟨by rw[HF.out];rfl,rfl⟩
     ·have k1:¬(j:Int)<(k:Int)+6:=by omega
      go_wp2_with fail
      go_ret2
      exact⟨by rw[HF.out];rfl,rfl⟩
   | true=>
     by_cases hlt:j<k+6
     ·have hjL:j<L.length:=by rw[HL.out.len];exact hlt
      have hd:=HL.out.dig j hjL
      have hb:=(hD.out.yes rfl).2
      have hn:=hD.out.next hjL
      have hmr:=fun wx=>more_any m L[j].toNat hb hd.1 hd.2 wx
      have hone:=HL.out.one j hjL
      have htwo:=HL.out.two j hjL
      have hthr:=HL.out.three j hjL
      have hfl:=HL.out.fl
      have k1:(j:Int)<(k:Int)+6:=by omega
      clear hD
      by_cases c1:j<k
      ·have hi:=fun wx=>idx_at l j (by omega) wx
       rw[hone c1 (by omega)] at hi
       have k2:(j:Int)<(k:Int):=by omega
       clear hone htwo hthr hfl
       generalize L[j].toNat=bj at *
       rcases hn with ⟨m2,e2,hD2⟩ | ⟨e2,hD2⟩
       ·rw[e2] at hmr
        have HD2:Hid _:=hD2
        clear hD2 e2
        go_wp2_with fail
        refine(hmr _).mono ?_
        rintro e w1 ⟨rfl,rfl⟩
        go_wp2_with fail
        go_roundw
        case rel=>exact⟨j+1,m2,true,rfl,rfl,by go_num,by omega,HD2,trivial⟩
        case measure=>simp[intOf];omega
       ·rw[e2] at hmr
        have HD2:Hid _:=hD2
        clear hD2 e2
        go_wp2_with fail
        refine(hmr _).mono ?_
        rintro e w1 ⟨rfl,rfl⟩
        go_wp2_with fail
        go_roundw
        case rel=>exact⟨j+1,0,false,rfl,rfl,by go_num,by omega,HD2,trivial⟩
        case measure=>simp[intOf];omega
      ·have k2:¬(j:Int)<(k:Int):=by omega
       have k3:¬(j:Int)-(k:Int)<0:=by omega
       have e48:L[j].toNat=48:=by rw[hthr (by omega)];rfl
       rw[e48] at hmr hn
       clear hone htwo hthr hfl e48
       rcases hn with ⟨m2,e2,hD2⟩ | ⟨e2,hD2⟩
       ·rw[e2] at hmr
        have HD2:Hid _:=hD2
        clear hD2 e2
        go_wp2_with fail
        refine(hmr _).mono ?_
        rintro e w1 ⟨rfl,rfl⟩
        go_wp2_with fail
        go_roundw
        case rel=>exact⟨j+1,m2,true,rfl,rfl,by go_num,by omega,HD2,trivial⟩
        case measure=>simp[intOf];omega
       ·rw[e2] at hmr
        have HD2:Hid _:=hD2
        clear hD2 e2
        go_wp2_with fail
        refine(hmr _).mono ?_
        rintro e w1 ⟨rfl,rfl⟩
        go_wp2_with fail
        go_roundw
        case rel=>exact⟨j+1,0,false,rfl,rfl,by go_num,by omega,HD2,trivial⟩
        case measure=>simp[intOf];omega
     ·have k1:¬(j:Int)<(k:Int)+6:=by omega
      have hfull:m=val L:=by
       have:=(hD.out.yes rfl).1
       rw[List.take_of_length_le (by rw[HL.out.len];omega)] at this
       exact this
      have HF:Hid _:=limV_ok hfull (hD.out.yes rfl).2
      clear hD hfull
      go_wp2_with fail
      go_ret2
      exact⟨by rw[HF.out];rfl,rfl⟩
 ·have hk2:¬(1:Int)<(k:Int):=by omega
  have hk3:decide ((1:Int)<(k:Int))=false:=decide_eq_false hk2
  clear hz1
  go_enter Tryz.func107,Tryz.ntmps107
  go_wp2_with fail
  refine(hr _).mono ?_
  rintro e w1 ⟨rfl,rfl⟩
  go_wp2_with fail
  simp only[HKL3.out]
  go_loopw [6,7,8] (fun n o i wr=>∃ (j m:Nat) (b:Bool),n=.int .i64 m/\o=.bool b/\i=.int .i64 j/\j<=k+6/\Hid (Dig10 L j m b)/\w=wr) (fun _ _ i _=>(k+6)-(intOf i).toNat)
  case atStart=>exact⟨0,0,true,rfl,rfl,rfl,Nat.zero_le _,(⟨fun _=>⟨rfl,by decide⟩,fun h=>by cases h⟩:Dig10 L 0 0 true),rfl⟩
  case round=>
   obtain⟨j,m,b,rfl,rfl,rfl,hj,hD,rfl⟩:=hrel
   cases b with
   | false=>
     have HF:Hid _:=limV_no (hD.out.no rfl).1
     obtain rfl:=(hD.out.no rfl).2
     clear hD
     by_cases hlt:j<k+6
     ·have k1:(j:Int)<(k:Int)+6:=by omega
      go_wp2_with fail
      go_ret2
      exact⟨by rw[HF.out];rfl,rfl⟩
     ·have k1:¬(j:Int)<(k:Int)+6:=by omega
      go_wp2_with fail
      go_ret2
      exact⟨by rw[HF.out];rfl,rfl⟩
   | true=>
     by_cases hlt:j<k+6
     ·have hjL:j<L.length:=by rw[HL.out.len];exact hlt
      have hd:=HL.out.dig j hjL
      have hb:=(hD.out.yes rfl).2
      have hn:=hD.out.next hjL
      have hmr:=fun wx=>more_any m L[j].toNat hb hd.1 hd.2 wx
      have hone:=HL.out.one j hjL
      have htwo:=HL.out.two j hjL
      have hthr:=HL.out.three j hjL
      have hfl:=HL.out.fl
      have k1:(j:Int)<(k:Int)+6:=by omega
      clear hD
      by_cases c1:j<k
      ·have hi:=fun wx=>idx_at l j (by omega) wx
       rw[hone c1 (by omega)] at hi
       have k2:(j:Int)<(k:Int):=by omega
       clear hone htwo hthr hfl
       generalize L[j].toNat=bj at *
       rcases hn with ⟨m2,e2,hD2⟩ | ⟨e2,hD2⟩
       ·rw[e2] at hmr
        have HD2:Hid _:=hD2
        clear hD2 e2
        go_wp2_with fail
        refine(hmr _).mono ?_
        rintro e w1 ⟨rfl,rfl⟩
        go_wp2_with fail
        go_roundw
        case rel=>exact⟨j+1,m2,true,rfl,rfl,by go_num,by omega,HD2,trivial⟩
        case measure=>simp[intOf];omega
       ·rw[e2] at hmr
        have HD2:Hid _:=hD2
        clear hD2 e2
        go_wp2_with fail
        refine(hmr _).mono ?_
        rintro e w1 ⟨rfl,rfl⟩
        go_wp2_with fail
        go_roundw
        case rel=>exact⟨j+1,0,false,rfl,rfl,by go_num,by omega,HD2,trivial⟩
        case measure=>simp[intOf];omega
      ·have k2:¬(j:Int)<(k:Int):=by omega
       have k3:¬(j:Int)-(k:Int)<0:=by omega
       have e48:L[j].toNat=48:=by rw[hthr (by omega)];rfl
       rw[e48] at hmr hn
       clear hone htwo hthr hfl e48
       rcases hn with ⟨m2,e2,hD2⟩ | ⟨e2,hD2⟩
       ·rw[e2] at hmr
        have HD2:Hid _:=hD2
        clear hD2 e2
        go_wp2_with fail
        refine(hmr _).mono ?_
        rintro e w1 ⟨rfl,rfl⟩
        go_wp2_with fail
        go_roundw
        case rel=>exact⟨j+1,m2,true,rfl,rfl,by go_num,by omega,HD2,trivial⟩
        case measure=>simp[intOf];omega
       ·rw[e2] at hmr
        have HD2:Hid _:=hD2
        clear hD2 e2
        go_wp2_with fail
        refine(hmr _).mono ?_
        rintro e w1 ⟨rfl,rfl⟩
        go_wp2_with fail
        go_roundw
        case rel=>exact⟨j+1,0,false,rfl,rfl,by go_num,by omega,HD2,trivial⟩
        case measure=>simp[intOf];omega
     ·have k1:¬(j:Int)<(k:Int)+6:=by omega
      have hfull:m=val L:=by
       have:=(hD.out.yes rfl).1
       rw[List.take_of_length_le (by rw[HL.out.len];omega)] at this
       exact this
      have HF:Hid _:=limV_ok hfull (hD.out.yes rfl).2
      clear hD hfull
      go_wp2_with fail
      go_ret2
      exact⟨by rw[HF.out];rfl,rfl⟩
set_option maxHeartbeats 4000000 in
theorem rRead_point (l L:List UInt8)(k f:Nat)(hz:l.length<=281474976710656)(hL:Lay10 l L k f)(hk:1<=k)(h0:1<k->∀ h:0<l.length,l[0].toNat≠48)(hrun:runL l 0=k)(hkl:k+1+f=l.length)(hf:1<=f)(h46:∀ h:k<l.length,l[k].toNat=46)(hrun2:runL l (k+1)=f)(w:World):
 Calls Tryz.prog 107 #[strV l] w fun e w'=>e=.returned (limV L)/\w=w':=by
 have hl0:0<l.length:=by have:=hL.kl;omega
 have hr:∀ wx,Calls Tryz.prog 124 #[strV l,.int .i64 0] wx fun e w'=>e=.returned (.int .i64 (k:Nat))/\wx=w':=fun wx=>by
  have:=run_any l 0 hz (by omega) wx
  rw[hrun] at this
  exact this
 have hkl2:(k:Int)<(l.length:Int):=by omega
 have hr2:∀ wx,Calls Tryz.prog 124 #[strV l,.int .i64 ((k:Int)+1)] wx fun e w'=>e=.returned (.int .i64 (f:Nat))/\wx=w':=fun wx=>by
  have:=run_any l (k+1) hz (by omega) wx
  rw[hrun2] at this
  exact this
 have hik:=fun wx=>idx_at l k (by omega) wx
 rw[h46 (by omega)] at hik
 have hf1:¬(f:Int)<1:=by omega
 have hf2:¬(6:Int)<(f:Int):=by have:=hL.f6;omega
 have hf3:((k:Int)+1+(f:Int) != (l.length:Int))=false:=bne_eq_false_iff_eq.2 (by omega)
 have HA:Hid (decide ((f:Int)<1)=false):=decide_eq_false hf1
 have HB:Hid (decide ((6:Int)<(f:Int))=false):=decide_eq_false hf2
 have HKL:Hid _:=hkl
 clear hkl h46 hrun2
 have hix:∀ wx,(Instr.index 9 (strV l) (.int .i64 0)).run Tryz.prog wx=.ok (.int .u8 (l[0].toNat:Nat)) wx:=fun wx=>idx_at l 0 hl0 wx
 have h00:1<k->l[0].toNat≠48:=fun h=>h0 h hl0
 have klb:=hL.kl
 have f6:=hL.f6
 have HL:Hid _:=hL
 have hk0:((k:Int)==0)=false:=beq_eq_false_iff_ne.2 (by omega)
 have hz1:1<k->((l[0].toNat:Int)==48)=false:=fun h=>beq_eq_false_iff_ne.2 (by have:=h00 h;omega)
 clear hL hrun h0 h00
 generalize l[0].toNat=b0 at *
 by_cases hk1:1<k
 ·have hz1:=hz1 hk1
  have hk3:decide ((1:Int)<(k:Int))=true:=decide_eq_true (by omega)
  go_enter Tryz.func107,Tryz.ntmps107
  go_wp2_with fail
  refine(hr _).mono ?_
  rintro e w1 ⟨rfl,rfl⟩
  go_wp2_with fail
  refine(hr2 _).mono ?_
  rintro e w1 ⟨rfl,rfl⟩
  go_wp2_with fail
  simp only[HA.out,HB.out,Bool.or_false]
  go_loopw [6,7,8] (fun n o i wr=>∃ (j m:Nat) (b:Bool),n=.int .i64 m/\o=.bool b/\i=.int .i64 j/\j<=k+6/\Hid (Dig10 L j m b)/\w=wr) (fun _ _ i _=>(k+6)-(intOf i).toNat)
  case atStart=>exact⟨0,0,true,rfl,rfl,rfl,Nat.zero_le _,(⟨fun _=>⟨rfl,by decide⟩,fun h=>by cases h⟩:Dig10 L 0 0 true),rfl⟩
  case round=>
   obtain⟨j,m,b,rfl,rfl,rfl,hj,hD,rfl⟩:=hrel
   cases b with
   | false=>
     have HF:Hid _:=limV_no (hD.out.no rfl).1
     obtain rfl:=(hD.out.no rfl).2
     clear hD
     by_cases hlt:j<k+6
     ·have k1:(j:Int)<(k:Int)+6:=by omega
      go_wp2_with fail
      go_ret2
      exact⟨by rw[HF.out];rfl,rfl⟩
     ·have k1:¬(j:Int)<(k:Int)+6:=by omega
      go_wp2_with fail
      go_ret2
      exact⟨by rw[HF.out];rfl,rfl⟩
   | true=>
     by_cases hlt:j<k+6
     ·have hjL:j<L.length:=by rw[HL.out.len];exact hlt
      have hd:=HL.out.dig j hjL
      have hb:=(hD.out.yes rfl).2
      have hn:=hD.out.next hjL
      have hmr:=fun wx=>more_any m L[j].toNat hb hd.1 hd.2 wx
      have hone:=HL.out.one j hjL
      have htwo:=HL.out.two j hjL
      have hthr:=HL.out.three j hjL
      have hfl:=HL.out.fl
      have k1:(j:Int)<(k:Int)+6:=by omega
      clear hD
      by_cases c1:j<k
      ·have hi:=fun wx=>idx_at l j (by omega) wx
       rw[hone c1 (by omega)] at hi
       have k2:(j:Int)<(k:Int):=by omega
       clear hone htwo hthr hfl
       generalize L[j].toNat=bj at *
       rcases hn with ⟨m2,e2,hD2⟩ | ⟨e2,hD2⟩
       ·rw[e2] at hmr
        have HD2:Hid _:=hD2
        clear hD2 e2
        go_wp2_with fail
        refine(hmr _).mono ?_
        rintro e w1 ⟨rfl,rfl⟩
        go_wp2_with fail
        go_roundw
        case rel=>exact⟨j+1,m2,true,rfl,rfl,by go_num,by omega,HD2,trivial⟩
        case measure=>simp[intOf];omega
       ·rw[e2] at hmr
        have HD2:Hid _:=hD2
        clear hD2 e2
        go_wp2_with fail
        refine(hmr _).mono ?_
        rintro e w1 ⟨rfl,rfl⟩
        go_wp2_with fail
        go_roundw
        case rel=>exact⟨j+1,0,false,rfl,rfl,by go_num,by omega,HD2,trivial⟩
        case measure=>simp[intOf];omega
      ·have k2:¬(j:Int)<(k:Int):=by omega
       by_cases c2:j<k+f
       ·have hi:=fun wx=>idx_at l (j+1) (by have:=hfl (by omega);omega) wx
        rw[htwo (by omega) c2 (by have:=hfl (by omega);omega)] at hi
        replace hi:∀ wx,(Instr.index 9 (strV l) (.int .i64 ((j:Int)+1))).run Tryz.prog wx=.ok (.int .u8 (L[j].toNat:Nat)) wx:=hi
        have k3:(j:Int)-(k:Int)<(f:Int):=by omega
        clear hone htwo hthr hfl
        generalize L[j].toNat=bj at *
        rcases hn with ⟨m2,e2,hD2⟩ | ⟨e2,hD2⟩
        ·rw[e2] at hmr
         have HD2:Hid _:=hD2
         clear hD2 e2
         go_wp2_with fail
         refine(hmr _).mono ?_
         rintro e w1 ⟨rfl,rfl⟩
         go_wp2_with fail
         go_roundw
         case rel=>exact⟨j+1,m2,true,rfl,rfl,by go_num,by omega,HD2,trivial⟩
         case measure=>simp[intOf];omega
        ·rw[e2] at hmr
         have HD2:Hid _:=hD2
         clear hD2 e2
         go_wp2_with fail
         refine(hmr _).mono ?_
         rintro e w1 ⟨rfl,rfl⟩
         go_wp2_with fail
         go_roundw
         case rel=>exact⟨j+1,0,false,rfl,rfl,by go_num,by omega,HD2,trivial⟩
         case measure=>simp[intOf];omega
       ·have k3:¬(j:Int)-(k:Int)<(f:Int):=by omega
        have e48:L[j].toNat=48:=by rw[hthr (by omega)];rfl
        rw[e48] at hmr hn
        clear hone htwo hthr hfl e48
        rcases hn with ⟨m2,e2,hD2⟩ | ⟨e2,hD2⟩
        ·rw[e2] at hmr
         have HD2:Hid _:=hD2
         clear hD2 e2
         go_wp2_with fail
         refine(hmr _).mono ?_
         rintro e w1 ⟨rfl,rfl⟩
         go_wp2_with fail
         go_roundw
         case rel=>exact⟨j+1,m2,true,rfl,rfl,by go_num,by omega,HD2,trivial⟩
         case measure=>simp[intOf];omega
        ·rw[e2] at hmr
         have HD2:Hid _:=hD2
         clear hD2 e2
         go_wp2_with fail
         refine(hmr _).mono ?_
         rintro e w1 ⟨rfl,rfl⟩
         go_wp2_with fail
         go_roundw
         case rel=>exact⟨j+1,0,false,rfl,rfl,by go_num,by omega,HD2,trivial⟩
         case measure=>simp[intOf];omega
     ·have k1:¬(j:Int)<(k:Int)+6:=by omega
      have hfull:m=val L:=by
       have:=(hD.out.yes rfl).1
       rw[List.take_of_length_le (by rw[HL.out.len];omega)] at this
       exact this
      have HF:Hid _:=limV_ok hfull (hD.out.yes rfl).2
      clear hD hfull
      go_wp2_with fail
      go_ret2
      exact⟨by rw[HF.out];rfl,rfl⟩
 ·have hk2:¬(1:Int)<(k:Int):=by omega
  have hk3:decide ((1:Int)<(k:Int))=false:=decide_eq_false hk2
  clear hz1
  go_enter Tryz.func107,Tryz.ntmps107
  go_wp2_with fail
  refine(hr _).mono ?_
  rintro e w1 ⟨rfl,rfl⟩
  go_wp2_with fail
  refine(hr2 _).mono ?_
  rintro e w1 ⟨rfl,rfl⟩
  go_wp2_with fail
  simp only[HA.out,HB.out,Bool.or_false]
  go_loopw [6,7,8] (fun n o i wr=>∃ (j m:Nat) (b:Bool),n=.int .i64 m/\o=.bool b/\i=.int .i64 j/\j<=k+6/\Hid (Dig10 L j m b)/\w=wr) (fun _ _ i _=>(k+6)-(intOf i).toNat)
  case atStart=>exact⟨0,0,true,rfl,rfl,rfl,Nat.zero_le _,(⟨fun _=>⟨rfl,by decide⟩,fun h=>by cases h⟩:Dig10 L 0 0 true),rfl⟩
  case round=>
   obtain⟨j,m,b,rfl,rfl,rfl,hj,hD,rfl⟩:=hrel
   cases b with
   | false=>
     have HF:Hid _:=limV_no (hD.out.no rfl).1
     obtain rfl:=(hD.out.no rfl).2
     clear hD
     by_cases hlt:j<k+6
     ·have k1:(j:Int)<(k:Int)+6:=by omega
      go_wp2_with fail
      go_ret2
      exact⟨by rw[HF.out];rfl,rfl⟩
     ·have k1:¬(j:Int)<(k:Int)+6:=by omega
      go_wp2_with fail
      go_ret2
      exact⟨by rw[HF.out];rfl,rfl⟩
   | true=>
     by_cases hlt:j<k+6
     ·have hjL:j<L.length:=by rw[HL.out.len];exact hlt
      have hd:=HL.out.dig j hjL
      have hb:=(hD.out.yes rfl).2
      have hn:=hD.out.next hjL
      have hmr:=fun wx=>more_any m L[j].toNat hb hd.1 hd.2 wx
      have hone:=HL.out.one j hjL
      have htwo:=HL.out.two j hjL
      have hthr:=HL.out.three j hjL
      have hfl:=HL.out.fl
      have k1:(j:Int)<(k:Int)+6:=by omega
      clear hD
      by_cases c1:j<k
      ·have hi:=fun wx=>idx_at l j (by omega) wx
       rw[hone c1 (by omega)] at hi
       have k2:(j:Int)<(k:Int):=by omega
       clear hone htwo hthr hfl
       generalize L[j].toNat=bj at *
       rcases hn with ⟨m2,e2,hD2⟩ | ⟨e2,hD2⟩
       ·rw[e2] at hmr
        have HD2:Hid _:=hD2
        clear hD2 e2
        go_wp2_with fail
        refine(hmr _).mono ?_
        rintro e w1 ⟨rfl,rfl⟩
        go_wp2_with fail
        go_roundw
        case rel=>exact⟨j+1,m2,true,rfl,rfl,by go_num,by omega,HD2,trivial⟩
        case measure=>simp[intOf];omega
       ·rw[e2] at hmr
        have HD2:Hid _:=hD2
        clear hD2 e2
        go_wp2_with fail
        refine(hmr _).mono ?_
        rintro e w1 ⟨rfl,rfl⟩
        go_wp2_with fail
        go_roundw
        case rel=>exact⟨j+1,0,false,rfl,rfl,by go_num,by omega,HD2,trivial⟩
        case measure=>simp[intOf];omega
      ·have k2:¬(j:Int)<(k:Int):=by omega
       by_cases c2:j<k+f
       ·have hi:=fun wx=>idx_at l (j+1) (by have:=hfl (by omega);omega) wx
        rw[htwo (by omega) c2 (by have:=hfl (by omega);omega)] at hi
        replace hi:∀ wx,(Instr.index 9 (strV l) (.int .i64 ((j:Int)+1))).run Tryz.prog wx=.ok (.int .u8 (L[j].toNat:Nat)) wx:=hi
        have k3:(j:Int)-(k:Int)<(f:Int):=by omega
        clear hone htwo hthr hfl
        generalize L[j].toNat=bj at *
        rcases hn with ⟨m2,e2,hD2⟩ | ⟨e2,hD2⟩
        ·rw[e2] at hmr
         have HD2:Hid _:=hD2
         clear hD2 e2
         go_wp2_with fail
         refine(hmr _).mono ?_
         rintro e w1 ⟨rfl,rfl⟩
         go_wp2_with fail
         go_roundw
         case rel=>exact⟨j+1,m2,true,rfl,rfl,by go_num,by omega,HD2,trivial⟩
         case measure=>simp[intOf];omega
        ·rw[e2] at hmr
         have HD2:Hid _:=hD2
         clear hD2 e2
         go_wp2_with fail
         refine(hmr _).mono ?_
         rintro e w1 ⟨rfl,rfl⟩
         go_wp2_with fail
         go_roundw
         case rel=>exact⟨j+1,0,false,rfl,rfl,by go_num,by omega,HD2,trivial⟩
         case measure=>simp[intOf];omega
       ·have k3:¬(j:Int)-(k:Int)<(f:Int):=by omega
        have e48:L[j].toNat=48:=by rw[hthr (by omega)];rfl
        rw[e48] at hmr hn
        clear hone htwo hthr hfl e48
        rcases hn with ⟨m2,e2,hD2⟩ | ⟨e2,hD2⟩
        ·rw[e2] at hmr
         have HD2:Hid _:=hD2
         clear hD2 e2
         go_wp2_with fail
         refine(hmr _).mono ?_
         rintro e w1 ⟨rfl,rfl⟩
         go_wp2_with fail
         go_roundw
         case rel=>exact⟨j+1,m2,true,rfl,rfl,by go_num,by omega,HD2,trivial⟩
         case measure=>simp[intOf];omega
        ·rw[e2] at hmr
         have HD2:Hid _:=hD2
         clear hD2 e2
         go_wp2_with fail
         refine(hmr _).mono ?_
         rintro e w1 ⟨rfl,rfl⟩
         go_wp2_with fail
         go_roundw
         case rel=>exact⟨j+1,0,false,rfl,rfl,by go_num,by omega,HD2,trivial⟩
         case measure=>simp[intOf];omega
     ·have k1:¬(j:Int)<(k:Int)+6:=by omega
      have hfull:m=val L:=by
       have:=(hD.out.yes rfl).1
       rw[List.take_of_length_le (by rw[HL.out.len];omega)] at this
       exact this
      have HF:Hid _:=limV_ok hfull (hD.out.yes rfl).2
      clear hD hfull
      go_wp2_with fail
      go_ret2
      exact⟨by rw[HF.out];rfl,rfl⟩
set_option maxHeartbeats 4000000 in
theorem rRead_no (l:List UInt8)(k:Nat)(hz:l.length<=281474976710656)(hkl:k<=l.length)(hrun:runL l 0=k)
 (hno:k=0\/(1<k/\∃ h:0<l.length,l[0].toNat=48)) (w:World) :
 Calls Tryz.prog 107 #[strV l] w fun e w'=>e=.returned (.tuple #[.int .i64 0,.int .i64 13])/\w=w':=by
 have hr:∀ wx,Calls Tryz.prog 124 #[strV l,.int .i64 0] wx fun e w'=>e=.returned (.int .i64 (k:Nat))/\wx=w':=fun wx=>by
  have:=run_any l 0 hz (by omega) wx
  rw[hrun] at this
  exact this
 rcases hno with rfl | ⟨h1,hl0,h48⟩
 ·clear hrun
  go_enter Tryz.func107,Tryz.ntmps107
  go_wp2_with fail
  refine(hr _).mono ?_
  rintro e w1 ⟨rfl,rfl⟩
  go_wp2_with fail
  go_ret2
  exact⟨rfl,rfl⟩
 ·have hix:∀ wx,(Instr.index 9 (strV l) (.int .i64 0)).run Tryz.prog wx=.ok (.int .u8 (l[0].toNat:Nat)) wx:=fun wx=>idx_at l 0 hl0 wx
  rw[h48] at hix
  have hk0:((k:Int)==0)=false:=beq_eq_false_iff_ne.2 (by omega)
  have hk1:(1:Int)<(k:Int):=by omega
  clear hrun h48 hkl
  go_enter Tryz.func107,Tryz.ntmps107
  go_wp2_with fail
  refine(hr _).mono ?_
  rintro e w1 ⟨rfl,rfl⟩
  go_wp2_with fail
  go_ret2
  exact⟨rfl,rfl⟩
set_option maxHeartbeats 4000000 in
theorem rRead_bad (l:List UInt8)(k f:Nat)(hz:l.length<=281474976710656)(hk:1<=k)(hkl:k<l.length)(h0:1<k->l[0].toNat≠48)(hrun:runL l 0=k)(hrun2:runL l (k+1)=f)(_hf:f<=l.length)
 (hno:l[k].toNat≠46\/f<1\/6<f\/k+1+f≠l.length) (w:World) :
 Calls Tryz.prog 107 #[strV l] w fun e w'=>e=.returned (.tuple #[.int .i64 0,.int .i64 13])/\w=w':=by
 have hr:∀ wx,Calls Tryz.prog 124 #[strV l,.int .i64 0] wx fun e w'=>e=.returned (.int .i64 (k:Nat))/\wx=w':=fun wx=>by
  have:=run_any l 0 hz (by omega) wx
  rw[hrun] at this
  exact this
 have hr2:∀ wx,Calls Tryz.prog 124 #[strV l,.int .i64 ((k:Int)+1)] wx fun e w'=>e=.returned (.int .i64 (f:Nat))/\wx=w':=fun wx=>by
  have:=run_any l (k+1) hz (by omega) wx
  rw[hrun2] at this
  exact this
 have hix:∀ wx,(Instr.index 9 (strV l) (.int .i64 0)).run Tryz.prog wx=.ok (.int .u8 (l[0].toNat:Nat)) wx:=fun wx=>idx_at l 0 (by omega) wx
 have hik:=fun wx=>idx_at l k hkl wx
 have hk0:((k:Int)==0)=false:=beq_eq_false_iff_ne.2 (by omega)
 have hz1:1<k->((l[0].toNat:Int)==48)=false:=fun h=>beq_eq_false_iff_ne.2 (by have:=h0 h;omega)
 have hkl2:(k:Int)<(l.length:Int):=by omega
 generalize l[0].toNat=b0 at *
 generalize l[k].toNat=bk at *
 clear hrun hrun2 h0
 by_cases hk1:1<k
 ·have hz1:=hz1 hk1
  have hk3:(1:Int)<(k:Int):=by omega
  go_enter Tryz.func107,Tryz.ntmps107
  go_wp2_with fail
  refine(hr _).mono ?_
  rintro e w1 ⟨rfl,rfl⟩
  go_wp2_with fail
  refine(hr2 _).mono ?_
  rintro e w1 ⟨rfl,rfl⟩
  by_cases c1:bk=46
  ·subst c1
   by_cases c2:f<1
   ·have c2':(f:Int)<1:=by omega
    go_wp2_with fail
    go_ret2
    exact⟨rfl,rfl⟩
   ·have c2':¬(f:Int)<1:=by omega
    by_cases c3:6<f
    ·have c3':(6:Int)<(f:Int):=by omega
     go_wp2_with fail
     go_ret2
     exact⟨rfl,rfl⟩
    ·have c3':¬(6:Int)<(f:Int):=by omega
     have c4:((k:Int)+1+(f:Int) != (l.length:Int))=true:=bne_iff_ne.2 (by omega)
     clear hno
     go_wp2_with fail
     go_ret2
     exact⟨rfl,rfl⟩
  ·have c1':((bk:Int) != 46)=true:=bne_iff_ne.2 (by omega)
   clear hno
   go_wp2_with fail
   go_ret2
   exact⟨rfl,rfl⟩
 ·have hk2:¬(1:Int)<(k:Int):=by omega
  clear hz1
  go_enter Tryz.func107,Tryz.ntmps107
  go_wp2_with fail
  refine(hr _).mono ?_
  rintro e w1 ⟨rfl,rfl⟩
  go_wp2_with fail
  refine(hr2 _).mono ?_
  rintro e w1 ⟨rfl,rfl⟩
  by_cases c1:bk=46
  ·subst c1
   by_cases c2:f<1
   ·have c2':(f:Int)<1:=by omega
    go_wp2_with fail
    go_ret2
    exact⟨rfl,rfl⟩
   ·have c2':¬(f:Int)<1:=by omega
    by_cases c3:6<f
    ·have c3':(6:Int)<(f:Int):=by omega
     go_wp2_with fail
     go_ret2
     exact⟨rfl,rfl⟩
    ·have c3':¬(6:Int)<(f:Int):=by omega
     have c4:((k:Int)+1+(f:Int) != (l.length:Int))=true:=bne_iff_ne.2 (by omega)
     clear hno
     go_wp2_with fail
     go_ret2
     exact⟨rfl,rfl⟩
  ·have c1':((bk:Int) != 46)=true:=bne_iff_ne.2 (by omega)
   clear hno
   go_wp2_with fail
   go_ret2
   exact⟨rfl,rfl⟩
theorem all_run (p:List UInt8):(p.takeWhile isD).length=p.length↔p.all isD=true:=by
 constructor
 ·intro h
  have hs:=split_run p
  have hl:=congrArg List.length hs
  rw[List.length_append] at hl
  have e:p.dropWhile isD=[]:=List.length_eq_zero_iff.1 (by omega)
  rw[e,List.append_nil] at hs
  rw[hs]
  exact run_all _
 ·intro h
  induction p with
  | nil=>rfl
  | cons b r ih=>
    rw[List.all_cons,Bool.and_eq_true] at h
    rw[List.takeWhile_cons,if_pos h.1,List.length_cons,List.length_cons,ih h.2]
theorem val_full (W p:List UInt8)(h:p.length<=6):val (W++(p++List.replicate (6-p.length) 48))=sizeN W p:=by
 rw[val_app,val_pad,List.length_append,List.length_replicate,show p.length+(6-p.length)=6 by omega]
 rfl
theorem dig_all (L:List UInt8)(h:L.all isD=true)(j:Nat)(hj:j<L.length):48<=L[j].toNat/\L[j].toNat<=57:=isD_at L h j hj
theorem rep_all (k:Nat):(List.replicate k (48:UInt8)).all isD=true:=by
 rw[List.all_eq_true]
 intro x hx
 rw[(List.mem_replicate.1 hx).2]
 decide
theorem lay_bare (W:List UInt8)(ha:W.all isD=true):Lay10 W (W++([]++List.replicate (6-0) 48)) W.length 0 where
 len:=by simp
 dig:=fun j h=>dig_all _ (by rw[List.all_append,ha,List.nil_append,rep_all];rfl) j h
 f6:=by decide
 kl:=Nat.le_refl _
 fl:=fun h=>by omega
 one:=fun j h h1 h2=>by rw[List.getElem_append_left h1]
 two:=fun j h h1 h2 h3=>by omega
 three:=fun j h h1=>by
  rw[List.getElem_append_right (by omega),List.getElem_append_right (by simp),List.getElem_replicate]
theorem lay_point (W p:List UInt8)(ha:W.all isD=true)(hp:p.all isD=true)(h6:p.length<=6):Lay10 (W++46::p) (W++(p++List.replicate (6-p.length) 48)) W.length p.length where
 len:=by simp;omega
 dig:=fun j h=>dig_all _ (by rw[List.all_append,List.all_append,ha,hp,rep_all];rfl) j h
 f6:=h6
 kl:=by simp
 fl:=fun h=>by simp;omega
 one:=fun j h h1 h2=>by rw[List.getElem_append_left h1,List.getElem_append_left h1]
 two:=fun j h h1 h2 h3=>by
  rw[List.getElem_append_right (by omega),List.getElem_append_right (by omega),List.getElem_append_left (by omega),List.getElem_cons]
  rw[dif_neg (by omega)]
  congr 1
  omega
 three:=fun j h h1=>by
  rw[List.getElem_append_right (by omega),List.getElem_append_right (by omega)]
  simp
theorem limV_read {l L:List UInt8}(h:readN l=lim (val L)):readV l=limV L:=by
 unfold readV limV
 rw[h]
 unfold lim
 by_cases h1:val L<9223372036854775808
 ·rw[if_pos h1,if_pos h1]
 ·rw[if_neg h1,if_neg h1]
theorem rRead_any (l:List UInt8)(hz:l.length<=281474976710656)(w:World):
 Calls Tryz.prog 107 #[strV l] w fun e w'=>e=.returned (readV l)/\w=w':=by
 have er:=read_same l
 unfold readR at er
 have hrun:runL l 0=(l.takeWhile isD).length:=rfl
 have hs:=split_run l
 have ha:=run_all l
 have hd:=fun c p=>drop_head l c p
 generalize l.takeWhile isD=W at *
 generalize l.dropWhile isD=r at *
 have hkl:W.length<=l.length:=by rw[hs,List.length_append];omega
 by_cases hn:W=[]
 ·rw[if_pos (.inl hn)] at er
  rw[readV_no er]
  exact rRead_no l W.length hz hkl hrun (.inl (by rw[hn];rfl)) w
 ·have hW1:1<=W.length:=by cases W with | nil=>exact absurd rfl hn | cons _ _=>simp
  have hl0:0<l.length:=by omega
  have hh:=head_at l hl0
  by_cases hb:1<W.length/\l.head? = some 48
  ·rw[if_pos (.inr hb)] at er
   rw[readV_no er]
   rw[hh] at hb
   exact rRead_no l W.length hz hkl hrun (.inr ⟨hb.1,hl0,by rw[Option.some.inj hb.2];rfl⟩) w
  ·rw[if_neg (fun h=>h.elim hn hb)] at er
   have h0:1<W.length->l[0].toNat≠48:=fun h e=>hb ⟨h,by rw[hh];congr 1;exact UInt8.toNat_inj.1 e⟩
   cases r with
   | nil=>
     rw[List.append_nil] at hs
     subst hs
     rw[tailR_nil] at er
     have e2:readV l=limV (l++([]++List.replicate (6-0) 48)):=limV_read (by rw[er];congr 1;exact(val_full l [] (by simp)).symm)
     rw[e2]
     exact rRead_bare l _ l.length 0 hz (lay_bare l ha) hW1 (fun h _=>h0 h) hrun rfl rfl w
   | cons c p=>
     have hc:=hd c p rfl
     rw[tailR_cons] at er
     have hlen:l.length=W.length+(p.length+1):=by rw[hs,List.length_append,List.length_cons]
     have hck:∀ h:W.length<l.length,l[W.length]=c:=by
      intro h
      simp only[hs]
      rw[List.getElem_append_right (Nat.le_refl _)]
      simp
     have hrun2:runL l (W.length+1)=(p.takeWhile isD).length:=by
      unfold runL
      rw[hs]
      simp
     have hfp:(p.takeWhile isD).length<=p.length:=by
      have:=congrArg List.length (split_run p)
      rw[List.length_append] at this
      omega
     have har:=all_run p
     by_cases hg:c=46/\okP p=true
     ·rw[if_pos hg] at er
      obtain⟨p6,pa⟩:=okP_parts hg.2
      have pn:p≠[]:=by have:=hg.2;unfold okP at this;simp only[Bool.and_eq_true,decide_eq_true_eq] at this;exact this.1.1
      have hp1:1<=p.length:=by cases p with | nil=>exact absurd rfl pn | cons _ _=>simp
      have e2:readV l=limV (W++(p++List.replicate (6-p.length) 48)):=limV_read (by rw[er];congr 1;exact(val_full W p p6).symm)
      rw[e2]
      rw[har.2 pa] at hrun2
      have hlay:=lay_point W p ha pa p6
      rw[<-hg.1,<-hs] at hlay
      exact rRead_point l _ W.length p.length hz hlay hW1 (fun h _=>h0 h) hrun (by omega) hp1 (fun h=>by rw[hck h,hg.1];rfl) hrun2 w
     ·rw[if_neg hg] at er
      rw[readV_no er]
      refine rRead_bad l W.length _ hz hW1 (by omega) h0 hrun hrun2 (by omega) ?_ w
      rw[hck (by omega)]
      by_cases c46:c=46
      ·right
       have hk:¬ okP p=true:=fun h=>hg ⟨c46,h⟩
       by_cases hpa:p.all isD=true
       ·have e:=har.2 hpa
        rw[e]
        unfold okP at hk
        simp only[Bool.and_eq_true,decide_eq_true_eq,hpa,and_true,not_and] at hk
        by_cases hpn:p=[]
        ·left;rw[hpn];decide
        ·right;left;have:=hk hpn;omega
       ·right;right
        have:(p.takeWhile isD).length≠p.length:=fun h=>hpa (har.1 h)
        omega
      ·left
       intro h
       exact c46 (UInt8.toNat_inj.1 h)
end Go.Proofs.YtecdfnpbcabdnaaGreatDoor
