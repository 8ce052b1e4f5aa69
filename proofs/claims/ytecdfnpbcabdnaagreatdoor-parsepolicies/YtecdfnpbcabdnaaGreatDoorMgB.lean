import Derived.Test.YtecdfnpbcabdnaaGreatDoorMgT
import Derived.Test.YtecdfnpbcabdnaaGreatDoorProg
import Derived.Test.YtecdfnpbcabdnaaGreatDoorBoxes
import Derived.WalkKit
section
namespace Go.Proofs.YtecdfnpbcabdnaaGreatDoor
open Go.RowKit
abbrev strV (l:List UInt8):Value:=.string ⟨l.toArray⟩
theorem idx_at (l:List UInt8)(k:Nat)(h:k<l.length)(w:World):(Instr.index 9 (strV l) (.int .i64 k)).run Tryz.prog w=.ok (.int .u8 (l[k].toNat:Nat)) w:=by
 have hz:(ByteArray.mk l.toArray).size=l.length:=by simp[ByteArray.size]
 rw[run_index_string w 9 ⟨l.toArray⟩ .i64 _ Tryz.underlying9,dif_pos ⟨by omega,by omega⟩]
 rfl
theorem isDigit_any (b:UInt8)(w:World):Calls Tryz.prog 139 #[.int .u8 (b.toNat:Nat)] w fun e w'=>e=.returned (.bool (isD b))/\w=w':=by
 have h1:isD b=(decide ((48:Int)<=(b.toNat:Int))&&decide ((b.toNat:Int)<=57)):=by
  unfold isD
  rw[Bool.eq_iff_iff]
  simp only[Bool.and_eq_true,decide_eq_true_eq]
  omega
 rw[h1]
 generalize (b.toNat:Int)=n
 clear h1
 go_enter Tryz.func139,Tryz.ntmps139
 go_wp2_with fail
 ·go_ret
  refine⟨?_,rfl⟩
  rw[decide_eq_true (by assumption:48<=n)]
  rfl
 ·go_ret
  refine⟨?_,rfl⟩
  rw[decide_eq_false (show ¬ 48<=n by omega)]
  rfl
theorem all_drop (l:List UInt8)(k:Nat)(h:k<l.length):(l.drop k).all isD=(isD l[k]&&(l.drop (k+1)).all isD):=by
 rw[List.drop_eq_getElem_cons h,List.all_cons]
theorem areDigits_any (l:List UInt8)(hz:l.length<=281474976710656)(w:World):Calls Tryz.prog 152 #[strV l] w fun e w'=>e=.returned (.bool (l.all isD))/\w=w':=by
 go_enter Tryz.func152,Tryz.ntmps152
 go_wp2_with fail
 go_loopw [6] (fun i wr=>∃ k:Nat,i=.int .i64 k/\k<=l.length/\Hid (l.all isD=(l.drop k).all isD)/\w=wr) (fun i _=>l.length-(intOf i).toNat)
 case atStart=>exact⟨0,rfl,Nat.zero_le _,(rfl:l.all isD=(l.drop 0).all isD),rfl⟩
 case round=>
  obtain⟨k,rfl,hk,hl,rfl⟩:=hrel
  by_cases hlt:k<l.length
  ·have hix:=fun wx=>idx_at l k hlt wx
   have hd:=fun wx=>isDigit_any l[k] wx
   have k1:(k:Int)<(l.length:Int):=by omega
   have hs:=all_drop l k hlt
   cases hb:isD l[k] with
   | true=>
     have hl2:Hid (l.all isD=(l.drop (k+1)).all isD):=by
      have:=hl.out
      rw[hs,hb,Bool.true_and] at this
      exact this
     rw[hb] at hd
     clear hl hs hb
     generalize l[k]=b at *
     go_wp2_with fail
     refine(hd _).mono ?_
     rintro e w1 ⟨rfl,rfl⟩
     go_wp2_with fail
     go_roundw
     case rel=>exact⟨k+1,by go_num,by omega,hl2,trivial⟩
     case measure=>simp[intOf];omega
   | false=>
     have hl2:Hid (l.all isD=false):=by
      have:=hl.out
      rw[hs,hb,Bool.false_and] at this
      exact this
     rw[hb] at hd
     clear hl hs hb
     generalize l[k]=b at *
     go_wp2_with fail
     refine(hd _).mono ?_
     rintro e w1 ⟨rfl,rfl⟩
     go_wp2_with fail
     go_ret
     exact⟨by rw[hl2.out];rfl,rfl⟩
  ·have e:k=l.length:=by omega
   subst e
   have hl2:Hid (l.all isD=true):=by
    have:=hl.out
    rw[List.drop_length] at this
    exact this
   clear hl hlt hk
   go_wp2_with fail
   go_ret
   exact⟨by rw[hl2.out];rfl,rfl⟩
theorem okP_eq (l:List UInt8):okP l=(!decide (l=[])&&(decide ((l.length:Int)<=6)&&l.all isD)):=by
 unfold okP
 rw[Bool.eq_iff_iff]
 simp only[Bool.and_eq_true,decide_eq_true_eq,Bool.not_eq_true',decide_eq_false_iff_not,and_assoc]
 constructor
 ·rintro⟨h1,h2,h3⟩;exact⟨h1,by omega,h3⟩
 ·rintro⟨h1,h2,h3⟩;exact⟨h1,by omega,h3⟩
theorem arePlaces_any (l:List UInt8)(hz:l.length<=281474976710656)(w:World):Calls Tryz.prog 137 #[strV l] w fun e w'=>e=.returned (.bool (okP l))/\w=w':=by
 have hd:=areDigits_any l hz
 have he:=okP_eq l
 generalize l.all isD=a at *
 generalize okP l=r at *
 cases l with
 | nil=>
   have HE:Hid _:=he
   clear he
   go_enter Tryz.func137,Tryz.ntmps137
   go_wp2_with fail
   go_ret
   exact⟨by rw[HE.out];rfl,rfl⟩
 | cons b t=>
   rw[decide_eq_false (by simp:¬ b::t=[]),Bool.not_false,Bool.true_and] at he
   have q1:(b::t).isEmpty=false:=rfl
   have q2:¬(b::t)=[]:=by simp
   have HE:Hid _:=he
   clear he
   generalize b::t=l at *
   go_enter Tryz.func137,Tryz.ntmps137
   go_wp2_with fail
   ·refine(hd _).mono ?_
    rintro e w1 ⟨rfl,rfl⟩
    go_wp2_with fail
    go_ret
    exact⟨by rw[HE.out,decide_eq_true (by assumption),Bool.true_and];rfl,rfl⟩
   ·go_ret
    exact⟨by rw[HE.out,decide_eq_false (by omega),Bool.false_and];rfl,rfl⟩
theorem head_at (l:List UInt8)(h:0<l.length):l.head? = some l[0]:=by
 cases l with
 | nil=>simp at h
 | cons b t=>rfl
theorem okW_eq (l:List UInt8)(h:0<l.length):okW l=(decide ((l.length:Int)<=13)&&(l.all isD&&(((l[0].toNat:Int) != 48)||decide ((l.length:Int)=1)))):=by
 unfold okW
 rw[head_at l h,Bool.eq_iff_iff]
 have hn:l≠[]:=fun e=>by rw[e] at h;simp at h
 have q:(some l[0]≠some (48:UInt8))↔(l[0].toNat:Int)≠48:=by
  rw[ne_eq,ne_eq,Option.some.injEq,<-UInt8.toNat_inj]
  have:(48:UInt8).toNat=48:=rfl
  omega
 simp only[Bool.and_eq_true,Bool.or_eq_true,decide_eq_true_eq,bne_iff_ne,and_assoc,q]
 constructor
 ·rintro⟨_,h2,h3,h4⟩;exact⟨by omega,h3,h4.imp id (by omega)⟩
 ·rintro⟨h2,h3,h4⟩;exact⟨hn,by omega,h3,h4.imp id (by omega)⟩
theorem isWhole_any (l:List UInt8)(hz:l.length<=281474976710656)(w:World):Calls Tryz.prog 136 #[strV l] w fun e w'=>e=.returned (.bool (okW l))/\w=w':=by
 have hd:=areDigits_any l hz
 by_cases hn:l=[]
 ·subst hn
  have he:Hid (okW []=false):=(rfl:okW []=false)
  generalize okW []=r at *
  go_enter Tryz.func136,Tryz.ntmps136
  go_wp2_with fail
  go_ret
  exact⟨by rw[he.out];rfl,rfl⟩
 ·have h0:0<l.length:=by cases l with | nil=>exact absurd rfl hn | cons _ _=>simp
  have he:=okW_eq l h0
  have hix:∀ wx,(Instr.index 9 (strV l) (.int .i64 0)).run Tryz.prog wx=.ok (.int .u8 (l[0].toNat:Nat)) wx:=fun wx=>idx_at l 0 h0 wx
  have q1:l.isEmpty=false:=by cases l with | nil=>exact absurd rfl hn | cons _ _=>rfl
  generalize l.all isD=a at *
  generalize okW l=r at *
  generalize (l[0].toNat:Nat)=b at *
  have HE:Hid _:=he
  clear he
  go_enter Tryz.func136,Tryz.ntmps136
  go_wp2_with fail
  ·go_ret
   exact⟨by rw[HE.out,decide_eq_false (show ¬(l.length:Int)<=13 by omega),Bool.false_and];rfl,rfl⟩
  ·refine(hd _).mono ?_
   rintro e w1 ⟨rfl,rfl⟩
   have h13:(l.length:Int)<=13:=by assumption
   rw[decide_eq_true h13,Bool.true_and] at HE
   clear hd
   cases a with
   | false=>
     go_wp2_with fail
     go_ret
     exact⟨by rw[HE.out];rfl,rfl⟩
   | true=>
     by_cases hb:b=48
     ·subst hb
      go_wp2_with fail
      go_ret
      exact⟨by rw[HE.out];rfl,rfl⟩
     ·have k2:((b:Int) != 48)=true:=bne_iff_ne.2 (by omega)
      rw[k2] at HE
      go_wp2_with fail
      go_ret
      exact⟨by rw[HE.out];rfl,rfl⟩
theorem val_take_succ (L:List UInt8)(k:Nat)(h:k<L.length):val (L.take (k+1))=val (L.take k)*10+(L[k].toNat-48):=by
 rw[List.take_succ_eq_append_getElem h,val_snoc]
theorem val_take_bd (L:List UInt8)(h:L.all isD=true)(hl:L.length<=13)(k:Nat)(hk:k<L.length):val (L.take k)<1000000000000:=by
 have ha:(L.take k).all isD=true:=by
  rw[List.all_eq_true] at h ⊢
  exact fun x hx=>h x (List.mem_of_mem_take hx)
 have h1:=val_lt _ ha
 have:10^(L.take k).length<=10^12:=Nat.pow_le_pow_right (by decide) (by rw[List.length_take];omega)
 have:10^12=1000000000000:=by decide
 omega
theorem isD_at (l:List UInt8)(h:l.all isD=true)(k:Nat)(hk:k<l.length):48<=l[k].toNat/\l[k].toNat<=57:=isD_iff.1 (List.all_eq_true.1 h _ (List.getElem_mem hk))
theorem worth_any (l:List UInt8)(m:Nat)(ha:l.all isD=true)(hl:l.length<=13)(hm:m<=13)(w:World):
 Calls Tryz.prog 138 #[strV l,.int .i64 m] w fun e w'=>e=.returned (.int .u64 (val l*10^(m-l.length):Nat))/\w=w':=by
 have eL:=val_pad l (m-l.length)
 rw[<-eL]
 clear eL
 obtain⟨L,hL⟩:∃ L,L=l++List.replicate (m-l.length) 48:=⟨_,rfl⟩
 rw[<-hL]
 have hlen:L.length=max l.length m:=by rw[hL,List.length_append,List.length_replicate];omega
 have haL:L.all isD=true:=by
  rw[hL,List.all_append,ha,List.all_replicate]
  simp
  exact .inr (by decide)
 have hin:∀ k (h:k<l.length) (h2:k<L.length),L[k]=l[k]:=by
  intro k h h2
  simp only[hL,List.getElem_append_left h]
 have hout:∀ k (_:¬ k<l.length) (h2:k<L.length),L[k]=48:=by
  intro k h h2
  simp only[hL,List.getElem_append_right (by omega:l.length<=k),List.getElem_replicate]
 have HL:Hid _:=hL
 have HA:Hid _:=haL
 clear hL haL
 by_cases hlm:l.length<m
 ·obtain rfl:m=L.length:=by omega
  have hL13:L.length<=13:=hm
  clear hlen
  go_enter Tryz.func138,Tryz.ntmps138
  go_wp2_with fail
  go_loopw [5,11] (fun n i wr=>∃ k:Nat,i=.int .i64 k/\k<=L.length/\n=.int .u64 (val (L.take k):Nat)/\w=wr) (fun _ i _=>L.length-(intOf i).toNat)
  case atStart=>exact⟨0,rfl,Nat.zero_le _,rfl,rfl⟩
  case round=>
   obtain⟨k,rfl,hk,rfl,rfl⟩:=hrel
   by_cases hlt:k<L.length
   ·have hb:=val_take_bd L HA.out (by omega) k hlt
    have hs:=val_take_succ L k hlt
    have k1:(k:Int)<(L.length:Int):=by omega
    by_cases hk2:k<l.length
    ·have hix:=fun wx=>idx_at l k hk2 wx
     have hd:=isD_at l ha k hk2
     rw[hin k hk2 hlt] at hs
     generalize l[k].toNat=b at *
     generalize val (L.take k)=n at *
     have k2:(k:Int)<(l.length:Int):=by omega
     have HS:Hid _:=hs
     clear hs hin hout
     go_wp2_with fail
     go_roundw
     case rel=>exact⟨k+1,by go_num,by omega,by rw[HS.out];go_num,trivial⟩
     case measure=>simp[intOf];omega
    ·rw[hout k hk2 hlt] at hs
     generalize val (L.take k)=n at *
     have k2:¬(k:Int)<(l.length:Int):=by omega
     have HS:Hid _:=hs
     clear hs hin hout
     go_wp2_with fail
     go_roundw
     case rel=>exact⟨k+1,by go_num,by omega,by rw[HS.out];go_num,trivial⟩
     case measure=>simp[intOf];omega
   ·have e:k=L.length:=by omega
    subst e
    have ev:L.take L.length=L:=List.take_length
    rw[ev]
    clear ev hin hout
    go_wp2_with fail
    go_ret
    exact⟨rfl,rfl⟩
 ·have elL:L.length=l.length:=by omega
  go_enter Tryz.func138,Tryz.ntmps138
  go_wp2_with fail
  go_loopw [5,11] (fun n i wr=>∃ k:Nat,i=.int .i64 k/\k<=L.length/\n=.int .u64 (val (L.take k):Nat)/\w=wr) (fun _ i _=>L.length-(intOf i).toNat)
  case atStart=>exact⟨0,rfl,Nat.zero_le _,rfl,rfl⟩
  case round=>
   obtain⟨k,rfl,hk,rfl,rfl⟩:=hrel
   by_cases hlt:k<L.length
   ·have hb:=val_take_bd L HA.out (by omega) k hlt
    have hs:=val_take_succ L k hlt
    have k1:(k:Int)<(l.length:Int):=by omega
    by_cases hk2:k<l.length
    ·have hix:=fun wx=>idx_at l k hk2 wx
     have hd:=isD_at l ha k hk2
     rw[hin k hk2 hlt] at hs
     generalize l[k].toNat=b at *
     generalize val (L.take k)=n at *
     have k2:(k:Int)<(l.length:Int):=by omega
     have HS:Hid _:=hs
     clear hs hin hout
     go_wp2_with fail
     go_roundw
     case rel=>exact⟨k+1,by go_num,by omega,by rw[HS.out];go_num,trivial⟩
     case measure=>simp[intOf];omega
    ·rw[hout k hk2 hlt] at hs
     generalize val (L.take k)=n at *
     have k2:¬(k:Int)<(l.length:Int):=by omega
     have HS:Hid _:=hs
     clear hs hin hout
     go_wp2_with fail
     go_roundw
     case rel=>exact⟨k+1,by go_num,by omega,by rw[HS.out];go_num,trivial⟩
     case measure=>simp[intOf];omega
   ·have e:k=L.length:=by omega
    subst e
    have ev:L.take L.length=L:=List.take_length
    rw[ev]
    clear ev hin hout
    go_wp2_with fail
    go_ret
    exact⟨rfl,rfl⟩
end Go.Proofs.YtecdfnpbcabdnaaGreatDoor
end
section
namespace Go.Proofs.YtecdfnpbcabdnaaGreatDoor
open Go.RowKit Go.Lib
def partV (n nx:Nat):Value:=match part n nx with
 | some j=>.tuple #[.int .i64 (wrt j:Nat),.int .i64 (wrt (j+1):Nat)]
 | none=>.tuple #[.int .i64 0,.int .i64 0]
theorem partOf_any (n nx:Nat)(hx:nx<=4)(w:World):
 Calls Tryz.prog 140 #[.int .u8 (n:Nat),.int .i64 (wrt nx:Nat)] w fun e w'=>e=.returned (partV n nx)/\w=w':=by
 have h0:partV n 0=if n=100 then .tuple #[.int .i64 86400,.int .i64 3600] else partV n 1:=by
  by_cases h:n=100
  ·subst h;rfl
  ·rw[if_neg h];unfold partV;rw[part_miss n 0 (by decide) h]
 have h1:partV n 1=if n=104 then .tuple #[.int .i64 3600,.int .i64 60] else partV n 2:=by
  by_cases h:n=104
  ·subst h;rfl
  ·rw[if_neg h];unfold partV;rw[part_miss n 1 (by decide) h]
 have h2:partV n 2=if n=109 then .tuple #[.int .i64 60,.int .i64 1] else partV n 3:=by
  by_cases h:n=109
  ·subst h;rfl
  ·rw[if_neg h];unfold partV;rw[part_miss n 2 (by decide) h]
 have h3:partV n 3=if n=115 then .tuple #[.int .i64 1,.int .i64 0] else partV n 4:=by
  by_cases h:n=115
  ·subst h;rfl
  ·rw[if_neg h];unfold partV;rw[part_miss n 3 (by decide) h]
 have h4:partV n 4=.tuple #[.int .i64 0,.int .i64 0]:=by unfold partV;rw[part_four n 4 (by decide)]
 rw[h4] at h3
 rw[h3] at h2
 rw[h2] at h1
 rw[h1] at h0
 rcases(show nx=0\/nx=1\/nx=2\/nx=3\/nx=4 by omega) with rfl | rfl | rfl | rfl | rfl
 ·generalize partV n 0=v at *
  have HV:Hid _:=h0
  clear h0 h1 h2 h3 h4 hx
  simp only[wrt]
  go_enter Tryz.func140,Tryz.ntmps140
  go_wp2_with fail
  all_goals
   go_ret2
   refine⟨?_,rfl⟩
   rw[HV.out]
   simp only[beq_iff_eq,beq_eq_false_iff_ne,ne_eq] at *
   repeat first | rw[if_pos (by omega)] | rw[if_neg (by omega)]
   rfl
 ·generalize partV n 1=v at *
  have HV:Hid _:=h1
  clear h0 h1 h2 h3 h4 hx
  simp only[wrt]
  go_enter Tryz.func140,Tryz.ntmps140
  go_wp2_with fail
  all_goals
   go_ret2
   refine⟨?_,rfl⟩
   rw[HV.out]
   simp only[beq_iff_eq,beq_eq_false_iff_ne,ne_eq] at *
   repeat first | rw[if_pos (by omega)] | rw[if_neg (by omega)]
   rfl
 ·generalize partV n 2=v at *
  have HV:Hid _:=h2
  clear h0 h1 h2 h3 h4 hx
  simp only[wrt]
  go_enter Tryz.func140,Tryz.ntmps140
  go_wp2_with fail
  all_goals
   go_ret2
   refine⟨?_,rfl⟩
   rw[HV.out]
   simp only[beq_iff_eq,beq_eq_false_iff_ne,ne_eq] at *
   repeat first | rw[if_pos (by omega)] | rw[if_neg (by omega)]
   rfl
 ·generalize partV n 3=v at *
  have HV:Hid _:=h3
  clear h0 h1 h2 h3 h4 hx
  simp only[wrt]
  go_enter Tryz.func140,Tryz.ntmps140
  go_wp2_with fail
  all_goals
   go_ret2
   refine⟨?_,rfl⟩
   rw[HV.out]
   simp only[beq_iff_eq,beq_eq_false_iff_ne,ne_eq] at *
   repeat first | rw[if_pos (by omega)] | rw[if_neg (by omega)]
   rfl
 ·rw[h4]
  clear h0 h1 h2 h3 h4 hx
  simp only[wrt]
  go_enter Tryz.func140,Tryz.ntmps140
  go_wp2_with fail
  go_ret2
  exact⟨rfl,rfl⟩
def spanR (l:List UInt8):Value:=match spanN l with
 | some v=>.tuple #[.int .i64 (v:Nat),.int .i64 0]
 | none=>.tuple #[.int .i64 0,.int .i64 13]
theorem spanR_no {l:List UInt8}(h:spanN l=none):spanR l=.tuple #[.int .i64 0,.int .i64 13]:=by unfold spanR;rw[h]
theorem spanR_ok {l:List UInt8}{v:Nat}(h:spanN l=some v):spanR l=.tuple #[.int .i64 (v:Nat),.int .i64 0]:=by unfold spanR;rw[h]
structure At10 (l:List UInt8)(k sm cn nx:Nat):Prop where
 x:nx<=4
 c:cn<=999999
 s:sm<=nx*86399913600
 e:spanN l=sp sm cn nx (l.drop k)
theorem At10.cons {l:List UInt8}{k sm cn nx:Nat}(h:At10 l k sm cn nx)(hk:k<l.length):spanN l=sp sm cn nx (l[k]::l.drop (k+1)):=by
 rw[h.e,<-List.drop_eq_getElem_cons hk]
theorem At10.dig {l:List UInt8}{k sm cn nx:Nat}(h:At10 l k sm cn nx)(hk:k<l.length)(hd:isD l[k]=true)(h0:¬(vstep cn l[k]=0\/999999<vstep cn l[k])):At10 l (k+1) sm (vstep cn l[k]) nx:=
 ⟨h.x,by omega,h.s,by rw[h.cons hk,sp_dig _ _ _ _ _ hd,if_neg h0]⟩
theorem At10.digNo {l:List UInt8}{k sm cn nx:Nat}(h:At10 l k sm cn nx)(hk:k<l.length)(hd:isD l[k]=true)(h0:vstep cn l[k]=0\/999999<vstep cn l[k]):spanR l=.tuple #[.int .i64 0,.int .i64 13]:=
 spanR_no (by rw[h.cons hk,sp_dig _ _ _ _ _ hd,if_pos h0])
theorem At10.no {l:List UInt8}{k sm cn nx:Nat}(h:At10 l k sm cn nx)(hk:k<l.length)(hd:isD l[k]=false)(hp:part l[k].toNat nx=none\/cn=0):spanR l=.tuple #[.int .i64 0,.int .i64 13]:=
 spanR_no (by rw[h.cons hk,sp_no _ _ _ _ _ hd hp])
theorem At10.part {l:List UInt8}{k sm cn nx j:Nat}(h:At10 l k sm cn nx)(hk:k<l.length)(hd:isD l[k]=false)(hp:part l[k].toNat nx=some j)(hc:cn≠0):At10 l (k+1) (sm+cn*wrt j) 0 (j+1):=by
 obtain⟨h1,h2,_⟩:=part_some hp
 have h3:cn*wrt j<=999999*86400:=Nat.mul_le_mul h.c (wrt_le j)
 have h4:=h.s
 have h5:nx*86399913600<=j*86399913600:=Nat.mul_le_mul_right _ h1
 exact⟨by omega,by omega,by omega,by rw[h.cons hk,sp_part _ _ _ _ _ _ hd hp hc]⟩
theorem At10.end_no {l:List UInt8}{sm cn nx:Nat}(h:At10 l l.length sm cn nx)(hc:¬(cn=0/\1<=sm/\sm<=604800)):spanR l=.tuple #[.int .i64 0,.int .i64 13]:=
 spanR_no (by rw[h.e,List.drop_length,sp_nil,if_neg hc])
theorem At10.end_ok {l:List UInt8}{sm cn nx:Nat}(h:At10 l l.length sm cn nx)(hc:cn=0/\1<=sm/\sm<=604800):spanR l=.tuple #[.int .i64 (sm:Nat),.int .i64 0]:=
 spanR_ok (by rw[h.e,List.drop_length,sp_nil,if_pos hc])
theorem partV_some {n nx j:Nat}(h:part n nx=some j):partV n nx=.tuple #[.int .i64 (wrt j:Nat),.int .i64 (wrt (j+1):Nat)]:=by unfold partV;rw[h]
theorem partV_none {n nx:Nat}(h:part n nx=none):partV n nx=.tuple #[.int .i64 0,.int .i64 0]:=by unfold partV;rw[h]
theorem wrt_pos (j:Nat)(h:j<4):1<=wrt j:=by rcases four h with rfl | rfl | rfl | rfl<;>decide
set_option maxHeartbeats 4000000 in
theorem ReadSpan_any (l:List UInt8)(hz:l.length<=281474976710656)(w:World):
 Calls Tryz.prog 120 #[strV l] w fun e w'=>e=.returned (spanR l)/\w=w':=by
 go_enter Tryz.func120,Tryz.ntmps120
 go_wp2_with fail
 go_loopw [4,5,6,12] (fun s c n i wr=>∃ k sm cn nx:Nat,s=.int .i64 sm/\c=.int .i64 cn/\n=.int .i64 (wrt nx:Nat)/\i=.int .i64 k/\k<=l.length/\Hid (At10 l k sm cn nx)/\w=wr) (fun _ _ _ i _=>l.length-(intOf i).toNat)
 case atStart=>exact⟨0,0,0,0,rfl,rfl,rfl,rfl,Nat.zero_le _,(⟨by decide,by decide,by decide,rfl⟩:At10 l 0 0 0 0),rfl⟩
 case round=>
  obtain⟨k,sm,cn,nx,rfl,rfl,rfl,rfl,hk,hA,rfl⟩:=hrel
  have bc:=hA.out.c
  have bx:=hA.out.x
  have bs:sm<=345599654400:=by
   have h1:=hA.out.s
   have:nx*86399913600<=4*86399913600:=Nat.mul_le_mul_right _ bx
   omega
  by_cases hlt:k<l.length
  ·have hix:=fun wx=>idx_at l k hlt wx
   have hd:=fun wx=>isDigit_any l[k] wx
   have k1:(k:Int)<(l.length:Int):=by omega
   have q1:=hA.out.dig hlt
   have q2:=hA.out.digNo hlt
   have q3:=fun a b=>hA.out.no hlt a b
   have q4:=fun j a b c=>hA.out.part (j:=j) hlt a b c
   have hp:=fun wx=>partOf_any l[k].toNat nx bx wx
   cases hb:isD l[k] with
   | true=>
     rw[hb] at hd
     have dg:=isD_iff.1 hb
     replace q1:=q1 hb
     replace q2:=q2 hb
     clear q3 q4 hp hb
     have ev:vstep cn l[k]=cn*10+(l[k].toNat-48):=rfl
     generalize vstep cn l[k]=c2 at *
     generalize l[k].toNat=b at *
     generalize hX:wrt nx=X at *
     have HX:Hid _:=hX
     clear hX
     have h1:(cn:Int)*10+((b:Int)-48)=c2:=by omega
     by_cases h0:c2=0
     ·have HQ:Hid _:=q2 (.inl h0)
      have h2:(c2:Int)=0:=by omega
      have HE:Hid _:=ev
      clear q1 q2 h0 ev
      go_wp2_with fail
      refine(hd _).mono ?_
      rintro e w1 ⟨rfl,rfl⟩
      go_wp2_with fail
      go_ret2
      exact⟨by rw[HQ.out];rfl,rfl⟩
     ·have h2:((c2:Int)==0)=false:=beq_eq_false_iff_ne.2 (by omega)
      by_cases h3:999999<c2
      ·have HQ:Hid _:=q2 (.inr h3)
       have h4:(999999:Int)<(c2:Int):=by omega
       have HE:Hid _:=ev
       clear q1 q2 h0 ev h3
       go_wp2_with fail
       refine(hd _).mono ?_
       rintro e w1 ⟨rfl,rfl⟩
       go_wp2_with fail
       go_ret2
       exact⟨by rw[HQ.out];rfl,rfl⟩
      ·have HQ:Hid _:=q1 (by omega)
       have HE:Hid _:=ev
       clear q1 q2 h0 ev
       go_wp2_with fail
       refine(hd _).mono ?_
       rintro e w1 ⟨rfl,rfl⟩
       go_wp2_with fail
       go_roundw
       case rel=>exact⟨k+1,sm,c2,nx,rfl,rfl,by rw[HX.out],by go_num,by omega,HQ,trivial⟩
       case measure=>simp[intOf];omega
   | false=>
     rw[hb] at hd
     replace q3:=q3 hb
     replace q4:=fun j=>q4 j hb
     clear q1 q2 hb
     generalize l[k].toNat=b at *
     cases hpt:part b nx with
     | none=>
       have HQ:Hid _:=q3 (.inl hpt)
       rw[partV_none hpt] at hp
       clear q3 q4 hpt
       generalize wrt nx=X at *
       go_wp2_with fail
       refine(hd _).mono ?_
       rintro e w1 ⟨rfl,rfl⟩
       go_wp2_with fail
       refine(hp _).mono ?_
       rintro e w1 ⟨rfl,rfl⟩
       go_wp2_with fail
       go_ret2
       exact⟨by rw[HQ.out];rfl,rfl⟩
     | some j=>
       rw[partV_some hpt] at hp
       have hj:=part_some hpt
       have wp:=wrt_pos j hj.2.1
       have wl:=wrt_le j
       by_cases h0:cn=0
       ·have HQ:Hid _:=q3 (.inr h0)
        have hw0:((wrt j:Int)==0)=false:=beq_eq_false_iff_ne.2 (by omega)
        clear q3 q4 hpt hj
        subst h0
        generalize wrt nx=X at *
        generalize wrt j=Y at *
        generalize wrt (j+1)=Z at *
        go_wp2_with fail
        refine(hd _).mono ?_
        rintro e w1 ⟨rfl,rfl⟩
        go_wp2_with fail
        refine(hp _).mono ?_
        rintro e w1 ⟨rfl,rfl⟩
        go_wp2_with fail
        go_ret2
        exact⟨by rw[HQ.out];rfl,rfl⟩
       ·have HQ:Hid _:=q4 j hpt h0
        have hw0:((wrt j:Int)==0)=false:=beq_eq_false_iff_ne.2 (by omega)
        have hc0:((cn:Int)==0)=false:=beq_eq_false_iff_ne.2 (by omega)
        have hm:cn*wrt j<=999999*86400:=Nat.mul_le_mul bc wl
        have em:(cn:Int)*(wrt j:Int)=((cn*wrt j:Nat):Int):=by simp
        clear q3 q4 hpt hj h0
        generalize cn*wrt j=M at *
        generalize wrt nx=X at *
        generalize wrt j=Y at *
        generalize hZ:wrt (j+1)=Z at *
        have HZ:Hid _:=hZ
        clear hZ
        go_wp2_with fail
        refine(hd _).mono ?_
        rintro e w1 ⟨rfl,rfl⟩
        go_wp2_with fail
        refine(hp _).mono ?_
        rintro e w1 ⟨rfl,rfl⟩
        go_wp2_with fail
        go_roundw
        case rel=>exact⟨k+1,sm+M,0,j+1,by go_num,rfl,by rw[HZ.out],by go_num,by omega,HQ,trivial⟩
        case measure=>simp[intOf];omega
  ·have e:k=l.length:=by omega
   subst e
   have q1:=hA.out.end_no
   have q2:=hA.out.end_ok
   generalize wrt nx=X at *
   by_cases hc:cn=0/\1<=sm/\sm<=604800
   ·have HQ:Hid _:=q2 hc
    clear q1 q2 hA
    obtain⟨rfl,h1,h2⟩:=hc
    have h3:((sm:Int)==0)=false:=beq_eq_false_iff_ne.2 (by omega)
    go_wp2_with fail
    go_ret2
    exact⟨by rw[HQ.out];rfl,rfl⟩
   ·have HQ:Hid _:=q1 hc
    clear q1 q2 hA
    by_cases h0:cn=0
    ·subst h0
     by_cases h1:sm=0
     ·subst h1
      clear hc
      go_wp2_with fail
      go_ret2
      exact⟨by rw[HQ.out];rfl,rfl⟩
     ·have h2:(604800:Int)<sm:=by omega
      have h3:((sm:Int)==0)=false:=beq_eq_false_iff_ne.2 (by omega)
      clear hc
      go_wp2_with fail
      go_ret2
      exact⟨by rw[HQ.out];rfl,rfl⟩
    ·have h3:((cn:Int) != 0)=true:=bne_iff_ne.2 (by omega)
     clear hc
     go_wp2_with fail
     go_ret2
     exact⟨by rw[HQ.out];rfl,rfl⟩
end Go.Proofs.YtecdfnpbcabdnaaGreatDoor
end
