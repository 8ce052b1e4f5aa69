import Derived.Test.YtecdfnpbcabdnaaGreatDoorLxB
import Derived.Test.YtecdfnpbcabdnaaGreatDoorMiG
import Derived.Test.YtecdfnpbcabdnaaGreatDoorMgS
import Derived.Test.YtecdfnpbcabdnaaGreatDoorMoM
namespace Go.Proofs.YtecdfnpbcabdnaaGreatDoor
open Go.RowKit Go.Lib
def wordV:List Value:=words.map fun l=>.string (ofL l)
set_option maxHeartbeats 2000000 in
set_option maxRecDepth 20000 in
theorem words_c (w:World):Calls Tryz.prog 106 #[] w fun e w'=>e=.returned (.slice (some ⟨w.heap.size,0,none⟩) 35 35)/\Box w' w.heap.size wordV/\Below w.heap.size w w':=by
 go_enter Tryz.func106,Tryz.ntmps106
 go_wp2_with fail
 go_ret
 exact⟨rfl,Box.new w wordV _,(Below.refl _ _).alloc (Nat.le_refl _) _⟩
theorem wordV_get (j:Nat)(hj:j<35):∃ l,words[j]? = some l/\wordV[j]? = some (.string (ofL l)):=by
 have h:j<words.length:=hj
 refine⟨words[j],List.getElem?_eq_getElem h,?_⟩
 unfold wordV
 rw[List.getElem?_map,List.getElem?_eq_getElem h]
 rfl
theorem has_drop {j:Nat}{l x:List UInt8}(h:words[j]? = some l):(words.drop j).contains x=(x==l||(words.drop (j+1)).contains x):=by
 obtain⟨hj,e⟩:=List.getElem?_eq_some_iff.1 h
 rw[List.drop_eq_getElem_cons hj,e,List.contains_cons]
set_option maxHeartbeats 2000000 in
theorem rReserved_c (t:ByteArray)(w:World):Calls Tryz.prog 83 #[.string t] w fun e w'=>e=.returned (.bool (resv t.data.toList))/\Below w.heap.size w w':=by
 obtain⟨r,hr⟩:∃ r:Bool,Hid (r=resv t.data.toList):=⟨_,rfl⟩
 rw[<-hr.out]
 have HW:=hid2 (words_c w)
 go_enter Tryz.func83,Tryz.ntmps83
 go_wp2_with fail
 refine Calls.mono HW.out ?_
 rintro e w1 ⟨rfl,hb,b1⟩
 have HB:=hid2 hb
 have B1:=hid2 b1
 have hg:w.heap.size<w1.heap.size:=hb.lt
 clear hb b1 HW
 go_wp2_with fail
 go_loop [4] (fun s3=>∃ j:Nat,s3=.int .i64 (j:Nat)/\j<=35/\Hid (r=(words.drop j).contains t.data.toList)) (fun s3=>35-(RowKit.intOf s3).toNat)
 case atStart=>exact⟨0,rfl,by omega,hr⟩
 case round=>
  obtain⟨j,rfl,hj,HR⟩:=hrel
  clear hr
  by_cases hlt:j<35
  ·have hlt2:(j:Int)<35:=by omega
   obtain⟨l,h1,h2⟩:=wordV_get j hlt
   have hc:=HB.out.cell j _ h2
   have hR:=HR.out
   rw[has_drop h1] at hR
   have hE:Hid (r=((ofL l).toList==t.toList||(words.drop (j+1)).contains t.data.toList)):=by
    show r=_
    rw[hR,Lib.toList_data,Lib.toList_data]
    congr 1
    show (t.data.toList==l)=(l==t.data.toList)
    rw[Bool.eq_iff_iff,beq_iff_eq,beq_iff_eq]
    exact eq_comm
   generalize ofL l=c at *
   clear h1 h2 hR HR
   cases hq:(c.toList==t.toList) with
   | true=>
     have hR2:r=true:=by rw[hE.out,hq];rfl
     clear hE
     subst hR2
     go_wp2_with fail
     go_ret
     exact⟨rfl,B1.out⟩
   | false=>
     have hR2:Hid (r=(words.drop (j+1)).contains t.data.toList):=by show r=_;rw[hE.out,hq];rfl
     clear hE
     go_wp2_with fail
     go_round
     case rel=>exact⟨j+1,by go_num,by omega,hR2⟩
     case measure=>simp[RowKit.intOf];omega
  ·obtain rfl:j=35:=by omega
   have hR2:r=false:=by rw[HR.out];rfl
   subst hR2
   clear HR
   go_wp2_with fail
   go_ret
   exact⟨rfl,B1.out⟩
def PL (s:ByteArray):List (Int×Int):=toI (rs s 0)++[(-1,(s.size:Int))]
def rAt (s:ByteArray)(i:Nat):Int:=if i<s.size then ((Utf8.decode s i).1:Int) else -1
structure Plc (s:ByteArray)(I i:Nat):Prop where
 drop:(rs s 0).drop I=rs s i
 le:I<=(rs s 0).length
 inn:i<=s.size
theorem Plc.start (s:ByteArray):Plc s 0 0:=⟨rfl,Nat.zero_le _,Nat.zero_le _⟩
theorem Plc.step {s:ByteArray}{I i:Nat}(h:Plc s I i)(hi:i<s.size):Plc s (I+1) (i+(Utf8.decode s i).2):=by
 have hd:=h.drop
 rw[rs_step hi] at hd
 have hl:I<(rs s 0).length:=by
  rcases Nat.lt_or_ge I (rs s 0).length with hl | hl
  ·exact hl
  ·rw[List.drop_of_length_le hl] at hd;cases hd
 refine⟨?_,hl,width_in s i hi⟩
 rw[List.drop_eq_getElem_cons hl] at hd
 exact(List.cons.inj hd).2
theorem Plc.get {s:ByteArray}{I i:Nat}(h:Plc s I i):(PL s)[I]? = some (rAt s i,(i:Int)):=by
 have hd:=h.drop
 unfold PL rAt
 by_cases hi:i<s.size
 ·rw[rs_step hi] at hd
  have hl:I<(rs s 0).length:=by
   rcases Nat.lt_or_ge I (rs s 0).length with hl | hl
   ·exact hl
   ·rw[List.drop_of_length_le hl] at hd;cases hd
  rw[List.drop_eq_getElem_cons hl] at hd
  rw[List.getElem?_append_left (by simpa[toI] using hl),if_pos hi]
  show ((rs s 0).map _)[I]? = _
  rw[List.getElem?_map,List.getElem?_eq_getElem hl,(List.cons.inj hd).1]
  rfl
 ·rw[rs_end hi] at hd
  have hl:I=(rs s 0).length:=by
   have:=congrArg List.length hd
   rw[List.length_drop] at this
   have:=h.le
   simp at *
   omega
  have he:i=s.size:=by have:=h.inn;omega
  rw[if_neg hi,List.getElem?_append_right (by simp[toI,hl])]
  simp[toI,hl,he]
theorem PL_len (s:ByteArray):(PL s).length=(rs s 0).length+1:=by simp[PL,toI]
theorem Plc.run {s:ByteArray}(p:Nat->Bool):∀ i I,Plc s I i->Plc s (I+(seg s p i).length) (rn s p i):=by
 refine rn_ind (s:=s) (p:=p) (fun i hi I h=>?_) (fun i hi h ih I hp=>?_) (fun i hi h I hp=>?_)
 ·rw[seg_end hi,rn_end hi]
  have:i=s.size:=by have:=h.inn;omega
  subst this
  exact h
 ·rw[seg_yes hi h,rn_yes hi h,List.length_cons]
  have:=ih (I+1) (hp.step hi)
  rw[show I+1+(seg s p (i+(Utf8.decode s i).2)).length=I+((seg s p (i+(Utf8.decode s i).2)).length+1) by omega] at this
  exact this
 ·rw[seg_no hi h,rn_no hi h]
  exact hp
structure Cu (w:World)(b:Nat)(s:ByteArray)(I:Nat)(lv:Value):Prop where
 box:∃ g cap,Box w b [.string s,.slice (some ⟨g,0,none⟩) (PL s).length cap,.int .i64 (I:Nat),lv]/\Box w g (pcs (PL s))/\g≠b
theorem isC_minus (c:Int):isC (-1) c=false:=by
 unfold isC
 repeat' split
 all_goals decide
set_option maxHeartbeats 2000000 in
theorem class_c (b:Nat)(s:ByteArray)(I J i:Nat)(lv:Value)(c:Int)(w:World)(h:Cu w b s J lv)(hp:Plc s I i):
 Calls Tryz.prog 81 #[.pointer (some ⟨b,0,none⟩),.int .i64 (I:Nat),.int .i64 c] w fun e w'=>e=.returned (.bool (isC (rAt s i) c))/\w'=w:=by
 obtain⟨g,cap,hb,hg,_⟩:=h.box
 obtain⟨c0,c1,c2,c3,_⟩:=hb.four
 have hlt:=hb.lt
 have hlg:=hg.lt
 have hget:=hg.cell (2*I) _ (pcs_get _ _ _ hp.get).1
 have hl:=PL_len s
 have hIl:I<(PL s).length:=by have:=hp.le;omega
 have hIl2:(I:Int)<(((PL s).length:Nat):Int):=by omega
 have hle:=rs_length0 s
 have HI:=hid2 (fun wx=>rIs_c (rAt s i) c wx)
 rw[Nat.mul_comm] at hget
 generalize (PL s).length=n at *
 generalize isC (rAt s i) c=bb at *
 generalize rAt s i=rr at *
 clear h hb hg hp hl hle
 go_enter Tryz.func81,Tryz.ntmps81
 go_wp2_with fail
 refine Calls.mono (HI.out _) ?_
 rintro e w1 ⟨rfl,rfl⟩
 go_wp2_with fail
 go_ret
 exact⟨rfl,rfl⟩
set_option maxHeartbeats 2000000 in
theorem run_r (b:Nat)(s:ByteArray)(hz:s.size<=1048576)(I J i:Nat)(lv:Value)(c:Int)(w:World)(h:Cu w b s J lv)(hp:Plc s I i):
 Calls Tryz.prog 80 #[.pointer (some ⟨b,0,none⟩),.int .i64 (I:Nat),.int .i64 c] w fun e w'=>e=.returned (.int .i64 ((I+(seg s (fun r=>isC (r:Int) c) i).length:Nat)))/\w'=w:=by
 have HC:=hid2 (fun I i (hp:Plc s I i)=>class_c b s I J i lv c w h hp)
 have HP:=hid2 hp
 obtain⟨fin,hfin⟩:∃ f:Nat,Hid (f=I+(seg s (fun r=>isC (r:Int) c) i).length):=⟨_,rfl⟩
 rw[<-hfin.out]
 clear h hp
 go_enter Tryz.func80,Tryz.ntmps80
 go_wp2_with fail
 go_loop [1] (fun s1=>∃ K k:Nat,s1=.int .i64 (K:Nat)/\Hid (Plc s K k)/\Hid (fin=K+(seg s (fun r=>isC (r:Int) c) k).length)) (fun s1=>(rs s 0).length+1-(RowKit.intOf s1).toNat)
 case atStart=>exact⟨I,i,rfl,HP,hfin⟩
 case round=>
  obtain⟨K,k,rfl,HK,HF⟩:=hrel
  have hC:=hid2 (HC.out K k HK.out)
  have hKl:=HK.out.le
  have hle:=rs_length0 s
  have hnw:IntKind.i64.wrap ((K:Int)+1)=((K+1:Nat):Int):=by rw[IntKind.wrap_i64];omega
  cases hq:isC (rAt s k) c with
  | false=>
    have hf:fin=K:=by
     rw[HF.out]
     by_cases hk:k<s.size
     ·unfold rAt at hq
      rw[if_pos hk] at hq
      rw[seg_no hk hq]
      rfl
     ·rw[seg_end hk];rfl
    rw[hq] at hC
    subst hf
    clear HF hq HC hfin
    go_wp2_with fail
    refine Calls.mono hC.out ?_
    rintro e w1 ⟨rfl,rfl⟩
    go_wp2_with fail
    go_ret
    exact⟨rfl,rfl⟩
  | true=>
    have hk:k<s.size:=by
     rcases Nat.lt_or_ge k s.size with hk | hk
     ·exact hk
     ·unfold rAt at hq
      rw[if_neg (by omega),isC_minus] at hq
      cases hq
    have hq2:=hq
    unfold rAt at hq2
    rw[if_pos hk] at hq2
    have hf:=HF.out
    rw[seg_yes (p:=fun r=>isC (r:Int) c) hk hq2,List.length_cons] at hf
    have HF2:=hid2 (show fin=(K+1)+(seg s (fun r=>isC (r:Int) c) (k+(Utf8.decode s k).2)).length by omega)
    have HK2:=hid2 (HK.out.step hk)
    have hKl2:=HK2.out.le
    rw[hq] at hC
    clear HF hq HC hfin hf hq2
    go_wp2_with fail
    refine Calls.mono hC.out ?_
    rintro e w1 ⟨rfl,rfl⟩
    go_wp2_with fail
    go_round
    case rel=>exact⟨K+1,k+(Utf8.decode s k).2,rfl,HK2,HF2⟩
    case measure=>simp[RowKit.intOf];omega
end Go.Proofs.YtecdfnpbcabdnaaGreatDoor
