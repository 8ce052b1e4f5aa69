import Derived.Test.YtecdfnpbcabdnaaGreatDoorMiH
import Derived.Test.YtecdfnpbcabdnaaGreatDoorMgB
import Derived.Lib.TrimByte
import Derived.Shelf.RegionOpenPlain
namespace Go.Proofs.YtecdfnpbcabdnaaGreatDoor
open Go.RowKit Go.Lib
theorem drewN_b (w:World)(n:Nat):Below w.heap.size w (w.drewN n):=⟨rfl,rfl,rfl,Nat.le_refl _,fun _ _=>rfl⟩
theorem index_pt (l:List UInt8):indexByte l 46=if hasPt l=true then ((pre l).length:Int) else -1:=by
 induction l with
 | nil=>rfl
 | cons b r ih=>
   unfold indexByte
   by_cases hb:b=46
   ·subst hb;rfl
   ·have e1:hasPt (b::r)=hasPt r:=by
     unfold hasPt
     rw[List.contains_cons,beq_eq_false_iff_ne.2 (fun e=>hb e.symm),Bool.false_or]
    have e2:pre (b::r)=b::pre r:=by unfold pre;rw[List.takeWhile_cons,if_pos (bne_iff_ne.2 hb)]
    rw[e1,e2,ih,beq_eq_false_iff_ne.2 hb]
    by_cases h:hasPt r=true
    ·rw[if_pos h,if_pos h,List.length_cons]
     have:(((pre r).length:Int) == -1)=false:=beq_eq_false_iff_ne.2 (by omega)
     simp[this]
    ·rw[if_neg h,if_neg h];rfl
theorem pre_take (l:List UInt8):l.take (pre l).length=pre l:=by
 unfold pre
 have:=List.takeWhile_append_dropWhile (p:=(· != (46:UInt8))) (l:=l)
 conv=>lhs;rw[<-this]
 conv=>lhs;lhs;rw[this]
 rw[List.take_left]
theorem pre_app2 (l:List UInt8)(h:∀ b∈l,(b != 46)=true):pre l=l:=by
 have:=List.takeWhile_append_of_pos (p:=(· != (46:UInt8))) (l₁:=l) (l₂:=[]) h
 rw[List.append_nil] at this
 unfold pre
 rw[this]
 simp
theorem pre_all (l:List UInt8)(h:hasPt l=false):pre l=l/\post l=[]:=by
 have e:pre l=l:=by
  have:=pre_app2 l (fun b hb=>bne_iff_ne.2 (fun e=>by unfold hasPt at h;subst e;simp[hb] at h))
  exact this
 refine⟨e,?_⟩
 unfold post
 rw[e]
 simp
theorem pre_lt (l:List UInt8)(h:hasPt l=true):(pre l).length+1<=l.length:=by
 by_cases hc:(pre l).length<l.length
 ·exact hc
 ·exfalso
  have e:=pre_take l
  rw[List.take_of_length_le (by omega)] at e
  unfold hasPt at h
  simp only[List.contains_eq_mem,decide_eq_true_eq] at h
  rw[e] at h
  unfold pre at h
  have key:∀ m:List UInt8,(46:UInt8)∉m.takeWhile (· != 46):=by
   intro m
   induction m with
   | nil=>simp
   | cons b r ih=>
     rw[List.takeWhile_cons]
     split
     ·rename_i hb
      intro hm
      rcases List.mem_cons.1 hm with rfl | hm
      ·simp at hb
      ·exact ih hm
     ·simp
  exact key l h
theorem slice_h (l:List UInt8)(k:Nat)(h:k<=l.length)(w:World):(Instr.slice 9 (strV l) none (some (.int .i64 k)) none).run Tryz.prog w=.ok (strV (l.take k)) w:=by
 rw[run_slice_string_h w 9 ⟨l.toArray⟩ Tryz.underlying9 .i64 k (by omega) (by rw[Lib.size_mk];omega),Lib.extract_mk]
 simp
theorem slice_l (l:List UInt8)(k:Nat)(h:k<=l.length)(w:World):(Instr.slice 9 (strV l) (some (.int .i64 k)) none none).run Tryz.prog w=.ok (strV (l.drop k)) w:=by
 rw[run_slice_string_l w 9 ⟨l.toArray⟩ Tryz.underlying9 .i64 k (by omega) (by rw[Lib.size_mk];omega),Lib.extract_mk,Lib.size_mk,Int.toNat_natCast,List.take_of_length_le (by rw[List.length_drop];omega)]
theorem slice_lh (l:List UInt8)(a b:Nat)(h:a<=b)(hb:b<=l.length)(w:World):(Instr.slice 9 (strV l) (some (.int .i64 a)) (some (.int .i64 b)) none).run Tryz.prog w=.ok (strV ((l.drop a).take (b-a))) w:=by
 rw[run_slice_string_if w 9 ⟨l.toArray⟩ .i64 .i64 a b Tryz.underlying9,if_pos ⟨by omega,by rw[Lib.size_mk];omega⟩,if_pos ⟨by omega,by omega⟩,Lib.extract_mk]
 simp
def cutPost (l:List UInt8)(w:World)(e:Ending)(w':World):Prop:=e=.returned (.tuple #[strV (pre l),strV (post l),.bool (hasPt l)])/\Below w.heap.size w w'
theorem cut_in (l:List UInt8)(hz:l.length<=281474976710656)(w:World):
 Calls Tryz.prog 143 #[strV l,.string ⟨#[46]⟩] w (cutPost l w):=by
 have hI:=fun wx=>Go.Proofs.Tryz.stringslite_Index_one ⟨l.toArray⟩ 46 wx
 have ei:indexByte (ByteArray.mk l.toArray).data.toList 46=if hasPt l=true then ((pre l).length:Int) else -1:=index_pt l
 cases hp:hasPt l with
 | true=>
   have hlt:=pre_lt l hp
   have s1:=fun wx=>slice_h l (pre l).length (by omega) wx
   have s2:=fun wx=>slice_l l ((pre l).length+1) hlt wx
   rw[pre_take] at s1
   rw[hp,if_pos rfl] at ei
   rw[ei] at hI
   have hq:∀ e w',e=Ending.returned (.tuple #[strV (pre l),strV (l.drop ((pre l).length+1)),.bool true])/\Below w.heap.size w w'->cutPost l w e w':=by
    rintro e w' ⟨h1,h2⟩
    exact⟨by rw[h1,hp];rfl,h2⟩
   have e1:(((pre l).length+1:Nat):Int)=((pre l).length:Int)+1:=by omega
   rw[e1] at s2
   generalize l.drop ((pre l).length+1)=po at *
   generalize (pre l).length=k at *
   generalize pre l=pr at *
   refine Calls.mono ?_ hq
   clear hq ei hp e1
   go_enter Tryz.func143,Tryz.ntmps143
   go_wp2_with fail
   refine(hI _).mono ?_
   rintro e w1 ⟨rfl,rfl⟩
   go_wp2_with fail
   go_quiet (fail)
   go_wp2_with fail
   go_ret3
   exact⟨rfl,drewN_b _ _⟩
 | false=>
   rw[hp,if_neg (by simp)] at ei
   rw[ei] at hI
   obtain⟨e1,e2⟩:=pre_all l hp
   have hq:∀ e w',e=Ending.returned (.tuple #[strV l,strV [],.bool false])/\Below w.heap.size w w'->cutPost l w e w':=by
    rintro e w' ⟨h1,h2⟩
    exact⟨by rw[h1,hp,e1,e2],h2⟩
   refine Calls.mono ?_ hq
   clear hq ei hp e1 e2
   go_enter Tryz.func143,Tryz.ntmps143
   go_wp2_with fail
   refine(hI _).mono ?_
   rintro e w1 ⟨rfl,rfl⟩
   go_wp2_with fail
   go_ret3
   exact⟨rfl,Below.refl _ _⟩
theorem cut_any (l:List UInt8)(hz:l.length<=281474976710656)(w:World):
 Calls Tryz.prog 123 #[strV l,.string ⟨#[46]⟩] w (cutPost l w):=by
 have h:=cut_in l hz w
 have hq:∀ e w',e=Ending.returned (.tuple #[strV (pre l),strV (post l),.bool (hasPt l)])/\Below w.heap.size w w'->cutPost l w e w':=fun _ _ h=>h
 refine Calls.mono ?_ hq
 unfold cutPost at h
 clear hq
 generalize pre l=p at *
 generalize post l=q at *
 generalize hasPt l=r at *
 go_enter Tryz.func123,Tryz.ntmps123
 go_wp2_with fail
 refine h.mono ?_
 rintro e w1 ⟨rfl,hb⟩
 go_wp2_with fail
 go_ret3
 exact⟨rfl,hb⟩
def readV (l:List UInt8):Value:=match readN l with
 | some v=>.tuple #[.int .i64 (v:Nat),.int .i64 0]
 | none=>.tuple #[.int .i64 0,.int .i64 13]
theorem readV_no {l:List UInt8}(h:readN l=none):readV l=.tuple #[.int .i64 0,.int .i64 13]:=by unfold readV;rw[h]
theorem post_len (l:List UInt8):(post l).length<=l.length:=by unfold post;rw[List.length_drop];omega
theorem pre_len (l:List UInt8):(pre l).length<=l.length:=by rw[<-pre_take l,List.length_take];omega
theorem okP_parts {p:List UInt8}(h:okP p=true):p.length<=6/\p.all isD=true:=by
 unfold okP at h
 simp only[Bool.and_eq_true,decide_eq_true_eq] at h
 exact⟨h.1.2,h.2⟩
theorem okW_parts {p:List UInt8}(h:okW p=true):p.length<=13/\p.all isD=true:=by
 unfold okW at h
 simp only[Bool.and_eq_true,decide_eq_true_eq] at h
 exact⟨h.1.1.2,h.1.2⟩
theorem Read_num (l:List UInt8)(w:World)(pr po:List UInt8)(pt:Bool)(cut:∀ wx,Calls Tryz.prog 123 #[strV l,.string ⟨#[46]⟩] wx fun e w'=>e=.returned (.tuple #[strV pr,strV po,.bool pt])/\Below wx.heap.size wx w')
 (hw:∀ wx,Calls Tryz.prog 136 #[strV pr] wx fun e w'=>e=.returned (.bool true)/\wx=w') (hp:pt=true->∀ wx,Calls Tryz.prog 137 #[strV po] wx fun e w'=>e=.returned (.bool true)/\wx=w')
 (a b:Nat) (ha:∀ wx,Calls Tryz.prog 138 #[strV pr,.int .i64 0] wx fun e w'=>e=.returned (.int .u64 a)/\wx=w') (hb:∀ wx,Calls Tryz.prog 138 #[strV po,.int .i64 6] wx fun e w'=>e=.returned (.int .u64 b)/\wx=w')
 (ba:a<10000000000000) (bb:b<1000000) :
 Calls Tryz.prog 119 #[strV l] w fun e w'=>e=.returned (if a*1000000+b<9223372036854775808 then .tuple #[.int .i64 (a*1000000+b:Nat),.int .i64 0] else .tuple #[.int .i64 0,.int .i64 13])/\Below w.heap.size w w':=by
 have cut:=cut w
 by_cases hlt:a*1000000+b<9223372036854775808
 ·rw[if_pos hlt]
  go_enter Tryz.func119,Tryz.ntmps119
  go_wp2_with fail
  refine cut.mono ?_
  rintro e w1 ⟨rfl,h1⟩
  cases pt with
  | false=>
    go_wp2_with fail
    refine(hw _).mono ?_
    rintro e w2 ⟨rfl,rfl⟩
    go_wp2_with fail
    refine(ha _).mono ?_
    rintro e w2 ⟨rfl,rfl⟩
    go_wp2_with fail
    refine(hb _).mono ?_
    rintro e w2 ⟨rfl,rfl⟩
    go_wp2_with fail
    go_ret2
    exact⟨rfl,h1⟩
  | true=>
    replace hp:=hp rfl
    go_wp2_with fail
    refine(hw _).mono ?_
    rintro e w2 ⟨rfl,rfl⟩
    go_wp2_with fail
    refine(hp _).mono ?_
    rintro e w2 ⟨rfl,rfl⟩
    go_wp2_with fail
    refine(ha _).mono ?_
    rintro e w2 ⟨rfl,rfl⟩
    go_wp2_with fail
    refine(hb _).mono ?_
    rintro e w2 ⟨rfl,rfl⟩
    go_wp2_with fail
    go_ret2
    exact⟨rfl,h1⟩
 ·rw[if_neg hlt]
  go_enter Tryz.func119,Tryz.ntmps119
  go_wp2_with fail
  refine cut.mono ?_
  rintro e w1 ⟨rfl,h1⟩
  cases pt with
  | false=>
    go_wp2_with fail
    refine(hw _).mono ?_
    rintro e w2 ⟨rfl,rfl⟩
    go_wp2_with fail
    refine(ha _).mono ?_
    rintro e w2 ⟨rfl,rfl⟩
    go_wp2_with fail
    refine(hb _).mono ?_
    rintro e w2 ⟨rfl,rfl⟩
    go_wp2_with fail
    go_ret2
    exact⟨rfl,h1⟩
  | true=>
    replace hp:=hp rfl
    go_wp2_with fail
    refine(hw _).mono ?_
    rintro e w2 ⟨rfl,rfl⟩
    go_wp2_with fail
    refine(hp _).mono ?_
    rintro e w2 ⟨rfl,rfl⟩
    go_wp2_with fail
    refine(ha _).mono ?_
    rintro e w2 ⟨rfl,rfl⟩
    go_wp2_with fail
    refine(hb _).mono ?_
    rintro e w2 ⟨rfl,rfl⟩
    go_wp2_with fail
    go_ret2
    exact⟨rfl,h1⟩
theorem Read_any (l:List UInt8)(hz:l.length<=281474976710656)(w:World):
 Calls Tryz.prog 119 #[strV l] w fun e w'=>e=.returned (readV l)/\Below w.heap.size w w':=by
 have cut:=fun wx=>cut_any l hz wx
 have z1:=post_len l
 have z2:=pre_len l
 have hw:=isWhole_any (pre l) (by omega)
 have hp:=arePlaces_any (post l) (by omega)
 by_cases h:okW (pre l)=true/\(hasPt l=true->okP (post l)=true)
 ·obtain⟨a1,a2⟩:=okW_parts h.1
  have pp:(post l).length<=6/\(post l).all isD=true:=by
   cases hh:hasPt l with
   | true=>exact okP_parts (h.2 hh)
   | false=>rw[(pre_all l hh).2];exact⟨by simp,rfl⟩
  have wa:=worth_any (pre l) 0 a2 a1 (by omega)
  have wb:=worth_any (post l) 6 pp.2 (by omega) (by omega)
  rw[show 0-(pre l).length=0 by omega,Nat.pow_zero,Nat.mul_one] at wa
  have ba:val (pre l)<10000000000000:=by
   have:=val_lt _ a2
   have:10^(pre l).length<=10^13:=Nat.pow_le_pow_right (by decide) a1
   have:10^13=10000000000000:=by decide
   omega
  have bb:val (post l)*10^(6-(post l).length)<1000000:=by
   have:=val_lt _ pp.2
   have e6:10^(post l).length*10^(6-(post l).length)=1000000:=by rw[<-Nat.pow_add,show (post l).length+(6-(post l).length)=6 by omega]
   have:val (post l)*10^(6-(post l).length)<10^(post l).length*10^(6-(post l).length):=Nat.mul_lt_mul_of_pos_right this (Nat.pow_pos (by decide))
   omega
  refine(Read_num l w (pre l) (post l) (hasPt l) cut (by rw[h.1] at hw;exact hw) (fun hh=>by rw[h.2 hh] at hp;exact hp) _ _ wa wb ba bb).mono ?_
  rintro e w' ⟨rfl,hb⟩
  refine⟨?_,hb⟩
  have er:readN l=lim (sizeN (pre l) (post l)):=if_pos h
  unfold readV
  rw[er]
  unfold lim sizeN
  split
  ·rfl
  ·rfl
 ·have er:readV l=.tuple #[.int .i64 0,.int .i64 13]:=readV_no (if_neg h)
  rw[er]
  unfold cutPost at cut
  have cut:=cut w
  clear er
  by_cases hW:okW (pre l)=true
  ·have hP:hasPt l=true/\okP (post l)=false:=by
    cases h1:hasPt l with
    | false=>exact absurd ⟨hW,fun hh=>by rw[h1] at hh;cases hh⟩ h
    | true=>
      refine⟨rfl,?_⟩
      cases h2:okP (post l) with
      | false=>rfl
      | true=>exact absurd ⟨hW,fun _=>h2⟩ h
   rw[hP.2] at hp
   rw[hP.1] at cut
   rw[hW] at hw
   clear hP hW h z1 z2
   generalize pre l=pr at *
   generalize post l=po at *
   go_enter Tryz.func119,Tryz.ntmps119
   go_wp2_with fail
   refine cut.mono ?_
   rintro e w1 ⟨rfl,h1⟩
   go_wp2_with fail
   refine(hw _).mono ?_
   rintro e w2 ⟨rfl,rfl⟩
   go_wp2_with fail
   refine(hp _).mono ?_
   rintro e w2 ⟨rfl,rfl⟩
   go_wp2_with fail
   go_ret2
   exact⟨rfl,h1⟩
  ·have hW:okW (pre l)=false:=by simpa using hW
   rw[hW] at hw
   clear hW h z1 z2 hp
   generalize pre l=pr at *
   generalize post l=po at *
   generalize hasPt l=pt at *
   go_enter Tryz.func119,Tryz.ntmps119
   go_wp2_with fail
   refine cut.mono ?_
   rintro e w1 ⟨rfl,h1⟩
   go_wp2_with fail
   refine(hw _).mono ?_
   rintro e w2 ⟨rfl,rfl⟩
   go_wp2_with fail
   go_ret2
   exact⟨rfl,h1⟩
end Go.Proofs.YtecdfnpbcabdnaaGreatDoor
