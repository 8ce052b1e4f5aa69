import Derived.Test.YtecdfnpbcabdnaaGreatDoorScI
import Derived.Lib.IndexAny
import Derived.Lib.RuneCount
namespace Go.Proofs.YtecdfnpbcabdnaaGreatDoor
open Go.Lib
def Vd (s:ByteArray)(i:Nat):Prop:=(sd 10 11 s (rs s i)).2=0
theorem Vd.step {s:ByteArray}{i:Nat}(h:Vd s i)(hi:i<s.size):noSeq (Utf8.decode s i)=false/\lets (Utf8.decode s i).1=true/\Vd s (i+(Utf8.decode s i).2):=by
 unfold Vd at h
 rw[rs_step hi] at h
 simp only[sd] at h
 split at h
 ·rename_i hf
  refine⟨flt_seq (by decide) hf,?_,h⟩
  unfold flt at hf
  split at hf
  ·exact absurd hf (by decide)
  ·split at hf
   ·assumption
   ·exact absurd hf (by decide)
 ·rename_i hf
  exact absurd h hf
theorem Vd.end_ {s:ByteArray}{i:Nat}(hi:¬ i<s.size):Vd s i:=by unfold Vd;rw[rs_end hi];rfl
theorem Vd.ofStep {s:ByteArray}{i:Nat}(hi:i<s.size)(h1:noSeq (Utf8.decode s i)=false)(h2:lets (Utf8.decode s i).1=true)(h3:Vd s (i+(Utf8.decode s i).2)):Vd s i:=by
 unfold Vd
 rw[rs_step hi]
 simp only[sd]
 have:flt 10 11 (Utf8.decode s i)=0:=by unfold flt;rw[if_neg (by rw[h1];decide),if_pos h2]
 rw[if_pos this]
 exact h3
theorem dec_low {s:ByteArray}{i:Nat}(h:(s.get! i).toNat<128):Utf8.decode s i=((s.get! i).toNat,1):=by
 rw[decode_at]
 unfold decodeN
 rw[if_pos h]
theorem dec_high {s:ByteArray}{i:Nat}(hv:noSeq (Utf8.decode s i)=false)(h:128<=(s.get! i).toNat):128<=(Utf8.decode s i).1/\∀ x,x<(Utf8.decode s i).2->128<=(s.get! (i+x)).toNat:=by
 rw[decode_at] at hv ⊢
 unfold decodeN at hv ⊢
 rw[if_neg (by omega)] at hv ⊢
 revert hv
 repeat' split
 all_goals intro hv
 all_goals first
  | (exfalso;simp at hv;done)
  | (refine⟨by simp only[];omega,fun x hx=>?_⟩
     simp only[] at hx
     have:x=0\/x=1\/x=2\/x=3:=by omega
     rcases this with rfl | rfl | rfl | rfl<;>(try rw[Nat.add_zero])<;>omega)
theorem byte_rune {s:ByteArray}{i:Nat}(hv:noSeq (Utf8.decode s i)=false){c:Nat}(hc:c<128):(Utf8.decode s i).1=c↔(s.get! i).toNat=c:=by
 by_cases h:(s.get! i).toNat<128
 ·rw[dec_low h]
 ·have:=(dec_high hv (by omega)).1
  omega
theorem get_in {s:ByteArray}{i:Nat}(h:s.get! i≠0):i<s.size:=by
 rw[gd] at h
 rcases Nat.lt_or_ge i s.size with hi | hi
 ·exact hi
 ·exfalso
  apply h
  rw[List.getElem?_eq_none (by rw[<-Lib.size_eq];exact hi)]
  rfl
theorem toL_get (t:ByteArray)(j:Nat)(h:j<t.size):t.data.toList[j]? = some (t.get! j):=by
 rw[gd,List.getElem?_eq_getElem (by rw[<-Lib.size_eq];exact h)]
 rfl
theorem size_cut (s:ByteArray)(a e:Nat)(he:e<=s.size):(s.extract a e).size=e-a:=by simp[ByteArray.size_extract];omega
theorem gd_cut (s:ByteArray)(a e x:Nat)(he:e<=s.size)(hx:a+x<e):(s.extract a e).get! x=s.get! (a+x):=by
 have h1:x<(s.extract a e).size:=by rw[size_cut s a e he];omega
 rw[gd,gd]
 simp only[ByteArray.data_extract,Array.toList_extract,List.extract_eq_take_drop]
 rw[List.getElem?_take_of_lt (by omega),List.getElem?_drop]
def rn (s:ByteArray)(p:Nat->Bool)(i:Nat):Nat:=rne s.size p (rs s i)
def seg (s:ByteArray)(p:Nat->Bool)(i:Nat):List (Nat×Nat):=(rs s i).takeWhile fun q=>p q.1
theorem rn_end {s:ByteArray}{p:Nat->Bool}{i:Nat}(hi:¬ i<s.size):rn s p i=s.size:=by unfold rn;rw[rs_end hi];rfl
theorem rn_yes {s:ByteArray}{p:Nat->Bool}{i:Nat}(hi:i<s.size)(h:p (Utf8.decode s i).1=true):rn s p i=rn s p (i+(Utf8.decode s i).2):=by
 unfold rn
 rw[rs_step hi]
 simp only[rne,h,if_true]
theorem rn_no {s:ByteArray}{p:Nat->Bool}{i:Nat}(hi:i<s.size)(h:p (Utf8.decode s i).1=false):rn s p i=i:=by
 unfold rn
 rw[rs_step hi]
 simp only[rne,h]
 rfl
theorem rn_in (s:ByteArray)(p:Nat->Bool)(i:Nat)(hi:i<=s.size):i<=rn s p i/\rn s p i<=s.size:=rne_in p s i hi
theorem seg_end {s:ByteArray}{p:Nat->Bool}{i:Nat}(hi:¬ i<s.size):seg s p i=[]:=by unfold seg;rw[rs_end hi];rfl
theorem seg_yes {s:ByteArray}{p:Nat->Bool}{i:Nat}(hi:i<s.size)(h:p (Utf8.decode s i).1=true):seg s p i=((Utf8.decode s i).1,i)::seg s p (i+(Utf8.decode s i).2):=by
 unfold seg
 rw[rs_step hi,List.takeWhile_cons_of_pos (by exact h)]
theorem seg_no {s:ByteArray}{p:Nat->Bool}{i:Nat}(hi:i<s.size)(h:p (Utf8.decode s i).1=false):seg s p i=[]:=by
 unfold seg
 rw[rs_step hi,List.takeWhile_cons_of_neg (by simp[h])]
theorem rn_ind {s:ByteArray}{p:Nat->Bool}{Q:Nat->Prop}(he:∀ i,¬ i<s.size->Q i)(hy:∀ i,i<s.size->p (Utf8.decode s i).1=true->Q (i+(Utf8.decode s i).2)->Q i)(hn:∀ i,i<s.size->p (Utf8.decode s i).1=false->Q i):∀ i,Q i:=by
 refine rs_ind he (fun i hi ih=>?_)
 cases h:p (Utf8.decode s i).1 with
 | true=>exact hy i hi h ih
 | false=>exact hn i hi h
theorem seg_all (s:ByteArray)(p:Nat->Bool)(i:Nat):∀ q∈seg s p i,p q.1=true:=fun q hq=>by
 unfold seg at hq
 exact(List.all_eq_true.1 (List.all_takeWhile (p:=fun q:Nat×Nat=>p q.1))) q hq
theorem rn_stop (s:ByteArray)(p:Nat->Bool):∀ i,rn s p i<s.size->p (Utf8.decode s (rn s p i)).1=false:=by
 refine rn_ind (s:=s) (p:=p) (fun i hi h=>?_) (fun i hi h ih hr=>?_) (fun i hi h _=>?_)
 ·rw[rn_end hi] at h;omega
 ·rw[rn_yes hi h] at hr ⊢;exact ih hr
 ·rw[rn_no hi h];exact h
theorem rn_vd {s:ByteArray}(p:Nat->Bool):∀ i,Vd s i->Vd s (rn s p i):=by
 refine rn_ind (s:=s) (p:=p) (fun i hi _=>?_) (fun i hi h ih hv=>?_) (fun i hi h hv=>?_)
 ·rw[rn_end hi];exact Vd.end_ (by omega)
 ·rw[rn_yes hi h];exact ih (hv.step hi).2.2
 ·rw[rn_no hi h];exact hv
theorem seg_cut {s:ByteArray}(p:Nat->Bool)(a e:Nat)(he:e<=s.size):∀ i,i<=s.size->a<=i->rn s p i=e->Vd s i->rs (s.extract a e) (i-a)=(seg s p i).map fun q=>(q.1,q.2-a):=by
 have hz:=size_cut s a e he
 refine rn_ind (s:=s) (p:=p) (fun i hi _ ha hr _=>?_) (fun i hi h ih _ ha hr hv=>?_) (fun i hi h _ ha hr hv=>?_)
 ·rw[rn_end hi] at hr
  rw[seg_end hi,rs_end (by omega)]
  rfl
 ·rw[rn_yes hi h] at hr
  have hw:=width_in s i hi
  have hp:=width_pos s i
  have hin:=(rn_in s p _ hw).1
  rw[hr] at hin
  obtain⟨v1,_,v3⟩:=hv.step hi
  have hd:Utf8.decode (s.extract a e) (i-a)=Utf8.decode s i:=decode_same v1 (fun x hx=>by rw[gd_cut s a e _ he (by omega),show a+(i-a+x)=i+x by omega]) (by omega)
  rw[seg_yes hi h,rs_step (by omega),hd,show i-a+(Utf8.decode s i).2=i+(Utf8.decode s i).2-a by omega,ih hw (by omega) hr v3]
  rfl
 ·rw[rn_no hi h] at hr
  rw[seg_no hi h,rs_end (by omega)]
  rfl
theorem count_rs (s:ByteArray):∀ (f i:Nat),s.size-i<=f->runeCountFrom s f i=(rs s i).length
 | 0,i,h=>by rw[rs_end (by omega)];rfl
 | f+1,i,h=>by
   simp only[runeCountFrom]
   by_cases hi:i<s.size
   ·have hp:=width_pos s i
    rw[if_pos hi,rs_step hi,count_rs s f _ (by omega),List.length_cons]
    omega
   ·rw[if_neg hi,rs_end hi]
    rfl
theorem count_all (s:ByteArray):runeCount s=(rs s 0).length:=count_rs s s.size 0 (by omega)
theorem count_cut {s:ByteArray}(p:Nat->Bool)(i:Nat)(hi:i<=s.size)(hv:Vd s i):runeCount (s.extract i (rn s p i))=(seg s p i).length:=by
 rw[count_all]
 have:=seg_cut p i (rn s p i) (rn_in s p i hi).2 i hi (Nat.le_refl _) rfl hv
 rw[Nat.sub_self] at this
 rw[this,List.length_map]
def nin (chars:List UInt8)(r:Nat):Bool:=!(chars.any fun b=>b.toNat==r)
theorem nin_byte (chars:List UInt8)(b:UInt8):nin chars b.toNat = !(chars.contains b):=by
 unfold nin
 congr 1
 rw[Bool.eq_iff_iff,List.any_eq_true,List.contains_iff_mem]
 constructor
 ·rintro⟨x,hx,he⟩
  have:x=b:=UInt8.toNat_inj.1 (by simpa using he)
  rw[<-this];exact hx
 ·intro h
  exact⟨b,h,by simp⟩
theorem nin_high {chars:List UInt8}(hch:∀ b∈chars,b.toNat<128){r:Nat}(h:128<=r):nin chars r=true:=by
 unfold nin
 rw[Bool.not_eq_true',List.any_eq_false]
 intro x hx
 have:=hch x hx
 simp
 omega
theorem no_high {chars:List UInt8}(hch:∀ b∈chars,b.toNat<128){b:UInt8}(h:128<=b.toNat):chars.contains b=false:=by
 have:=nin_high hch h
 rw[nin_byte] at this
 simpa using this
theorem any_rn {s:ByteArray}{chars:List UInt8}(hch:∀ b∈chars,b.toNat<128):∀ i,Vd s i->(∀ j,i<=j->j<rn s (nin chars) i->chars.contains (s.get! j)=false)/\(rn s (nin chars) i<s.size->chars.contains (s.get! (rn s (nin chars) i))=true):=by
 refine rn_ind (s:=s) (p:=nin chars) (fun i hi _=>?_) (fun i hi h ih hv=>?_) (fun i hi h hv=>?_)
 ·rw[rn_end hi]
  exact⟨fun j h1 h2=>by omega,fun h=>by omega⟩
 ·obtain⟨v1,_,v3⟩:=hv.step hi
  obtain⟨k1,k2⟩:=ih v3
  rw[rn_yes hi h]
  refine⟨fun j h1 h2=>?_,k2⟩
  by_cases hj:i+(Utf8.decode s i).2<=j
  ·exact k1 j hj h2
  ·by_cases hb:(s.get! i).toNat<128
   ·rw[dec_low hb] at hj h
    obtain rfl:j=i:=by simp at hj;omega
    rw[nin_byte] at h
    simpa using h
   ·have:=(dec_high v1 (by omega)).2 (j-i) (by omega)
    rw[show i+(j-i)=j by omega] at this
    exact no_high hch this
 ·rw[rn_no hi h]
  refine⟨fun j h1 h2=>by omega,fun _=>?_⟩
  obtain⟨v1,_,_⟩:=hv.step hi
  by_cases hb:(s.get! i).toNat<128
  ·rw[dec_low hb,nin_byte] at h
   simpa using h
  ·have:=nin_high hch (dec_high v1 (by omega)).1
   rw[this] at h
   cases h
theorem any_idx {s:ByteArray}{chars:List UInt8}(hch:∀ b∈chars,b.toNat<128)(i:Nat)(hi:i<=s.size)(hv:Vd s i):indexAny (s.extract i s.size).data.toList chars=if rn s (nin chars) i<s.size then ((rn s (nin chars) i-i:Nat):Int) else -1:=by
 obtain⟨k1,k2⟩:=any_rn hch i hv
 have hz:=size_cut s i s.size (Nat.le_refl _)
 have hin:=rn_in s (nin chars) i hi
 have hN:∀ m,m<=rn s (nin chars) i-i->NoAny (s.extract i s.size).data.toList chars m:=fun m hm j b hj hb=>by
  rw[toL_get _ _ (by omega),gd_cut _ _ _ _ (Nat.le_refl _) (by omega)] at hb
  cases hb
  exact k1 _ (by omega) (by omega)
 split
 ·rename_i h
  refine indexAny_hit (hN _ (Nat.le_refl _)) (toL_get _ _ (by omega)) ?_
  rw[gd_cut _ _ _ _ (Nat.le_refl _) (by omega),show i+(rn s (nin chars) i-i)=rn s (nin chars) i by omega]
  exact k2 h
 ·rename_i h
  refine indexAny_none (hN _ ?_)
  rw[<-Lib.size_eq]
  omega
end Go.Proofs.YtecdfnpbcabdnaaGreatDoor
