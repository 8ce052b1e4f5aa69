import Derived.Lib.DecodeN
import Derived.Laws.RangeAny
namespace Go.Proofs.YtecdfnpbcabdnaaGreatDoor
open Go.Lib
abbrev noSeq (d:Nat×Nat):Bool:=d.1==65533&&d.2==1
theorem width_pos (s:ByteArray)(i:Nat):1<=(Utf8.decode s i).2:=by
 rw[decode_at]
 unfold decodeN
 repeat' split
 all_goals simp
theorem width_in (s:ByteArray)(i:Nat)(h:i<s.size):i+(Utf8.decode s i).2<=s.size:=by
 rw[decode_at]
 unfold decodeN
 repeat' split
 all_goals (simp only[];omega)
theorem decodeN_same {n m b0 b1 b2 b3 c1 c2 c3:Nat}(hv:noSeq (decodeN n b0 b1 b2 b3)=false)
 (h1:1<(decodeN n b0 b1 b2 b3).2->b1=c1) (h2:2<(decodeN n b0 b1 b2 b3).2->b2=c2) (h3:3<(decodeN n b0 b1 b2 b3).2->b3=c3)
 (hm:(decodeN n b0 b1 b2 b3).2<=m):decodeN m b0 c1 c2 c3=decodeN n b0 b1 b2 b3:=by
 unfold decodeN at hv h1 h2 h3 hm ⊢
 by_cases k0:b0<128
 ·simp only[if_pos k0]
 simp only[if_neg k0] at hv h1 h2 h3 hm ⊢
 by_cases k1:b0/32=6/\(1<n/\b1/64=2)
 ·simp only[if_pos k1] at hv h1 h2 h3 hm ⊢
  by_cases k2:b0%32*64+b1%64>=128
  ·simp only[if_pos k2] at hv h1 h2 h3 hm ⊢
   obtain rfl:=h1 (by omega)
   rw[if_pos ⟨k1.1,by omega,k1.2.2⟩,if_pos k2]
  ·simp[if_neg k2] at hv
 simp only[if_neg k1] at hv h1 h2 h3 hm ⊢
 by_cases k3:b0/16=14/\(1<n/\b1/64=2)/\(2<n/\b2/64=2)
 ·simp only[if_pos k3] at hv h1 h2 h3 hm ⊢
  split at hv
  ·rename_i k2
   simp only[if_pos k2] at h1 h2 h3 hm ⊢
   obtain rfl:=h1 (by omega)
   obtain rfl:=h2 (by omega)
   rw[if_neg (by omega),if_pos ⟨k3.1,⟨by omega,k3.2.1.2⟩,by omega,k3.2.2.2⟩,if_pos k2]
  ·simp at hv
 simp only[if_neg k3] at hv h1 h2 h3 hm ⊢
 by_cases k4:b0/8=30/\(1<n/\b1/64=2)/\(2<n/\b2/64=2)/\(3<n/\b3/64=2)
 ·simp only[if_pos k4] at hv h1 h2 h3 hm ⊢
  split at hv
  ·rename_i k2
   simp only[if_pos k2] at h1 h2 h3 hm ⊢
   obtain rfl:=h1 (by omega)
   obtain rfl:=h2 (by omega)
   obtain rfl:=h3 (by omega)
   rw[if_neg (by omega),if_neg (by omega),if_pos ⟨k4.1,⟨by omega,k4.2.1.2⟩,⟨by omega,k4.2.2.1.2⟩,by omega,k4.2.2.2.2⟩,if_pos k2]
  ·simp at hv
 ·simp[if_neg k4] at hv
theorem decode_same {s t:ByteArray}{i j:Nat}(hv:noSeq (Utf8.decode s i)=false)
 (hb:∀ x,x<(Utf8.decode s i).2->s.get! (i+x)=t.get! (j+x)) (hj:j+(Utf8.decode s i).2<=t.size):Utf8.decode t j=Utf8.decode s i:=by
 have hw:=width_pos s i
 rw[decode_at s i] at hv hb hj hw ⊢
 rw[decode_at t j]
 have h0:s.get! i=t.get! j:=hb 0 (by omega)
 rw[<-h0]
 exact decodeN_same hv (fun h=>by rw[hb 1 h]) (fun h=>by rw[hb 2 h]) (fun h=>by rw[hb 3 h]) (by omega)
theorem decode_tail {s t:ByteArray}{i j:Nat}(hn:s.size-i=t.size-j)(hb:∀ x,s.get! (i+x)=t.get! (j+x)):Utf8.decode t j=Utf8.decode s i:=by
 rw[decode_at s i,decode_at t j,<-hn,<-hb 1,<-hb 2,<-hb 3]
 have h0:s.get! i=t.get! j:=hb 0
 rw[<-h0]
abbrev lets (r:Nat):Bool:=if r<32 then (r==9||r==10||r==13) else !(decide (127<=r)&&decide (r<=159))&&r != 65279
def flt (u k:Int)(d:Nat×Nat):Int:=if noSeq d then u else if lets d.1 then 0 else k
def rsF (s:ByteArray):Nat->Nat->List (Nat×Nat)
 | 0,_=>[]
 | f+1,i=>if i<s.size then ((Utf8.decode s i).1,i)::rsF s f (i+(Utf8.decode s i).2) else []
def rs (s:ByteArray)(i:Nat):List (Nat×Nat):=rsF s (s.size-i) i
theorem rsF_more (s:ByteArray):∀ (f g i:Nat),s.size<=i+f->s.size<=i+g->rsF s f i=rsF s g i
 | 0,0,_,_,_=>rfl
 | 0,g+1,i,hf,_=>by simp only[rsF];rw[if_neg (by omega)]
 | f+1,0,i,_,hg=>by simp only[rsF];rw[if_neg (by omega)]
 | f+1,g+1,i,hf,hg=>by
   simp only[rsF]
   have hw:=width_pos s i
   rw[rsF_more s f g _ (by omega) (by omega)]
theorem rs_end {s:ByteArray}{i:Nat}(h:¬ i<s.size):rs s i=[]:=by
 unfold rs
 rw[show s.size-i=0 by omega]
 rfl
theorem rs_step {s:ByteArray}{i:Nat}(h:i<s.size):rs s i=((Utf8.decode s i).1,i)::rs s (i+(Utf8.decode s i).2):=by
 unfold rs
 have hw:=width_pos s i
 obtain⟨f,hf⟩:∃ f,s.size-i=f+1:=⟨s.size-i-1,by omega⟩
 rw[hf]
 simp only[rsF]
 rw[if_pos h,rsF_more s f (s.size-(i+(Utf8.decode s i).2)) _ (by omega) (by omega)]
theorem rs_ind {s:ByteArray}{Q:Nat->Prop}(he:∀ i,¬ i<s.size->Q i)(hs:∀ i,i<s.size->Q (i+(Utf8.decode s i).2)->Q i):∀ i,Q i:=by
 have:∀ f i,s.size-i<=f->Q i:=by
  intro f
  induction f with
  | zero=>intro i h;exact he i (by omega)
  | succ f ih=>
    intro i h
    by_cases hi:i<s.size
    ·have hw:=width_pos s i
     exact hs i hi (ih _ (by omega))
    ·exact he i hi
 exact fun i=>this _ i (Nat.le_refl _)
theorem rs_length (s:ByteArray):∀ i,(rs s i).length<=s.size-i:=by
 refine rs_ind (fun i h=>by rw[rs_end h];simp) (fun i h ih=>?_)
 rw[rs_step h]
 have hw:=width_pos s i
 simp only[List.length_cons]
 omega
theorem rs_length0 (s:ByteArray):(rs s 0).length<=s.size:=by have:=rs_length s 0;omega
def sd (u k:Int)(s:ByteArray):List (Nat×Nat)->Nat×Int
 | []=>(0,0)
 | p::t=>if flt u k (Utf8.decode s p.2)=0 then sd u k s t else (p.2,flt u k (Utf8.decode s p.2))
def rne (n:Nat)(is:Nat->Bool):List (Nat×Nat)->Nat
 | []=>n
 | p::t=>if is p.1 then rne n is t else p.2
theorem sd_place {u k:Int}{s:ByteArray}:∀ l,(sd u k s l).2=0->(sd u k s l).1=0
 | [],_=>rfl
 | p::t,h=>by
   simp only[sd] at h ⊢
   split
   ·rename_i hf;rw[if_pos hf] at h;exact sd_place t h
   ·rename_i hf;rw[if_neg hf] at h;exact absurd h hf
theorem flt_seq {u k:Int}(hu:u≠0){d:Nat×Nat}(h:flt u k d=0):noSeq d=false:=by
 unfold flt at h
 split at h
 ·exact absurd h hu
 ·rename_i hn;simpa using hn
theorem gd (s:ByteArray)(i:Nat):s.get! i=s.data.toList[i]?.getD 0:=by
 cases s with
 | mk d=>
   show d[i]! = d.toList[i]?.getD 0
   rw[getElem!_def,Array.getElem?_toList]
   cases d[i]?<;>rfl
theorem gd_tail (s:ByteArray)(lo i:Nat):(s.extract lo s.size).get! i=s.get! (lo+i):=by
 rw[gd,gd]
 simp only[ByteArray.data_extract,Array.toList_extract,List.extract_eq_take_drop,List.getElem?_take,List.getElem?_drop]
 split
 ·rfl
 ·rename_i h
  rw[List.getElem?_eq_none (by simp only[Array.length_toList];have:s.data.size=s.size:=rfl;omega)]
theorem gd_left (a b:ByteArray)(i:Nat)(h:i<a.size):(a++b).get! i=a.get! i:=by
 rw[gd,gd,ByteArray.data_append,Array.toList_append,List.getElem?_append_left (by simpa using h)]
theorem gd_right (a b:ByteArray)(i:Nat):(a++b).get! (a.size+i)=b.get! i:=by
 have:a.data.size=a.size:=rfl
 rw[gd,gd,ByteArray.data_append,Array.toList_append,List.getElem?_append_right (by simp only[Array.length_toList];omega)]
 congr 2
 simp only[Array.length_toList]
 congr 1
 omega
theorem size_tail (s:ByteArray)(lo:Nat):(s.extract lo s.size).size=s.size-lo:=by simp[ByteArray.size_extract]
theorem size_front (s:ByteArray)(hi:Nat)(h:hi<=s.size):(s.extract 0 hi).size=hi:=by simp[ByteArray.size_extract];omega
theorem decode_rest (s:ByteArray)(lo i:Nat):Utf8.decode (s.extract lo s.size) i=Utf8.decode s (lo+i):=
 decode_tail (by rw[size_tail];omega) (fun x=>by rw[gd_tail,Nat.add_assoc])
theorem rne_in (is:Nat->Bool)(s:ByteArray):∀ i,i<=s.size->i<=rne s.size is (rs s i)/\rne s.size is (rs s i)<=s.size:=by
 refine rs_ind (Q:=fun i=>i<=s.size->_) (fun i h hi=>by rw[rs_end h];simp only[rne];omega) (fun i h ih hi=>?_)
 rw[rs_step h]
 simp only[rne]
 have hw:=width_in s i h
 split
 ·have:=ih hw;omega
 ·exact⟨Nat.le_refl _,hi⟩
end Go.Proofs.YtecdfnpbcabdnaaGreatDoor
