import Derived.Test.YtecdfnpbcabdnaaGreatDoorLxA
import Derived.Test.YtecdfnpbcabdnaaGreatDoorMgT
namespace Go.Proofs.YtecdfnpbcabdnaaGreatDoor
open Go.Lib
structure Tk where
 kind:Int
 text:ByteArray
 n:Int
 at_:Nat
abbrev TR:=Except Int (Tk×Nat)
abbrev cls (s:ByteArray)(c:Int)(i:Nat):Nat:=rn s (fun r=>isC (r:Int) c) i
theorem cls_in (s:ByteArray)(c:Int)(i:Nat)(hi:i<=s.size):i<=cls s c i/\cls s c i<=s.size:=rn_in s _ i hi
abbrev lineEnd (s:ByteArray)(i:Nat):Nat:=rn s (nin [10]) i
def skF (s:ByteArray):Nat->Nat->Nat
 | 0,i=>cls s 4 i
 | f+1,i=>if s.get! (cls s 4 i)=35 then skF s f (lineEnd s (cls s 4 i)) else cls s 4 i
def skp (s:ByteArray)(i:Nat):Nat:=skF s (s.size-i) i
theorem line_past {s:ByteArray}{j:Nat}(h:s.get! j=35):j<lineEnd s j/\lineEnd s j<=s.size:=by
 have hj:j<s.size:=get_in (by rw[h];decide)
 have hl:(s.get! j).toNat<128:=by rw[h];decide
 have e:lineEnd s j=lineEnd s (j+1):=by
  have:=rn_yes (p:=nin [10]) hj (by rw[dec_low hl,h];decide)
  rw[dec_low hl] at this
  exact this
 have h2:j+1<=lineEnd s (j+1)/\lineEnd s (j+1)<=s.size:=rn_in s (nin [10]) (j+1) hj
 rw[e]
 exact h2
theorem skF_more (s:ByteArray):∀ (f g i:Nat),i<=s.size->s.size<=i+f->s.size<=i+g->skF s f i=skF s g i
 | 0,0,_,_,_,_=>rfl
 | 0,g+1,i,hi,hf,_=>by
   simp only[skF]
   have:=cls_in s 4 i hi
   rw[if_neg (fun h=>by have:=get_in (s:=s) (by rw[h];decide);omega)]
 | f+1,0,i,hi,_,hg=>by
   simp only[skF]
   have:=cls_in s 4 i hi
   rw[if_neg (fun h=>by have:=get_in (s:=s) (by rw[h];decide);omega)]
 | f+1,g+1,i,hi,hf,hg=>by
   simp only[skF]
   have:=cls_in s 4 i hi
   split
   ·rename_i h
    have:=line_past h
    rw[skF_more s f g _ this.2 (by omega) (by omega)]
   ·rfl
theorem skp_eq {s:ByteArray}{i:Nat}(hi:i<=s.size):skp s i=if s.get! (cls s 4 i)=35 then skp s (lineEnd s (cls s 4 i)) else cls s 4 i:=by
 have:=cls_in s 4 i hi
 split
 ·rename_i h
  have hl:=line_past h
  unfold skp
  rw[show s.size-i=(s.size-i-1)+1 by omega]
  simp only[skF,if_pos h]
  exact skF_more s _ _ _ hl.2 (by omega) (by omega)
 ·rename_i h
  unfold skp
  rcases hf:s.size-i with _ | f
  ·rfl
  ·simp only[skF,if_neg h]
theorem skp_ind {s:ByteArray}{Q:Nat->Prop}(hy:∀ i,i<=s.size->s.get! (cls s 4 i)=35->Q (lineEnd s (cls s 4 i))->Q i)(hn:∀ i,i<=s.size->s.get! (cls s 4 i)≠35->Q i):∀ i,i<=s.size->Q i:=by
 have:∀ f i,i<=s.size->s.size-i<=f->Q i:=by
  intro f
  induction f with
  | zero=>
    intro i hi h
    have:=cls_in s 4 i hi
    exact hn i hi (fun h=>by have:=get_in (s:=s) (by rw[h];decide);omega)
  | succ f ih=>
    intro i hi h
    have:=cls_in s 4 i hi
    by_cases h35:s.get! (cls s 4 i)=35
    ·have hl:=line_past h35
     exact hy i hi h35 (ih _ hl.2 (by omega))
    ·exact hn i hi h35
 exact fun i hi=>this _ i hi (Nat.le_refl _)
theorem skp_in {s:ByteArray}:∀ i,i<=s.size->i<=skp s i/\skp s i<=s.size:=by
 refine skp_ind (s:=s) (fun i hi h ih=>?_) (fun i hi h=>?_)
 ·have:=cls_in s 4 i hi
  have hl:=line_past h
  rw[skp_eq hi,if_pos h]
  omega
 ·have:=cls_in s 4 i hi
  rw[skp_eq hi,if_neg h]
  exact this
theorem skp_vd {s:ByteArray}:∀ i,i<=s.size->Vd s i->Vd s (skp s i):=by
 refine skp_ind (s:=s) (fun i hi h ih hv=>?_) (fun i hi h hv=>?_)
 ·rw[skp_eq hi,if_pos h]
  exact ih (rn_vd _ _ (rn_vd _ _ hv))
 ·rw[skp_eq hi,if_neg h]
  exact rn_vd _ _ hv
abbrev ofL (l:List UInt8):ByteArray:=⟨l.toArray⟩
def words:List (List UInt8):=[
 [112,111,108,105,99,121],[109,101,116,114,105,99],[114,101,112,108,105,99,97,115],[115,116,101,112],[99,111,111,108,100,111,119,110],[117,112],[100,111,119,110],[108,101,116],[103,117,97,114,100],[116,104,101,110],[100,101,99,105,100,101],
 [104,111,108,100],[116,111],[98,121],[108,97,100,100,101,114],[101,108,115,101],
 [111,114],[97,110,100],[110,111,116],[116,114,117,101],[102,97,108,115,101],
 [105,102],[109,105,110],[109,97,120],[101,105,116,104,101,114],[97,98,115],[99,101,105,108],[102,108,111,111,114],
 [115,117,109],[97,118,103],[108,111,119],[104,105,103,104],[99,111,117,110,116],[114,97,110,107],[99,114,111,110]]
def resv (l:List UInt8):Bool:=words.contains l
def wordT (s:ByteArray)(i:Nat):TR:=
 if resv (s.extract i (cls s 3 i)).data.toList=true then .ok (⟨6,s.extract i (cls s 3 i),0,i⟩,cls s 3 i)
 else if (seg s (fun r=>isC (r:Int) 3) i).length<=32 then .ok (⟨1,s.extract i (cls s 3 i),0,i⟩,cls s 3 i)
 else .error 12
def numE (s:ByteArray)(i:Nat):Nat:=if s.get! (cls s 2 i)=46/\cls s 2 i+1<cls s 2 (cls s 2 i+1) then cls s 2 (cls s 2 i+1) else cls s 2 i
def valT (k:Int)(s:ByteArray)(i e:Nat):Option Nat->TR
 | some v=>.ok (⟨k,s.extract i e,(v:Int),i⟩,e)
 | none=>.error 13
def numT (s:ByteArray)(i:Nat):TR:=
 if numE s i<cls s 3 (numE s i) then valT 3 s i (cls s 3 (numE s i)) (spanN (s.extract i (cls s 3 (numE s i))).data.toList)
 else valT 2 s i (numE s i) (readN (s.extract i (numE s i)).data.toList)
def encT (k:Int)(never:List UInt8)(last:UInt8)(s:ByteArray)(i:Nat):TR:=
 if s.get! (rn s (nin never) (i+1))=last/\(seg s (nin never) (i+1)).length<=64 then .ok (⟨k,s.extract (i+1) (rn s (nin never) (i+1)),0,i⟩,rn s (nin never) (i+1)+1)
 else .error 12
abbrev quoT:=encT 4 [34,10] 34
abbrev braT:=encT 8 [91,93,34,10] 93
def two (a b:UInt8):Bool:=(a==46&&b==46)||((a==60||a==62)&&b==61)
def one (a:UInt8):Bool:=[59,58,44,61,40,41,123,125,43,45,42,47,60,62].contains a
def sigT (s:ByteArray)(i:Nat):TR:=
 if two (s.get! i) (s.get! (i+1))=true then .ok (⟨5,s.extract i (i+2),0,i⟩,i+2)
 else if one (s.get! i)=true then .ok (⟨5,s.extract i (i+1),0,i⟩,i+1)
 else .error 12
def tok (s:ByteArray)(i:Nat):TR:=
 if cls s 1 i≠i then wordT s i else if cls s 2 i≠i then numT s i else if s.get! i=34 then quoT s i else if s.get! i=91 then braT s i else sigT s i
def lexF (s:ByteArray):Nat->Nat->List Tk->List Tk×Nat×Int
 | 0,_,L=>(L,0,0)
 | f+1,i,L=>
   if skp s i<s.size then
    if L.length=16384 then ([],skp s i,14)
    else match tok s (skp s i) with
     | .error e=>([],skp s i,e)
     | .ok te=>lexF s f te.2 (L++[te.1])
   else (L++[⟨7,ofL [],0,s.size⟩],0,0)
def lexS (s:ByteArray)(i:Nat)(L:List Tk):List Tk×Nat×Int:=lexF s (s.size+1-i) i L
def cutS (s:ByteArray):List Tk×Nat×Int:=if 1048576<s.size then ([],0,2) else if (sd 10 11 s (rs s 0)).2=0 then lexS s 0 [] else ([],sd 10 11 s (rs s 0))
theorem cls_step {s:ByteArray}{c:Int}{i:Nat}(hi:i<s.size):(cls s c i=i/\isC ((Utf8.decode s i).1:Int) c=false)\/(i<cls s c i/\isC ((Utf8.decode s i).1:Int) c=true):=by
 cases h:isC ((Utf8.decode s i).1:Int) c with
 | false=>exact .inl ⟨rn_no (p:=fun r=>isC (r:Int) c) hi h,rfl⟩
 | true=>
   refine .inr ⟨?_,rfl⟩
   have hw:=width_in s i hi
   have hp:=width_pos s i
   have:=cls_in s c _ hw
   have e:cls s c i=cls s c (i+(Utf8.decode s i).2):=rn_yes (p:=fun r=>isC (r:Int) c) hi h
   omega
theorem numE_in {s:ByteArray}{i:Nat}(hi:i<=s.size):cls s 2 i<=numE s i/\numE s i<=s.size:=by
 unfold numE
 have:=cls_in s 2 i hi
 split
 ·rename_i h
  have hj:=get_in (s:=s) (i:=cls s 2 i) (by rw[h.1];decide)
  have:=cls_in s 2 (cls s 2 i+1) hj
  omega
 ·exact⟨Nat.le_refl _,this.2⟩
theorem numE_vd {s:ByteArray}{i:Nat}(hv:Vd s i):Vd s (numE s i):=by
 unfold numE
 have h1:=rn_vd (fun r=>isC (r:Int) 2) i hv
 split
 ·rename_i h
  have hj:=get_in (s:=s) (i:=cls s 2 i) (by rw[h.1];decide)
  have h2:=(h1.step hj).2.2
  rw[dec_low (by rw[h.1];decide)] at h2
  exact rn_vd _ _ h2
 ·exact h1
theorem vd_low {s:ByteArray}{i:Nat}(hv:Vd s i)(h0:s.get! i≠0)(h1:(s.get! i).toNat<128):Vd s (i+1):=by
 have h2:=(hv.step (get_in h0)).2.2
 rw[dec_low h1] at h2
 exact h2
theorem tok_past {s:ByteArray}{i e:Nat}{t:Tk}(hi:i<s.size)(hv:Vd s i)(h:tok s i=.ok (t,e)):i<e/\e<=s.size/\Vd s e:=by
 unfold tok at h
 split at h
 ·rename_i h1
  have c1:i<cls s 3 i:=by
   rcases cls_step (c:=3) hi with ⟨_,h3⟩ | h3
   ·rcases cls_step (c:=1) hi with ⟨h4,_⟩ | ⟨_,h4⟩
    ·exact absurd h4 h1
    ·exfalso
     unfold isC at h3 h4
     simp only[if_true,Int.reduceEq,if_false] at h3 h4
     simp only[decide_eq_true_eq,decide_eq_false_iff_not] at h3 h4
     exact h3 (.inl h4)
   ·exact h3.1
  have c2:=(cls_in s 3 i (by omega)).2
  unfold wordT at h
  split at h
  ·cases h
   exact⟨c1,c2,rn_vd _ _ hv⟩
  ·split at h
   ·cases h
    exact⟨c1,c2,rn_vd _ _ hv⟩
   ·cases h
 ·split at h
  ·rename_i h1
   have c1:=(cls_in s 2 i (by omega)).1
   have c2:=numE_in (s:=s) (i:=i) (by omega)
   have c3:=cls_in s 3 (numE s i) c2.2
   unfold numT at h
   split at h
   ·revert h
    generalize spanN _=o
    cases o with
    | none=>intro h;cases h
    | some v=>
      intro h
      cases h
      exact⟨by omega,c3.2,rn_vd _ _ (numE_vd hv)⟩
   ·revert h
    generalize readN _=o
    cases o with
    | none=>intro h;cases h
    | some v=>
      intro h
      cases h
      exact⟨by omega,c2.2,numE_vd hv⟩
  ·have enc:∀ (k:Int) (never:List UInt8) (last c:UInt8),last≠0->last.toNat<128->c≠0->c.toNat<128->s.get! i=c->encT k never last s i=.ok (t,e)->i<e/\e<=s.size/\Vd s e:=by
    intro k never last c l0 l1 k0 k1 hc h
    have hv1:=vd_low hv (by rw[hc];exact k0) (by rw[hc];exact k1)
    have c1:=rn_in s (nin never) (i+1) hi
    unfold encT at h
    split at h
    ·rename_i h2
     cases h
     exact⟨by omega,get_in (by rw[h2.1];exact l0),vd_low (rn_vd _ _ hv1) (by rw[h2.1];exact l0) (by rw[h2.1];exact l1)⟩
    ·cases h
   split at h
   ·rename_i h1
    exact enc _ _ _ _ (by decide) (by decide) (by decide) (by decide) h1 h
   ·split at h
    ·rename_i h1
     exact enc _ _ _ _ (by decide) (by decide) (by decide) (by decide) h1 h
    ·unfold sigT at h
     split at h
     ·rename_i h1
      cases h
      simp only[two,Bool.or_eq_true,Bool.and_eq_true,beq_iff_eq] at h1
      have a0:s.get! i≠0/\(s.get! i).toNat<128:=by
       rcases h1 with ⟨h1,_⟩ | ⟨h1 | h1,_⟩<;>(rw[h1];decide)
      have b0:s.get! (i+1)≠0/\(s.get! (i+1)).toNat<128:=by
       rcases h1 with ⟨_,h1⟩ | ⟨_,h1⟩<;>(rw[h1];decide)
      exact⟨by omega,get_in b0.1,vd_low (vd_low hv a0.1 a0.2) b0.1 b0.2⟩
     ·split at h
      ·rename_i h1
       cases h
       have a0:s.get! i≠0/\(s.get! i).toNat<128:=by
        simp only[one,List.contains_iff_mem,List.mem_cons,List.not_mem_nil,or_false] at h1
        rcases h1 with h1 | h1 | h1 | h1 | h1 | h1 | h1 | h1 | h1 | h1 | h1 | h1 | h1 | h1<;>(rw[h1];decide)
       exact⟨by omega,hi,vd_low hv a0.1 a0.2⟩
      ·cases h
theorem lexF_more (s:ByteArray):∀ (f g i:Nat) (L:List Tk),i<=s.size->Vd s i->s.size<i+f->s.size<i+g->lexF s f i L=lexF s g i L
 | 0,_,i,_,hi,_,hf,_=>by omega
 | _+1,0,i,_,hi,_,_,hg=>by omega
 | f+1,g+1,i,L,hi,hv,hf,hg=>by
   simp only[lexF]
   have hk:=skp_in i hi
   have hk2:=skp_vd i hi hv
   split
   ·rename_i hs
    split
    ·rfl
    ·cases ht:tok s (skp s i) with
     | error e=>rfl
     | ok te=>
       obtain⟨t,e⟩:=te
       have:=tok_past hs hk2 ht
       exact lexF_more s f g _ _ this.2.1 this.2.2 (by simp only[];omega) (by simp only[];omega)
   ·rfl
theorem lex_end {s:ByteArray}{i:Nat}{L:List Tk}(hi:i<=s.size)(h:¬ skp s i<s.size):lexS s i L=(L++[⟨7,ofL [],0,s.size⟩],0,0):=by
 unfold lexS
 rw[show s.size+1-i=(s.size-i)+1 by omega]
 simp only[lexF,if_neg h]
theorem lex_many {s:ByteArray}{i:Nat}{L:List Tk}(hi:i<=s.size)(h:skp s i<s.size)(hL:L.length=16384):lexS s i L=([],skp s i,14):=by
 unfold lexS
 rw[show s.size+1-i=(s.size-i)+1 by omega]
 simp only[lexF,if_pos h,if_pos hL]
theorem lex_no {s:ByteArray}{i:Nat}{L:List Tk}{e:Int}(hi:i<=s.size)(h:skp s i<s.size)(hL:L.length≠16384)(ht:tok s (skp s i)=.error e):lexS s i L=([],skp s i,e):=by
 unfold lexS
 rw[show s.size+1-i=(s.size-i)+1 by omega]
 simp only[lexF,if_pos h,if_neg hL,ht]
theorem lex_ok {s:ByteArray}{i:Nat}{L:List Tk}{t:Tk}{e:Nat}(hi:i<=s.size)(hv:Vd s i)(h:skp s i<s.size)(hL:L.length≠16384)(ht:tok s (skp s i)=.ok (t,e)):lexS s i L=lexS s e (L++[t]):=by
 have hk:=skp_in i hi
 have:=tok_past h (skp_vd i hi hv) ht
 unfold lexS
 rw[show s.size+1-i=(s.size-i)+1 by omega]
 simp only[lexF,if_pos h,if_neg hL,ht]
 exact lexF_more s _ _ _ _ this.2.1 this.2.2 (by omega) (by omega)
theorem cut_ok {s:ByteArray}(h1:s.size<=1048576)(h2:Vd s 0):cutS s=lexS s 0 []:=by
 unfold cutS
 rw[if_neg (by omega)]
 exact if_pos h2
end Go.Proofs.YtecdfnpbcabdnaaGreatDoor
