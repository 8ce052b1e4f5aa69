import Derived.Test.YtecdfnpbcabdnaaGreatDoorLxB
namespace Go.Proofs.YtecdfnpbcabdnaaGreatDoor
open Go.Lib
theorem dec_inside {s:ByteArray}{i x:Nat}(hv:noSeq (Utf8.decode s i)=false)(h0:0<x)(hx:x<(Utf8.decode s i).2):noSeq (Utf8.decode s (i+x))=true:=by
 have hb:(s.get! (i+x)).toNat/64=2:=by
  rw[decode_at] at hv hx
  unfold decodeN at hv hx
  revert hv hx
  repeat' split
  all_goals intro hv hx
  all_goals first
   | (exfalso;simp at hx;omega)
   | (simp only[] at hx
      have:x=1\/x=2\/x=3:=by omega
      rcases this with rfl | rfl | rfl<;>omega)
 rw[decode_at]
 unfold decodeN
 rw[if_neg (by omega),if_neg (by omega),if_neg (by omega),if_neg (by omega)]
 rfl
theorem vd_bound {s:ByteArray}{i e:Nat}(hv:Vd s i)(he:Vd s e)(hie:i<e)(hes:e<=s.size):i+(Utf8.decode s i).2<=e:=by
 rcases Nat.lt_or_ge e (i+(Utf8.decode s i).2) with h | h
 ·exfalso
  have hi:i<s.size:=by omega
  have hw:=width_in s i hi
  have he2:e<s.size:=by omega
  have:=dec_inside (x:=e-i) (hv.step hi).1 (by omega) (by omega)
  rw[show i+(e-i)=e by omega,(he.step he2).1] at this
  cases this
 ·exact h
theorem ext_get {x y:ByteArray}(h1:x.size=y.size)(h2:∀ k,k<x.size->x.get! k=y.get! k):x=y:=by
 apply ByteArray.ext
 apply Array.ext'
 apply List.ext_getElem?
 intro k
 by_cases hk:k<x.size
 ·rw[toL_get x k hk,toL_get y k (by omega),h2 k hk]
 ·rw[List.getElem?_eq_none (by rw[<-Lib.size_eq];omega),List.getElem?_eq_none (by rw[<-Lib.size_eq];omega)]
def splt (t:Tk):ByteArray:=if t.kind=4 then ofL [34]++t.text++ofL [34] else if t.kind=8 then ofL [91]++t.text++ofL [93] else t.text
theorem cut_wrapped (s:ByteArray)(i m:Nat)(a b:UInt8)(h1:i+1<=m)(h2:m+1<=s.size)(ha:s.get! i=a)(hb:s.get! m=b):s.extract i (m+1)=ofL [a]++s.extract (i+1) m++ofL [b]:=by
 have z1:=size_cut s i (m+1) h2
 have z2:=size_cut s (i+1) m (by omega)
 have z3:(ofL [a]++s.extract (i+1) m).size=1+(m-(i+1)):=by rw[ByteArray.size_append,z2];rfl
 have z4:(ofL [a]++s.extract (i+1) m++ofL [b]).size=1+(m-(i+1))+1:=by rw[ByteArray.size_append,z3];rfl
 refine ext_get (by omega) (fun k hk=>?_)
 rw[gd_cut s _ _ _ h2 (by omega)]
 by_cases hk1:k<1+(m-(i+1))
 ·rw[gd_left _ _ _ (by omega)]
  by_cases hk0:k=0
  ·subst hk0
   rw[gd_left _ _ _ (by show 0<1;omega),Nat.add_zero,ha]
   rfl
  ·have:=gd_right (ofL [a]) (s.extract (i+1) m) (k-1)
   rw[show (ofL [a]).size+(k-1)=k by show 1+(k-1)=k;omega] at this
   rw[this,gd_cut s _ _ _ (by omega) (by omega),show i+1+(k-1)=i+k by omega]
 ·have:=gd_right (ofL [a]++s.extract (i+1) m) (ofL [b]) 0
  rw[show (ofL [a]++s.extract (i+1) m).size+0=k by omega] at this
  rw[this,show i+k=m by omega,hb]
  rfl
theorem tok_spelt {s:ByteArray}{i e:Nat}{t:Tk}(hi:i<s.size)(hv:Vd s i)(h:tok s i=.ok (t,e)):t.at_=i/\s.extract i e=splt t:=by
 have hp:=tok_past hi hv h
 have enc:∀ (k:Int) (nv:List UInt8) (a b:UInt8),b≠0->s.get! i=a->(∀ x,splt ⟨k,x,0,i⟩=ofL [a]++x++ofL [b])->encT k nv b s i=.ok (t,e)->t.at_=i/\s.extract i e=splt t:=by
  intro k nv a b b0 ha hsp h
  have c1:=rn_in s (nin nv) (i+1) hi
  unfold encT at h
  split at h
  ·rename_i h2
   cases h
   refine⟨rfl,?_⟩
   rw[hsp,cut_wrapped s i _ a b c1.1 (get_in (by rw[h2.1];exact b0)) ha h2.1]
  ·cases h
 unfold tok at h
 split at h
 ·unfold wordT at h
  split at h
  ·cases h
   exact⟨rfl,rfl⟩
  ·split at h
   ·cases h
    exact⟨rfl,rfl⟩
   ·cases h
 ·split at h
  ·unfold numT at h
   split at h
   ·revert h
    generalize spanN _=o
    cases o with
    | none=>intro h;cases h
    | some v=>intro h;cases h;exact⟨rfl,rfl⟩
   ·revert h
    generalize readN _=o
    cases o with
    | none=>intro h;cases h
    | some v=>intro h;cases h;exact⟨rfl,rfl⟩
  ·split at h
   ·rename_i h1
    exact enc 4 _ 34 34 (by decide) h1 (fun x=>rfl) h
   ·split at h
    ·rename_i h1
     exact enc 8 _ 91 93 (by decide) h1 (fun x=>rfl) h
    ·unfold sigT at h
     split at h
     ·cases h
      exact⟨rfl,rfl⟩
     ·split at h
      ·cases h
       exact⟨rfl,rfl⟩
      ·cases h
theorem tok_err2 {s:ByteArray}{i:Nat}:∀ e,tok s i=.error e->e≠0:=by
 intro e h
 have val:∀ k a c (o:Option Nat),valT k s a c o=.error e->e≠0:=fun k a c o h=>by
  cases o with
  | none=>cases h;decide
  | some v=>cases h
 have enc:∀ k nv d,encT k nv d s i=.error e->e≠0:=fun k nv d h=>by
  unfold encT at h
  split at h
  ·cases h
  ·cases h;decide
 unfold tok at h
 split at h
 ·unfold wordT at h
  split at h
  ·cases h
  ·split at h
   ·cases h
   ·cases h;decide
 ·split at h
  ·unfold numT at h
   split at h
   ·exact val _ _ _ _ h
   ·exact val _ _ _ _ h
  ·split at h
   ·exact enc _ _ _ h
   ·split at h
    ·exact enc _ _ _ h
    ·unfold sigT at h
     split at h
     ·cases h
     ·split at h
      ·cases h
      ·cases h;decide
def Rn (s:ByteArray):Nat->List Tk->Prop
 | i,[]=>i<=s.size/\¬ skp s i<s.size
 | i,t::l=>i<=s.size/\Vd s i/\skp s i<s.size/\∃ e,tok s (skp s i)=.ok (t,e)/\Rn s e l
theorem lexF_rn (s:ByteArray):∀ (f i:Nat) (L:List Tk),i<=s.size->Vd s i->s.size<i+f->(lexF s f i L).2.2=0->∃ l,Rn s i l/\(lexF s f i L).1=L++l++[⟨7,ofL [],0,s.size⟩]
 | 0,i,_,hi,_,hf,_=>by omega
 | f+1,i,L,hi,hv,hf,h=>by
   have hk:=skp_in i hi
   have hk2:=skp_vd i hi hv
   simp only[lexF] at h ⊢
   by_cases h1:skp s i<s.size
   ·rw[if_pos h1] at h ⊢
    by_cases h2:L.length=16384
    ·rw[if_pos h2] at h
     cases h
    ·rw[if_neg h2] at h ⊢
     cases ht:tok s (skp s i) with
     | error e=>
       rw[ht] at h
       exact absurd h (tok_err2 _ ht)
     | ok te=>
       obtain⟨t,e⟩:=te
       rw[ht] at h
       have hp:=tok_past h1 hk2 ht
       obtain⟨l,k1,k2⟩:=lexF_rn s f e (L++[t]) hp.2.1 hp.2.2 (by omega) h
       exact⟨t::l,⟨hi,hv,h1,e,ht,k1⟩,by simp only[k2];simp⟩
   ·rw[if_neg h1]
    exact⟨[],⟨hi,h1⟩,by simp⟩
theorem rn_lexS {s:ByteArray}{i:Nat}{l:List Tk}(h:Rn s i l):∀ L,L.length+l.length<=16384->lexS s i L=(L++l++[⟨7,ofL [],0,s.size⟩],0,0):=by
 induction l generalizing i with
 | nil=>
   obtain⟨hi,hk⟩:=h
   intro L _
   rw[lex_end hi hk,List.append_nil]
 | cons t l ih=>
   obtain⟨hi,hv,hk,e,ht,hr⟩:=h
   intro L hL
   rw[List.length_cons] at hL
   rw[lex_ok hi hv hk (by omega) ht,ih hr _ (by rw[List.length_append];simp;omega)]
   simp
def key (t:Tk):Int×ByteArray×Int:=(t.kind,t.text,t.n)
structure Emb (s:ByteArray)(E:Nat)(t:ByteArray)(j:Nat):Prop where
 es:E<=s.size
 ve:Vd s E
 jt:j+E<=t.size
 byte:∀ x,x<E->t.get! (j+x)=s.get! x
 stop:∀ c:Int,(c=1\/c=2\/c=3)->rn t (fun r=>isC (r:Int) c) (j+E)=j+E/\seg t (fun r=>isC (r:Int) c) (j+E)=[]
 dot:t.get! (j+E)≠46/\t.get! (j+E)≠61
theorem Emb.dec {s t:ByteArray}{E j i:Nat}(h:Emb s E t j)(hi:i<E)(hv:Vd s i):Utf8.decode t (j+i)=Utf8.decode s i/\i+(Utf8.decode s i).2<=E:=by
 have hes:=h.es
 have hj:=h.jt
 have hb:=vd_bound hv h.ve hi hes
 exact⟨decode_same (hv.step (by omega)).1 (fun x hx=>by have:=h.byte (i+x) (by omega);rw[<-Nat.add_assoc] at this;exact this.symm) (by omega),hb⟩
theorem Emb.rn {s t:ByteArray}{E j:Nat}(h:Emb s E t j)(p:Nat->Bool):∀ i,i<=E->Vd s i->Go.Proofs.YtecdfnpbcabdnaaGreatDoor.rn s p i<=E->(Go.Proofs.YtecdfnpbcabdnaaGreatDoor.rn s p i<E\/(Go.Proofs.YtecdfnpbcabdnaaGreatDoor.rn t p (j+E)=j+E/\seg t p (j+E)=[])) ->
 Go.Proofs.YtecdfnpbcabdnaaGreatDoor.rn t p (j+i)=j+Go.Proofs.YtecdfnpbcabdnaaGreatDoor.rn s p i/\(seg t p (j+i)).length=(seg s p i).length:=by
 have hes:=h.es
 have hjt:=h.jt
 refine rn_ind (s:=s) (p:=p) (fun i hi hE hv hr hb=>?_) (fun i hi hy ih hE hv hr hb=>?_) (fun i hi hn hE hv hr hb=>?_)
 ·rw[rn_end hi] at hr hb ⊢
  have he:i=E:=by omega
  rcases hb with hb | ⟨k1,k2⟩
  ·omega
  ·rw[he,k1,k2,seg_end (by omega)]
   exact⟨by omega,rfl⟩
 ·have hin:=(rn_in s p _ (width_in s i hi)).1
  have hwp:=width_pos s i
  rw[rn_yes hi hy] at hr hb ⊢
  obtain⟨hd,hw⟩:=h.dec (by omega) hv
  obtain⟨k1,k2⟩:=ih hw (hv.step hi).2.2 hr hb
  have hy2:p (Utf8.decode t (j+i)).1=true:=by rw[hd];exact hy
  rw[rn_yes (s:=t) (by omega) hy2,seg_yes (s:=t) (by omega) hy2,seg_yes hi hy,hd,Nat.add_assoc,k1,List.length_cons,List.length_cons,k2]
  exact⟨rfl,rfl⟩
 ·rw[rn_no hi hn] at hr hb ⊢
  by_cases hie:i<E
  ·obtain⟨hd,hw⟩:=h.dec hie hv
   have hn2:p (Utf8.decode t (j+i)).1=false:=by rw[hd];exact hn
   rw[rn_no (s:=t) (by omega) hn2,seg_no (s:=t) (by omega) hn2,seg_no hi hn]
   exact⟨rfl,rfl⟩
  ·rcases hb with hb | ⟨k1,k2⟩
   ·omega
   ·have he:i=E:=by omega
    rw[seg_no hi hn,he,k1,k2]
    exact⟨rfl,rfl⟩
theorem Emb.rnE {s t:ByteArray}{E j:Nat}(h:Emb s E t j)(p:Nat->Bool):∀ i,i<=E->Vd s i->Go.Proofs.YtecdfnpbcabdnaaGreatDoor.rn s p i=E->Go.Proofs.YtecdfnpbcabdnaaGreatDoor.rn t p (j+i)=Go.Proofs.YtecdfnpbcabdnaaGreatDoor.rn t p (j+E):=by
 have hes:=h.es
 have hjt:=h.jt
 refine rn_ind (s:=s) (p:=p) (fun i hi hE hv hr=>?_) (fun i hi hy ih hE hv hr=>?_) (fun i hi hn hE hv hr=>?_)
 ·rw[show i=E by omega]
 ·have hin:=(rn_in s p _ (width_in s i hi)).1
  have hwp:=width_pos s i
  rw[rn_yes hi hy] at hr
  obtain⟨hd,hw⟩:=h.dec (by omega) hv
  have hy2:p (Utf8.decode t (j+i)).1=true:=by rw[hd];exact hy
  rw[rn_yes (s:=t) (by omega) hy2,hd,Nat.add_assoc]
  exact ih hw (hv.step hi).2.2 hr
 ·rw[rn_no hi hn] at hr
  rw[hr]
theorem Emb.cls {s t:ByteArray}{E j i:Nat}(h:Emb s E t j)(c:Int)(hc:c=1\/c=2\/c=3)(hi:i<=E)(hv:Vd s i)(hr:Go.Proofs.YtecdfnpbcabdnaaGreatDoor.cls s c i<=E):Go.Proofs.YtecdfnpbcabdnaaGreatDoor.cls t c (j+i)=j+Go.Proofs.YtecdfnpbcabdnaaGreatDoor.cls s c i/\(seg t (fun r=>isC (r:Int) c) (j+i)).length=(seg s (fun r=>isC (r:Int) c) i).length:=
 h.rn _ i hi hv hr (.inr (h.stop c hc))
theorem Emb.vd {s t:ByteArray}{E j:Nat}(h:Emb s E t j)(ht:Vd t (j+E)):∀ i,i<=E->Vd s i->Vd t (j+i):=by
 have hes:=h.es
 have hjt:=h.jt
 refine rs_ind (s:=s) (fun i hi hE hv=>?_) (fun i hi ih hE hv=>?_)
 ·rw[show i=E by omega];exact ht
 ·by_cases hie:i<E
  ·obtain⟨hd,hw⟩:=h.dec hie hv
   obtain⟨v1,v2,v3⟩:=hv.step hi
   refine Vd.ofStep (by omega) (by rw[hd];exact v1) (by rw[hd];exact v2) ?_
   rw[hd,Nat.add_assoc]
   exact ih hw v3
  ·rw[show i=E by omega];exact ht
theorem Emb.cut {s t:ByteArray}{E j:Nat}(h:Emb s E t j)(a b:Nat)(hab:a<=b)(hb:b<=E):t.extract (j+a) (j+b)=s.extract a b:=by
 have hj:=h.jt
 have hes:=h.es
 have z1:=size_cut s a b (by omega)
 have z2:=size_cut t (j+a) (j+b) (by omega)
 refine ext_get (by omega) (fun k hk=>?_)
 rw[gd_cut t _ _ _ (by omega) (by omega),gd_cut s _ _ _ (by omega) (by omega),Nat.add_assoc]
 exact h.byte (a+k) (by omega)
theorem Emb.numE {s t:ByteArray}{E j i:Nat}(h:Emb s E t j)(hi:i<s.size)(hE:i<=E)(hvi:Vd s i)(hn:Go.Proofs.YtecdfnpbcabdnaaGreatDoor.numE s i<=E):Go.Proofs.YtecdfnpbcabdnaaGreatDoor.numE t (j+i)=j+Go.Proofs.YtecdfnpbcabdnaaGreatDoor.numE s i:=by
 have c1:=numE_in (s:=s) (i:=i) (by omega)
 have c0:=cls_in s 2 i (by omega)
 have hr:=(h.cls 2 (by simp) hE hvi (by omega)).1
 have hv:=rn_vd (fun r=>isC (r:Int) 2) i hvi
 by_cases hc:Go.Proofs.YtecdfnpbcabdnaaGreatDoor.cls s 2 i<E
 ·have hb:t.get! (j+Go.Proofs.YtecdfnpbcabdnaaGreatDoor.cls s 2 i)=s.get! (Go.Proofs.YtecdfnpbcabdnaaGreatDoor.cls s 2 i):=h.byte _ hc
  by_cases h46:s.get! (Go.Proofs.YtecdfnpbcabdnaaGreatDoor.cls s 2 i)=46
  ·have hlow:(s.get! (Go.Proofs.YtecdfnpbcabdnaaGreatDoor.cls s 2 i)).toNat<128:=by rw[h46];decide
   have hv1:=vd_low hv (by show s.get! (Go.Proofs.YtecdfnpbcabdnaaGreatDoor.cls s 2 i)≠0;rw[h46];decide) hlow
   have hlt:=get_in (s:=s) (i:=Go.Proofs.YtecdfnpbcabdnaaGreatDoor.cls s 2 i) (by rw[h46];decide)
   have c2:=cls_in s 2 (Go.Proofs.YtecdfnpbcabdnaaGreatDoor.cls s 2 i+1) hlt
   have hle:Go.Proofs.YtecdfnpbcabdnaaGreatDoor.cls s 2 (Go.Proofs.YtecdfnpbcabdnaaGreatDoor.cls s 2 i+1)<=E:=by
    by_cases hq:Go.Proofs.YtecdfnpbcabdnaaGreatDoor.cls s 2 i+1<Go.Proofs.YtecdfnpbcabdnaaGreatDoor.cls s 2 (Go.Proofs.YtecdfnpbcabdnaaGreatDoor.cls s 2 i+1)
    ·have:Go.Proofs.YtecdfnpbcabdnaaGreatDoor.numE s i=Go.Proofs.YtecdfnpbcabdnaaGreatDoor.cls s 2 (Go.Proofs.YtecdfnpbcabdnaaGreatDoor.cls s 2 i+1):=if_pos ⟨h46,hq⟩
     omega
    ·omega
   have hr2:=(h.cls 2 (by simp) (i:=Go.Proofs.YtecdfnpbcabdnaaGreatDoor.cls s 2 i+1) (by omega) hv1 hle).1
   rw[<-Nat.add_assoc] at hr2
   unfold Go.Proofs.YtecdfnpbcabdnaaGreatDoor.numE
   rw[hr,hb,h46,hr2]
   by_cases hq:Go.Proofs.YtecdfnpbcabdnaaGreatDoor.cls s 2 i+1<Go.Proofs.YtecdfnpbcabdnaaGreatDoor.cls s 2 (Go.Proofs.YtecdfnpbcabdnaaGreatDoor.cls s 2 i+1)
   ·rw[if_pos ⟨rfl,by omega⟩,if_pos ⟨rfl,hq⟩]
   ·rw[if_neg (fun hh=>hq (by omega)),if_neg (fun hh=>hq hh.2)]
  ·unfold Go.Proofs.YtecdfnpbcabdnaaGreatDoor.numE
   rw[hr,hb,if_neg (fun hh=>h46 hh.1),if_neg (fun hh=>h46 hh.1)]
 ·have hce:Go.Proofs.YtecdfnpbcabdnaaGreatDoor.cls s 2 i=E:=by omega
  have hn2:Go.Proofs.YtecdfnpbcabdnaaGreatDoor.numE s i=Go.Proofs.YtecdfnpbcabdnaaGreatDoor.cls s 2 i:=by omega
  rw[hn2]
  unfold Go.Proofs.YtecdfnpbcabdnaaGreatDoor.numE
  rw[hr,hce,if_neg (fun hh=>h.dot.1 hh.1)]
theorem Emb.enc {s t:ByteArray}{E j i e:Nat}{tk:Tk}(h:Emb s E t j)(hi:i<E)(hvi:Vd s i)(k:Int)(nv:List UInt8)(last c:UInt8)(hc:s.get! i=c)(c0:c≠0)(c1:c.toNat<128)(ht:encT k nv last s i=.ok (tk,e))(he:e<=E):encT k nv last t (j+i)=.ok (⟨tk.kind,tk.text,tk.n,j+i⟩,j+e):=by
 have hes:=h.es
 have hv1:=vd_low hvi (by rw[hc];exact c0) (by rw[hc];exact c1)
 have d1:=rn_in s (nin nv) (i+1) (by omega)
 unfold encT at ht ⊢
 split at ht
 ·rename_i h2
  cases ht
  obtain⟨k1,k2⟩:=h.rn (nin nv) (i+1) (by omega) hv1 (by omega) (.inl (by omega))
  have hb:t.get! (j+Go.Proofs.YtecdfnpbcabdnaaGreatDoor.rn s (nin nv) (i+1))=s.get! (Go.Proofs.YtecdfnpbcabdnaaGreatDoor.rn s (nin nv) (i+1)):=h.byte _ (by omega)
  have hx:=h.cut (i+1) (Go.Proofs.YtecdfnpbcabdnaaGreatDoor.rn s (nin nv) (i+1)) d1.1 (by omega)
  rw[<-Nat.add_assoc] at k1 k2 hx
  rw[k1,k2,hb,if_pos h2,hx,<-Nat.add_assoc]
 ·cases ht
theorem Emb.tok {s t:ByteArray}{E j i e:Nat}{tk:Tk}(h:Emb s E t j)(hi:i<s.size)(hvi:Vd s i)(ht:Go.Proofs.YtecdfnpbcabdnaaGreatDoor.tok s i=.ok (tk,e))(hE:e<=E):Go.Proofs.YtecdfnpbcabdnaaGreatDoor.tok t (j+i)=.ok (⟨tk.kind,tk.text,tk.n,j+i⟩,j+e):=by
 have hp:=tok_past hi hvi ht
 have hiE:i<E:=by omega
 obtain⟨hd,hw⟩:=h.dec hiE hvi
 have hj:=h.jt
 have hjt:j+i<t.size:=by omega
 have h0:t.get! (j+i)=s.get! i:=h.byte i hiE
 have cn:∀ c,(Go.Proofs.YtecdfnpbcabdnaaGreatDoor.cls t c (j+i)=j+i↔Go.Proofs.YtecdfnpbcabdnaaGreatDoor.cls s c i=i):=fun c=>by
  rcases cls_step (c:=c) hi with ⟨a1,a2⟩ | ⟨a1,a2⟩<;>rcases cls_step (c:=c) hjt with ⟨b1,b2⟩ | ⟨b1,b2⟩<;>rw[hd,a2] at b2
  ·exact⟨fun _=>a1,fun _=>b1⟩
  ·cases b2
  ·cases b2
  ·exact⟨fun hh=>by omega,fun hh=>by omega⟩
 have hself:t.extract (j+i) (j+e)=s.extract i e:=h.cut i e (by omega) hE
 unfold Go.Proofs.YtecdfnpbcabdnaaGreatDoor.tok at ht ⊢
 by_cases c1:Go.Proofs.YtecdfnpbcabdnaaGreatDoor.cls s 1 i≠i
 ·rw[if_pos c1] at ht
  rw[if_pos (fun hh=>c1 ((cn 1).1 hh))]
  unfold wordT at ht ⊢
  have he:Go.Proofs.YtecdfnpbcabdnaaGreatDoor.cls s 3 i=e:=by
   split at ht
   ·cases ht;rfl
   ·split at ht
    ·cases ht;rfl
    ·cases ht
  obtain⟨k1,k2⟩:=h.cls 3 (by simp) (i:=i) (by omega) hvi (by omega)
  rw[he] at ht k1
  rw[k1,k2,hself]
  split at ht
  ·rename_i r1
   rw[if_pos r1]
   cases ht
   rfl
  ·rename_i r1
   rw[if_neg r1]
   split at ht
   ·rename_i r2
    rw[if_pos r2]
    cases ht
    rfl
   ·cases ht
 ·rw[if_neg c1] at ht
  rw[if_neg (fun hh=>c1 (fun h2=>hh ((cn 1).2 h2)))]
  by_cases c2:Go.Proofs.YtecdfnpbcabdnaaGreatDoor.cls s 2 i≠i
  ·rw[if_pos c2] at ht
   rw[if_pos (fun hh=>c2 ((cn 2).1 hh))]
   have n0:=numE_in (s:=s) (i:=i) (by omega)
   have n1:=cls_in s 2 i (by omega)
   have n2:=cls_in s 3 (Go.Proofs.YtecdfnpbcabdnaaGreatDoor.numE s i) n0.2
   have n3:=numE_vd hvi
   have he:Go.Proofs.YtecdfnpbcabdnaaGreatDoor.cls s 3 (Go.Proofs.YtecdfnpbcabdnaaGreatDoor.numE s i)=e:=by
    unfold numT at ht
    split at ht
    ·revert ht
     generalize spanN _=o
     cases o with
     | none=>intro ht;cases ht
     | some v=>intro ht;cases ht;rfl
    ·revert ht
     generalize readN _=o
     cases o with
     | none=>intro ht;cases ht
     | some v=>intro ht;cases ht;omega
   have m0:=h.numE hi (by omega) hvi (by omega)
   have m2:=(h.cls 3 (by simp) (i:=Go.Proofs.YtecdfnpbcabdnaaGreatDoor.numE s i) (by omega) n3 (by omega)).1
   rw[he,<-m0] at m2
   unfold numT at ht ⊢
   rw[m2]
   rw[he] at ht
   by_cases hq:Go.Proofs.YtecdfnpbcabdnaaGreatDoor.numE s i<e
   ·rw[if_pos hq] at ht
    rw[if_pos (by omega),hself]
    revert ht
    generalize spanN _=o
    cases o with
    | none=>intro ht;cases ht
    | some v=>intro ht;cases ht;simp only[valT,hself]
   ·rw[if_neg hq] at ht
    have m3:Go.Proofs.YtecdfnpbcabdnaaGreatDoor.numE t (j+i)=j+e:=by omega
    have m4:Go.Proofs.YtecdfnpbcabdnaaGreatDoor.numE s i=e:=by omega
    rw[if_neg (by omega),m3,hself]
    rw[m4] at ht
    revert ht
    generalize readN _=o
    cases o with
    | none=>intro ht;cases ht
    | some v=>intro ht;cases ht;simp only[valT,hself]
  ·rw[if_neg c2] at ht
   rw[if_neg (fun hh=>c2 (fun h2=>hh ((cn 2).2 h2))),h0]
   by_cases c3:s.get! i=34
   ·rw[if_pos c3] at ht ⊢
    exact h.enc hiE hvi _ _ _ _ c3 (by decide) (by decide) ht hE
   ·rw[if_neg c3] at ht ⊢
    by_cases c4:s.get! i=91
    ·rw[if_pos c4] at ht ⊢
     exact h.enc hiE hvi _ _ _ _ c4 (by decide) (by decide) ht hE
    ·rw[if_neg c4] at ht ⊢
     unfold sigT at ht ⊢
     rw[h0]
     split at ht
     ·rename_i h2
      cases ht
      have:=h.byte (i+1) (by omega)
      rw[<-Nat.add_assoc] at this hself
      rw[this,if_pos h2,hself]
      rfl
     ·rename_i h2
      split at ht
      ·rename_i h3
       cases ht
       have hne:¬ two (s.get! i) (t.get! (j+i+1))=true:=by
        by_cases hx:i+1<E
        ·have:=h.byte (i+1) hx
         rw[<-Nat.add_assoc] at this
         rw[this]
         exact h2
        ·have hx2:i+1=E:=by omega
         have hdot:=h.dot
         rw[<-hx2,<-Nat.add_assoc] at hdot
         unfold two
         simp[hdot.1,hdot.2]
       rw[<-Nat.add_assoc] at hself
       rw[if_neg hne,if_pos h3,hself]
       rfl
      ·cases ht
theorem Emb.skp {s t:ByteArray}{E j:Nat}(h:Emb s E t j):∀ i,i<=s.size->i<=E->Vd s i->Go.Proofs.YtecdfnpbcabdnaaGreatDoor.skp s i<E->Go.Proofs.YtecdfnpbcabdnaaGreatDoor.skp t (j+i)=j+Go.Proofs.YtecdfnpbcabdnaaGreatDoor.skp s i:=by
 have hes:=h.es
 have hjt:=h.jt
 refine skp_ind (s:=s) (fun i hi h35 ih hE hv hlt=>?_) (fun i hi h35 hE hv hlt=>?_)
 ·have hl:=line_past h35
  have c0:=cls_in s 4 i hi
  rw[skp_eq hi,if_pos h35] at hlt ⊢
  have d0:=skp_in (s:=s) (lineEnd s (Go.Proofs.YtecdfnpbcabdnaaGreatDoor.cls s 4 i)) hl.2
  have v1:=rn_vd (fun r=>isC (r:Int) 4) i hv
  have k1:=(h.rn (fun r=>isC (r:Int) 4) i hE hv (show Go.Proofs.YtecdfnpbcabdnaaGreatDoor.cls s 4 i<=E by omega) (.inl (show Go.Proofs.YtecdfnpbcabdnaaGreatDoor.cls s 4 i<E by omega))).1
  have k2:=(h.rn (nin [10]) (Go.Proofs.YtecdfnpbcabdnaaGreatDoor.cls s 4 i) (by omega) v1 (show lineEnd s (Go.Proofs.YtecdfnpbcabdnaaGreatDoor.cls s 4 i)<=E by omega) (.inl (show lineEnd s (Go.Proofs.YtecdfnpbcabdnaaGreatDoor.cls s 4 i)<E by omega))).1
  have kb:=h.byte (Go.Proofs.YtecdfnpbcabdnaaGreatDoor.cls s 4 i) (by omega)
  rw[skp_eq (s:=t) (by omega)]
  rw[show Go.Proofs.YtecdfnpbcabdnaaGreatDoor.cls t 4 (j+i)=j+Go.Proofs.YtecdfnpbcabdnaaGreatDoor.cls s 4 i from k1,kb,if_pos h35,show lineEnd t (j+Go.Proofs.YtecdfnpbcabdnaaGreatDoor.cls s 4 i)=j+lineEnd s (Go.Proofs.YtecdfnpbcabdnaaGreatDoor.cls s 4 i) from k2]
  exact ih (by omega) (rn_vd _ _ v1) hlt
 ·have c0:=cls_in s 4 i hi
  rw[skp_eq hi,if_neg h35] at hlt ⊢
  have k1:=(h.rn (fun r=>isC (r:Int) 4) i hE hv (show Go.Proofs.YtecdfnpbcabdnaaGreatDoor.cls s 4 i<=E by omega) (.inl hlt)).1
  have kb:=h.byte (Go.Proofs.YtecdfnpbcabdnaaGreatDoor.cls s 4 i) hlt
  rw[skp_eq (s:=t) (by omega)]
  rw[show Go.Proofs.YtecdfnpbcabdnaaGreatDoor.cls t 4 (j+i)=j+Go.Proofs.YtecdfnpbcabdnaaGreatDoor.cls s 4 i from k1,kb,if_neg h35]
theorem Emb.skpE {s t:ByteArray}{E j:Nat}(h:Emb s E t j)(hl10:∀ c,s.get! c=35->Go.Proofs.YtecdfnpbcabdnaaGreatDoor.rn t (nin [10]) (j+E)=j+E):∀ i,i<=s.size->i<=E->Vd s i->Go.Proofs.YtecdfnpbcabdnaaGreatDoor.skp s i=E->Go.Proofs.YtecdfnpbcabdnaaGreatDoor.skp t (j+i)=Go.Proofs.YtecdfnpbcabdnaaGreatDoor.skp t (j+E):=by
 have hes:=h.es
 have hjt:=h.jt
 refine skp_ind (s:=s) (fun i hi h35 ih hE hv heq=>?_) (fun i hi h35 hE hv heq=>?_)
 ·have hl:=line_past h35
  have c0:=cls_in s 4 i hi
  rw[skp_eq hi,if_pos h35] at heq
  have d0:=skp_in (s:=s) (lineEnd s (Go.Proofs.YtecdfnpbcabdnaaGreatDoor.cls s 4 i)) hl.2
  have v1:=rn_vd (fun r=>isC (r:Int) 4) i hv
  have k1:=(h.rn (fun r=>isC (r:Int) 4) i hE hv (show Go.Proofs.YtecdfnpbcabdnaaGreatDoor.cls s 4 i<=E by omega) (.inl (show Go.Proofs.YtecdfnpbcabdnaaGreatDoor.cls s 4 i<E by omega))).1
  have k2:lineEnd t (j+Go.Proofs.YtecdfnpbcabdnaaGreatDoor.cls s 4 i)=j+lineEnd s (Go.Proofs.YtecdfnpbcabdnaaGreatDoor.cls s 4 i):=by
   by_cases hlt:lineEnd s (Go.Proofs.YtecdfnpbcabdnaaGreatDoor.cls s 4 i)<E
   ·exact(h.rn (nin [10]) (Go.Proofs.YtecdfnpbcabdnaaGreatDoor.cls s 4 i) (by omega) v1 (show lineEnd s (Go.Proofs.YtecdfnpbcabdnaaGreatDoor.cls s 4 i)<=E by omega) (.inl hlt)).1
   ·have he:lineEnd s (Go.Proofs.YtecdfnpbcabdnaaGreatDoor.cls s 4 i)=E:=by omega
    rw[he]
    exact(h.rnE (nin [10]) (Go.Proofs.YtecdfnpbcabdnaaGreatDoor.cls s 4 i) (by omega) v1 he).trans (hl10 _ h35)
  have kb:=h.byte (Go.Proofs.YtecdfnpbcabdnaaGreatDoor.cls s 4 i) (by omega)
  rw[skp_eq (s:=t) (i:=j+i) (by omega)]
  rw[show Go.Proofs.YtecdfnpbcabdnaaGreatDoor.cls t 4 (j+i)=j+Go.Proofs.YtecdfnpbcabdnaaGreatDoor.cls s 4 i from k1,kb,if_pos h35,k2]
  exact ih (by omega) (rn_vd _ _ v1) heq
 ·have c0:=cls_in s 4 i hi
  rw[skp_eq hi,if_neg h35] at heq
  have k1:Go.Proofs.YtecdfnpbcabdnaaGreatDoor.cls t 4 (j+i)=Go.Proofs.YtecdfnpbcabdnaaGreatDoor.cls t 4 (j+E):=h.rnE (fun r=>isC (r:Int) 4) i hE hv heq
  rw[skp_eq (s:=t) (i:=j+i) (by omega),skp_eq (s:=t) (i:=j+E) (by omega),k1]
theorem tok_at {s:ByteArray}{i e:Nat}{t:Tk}(hi:i<s.size)(hv:Vd s i)(h:tok s i=.ok (t,e)):t.at_=i:=(tok_spelt hi hv h).1
def Rf (s:ByteArray):Nat->List Tk->Nat->Prop
 | i,[],k=>k=i/\i<=s.size/\Vd s i
 | i,t::l,k=>i<=s.size/\Vd s i/\skp s i<s.size/\∃ e,tok s (skp s i)=.ok (t,e)/\Rf s e l k
theorem rf_in {s:ByteArray}:∀ (l:List Tk) (i k:Nat),Rf s i l k->i<=k/\k<=s.size/\Vd s k
 | [],i,k,h=>by obtain⟨rfl,h2,h3⟩:=h;exact⟨Nat.le_refl _,h2,h3⟩
 | x::l,i,k,h=>by
   obtain⟨k1,k2,k3,e,k4,k5⟩:=h
   have hsk:=skp_in i k1
   have hp:=tok_past k3 (skp_vd i k1 k2) k4
   have:=rf_in l e k k5
   exact⟨by omega,this.2⟩
theorem lexF_rf (s:ByteArray):∀ (f i:Nat) (L:List Tk),i<=s.size->Vd s i->s.size<i+f->L.length<=16384->(lexF s f i L).2.2≠0 ->
 ∃ l k,Rf s i l k/\(lexF s f i L).2.1=skp s k/\skp s k<s.size/\(L++l).length<=16384/\(((L++l).length=16384/\(lexF s f i L).2.2=14)\/((L++l).length≠16384/\tok s (skp s k)=.error (lexF s f i L).2.2))
 | 0,i,_,hi,_,hf,_,_=>by omega
 | f+1,i,L,hi,hv,hf,hL,h=>by
   have hk:=skp_in i hi
   have hk2:=skp_vd i hi hv
   simp only[lexF] at h ⊢
   by_cases h1:skp s i<s.size
   ·rw[if_pos h1] at h ⊢
    by_cases h2:L.length=16384
    ·rw[if_pos h2]
     exact⟨[],i,⟨rfl,hi,hv⟩,rfl,h1,by simpa using hL,.inl ⟨by simpa using h2,rfl⟩⟩
    ·rw[if_neg h2] at h ⊢
     cases ht:tok s (skp s i) with
     | error e=>
       exact⟨[],i,⟨rfl,hi,hv⟩,rfl,h1,by simpa using hL,.inr ⟨by simpa using h2,ht⟩⟩
     | ok te=>
       obtain⟨t,e⟩:=te
       rw[ht] at h
       have hp:=tok_past h1 hk2 ht
       obtain⟨l,k,k1,k2,k3,k4,k5⟩:=lexF_rf s f e (L++[t]) hp.2.1 hp.2.2 (by omega) (by simp;omega) h
       have ea:L++[t]++l=L++(t::l):=by simp
       rw[ea] at k4 k5
       exact⟨t::l,k,⟨hi,hv,h1,e,ht,k1⟩,k2,k3,k4,k5⟩
   ·rw[if_neg h1] at h
    exact absurd rfl h
theorem emb_front {s:ByteArray}{E:Nat}(hE:E<=s.size)(hv:Vd s E):Emb s E (s.extract 0 E) 0:=by
 have hz:=size_cut s 0 E hE
 have hz2:(s.extract 0 E).size=E:=by omega
 refine⟨hE,hv,by omega,fun x hx=>?_,fun c hc=>?_,?_⟩
 ·rw[gd_cut s 0 E _ hE (by omega)]
  simp
 ·refine⟨?_,seg_end (by omega)⟩
  rw[rn_end (by omega)]
  omega
 ·have h0:(s.extract 0 E).get! (0+E)=0:=by
   rw[gd,List.getElem?_eq_none (by rw[<-Lib.size_eq];omega)]
   rfl
  rw[h0]
  decide
theorem rf_front {s:ByteArray}{E k:Nat}(hk:skp s k=E)(hE:E<s.size):∀ (l:List Tk) (i:Nat),Rf s i l k->Rn (s.extract 0 E) i l
 | [],i,h=>by
   obtain⟨rfl,h2,h3⟩:=h
   have hv:=skp_vd k h2 h3
   have hsk:=skp_in k h2
   have hz:=size_cut s 0 E (by omega)
   rw[hk] at hv
   have em:=emb_front (by omega) hv
   have he:=em.skpE (fun c _=>by rw[rn_end (by omega)];omega) k h2 (by omega) h3 hk
   have hs2:=skp_in (s:=s.extract 0 E) E (by omega)
   simp only[Nat.zero_add] at he
   exact⟨by omega,by rw[he];omega⟩
 | x::l,i,h=>by
   have hin:=rf_in _ _ _ h
   have hin2:=skp_in k hin.2.1
   obtain⟨k1,k2,k3,e,k4,k5⟩:=h
   have hv:=skp_vd k hin.2.1 hin.2.2
   rw[hk] at hv
   have hz:=size_cut s 0 E (by omega)
   have em:=emb_front (by omega) hv
   have hsk:=skp_in i k1
   have hvs:=skp_vd i k1 k2
   have hp:=tok_past k3 hvs k4
   have hin3:=rf_in _ _ _ k5
   have he:=em.skp i k1 (by omega) k2 (by omega)
   have htk:=em.tok k3 hvs k4 (by omega)
   have ha:=tok_at k3 hvs k4
   have hvi:=em.vd (Vd.end_ (by omega)) i (by omega) k2
   simp only[Nat.zero_add] at he htk hvi
   refine⟨by omega,hvi,by rw[he];omega,e,?_,rf_front hk hE l e k5⟩
   rw[he,htk,<-ha]
theorem sd_err {s:ByteArray}:∀ {l:List (Nat×Nat)},(sd 10 11 s l).2≠0->(sd 10 11 s l).2=10\/(sd 10 11 s l).2=11
 | [],h=>absurd rfl h
 | p::l,h=>by
   simp only[sd] at h ⊢
   split
   ·rename_i hf
    rw[if_pos hf] at h
    exact sd_err h
   ·rename_i hf
    revert hf
    unfold flt
    split
    ·intro _;exact .inl rfl
    ·split
     ·intro hf;exact absurd rfl hf
     ·intro _;exact .inr rfl
theorem cutS_fault {s:ByteArray}(h:(cutS s).2.2≠0)(h2:(cutS s).2.2≠2)(h10:(cutS s).2.2≠10)(h11:(cutS s).2.2≠11):
 s.size<=1048576/\Vd s 0/\∃ l k,Rf s 0 l k/\(cutS s).2.1=skp s k/\skp s k<s.size/\l.length<=16384/\((l.length=16384/\(cutS s).2.2=14)\/(l.length≠16384/\tok s (skp s k)=.error (cutS s).2.2)) /\
  cutS (s.extract 0 (cutS s).2.1)=(l++[⟨7,ofL [],0,(cutS s).2.1⟩],0,0):=by
 have hz:s.size<=1048576:=by
  rcases Nat.lt_or_ge 1048576 s.size with hh | hh
  ·unfold cutS at h2
   rw[if_pos hh] at h2
   exact absurd rfl h2
  ·exact hh
 have hv:Vd s 0:=by
  unfold Vd
  by_cases hs:(sd 10 11 s (rs s 0)).2=0
  ·exact hs
  ·exfalso
   unfold cutS at h10 h11
   rw[if_neg (by omega),if_neg hs] at h10 h11
   rcases sd_err (s:=s) hs with hh | hh
   ·exact h10 hh
   ·exact h11 hh
 refine⟨hz,hv,?_⟩
 rw[cut_ok hz hv] at h h2 h10 h11 ⊢
 obtain⟨l,k,k1,k2,k3,k4,k5⟩:=lexF_rf s _ 0 [] (Nat.zero_le _) hv (by omega) (by simp) h
 simp only[List.nil_append] at k4 k5
 refine⟨l,k,k1,k2,k3,k4,k5,?_⟩
 have e1:(lexS s 0 []).2.1=skp s k:=k2
 rw[e1]
 have hr:=rf_front rfl k3 l 0 k1
 have hin:=rf_in _ _ _ k1
 have hsz:=size_cut s 0 (skp s k) (by omega)
 have hv2:=skp_vd k hin.2.1 hin.2.2
 have em:=emb_front (by omega) hv2
 have hv3:=em.vd (Vd.end_ (by omega)) 0 (by omega) hv
 rw[cut_ok (by omega) (by simpa using hv3),rn_lexS hr [] (by simpa using k4),List.nil_append]
 congr 4
end Go.Proofs.YtecdfnpbcabdnaaGreatDoor
