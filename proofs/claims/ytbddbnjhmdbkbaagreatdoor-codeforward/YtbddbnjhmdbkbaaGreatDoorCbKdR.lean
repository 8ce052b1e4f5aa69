import Derived.Test.YtbddbnjhmdbkbaaGreatDoorCbKdQ
import Derived.Test.YtbddbnjhmdbkbaaGreatDoorCbFoP
namespace Go.Proofs.YtbddbnjhmdbkbaaGreatDoor
theorem a6c {nl:Nat}:∀ (n:Nat) (l:List Co),l.length=2*n+1->(∀ j x,l[j]? = some x->j%2=1\/j+1=l.length->AOk nl (a0n x))->AOk nl (a0U (l.map fun x=>(x,a0n x)))
 | 0,[a],_,H=>a1f (a2R nl 33 0 rfl (by decide) (by decide)) (H 0 a rfl (.inr rfl))
 | n+1,b::a::r,hl,H=>by
   have h1:AOk nl (a0n a):=H 1 a rfl (.inl rfl)
   have h2:=a6c n r (by simp at hl;omega) (fun j x hx hj=>H (j+2) x hx (by simp;omega))
   exact a1f (a0W (a2R nl 32 0 rfl (by decide) (by decide)) (a0W (a3y nl b.n) (a2R nl 16 0 rfl (by decide) (by decide)))) (a1f (a6i (a1f (a2R nl 33 0 rfl (by decide) (by decide)) h1)) h2)
theorem a2A {c:Co}(ms:List Mk)(h:c.op=1\/c.op=2):a2q c ms=a5w c.n:=if_pos h
theorem a1F {c:Co}(ms:List Mk)(h:c.op≠1/\c.op≠2/\c.op≠7/\c.op≠13/\c.op≠25/\c.op≠26/\c.op≠28/\c.op≠27/\c.op≠32):a2q c ms=a0s (a1k ms) (a5e (a4V c.op) c.n):=by
 obtain⟨h1,h2,h3,h4,h5,h6,h7,h8,h9⟩:=h
 unfold a2q
 rw[if_neg (by omega),if_neg h3,if_neg h4,if_neg h5,if_neg h6,if_neg h7,if_neg h8,if_neg h9]
theorem a3v {nl:Nat}{op a:Int}(h:3<=op/\op<=24)(h13:op≠13):VOk nl (a5e (a4V op) a):=by
 have hb:a4V op≠1/\a4V op≠11/\a4V op<23:=by
  unfold a4V
  split
  ·omega
  ·split
   ·omega
   ·split<;>omega
 refine a2R nl _ _ ?_ hb.1 hb.2.1
 unfold a3F
 simp only[Bool.or_eq_false_iff,beq_eq_false_iff_ne,ne_eq]
 omega
theorem a6q {wn cn ln:Int}{t:Co}{k:Nat}(h:a0e a0v wn cn ln t≠0)(hop:t.op=(k:Int))(hk:k<=6\/k=29)(hps:t.parts=[]):(k=29/\a0e a0v wn cn ln t=3)\/(k<=6/\(a0e a0v wn cn ln t=1\/a0e a0v wn cn ln t=2)):=by
 obtain⟨k',hop',h1,h2,hb,hp,hs⟩:=a2x h
 obtain rfl:k'=k:=by omega
 rw[hps] at hs
 have hc:k'=1\/k'=2\/k'=3\/k'=4\/k'=5\/k'=6\/k'=29:=by omega
 rcases hc with rfl | rfl | rfl | rfl | rfl | rfl | rfl
 ·exact .inr ⟨by omega,.inl (hs.trans rfl)⟩
 ·exact .inr ⟨by omega,.inr (hs.trans rfl)⟩
 ·exact .inr ⟨by omega,.inl (hs.trans rfl)⟩
 ·exact .inr ⟨by omega,.inl (hs.trans rfl)⟩
 ·exact .inr ⟨by omega,.inr (hs.trans rfl)⟩
 ·refine .inr ⟨by omega,?_⟩
  have e:a0e a0v wn cn ln t=t.m:=hs.trans rfl
  have hb':(decide (1<=t.n)&&(decide (t.n<=3)&&(decide (t.m=1)||decide (t.m=2))))=true:=hb
  simp only[Bool.and_eq_true,Bool.or_eq_true,decide_eq_true_eq] at hb'
  rw[e]
  exact hb'.2.2
 ·exact .inl ⟨rfl,hs.trans rfl⟩
theorem a6O {wn cn:Int}{nl:Nat}:∀ (t:Co),a0e a0v wn cn nl t≠0->((a0e a0v wn cn nl t=1\/a0e a0v wn cn nl t=2)->VOk nl (a0n t))/\(a0e a0v wn cn nl t=3->AOk nl (a0n t)):=by
 refine Co.ind fun t ih hz=>?_
 obtain⟨k,hop,h1,h2,hb,hp,hs⟩:=a6a hz
 have iv:∀ x,x∈t.parts->(a0e a0v wn cn nl x=1\/a0e a0v wn cn nl x=2)->VOk nl (a0n x):=fun x hx h=>(ih x hx (hp x hx)).1 h
 have ia:∀ x,x∈t.parts->a0e a0v wn cn nl x=3->AOk nl (a0n x):=fun x hx h=>(ih x hx (hp x hx)).2 h
 have hlf:=a6q hz hop
 rw[a0S]
 generalize a0e a0v wn cn nl t=s at hz hs hlf
 rcases hs with ⟨hk,hps⟩ | ⟨hk,hs,x,hps,hx⟩ | ⟨hk,hs,x,hps,hx⟩ | ⟨hk,hs,x,y,hps,hx,hy⟩ | ⟨hk,hs,x,y,hps,hx,hy⟩ | ⟨hk,hs,x,y,hps,hx,hy⟩ | ⟨hk,hs,x,y,z,hps,hx,hy,hzz⟩ | ⟨hk,hs,x,hps,hx⟩ | ⟨hk,hs,hl⟩
 ·rcases hlf hk hps with ⟨rfl,rfl⟩ | ⟨h6,hs⟩
  ·rw[a1F _ (by omega),hps,hop]
   exact⟨fun h=>by omega,fun _=>a1f (a2r _ (fun m hm=>by cases hm)) (a5d nl _ _ (.inl rfl))⟩
  ·refine⟨fun _=>?_,fun h=>by omega⟩
   by_cases h12:t.op=1\/t.op=2
   ·rw[a2A _ h12]
    exact a3y nl t.n
   ·rw[a1F _ (by omega),hps]
    exact a0W (a2r _ (fun m hm=>by cases hm)) (a3v (by omega) (by omega))
 ·subst hk
  refine⟨fun _=>?_,fun h=>by omega⟩
  have hb':(a0I t.n nl&&decide (t.m=0))=true:=hb
  unfold a0I at hb'
  simp only[Bool.and_eq_true,decide_eq_true_eq] at hb'
  rw[show a2q t (t.parts.map a0n)=a2f 27 (t.n*16384) ((t.parts.map a0n).getD 0 (a1k [])) [(28,t.n)] by unfold a2q;rw[if_neg (by omega),if_pos (by omega)],hps]
  exact a8G hb'.1.1 hb'.1.2 (iv x (by rw[hps];simp) (by omega))
 ·refine⟨fun _=>?_,fun h=>by split at hs<;>omega⟩
  have hv:=iv x (by rw[hps];simp) (by rw[hx,hs];split<;>simp)
  by_cases h13:k=13
  ·subst h13
   rw[show a2q t (t.parts.map a0n)=a0s ((t.parts.map a0n).getD 0 (a1k [])) (a8x t.n t.m) by unfold a2q;rw[if_neg (by omega),if_neg (by omega),if_pos (by omega)],hps]
   exact a0W hv (a8v nl t.n t.m)
  ·rw[a1F _ (by omega),hps]
   exact a0W (a2r _ (fun m hm=>by simp at hm;rw[hm];exact hv)) (a3v (by omega) (by omega))
 ·refine⟨fun _=>?_,fun h=>by split at hs<;>omega⟩
  have hv:=iv x (by rw[hps];simp) (by omega)
  have hw:=iv y (by rw[hps];simp) (by omega)
  rw[a1F _ (by omega),hps]
  exact a0W (a2r _ (fun m hm=>by simp at hm;rcases hm with rfl | rfl;exact hv;exact hw)) (a3v (by omega) (by omega))
 ·refine⟨fun _=>?_,fun h=>by omega⟩
  have hv:=iv x (by rw[hps];simp) (by omega)
  have hw:=iv y (by rw[hps];simp) (by omega)
  rcases hk with rfl | rfl
  ·rw[show a2q t (t.parts.map a0n)=a0s ((t.parts.map a0n).getD 0 (a1k [])) (a1s 24 23 ((t.parts.map a0n).getD 1 (a1k [])) (a5w 0)) by unfold a2q;rw[if_neg (by omega),if_neg (by omega),if_neg (by omega),if_pos (by omega)],hps]
   exact a0W hv (a2y (.inl rfl) (.inl rfl) hw (a3y nl 0))
  ·rw[show a2q t (t.parts.map a0n)=a0s ((t.parts.map a0n).getD 0 (a1k [])) (a1s 24 23 (a5w 1) ((t.parts.map a0n).getD 1 (a1k []))) by unfold a2q;rw[if_neg (by omega),if_neg (by omega),if_neg (by omega),if_neg (by omega),if_pos (by omega)],hps]
   exact a0W hv (a2y (.inl rfl) (.inl rfl) (a3y nl 1) hw)
 ·subst hk
  refine⟨fun _=>?_,fun h=>by omega⟩
  have hv:=iv x (by rw[hps];simp) (by omega)
  have hw:=iv y (by rw[hps];simp) (by omega)
  rw[show a2q t (t.parts.map a0n)=a1s 25 26 ((t.parts.map a0n).getD 0 (a1k [])) ((t.parts.map a0n).getD 1 (a1k [])) by unfold a2q;rw[if_neg (by omega),if_neg (by omega),if_neg (by omega),if_neg (by omega),if_neg (by omega),if_neg (by omega),if_pos (by omega)],hps]
  exact a2y (.inr rfl) (.inr rfl) hv hw
 ·subst hk
  refine⟨fun _=>?_,fun h=>by omega⟩
  have hv:=iv x (by rw[hps];simp) (by omega)
  have hw:=iv y (by rw[hps];simp) (by omega)
  have hu:=iv z (by rw[hps];simp) (by omega)
  rw[show a2q t (t.parts.map a0n)=a0s ((t.parts.map a0n).getD 0 (a1k [])) (a1s 24 23 ((t.parts.map a0n).getD 1 (a1k [])) ((t.parts.map a0n).getD 2 (a1k []))) by unfold a2q;rw[if_neg (by omega),if_neg (by omega),if_neg (by omega),if_neg (by omega),if_neg (by omega),if_pos (by omega)],hps]
  exact a0W hv (a2y (.inl rfl) (.inl rfl) hw hu)
 ·refine⟨fun h=>by omega,fun _=>?_⟩
  have hv:=iv x (by rw[hps];simp) (by omega)
  rw[a1F _ (by omega),hps]
  refine a1f (a2r _ (fun m hm=>by simp at hm;rw[hm];exact hv)) (a5d nl _ _ ?_)
  unfold a4V
  rw[if_neg (by omega),if_neg (by omega),if_neg (by omega)]
  omega
 ·subst hk
  refine⟨fun h=>by omega,fun _=>?_⟩
  obtain⟨l2,lm,l0,l3,lst⟩:=hl
  rw[List.length_map] at l2 lm l3 lst
  cases hpp:t.parts with
  | nil=>rw[hpp] at l2;simp at l2
  | cons a r=>
    rw[hpp] at l2 lm l0 l3 lst
    simp only[List.length_cons] at l2 lm l3 lst
    rw[show a2q t ((a::r).map a0n)=a0s (((a::r).map a0n).getD 0 (a1k [])) (a0U ((t.parts.zip ((a::r).map a0n)).drop 1)) by unfold a2q;rw[if_neg (by omega),if_neg (by omega),if_neg (by omega),if_neg (by omega),if_neg (by omega),if_neg (by omega),if_neg (by omega),if_pos (by omega)],hpp]
    have hv:=iv a (by rw[hpp];simp) (by left;simpa using l0)
    have hz:((a::r).zip ((a::r).map a0n)).drop 1=r.map fun x=>(x,a0n x):=by
     rw[List.map_cons,List.zip_cons_cons,List.drop_succ_cons,List.drop_zero]
     clear l2 lm l0 l3 lst hv hpp
     induction r with
     | nil=>rfl
     | cons b r ih=>rw[List.map_cons,List.map_cons,List.zip_cons_cons,ih]
    rw[hz]
    refine a1f hv (a6c (r.length/2) r (by omega) (fun j x hx hj=>ia x (by rw[hpp];exact List.mem_cons_of_mem _ (List.mem_of_getElem? hx)) ?_))
    obtain⟨hjl,hjx⟩:=List.getElem?_eq_some_iff.1 hx
    have hxx:(((a::r).map (a0e a0v wn cn nl)).getD (j+1) 0)=a0e a0v wn cn nl x:=by simp[List.getD,hx]
    rcases hj with hj | hj
    ·have h3:=(lst j hj (by omega)).2.1
     rw[hxx] at h3
     exact h3
    ·rw[show r.length+1-1=j+1 by omega,hxx] at l3
     exact l3
theorem a4W {wn cn:Int}{nl:Nat}:∀ (gs:List (Co×Co)) (f:Co),(∀ g,g∈gs->a0e a0v wn cn nl g.1=2/\a0e a0v wn cn nl g.2=3)->a0e a0v wn cn nl f=3->AOk nl (a1g gs f)
 | [],f,_,hf=>(a6O f (by omega)).2 hf
 | g::r,f,hg,hf=>by
   obtain⟨h1,h2⟩:=hg g (by simp)
   exact a1f (a0W ((a6O g.1 (by omega)).1 (.inr h1)) (a6i ((a6O g.2 (by omega)).2 h2))) (a4W r f (fun x hx=>hg x (by simp[hx])) hf)
end Go.Proofs.YtbddbnjhmdbkbaaGreatDoor
