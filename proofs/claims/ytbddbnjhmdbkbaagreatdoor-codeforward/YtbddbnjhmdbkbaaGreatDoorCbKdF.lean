import Derived.Test.YtbddbnjhmdbkbaaGreatDoorCbKdR
namespace Go.Proofs.YtbddbnjhmdbkbaaGreatDoor
theorem a4Z (K:List Int)(n:Int):(a3W K n).length<=K.length+1:=by
 unfold a3W
 split
 ·omega
 ·simp
theorem a6h (K:List Int)(a b:Int):(a1X K a b).length<=K.length+2:=by
 unfold a1X
 split
 ·omega
 ·split<;>simp
def LB (m:Mk)(a b:Nat):Prop:=∀ K,(m K).1.length<=a/\(m K).2.length<=K.length+b
theorem LB.weak {m:Mk}{a b a' b':Nat}(h:LB m a b)(ha:a<=a')(hb:b<=b'):LB m a' b':=fun K=>⟨by have:=(h K).1;omega,by have:=(h K).2;omega⟩
theorem a3z (n:Int):LB (a5w n) 1 1:=fun K=>⟨ZC _,a4Z K n⟩
theorem a2b (op a:Int):LB (a5e op a) 1 0:=fun _=>⟨ZC _,ZC _⟩
theorem a8w (n m:Int):LB (a8x n m) 1 2:=fun K=>⟨ZC _,a6h K n m⟩
theorem a0H {x y:Mk}{a b c d:Nat}(h:LB x a b)(k:LB y c d):LB (a0s x y) (a+c) (b+d):=fun K=>by
 have h1:=h K
 have h2:=k (x K).2
 refine⟨?_,?_⟩
 ·show (cat (x K).1 (y (x K).2).1).length<=_
  rw[a0h];omega
 ·show (y (x K).2).2.length<=_
  omega
theorem a2z {op over:Int}{x y:Mk}{a b c d:Nat}(h:LB x a b)(k:LB y c d):LB (a1s op over x y) (a+c+2) (b+d):=fun K=>by
 have h1:=h K
 have h2:=k (x K).2
 refine⟨?_,?_⟩
 ·show (cat (cat (cat [(op,(((x K).1.length+2:Nat):Int))] (x K).1) [(over,((1+(y (x K).2).1.length:Nat):Int))]) (y (x K).2).1).length<=_
  simp only[a0h,List.length_singleton];omega
 ·show (y (x K).2).2.length<=_
  omega
theorem a4X {op more:Int}{x:Mk}{a b:Nat}(e:List Ins)(h:LB x a b):LB (a2f op more x e) (a+1+e.length) b:=fun K=>by
 have h1:=h K
 refine⟨?_,?_⟩
 ·show (cat (cat [(op,more+(((x K).1.length+1+e.length:Nat):Int))] (x K).1) e).length<=_
  simp only[a0h,List.length_singleton];omega
 ·show (x K).2.length<=_
  omega
theorem a2s:LB (a1k []) 0 0:=fun _=>⟨ZC _,ZC _⟩
def CLB (x:Co):Prop:=LB (a0n x) (6*a0b x) (2*a0b x)
theorem a3V:∀ (l:List Co),(∀ x,x∈l->CLB x)->LB (a1k (l.map a0n)) (6*a0f l) (2*a0f l)
 | [],_=>a2s
 | x::r,h=>by
   rw[a0d,Nat.mul_add,Nat.mul_add]
   exact a0H (h x (by simp)) (a3V r (fun y hy=>h y (by simp[hy])))
theorem a6d:∀ (l:List Co),(∀ x,x∈l->CLB x)->LB (a0U (l.map fun x=>(x,a0n x))) (6*a0f l+1) (2*a0f l)
 | [],_=>a2b 33 0
 | [a],h=>by
   have:=a0H (a2b 33 0) (h a (by simp))
   rw[a0d,a0A]
   exact this.weak (by omega) (by omega)
 | b::a::r,h=>by
   have h1:=a0H (a0H (a2b 32 0) (a0H (a3z b.n) (a2b 16 0))) (a0H (a4X (op:=24) (more:=0) [] (a0H (a2b 33 0) (h a (by simp)))) (a6d r (fun y hy=>h y (by simp[hy]))))
   have:=a0m b
   rw[a0d,a0d]
   exact h1.weak (by simp only[List.length_nil];omega) (by omega)
theorem a5X (r:List Co):r.zip (r.map a0n)=r.map fun x=>(x,a0n x):=by
 induction r with
 | nil=>rfl
 | cons b r ih=>rw[List.map_cons,List.map_cons,List.zip_cons_cons,ih]
theorem a9G {l:List Co}(h:∀ x,x∈l->CLB x):∃ a b c:Nat,a+b+c<=a0f l/\LB ((l.map a0n).getD 0 (a1k [])) (6*a) (2*a)/\LB ((l.map a0n).getD 1 (a1k [])) (6*b) (2*b)/\LB ((l.map a0n).getD 2 (a1k [])) (6*c) (2*c):=by
 match l,h with
 | [],_=>exact⟨0,0,0,by simp[a0A],a2s,a2s,a2s⟩
 | [x],h=>exact⟨a0b x,0,0,by rw[a0d];omega,h x (by simp),a2s,a2s⟩
 | [x,y],h=>exact⟨a0b x,a0b y,0,by rw[a0d,a0d];omega,h x (by simp),h y (by simp),a2s⟩
 | x::y::z::r,h=>exact⟨a0b x,a0b y,a0b z,by rw[a0d,a0d,a0d];omega,h x (by simp),h y (by simp),h z (by simp)⟩
theorem a1E (t:Co):CLB t:=by
 induction t using Co.ind with
 | h t ih=>
   unfold CLB
   rw[a0q,a0S]
   obtain⟨a,b,c,hs,h0,h1,h2⟩:=a9G ih
   unfold a2q
   split
   ·exact(a3z t.n).weak (by omega) (by omega)
   ·split
    ·exact(a4X [(28,t.n)] h0).weak (by simp only[List.length_singleton];omega) (by omega)
    ·split
     ·exact(a0H h0 (a8w t.n t.m)).weak (by omega) (by omega)
     ·split
      ·exact(a0H h0 (a2z h1 (a3z 0))).weak (by omega) (by omega)
      ·split
       ·exact(a0H h0 (a2z (a3z 1) h1)).weak (by omega) (by omega)
       ·split
        ·exact(a0H h0 (a2z h1 h2)).weak (by omega) (by omega)
        ·split
         ·exact(a2z h0 h1).weak (by omega) (by omega)
         ·split
          ·rw[a5X]
           cases hp:t.parts with
           | nil=>
             rw[hp] at h0 hs
             exact(a0H a2s (a2b 33 0)).weak (by omega) (by omega)
           | cons x r=>
             have hr:=a6d r (fun y hy=>ih y (by rw[hp];simp[hy]))
             have hx:=ih x (by rw[hp];simp)
             rw[a0d]
             exact(a0H hx hr).weak (by omega) (by omega)
          ·exact(a0H (a3V t.parts ih) (a2b _ _)).weak (by omega) (by omega)
def a4k (k:Int)(i:Nat)(op:Int):Nat:=if 14<=k/\k<=24 then i else if k=32/\0<i/\op=1 then 2 else 0
def hL (k:Int):Nat->List (Int×Nat)->Nat
 | _,[]=>0
 | i,x::r=>max (a4k k i x.1+x.2) (hL k (i+1) r)
theorem a6z (k:Int):∀ (l:List (Int×Nat)) (i:Nat) (x:Int×Nat),hL k i (l++[x])=max (hL k i l) (a4k k (i+l.length) x.1+x.2)
 | [],i,x=>by simp[hL]
 | y::r,i,x=>by
   rw[List.cons_append,hL,hL,a6z k r (i+1) x,List.length_cons,Nat.max_assoc,show i+1+r.length=i+(r.length+1) by omega]
def hO (k:Int)(l:List (Int×Nat)):Nat:=if k=29 then 0 else if l.length=0 then 1 else hL k 0 l
def a2w:Co->Nat
 | ⟨k,_,_,ps⟩=>hO k ((ps.map Co.op).zip (ps.map a2w))
def hP (l:List Co):List (Int×Nat):=l.map fun x=>(x.op,a2w x)
theorem a3G (t:Co):a2w t=hO t.op (hP t.parts):=by
 cases t with
 | mk k n m ps=>
   rw[a2w]
   show hO k _=hO k _
   congr 1
   unfold hP
   induction ps with
   | nil=>rfl
   | cons x r ih=>rw[List.map_cons,List.map_cons,List.map_cons,List.zip_cons_cons,ih]
theorem a8h (l:List Co):(hP l).length=l.length:=by simp[hP]
theorem a8S {l:List Co}{i:Nat}(h:i<l.length)(k:Int):hL k 0 (hP (l.take (i+1)))=max (hL k 0 (hP (l.take i))) (a4k k i l[i].op+a2w l[i]):=by
 rw[List.take_succ_eq_append_getElem h]
 unfold hP
 rw[List.map_append,List.map_cons,List.map_nil,a6z]
 simp[Nat.min_eq_left (Nat.le_of_lt h)]
theorem a6y (k:Int):∀ (l:List Co) (i:Nat),(∀ x,x∈l->a2w x<=3*a0b x)->hL k i (hP l)<=3*a0f l+i+2
 | [],i,_=>by simp[hL,hP]
 | x::r,i,h=>by
   have h1:=a6y k r (i+1) (fun y hy=>h y (by simp[hy]))
   have h2:=h x (by simp)
   have h3:=a0m x
   rw[a0d]
   show max (a4k k i x.op+a2w x) (hL k (i+1) (hP r))<=_
   have:a4k k i x.op<=i+2:=by unfold a4k;split;omega;split<;>omega
   omega
theorem a6w (t:Co):a2w t<=3*a0b t:=by
 induction t using Co.ind with
 | h t ih=>
   rw[a3G,a0q]
   unfold hO
   split
   ·omega
   ·split
    ·omega
    ·have:=a6y t.op t.parts 0 ih
     omega
end Go.Proofs.YtbddbnjhmdbkbaaGreatDoor
