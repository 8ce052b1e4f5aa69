import Derived.Test.YtbddbnjhmdbkbaaGreatDoorCbKdP
namespace Go.Proofs.YtbddbnjhmdbkbaaGreatDoor
structure a5p (nl b:Nat)(K:List Int)(i:Nat)(x:Ins):Prop where
 jump:x.1=23\/x.1=24\/x.1=25\/x.1=26->(i:Int)<x.2/\x.2<=b
 have_:x.1=27->∃ n to:Int,0<=n/\n<nl/\(i:Int)<to/\to<=b/\x.2=n*16384+to
 num:x.1=1->∃ k:Nat,x.2=k/\∃ v,K[k]? = some v/\K.idxOf v=k
 scale:x.1=11->∃ k:Nat,x.2=k/\k+1<K.length
def a0G (nl b:Nat)(K:List Int)(L:List Ins):Prop:=∀ i x,L[i]? = some x->a5p nl b K i x
theorem a5p.plain {nl b i:Nat}{K:List Int}{x:Ins}(h:a3F x.1=false)(h1:x.1≠1)(h2:x.1≠11):a5p nl b K i x:=by
 unfold a3F at h
 simp only[Bool.or_eq_false_iff,beq_eq_false_iff_ne,ne_eq] at h
 exact⟨fun e=>by omega,fun e=>by omega,fun e=>absurd e h1,fun e=>absurd e h2⟩
theorem a5p.more {nl b b' i:Nat}{K K':List Int}{x:Ins}(h:a5p nl b K i x)(hb:b<=b')(hK:K <+: K'):a5p nl b' K' i x:=by
 obtain⟨r,rfl⟩:=hK
 refine⟨fun e=>?_,fun e=>?_,fun e=>?_,fun e=>?_⟩
 ·obtain⟨h1,h2⟩:=h.jump e
  exact⟨h1,by omega⟩
 ·obtain⟨n,to,h1,h2,h3,h4,h5⟩:=h.have_ e
  exact⟨n,to,h1,h2,h3,by omega,h5⟩
 ·obtain⟨k,h1,v,h2,h3⟩:=h.num e
  have hk:=(List.getElem?_eq_some_iff.1 h2).1
  refine⟨k,h1,v,by rw[List.getElem?_append_left hk];exact h2,?_⟩
  rw[List.idxOf_append,if_pos (List.mem_of_getElem? h2)]
  exact h3
 ·obtain⟨k,h1,h2⟩:=h.scale e
  exact⟨k,h1,by rw[List.length_append];omega⟩
theorem a8g {op:Int}(h:op=23\/op=24\/op=25\/op=26\/op=27):a3F op=true:=by
 unfold a3F
 rcases h with rfl | rfl | rfl | rfl | rfl<;>rfl
theorem a5p.sh {nl b i:Nat}{K:List Int}{x:Ins}(h:a5p nl b K i x)(d:Nat):a5p nl (d+b) K (d+i) (shI d x):=by
 refine⟨fun e=>?_,fun e=>?_,fun e=>?_,fun e=>?_⟩
 ·rw[a2F] at e
  obtain⟨h1,h2⟩:=h.jump e
  have hj:a3F x.1=true:=a8g (by omega)
  unfold shI
  rw[if_pos hj]
  exact⟨by show ((d+i:Nat):Int)<x.2+d;omega,by show x.2+(d:Int)<=((d+b:Nat):Int);omega⟩
 ·rw[a2F] at e
  obtain⟨n,to,h1,h2,h3,h4,h5⟩:=h.have_ e
  have hj:a3F x.1=true:=a8g (by omega)
  unfold shI
  rw[if_pos hj]
  exact⟨n,to+d,h1,h2,by omega,by omega,by show x.2+(d:Int)=_;omega⟩
 ·rw[a2F] at e
  have hj:¬ a3F x.1=true:=by rw[e];decide
  unfold shI
  rw[if_neg hj]
  exact h.num e
 ·rw[a2F] at e
  have hj:¬ a3F x.1=true:=by rw[e];decide
  unfold shI
  rw[if_neg hj]
  exact h.scale e
theorem a0G.more {nl b b':Nat}{K K':List Int}{L:List Ins}(h:a0G nl b K L)(hb:b<=b')(hK:K <+: K'):a0G nl b' K' L:=fun i x hx=>(h i x hx).more hb hK
theorem a0G.cat {nl b c:Nat}{K:List Int}{La Lb:List Ins}(ha:a0G nl b K La)(hb:a0G nl c K Lb)(h:La.length+c<=b):a0G nl b K (cat La Lb):=by
 intro i x hx
 unfold Go.Proofs.YtbddbnjhmdbkbaaGreatDoor.cat at hx
 by_cases hi:i<La.length
 ·rw[List.getElem?_append_left hi] at hx
  exact ha i x hx
 ·rw[List.getElem?_append_right (by omega),List.getElem?_map] at hx
  obtain⟨y,hy,rfl⟩:=Option.map_eq_some_iff.1 hx
  have:=(hb _ y hy).sh La.length
  rw[show La.length+(i-La.length)=i by omega] at this
  exact this.more h (List.prefix_refl _)
theorem a0G.one {nl b:Nat}{K:List Int}{x:Ins}(h:a5p nl b K 0 x):a0G nl b K [x]:=by
 intro i y hy
 cases i with
 | zero=>cases hy;exact h
 | succ n=>cases hy
theorem a0G.nil (nl b:Nat)(K:List Int):a0G nl b K []:=fun i x hx=>by cases hx
def VOk (nl:Nat)(m:Mk):Prop:=∀ K,K <+: (m K).2/\a0G nl (m K).1.length (m K).2 (m K).1
def AOk (nl:Nat)(m:Mk):Prop:=∀ K,K <+: (m K).2/\a0G nl ((m K).1.length-1) (m K).2 (m K).1/\∃ x,(m K).1.getLast? = some x/\(x.1=29\/x.1=30\/x.1=31)
theorem a7t (K:List Int)(n:Int):K <+: a3W K n:=by
 unfold a3W
 split
 ·exact List.prefix_refl _
 ·exact List.prefix_append _ _
theorem a3y (nl:Nat)(n:Int):VOk nl (a5w n):=by
 intro K
 refine⟨a7t K n,a0G.one ⟨(fun e=>by rcases e with e | e | e | e<;>cases e),(fun e=>by cases e),fun _=>⟨_,rfl,n,a8E K n,?_⟩,(fun e=>by cases e)⟩⟩
 show (a3W K n).idxOf n=K.idxOf n
 unfold a3W
 split
 ·rfl
 ·rename_i h
  rw[List.idxOf_append,if_neg h,List.idxOf_eq_length h]
  simp
theorem a2R (nl:Nat)(op a:Int)(h:a3F op=false)(h1:op≠1)(h2:op≠11):VOk nl (a5e op a):=fun _=>⟨List.prefix_refl _,a0G.one (a5p.plain h h1 h2)⟩
theorem a5h:∀ (K:List Int) (a b:Int) (i:Nat),a2S K a b=some i->i+1<K.length
 | [],_,_,_,h=>by cases h
 | [_],_,_,_,h=>by cases h
 | x::y::r,a,b,i,h=>by
   rw[a2S] at h
   by_cases hc:x=a/\y=b
   ·rw[if_pos hc] at h;cases h;simp
   ·rw[if_neg hc] at h
    obtain⟨j,hj,rfl⟩:=Option.map_eq_some_iff.1 h
    have:=a5h (y::r) a b j hj
    simp at this ⊢
    omega
theorem a8v (nl:Nat)(n m:Int):VOk nl (a8x n m):=by
 intro K
 have key:K <+: a1X K n m/\a1u K n m+1<(a1X K n m).length:=by
  unfold a1X a1u
  cases h:a2S K n m with
  | some i=>exact⟨List.prefix_refl _,a5h K n m i h⟩
  | none=>
    by_cases hl:K.getLast? = some n
    ·have hk:K≠[]:=fun e=>by rw[e] at hl;cases hl
     have:=List.length_pos_iff.2 hk
     simp only[hl,if_true]
     exact⟨List.prefix_append _ _,by simp;omega⟩
    ·simp only[hl,if_false]
     exact⟨List.prefix_append _ _,by simp⟩
 exact⟨key.1,a0G.one ⟨(fun e=>by rcases e with e | e | e | e<;>cases e),(fun e=>by cases e),(fun e=>by cases e),fun _=>⟨_,rfl,key.2⟩⟩⟩
theorem a0W {nl:Nat}{a b:Mk}(ha:VOk nl a)(hb:VOk nl b):VOk nl (a0s a b):=by
 intro K
 obtain⟨p1,g1⟩:=ha K
 obtain⟨p2,g2⟩:=hb (a K).2
 refine⟨p1.trans p2,?_⟩
 show a0G nl (cat (a K).1 (b (a K).2).1).length (b (a K).2).2 (cat (a K).1 (b (a K).2).1)
 exact a0G.cat (g1.more (by rw[a0h];omega) p2) g2 (by rw[a0h];omega)
theorem a7Z {a b:List Ins}{x:Ins}(h:b.getLast? = some x):(cat a b).getLast? = some (shI a.length x):=by
 unfold cat
 rw[List.getLast?_append,List.getLast?_map,h]
 rfl
theorem a1f {nl:Nat}{a b:Mk}(ha:VOk nl a)(hb:AOk nl b):AOk nl (a0s a b):=by
 intro K
 obtain⟨p1,g1⟩:=ha K
 obtain⟨p2,g2,x,hx,ho⟩:=hb (a K).2
 have hn:0<(b (a K).2).1.length:=List.length_pos_iff.2 (fun e=>by rw[e] at hx;cases hx)
 refine⟨p1.trans p2,?_,_,a7Z hx,by rw[a2F];exact ho⟩
 show a0G nl ((cat (a K).1 (b (a K).2).1).length-1) (b (a K).2).2 (cat (a K).1 (b (a K).2).1)
 exact a0G.cat (g1.more (by rw[a0h];omega) p2) g2 (by rw[a0h];omega)
theorem a5d (nl:Nat)(op a:Int)(h:op=29\/op=30\/op=31):AOk nl (a5e op a):=fun _=>⟨List.prefix_refl _,a0G.one (a5p.plain (by rcases h with rfl | rfl | rfl<;>rfl) (by show op≠1;omega) (by show op≠11;omega)),_,rfl,h⟩
theorem a2r {nl:Nat}:∀ (ms:List Mk),(∀ m,m∈ms->VOk nl m)->VOk nl (a1k ms)
 | [],_=>fun _=>⟨List.prefix_refl _,a0G.nil _ _ _⟩
 | a::r,h=>a0W (h a (by simp)) (a2r r (fun m hm=>h m (by simp[hm])))
theorem a2y {nl:Nat}{op over:Int}{y z:Mk}(ho:op=24\/op=25)(hv:over=23\/over=26)(hy:VOk nl y)(hz:VOk nl z):VOk nl (a1s op over y z):=by
 intro K
 obtain⟨p1,g1⟩:=hy K
 obtain⟨p2,g2⟩:=hz (y K).2
 refine⟨p1.trans p2,?_⟩
 show a0G nl (cat (cat (cat [(op,(((y K).1.length+2:Nat):Int))] (y K).1) [(over,((1+(z (y K).2).1.length:Nat):Int))]) (z (y K).2).1).length (z (y K).2).2 (cat (cat (cat [(op,(((y K).1.length+2:Nat):Int))] (y K).1) [(over,((1+(z (y K).2).1.length:Nat):Int))]) (z (y K).2).1)
 generalize (y K).1=A at *
 generalize (z (y K).2).1=B at *
 generalize (z (y K).2).2=K2 at *
 have hl:(cat (cat (cat [(op,((A.length+2:Nat):Int))] A) [(over,((1+B.length:Nat):Int))]) B).length=A.length+B.length+2:=by simp only[a0h,List.length_singleton];omega
 rw[hl]
 refine a0G.cat (c:=B.length) ?_ g2 (by simp only[a0h,List.length_singleton];omega)
 refine a0G.cat (c:=1+B.length) ?_ (a0G.one ⟨fun _=>⟨by show (0:Int)<((1+B.length:Nat):Int);omega,by show ((1+B.length:Nat):Int)<=_;omega⟩,fun e=>by have e':over=27:=e;omega,fun e=>by have e':over=1:=e;omega,fun e=>by have e':over=11:=e;omega⟩) (by simp only[a0h,List.length_singleton];omega)
 refine a0G.cat (c:=A.length) (a0G.one ⟨fun _=>⟨by show (0:Int)<((A.length+2:Nat):Int);omega,by show ((A.length+2:Nat):Int)<=_;omega⟩,fun e=>by have e':op=27:=e;omega,fun e=>by have e':op=1:=e;omega,fun e=>by have e':op=11:=e;omega⟩) (g1.more (ZC _) p2) (by simp only[List.length_singleton];omega)
theorem a6i {nl:Nat}{y:Mk}(hy:AOk nl y):VOk nl (a2f 24 0 y []):=by
 intro K
 obtain⟨p1,g1,x,hx,ho⟩:=hy K
 refine⟨p1,?_⟩
 show a0G nl (cat (cat [((24:Int),(0:Int)+(((y K).1.length+1+0:Nat):Int))] (y K).1) []).length (y K).2 (cat (cat [((24:Int),(0:Int)+(((y K).1.length+1+0:Nat):Int))] (y K).1) [])
 generalize (y K).1=A at *
 rw[a4Q,a0h,List.length_singleton]
 exact a0G.cat (c:=A.length-1) (a0G.one ⟨fun _=>⟨by show (0:Int)<0+((A.length+1+0:Nat):Int);omega,by show (0:Int)+((A.length+1+0:Nat):Int)<=_;omega⟩,(fun e=>by cases e),(fun e=>by cases e),(fun e=>by cases e)⟩) g1 (by simp only[List.length_singleton];omega)
theorem a8G {nl:Nat}{n:Int}{y:Mk}(h0:0<=n)(h1:n<nl)(hy:VOk nl y):VOk nl (a2f 27 (n*16384) y [(28,n)]):=by
 intro K
 obtain⟨p1,g1⟩:=hy K
 refine⟨p1,?_⟩
 show a0G nl (cat (cat [((27:Int),n*16384+(((y K).1.length+1+1:Nat):Int))] (y K).1) [(28,n)]).length (y K).2 (cat (cat [((27:Int),n*16384+(((y K).1.length+1+1:Nat):Int))] (y K).1) [(28,n)])
 generalize (y K).1=A at *
 have hl:(cat (cat [((27:Int),n*16384+((A.length+1+1:Nat):Int))] A) [((28:Int),n)]).length=A.length+2:=by simp only[a0h,List.length_singleton];omega
 rw[hl]
 refine a0G.cat (c:=1) ?_ (a0G.one (a5p.plain rfl (by show (28:Int)≠1;decide) (by show (28:Int)≠11;decide))) (by simp only[a0h,List.length_singleton];omega)
 exact a0G.cat (c:=A.length) (a0G.one ⟨(fun e=>by rcases e with e | e | e | e<;>cases e),fun _=>⟨n,((A.length+1+1:Nat):Int),h0,h1,by show (0:Int)<_;omega,by omega,rfl⟩,(fun e=>by cases e),(fun e=>by cases e)⟩) (g1.more (by omega) (List.prefix_refl _)) (by simp only[List.length_singleton];omega)
end Go.Proofs.YtbddbnjhmdbkbaaGreatDoor
