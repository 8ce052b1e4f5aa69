import Derived.Test.YtdgjjnpdbdmdkaaGreatDoorMgP
import Derived.Test.YtdgjjnpdbdmdkaaGreatDoorMfA
namespace Go.Proofs.YtdgjjnpdbdmdkaaGreatDoor
open Go.RowKit
structure b2f (L:List Co):Prop where
 rng:∀ x,x∈L->x.op=7->0<=x.n/\x.n<256
 one:∀ x y,x∈L->y∈L->x.op=7->y.op=7->x.n=y.n->x.parts.getD 0 co0=y.parts.getD 0 co0
theorem a4J (q:Co->Co->Bool)(hq:∀ a b,q a b=true↔a=b):∀ (L:List Co) (s:List (Int×Co)),(a0h (a0U q) L s).2=true↔b2f L/\∀ x,x∈L->x.op=7->∀ c,s.lookup x.n=some c->c=x.parts.getD 0 co0
 | [],s=>by
   constructor
   ·intro _
    exact⟨⟨(fun x hx=>by cases hx),(fun x y hx=>by cases hx)⟩,(fun x hx=>by cases hx)⟩
   ·intro _
    rfl
 | t::r,s=>by
   rw[a0h]
   by_cases h7:t.op=7
   ·by_cases hn:0<=t.n/\t.n<256
    ·cases hl:s.lookup t.n with
     | none=>
       have e:a0U q s t=((t.n,t.parts.getD 0 co0)::s,true):=by unfold a0U;rw[if_pos h7,if_pos hn,hl]
       rw[e,if_pos rfl,a4J q hq r]
       have hlk:∀ n,((t.n,t.parts.getD 0 co0)::s).lookup n=if n=t.n then some (t.parts.getD 0 co0) else s.lookup n:=fun n=>by
        rw[List.lookup_cons]
        by_cases hnn:n=t.n
        ·rw[if_pos hnn,hnn];simp
        ·rw[if_neg hnn,show (n==t.n)=false by simpa using hnn]
       constructor
       ·rintro⟨ha,hs⟩
        refine⟨⟨fun x hx h=>?_,fun x y hx hy h1 h2 h3=>?_⟩,fun x hx h c hc=>?_⟩
        ·rcases List.mem_cons.1 hx with rfl | hx
         ·exact hn
         ·exact ha.rng x hx h
        ·rcases List.mem_cons.1 hx with ex | hx<;>rcases List.mem_cons.1 hy with ey | hy
         ·rw[ex,ey]
         ·rw[ex]
          exact hs y hy h2 _ (by rw[hlk,if_pos (by rw[<-h3,ex])])
         ·rw[ey]
          exact(hs x hx h1 _ (by rw[hlk,if_pos (by rw[h3,ey])])).symm
         ·exact ha.one x y hx hy h1 h2 h3
        ·rcases List.mem_cons.1 hx with ex | hx
         ·rw[ex,hl] at hc;cases hc
         ·refine hs x hx h c ?_
          rw[hlk]
          by_cases hnn:x.n=t.n
          ·rw[hnn,hl] at hc;cases hc
          ·rw[if_neg hnn];exact hc
       ·rintro⟨ha,hs⟩
        refine⟨⟨fun x hx=>ha.rng x (List.mem_cons_of_mem _ hx),fun x y hx hy=>ha.one x y (List.mem_cons_of_mem _ hx) (List.mem_cons_of_mem _ hy)⟩,fun x hx h c hc=>?_⟩
        rw[hlk] at hc
        by_cases hnn:x.n=t.n
        ·rw[if_pos hnn] at hc
         cases hc
         exact ha.one t x (by simp) (List.mem_cons_of_mem _ hx) h7 h hnn.symm
        ·rw[if_neg hnn] at hc
         exact hs x (List.mem_cons_of_mem _ hx) h c hc
     | some c0=>
       have e:a0U q s t=(s,q c0 (t.parts.getD 0 co0)):=by unfold a0U;rw[if_pos h7,if_pos hn,hl]
       rw[e]
       by_cases hqq:q c0 (t.parts.getD 0 co0)=true
       ·have hc0:=(hq _ _).1 hqq
        rw[if_pos hqq,a4J q hq r]
        constructor
        ·rintro⟨ha,hs⟩
         refine⟨⟨fun x hx h=>?_,fun x y hx hy h1 h2 h3=>?_⟩,fun x hx h c hc=>?_⟩
         ·rcases List.mem_cons.1 hx with rfl | hx
          ·exact hn
          ·exact ha.rng x hx h
         ·rcases List.mem_cons.1 hx with ex | hx<;>rcases List.mem_cons.1 hy with ey | hy
          ·rw[ex,ey]
          ·rw[ex,<-hc0]
           exact hs y hy h2 _ (by rw[<-h3,ex];exact hl)
          ·rw[ey,<-hc0]
           exact(hs x hx h1 _ (by rw[h3,ey];exact hl)).symm
          ·exact ha.one x y hx hy h1 h2 h3
         ·rcases List.mem_cons.1 hx with ex | hx
          ·rw[ex,hl] at hc
           cases hc
           rw[ex]
           exact hc0
          ·exact hs x hx h c hc
        ·rintro⟨ha,hs⟩
         exact⟨⟨fun x hx=>ha.rng x (List.mem_cons_of_mem _ hx),fun x y hx hy=>ha.one x y (List.mem_cons_of_mem _ hx) (List.mem_cons_of_mem _ hy)⟩,fun x hx=>hs x (List.mem_cons_of_mem _ hx)⟩
       ·rw[if_neg hqq]
        constructor
        ·intro h;cases h
        ·rintro⟨ha,hs⟩
         exact absurd ((hq _ _).2 (hs t (by simp) h7 c0 hl)) hqq
    ·have e:a0U q s t=(s,false):=by unfold a0U;rw[if_pos h7,if_neg hn]
     rw[e]
     constructor
     ·intro h;cases h
     ·rintro⟨ha,-⟩
      exact absurd (ha.rng t (by simp) h7) hn
   ·have e:a0U q s t=(s,true):=by unfold a0U;rw[if_neg h7]
    rw[e,if_pos rfl,a4J q hq r]
    constructor
    ·rintro⟨ha,hs⟩
     refine⟨⟨fun x hx h=>?_,fun x y hx hy h1 h2 h3=>?_⟩,fun x hx h c hc=>?_⟩
     ·rcases List.mem_cons.1 hx with rfl | hx
      ·exact absurd h h7
      ·exact ha.rng x hx h
     ·rcases List.mem_cons.1 hx with rfl | hx
      ·exact absurd h1 h7
      ·rcases List.mem_cons.1 hy with rfl | hy
       ·exact absurd h2 h7
       ·exact ha.one x y hx hy h1 h2 h3
     ·rcases List.mem_cons.1 hx with rfl | hx
      ·exact absurd h h7
      ·exact hs x hx h c hc
    ·rintro⟨ha,hs⟩
     exact⟨⟨fun x hx=>ha.rng x (List.mem_cons_of_mem _ hx),fun x y hx hy=>ha.one x y (List.mem_cons_of_mem _ hx) (List.mem_cons_of_mem _ hy)⟩,fun x hx=>hs x (List.mem_cons_of_mem _ hx)⟩
theorem b1X (q:Co->Co->Bool)(hq:∀ a b,q a b=true↔a=b)(p:PlP):a1X q p=true↔b2f (a2i p):=by
 unfold a1X
 rw[a4J q hq]
 exact⟨fun h=>h.1,fun h=>⟨h,fun x hx h7 c hc=>by cases hc⟩⟩
theorem b2f.from {L L':List Co}(P:Co->Co)(h:b2f L)(hm:∀ x',x'∈L'->x'.op=7->∃ x,x∈L/\x.op=7/\x.n=x'.n/\x'.parts.getD 0 co0=P (x.parts.getD 0 co0)):b2f L':=by
 refine⟨fun x' hx h7=>?_,fun x' y' hx hy h1 h2 h3=>?_⟩
 ·obtain⟨x,m1,m2,m3,-⟩:=hm x' hx h7
  rw[<-m3]
  exact h.rng x m1 m2
 ·obtain⟨x,m1,m2,m3,m4⟩:=hm x' hx h1
  obtain⟨y,n1,n2,n3,n4⟩:=hm y' hy h2
  rw[m4,n4,h.one x y m1 n1 m2 n2 (by rw[m3,n3,h3])]
theorem b3o {c x y:Co}(hx:x∈c.parts)(hy:y∈a0j x):y∈a0j c:=by
 rw[a1a]
 exact List.mem_cons_of_mem _ (List.mem_flatten.2 ⟨_,List.mem_map_of_mem hx,hy⟩)
theorem a4q {wn cn ln:Int}(hw:wn<=256)(hc:cn<=256)(hl:ln<=256)(t:Co):a0f a0n wn cn ln t≠0->∀ x',x'∈a0j (a0H t)->x'.op=7->∃ x,x∈a0j t/\x.op=7/\x.n=x'.n/\x'.parts.getD 0 co0=a0H (x.parts.getD 0 co0):=by
 induction t using Co.ind with
 | h t ih=>
   intro h x' hx' h7
   obtain⟨k,hop,hk1,hk2,hb,hp,hz⟩:=a1R h
   have hm:=a4I h (fun x hx=>a2A hw hc hl x (hp x hx))
   have hsub:∀ y,y∈t.parts->x'∈a0j (a0H y)->∃ x,x∈a0j t/\x.op=7/\x.n=x'.n/\x'.parts.getD 0 co0=a0H (x.parts.getD 0 co0):=fun y hy hx=>by
    obtain⟨x,m1,m2⟩:=ih y hy (hp y hy) x' hx h7
    exact⟨x,b3o hy m1,m2⟩
   rw[a2E] at hx'
   have hne:a0f a0n wn cn ln ⟨t.op,t.n,t.m,t.parts.map a0H⟩≠0:=by rw[hm];exact h
   rcases a4U (a3i hw hc hl _ hne) hne with e | ⟨x,hx,e,-,-⟩ | ⟨r,e,-⟩ | ⟨n,e,-⟩ | ⟨n,e,-⟩
   ·rw[e,a1a] at hx'
    rcases List.mem_cons.1 hx' with rfl | hx'
    ·exact⟨t,by rw[a1a];simp,h7,rfl,a7m⟩
    ·obtain⟨l,hl1,hl2⟩:=List.mem_flatten.1 hx'
     obtain⟨z,hz1,rfl⟩:=List.mem_map.1 hl1
     obtain⟨y,hy,rfl⟩:=List.mem_map.1 hz1
     exact hsub y hy hl2
   ·rw[e] at hx'
    obtain⟨y,hy,rfl⟩:=List.mem_map.1 hx
    exact hsub y hy hx'
   ·rw[e,a1a] at hx'
    simp at hx'
    rw[hx'] at h7
    exact absurd h7 (show ¬(6:Int)=7 by decide)
   ·rw[e,a1a] at hx'
    simp at hx'
    rw[hx'] at h7
    exact absurd h7 (show ¬(1:Int)=7 by decide)
   ·rw[e,a1a] at hx'
    simp at hx'
    rw[hx'] at h7
    exact absurd h7 (show ¬(2:Int)=7 by decide)
theorem a5u (p:PlP):(a2i (a3o p)).length<=(a2i p).length:=by
 have key:∀ gs:List (Co×Co),((gs.map a4r).map a2b).flatten.length<=(gs.map a2b).flatten.length:=by
  intro gs
  induction gs with
  | nil=>exact Nat.le_refl _
  | cons g r ih=>
    simp only[List.map_cons,List.flatten_cons,List.length_append]
    have h1:=a3g g.1
    have h2:=a3g g.2
    have e1:(a2b (a4r g)).length=a0q (a0H g.1)+a0q (a0H g.2):=by unfold a2b a4r a0q;rw[List.length_append]
    have e2:(a2b g).length=a0q g.1+a0q g.2:=by unfold a2b a0q;rw[List.length_append]
    omega
 unfold a2i a3o
 dsimp only
 rw[List.length_append,List.length_append]
 have h1:=key p.gs
 have h2:=a3g p.fin
 unfold a0q at h2
 omega
theorem a3L {p:PlP}{x:Co}:x∈a2i p↔(∃ g,g∈p.gs/\(x∈a0j g.1\/x∈a0j g.2))\/x∈a0j p.fin:=by
 unfold a2i
 rw[List.mem_append]
 constructor
 ·rintro(h | h)
  ·obtain⟨l,hl,hx⟩:=List.mem_flatten.1 h
   obtain⟨g,hg,rfl⟩:=List.mem_map.1 hl
   exact .inl ⟨g,hg,List.mem_append.1 hx⟩
  ·exact .inr h
 ·rintro(⟨g,hg,h⟩ | h)
  ·exact .inl (List.mem_flatten.2 ⟨_,List.mem_map_of_mem hg,List.mem_append.2 h⟩)
  ·exact .inr h
theorem a7Z (q:Co->Co->Bool)(hq:∀ a b,q a b=true↔a=b)(p:PlP)(h:a0O q p=true):a0O q (a3o p)=true:=by
 have h0:=h
 unfold a0O at h ⊢
 simp only[Bool.and_eq_true] at h ⊢
 obtain⟨⟨⟨⟨⟨h1,h2⟩,h3⟩,h4⟩,h5⟩,h6⟩:=h
 have hz:=of_decide_eq_true h1
 have w1:(p.wins.length:Int)<=256:=by omega
 have w2:(p.crons.length:Int)<=256:=by omega
 have w3:=hz.2.2.2.2
 have hs:=h5
 unfold a1s at hs
 simp only[Bool.and_eq_true,List.all_eq_true,decide_eq_true_eq] at hs
 have n1:∀ g,g∈p.gs->a0f a0n p.wins.length p.crons.length p.loc g.1≠0:=fun g hg=>by rw[show a0f a0n _ _ _ g.1=2 from (hs.1 g hg).1];decide
 have n2:∀ g,g∈p.gs->a0f a0n p.wins.length p.crons.length p.loc g.2≠0:=fun g hg=>by rw[show a0f a0n _ _ _ g.2=3 from (hs.1 g hg).2];decide
 have n3:a0f a0n p.wins.length p.crons.length p.loc p.fin≠0:=by rw[show a0f a0n _ _ _ p.fin=3 from hs.2];decide
 refine⟨⟨⟨⟨⟨h1,?_⟩,h3⟩,h4⟩,?_⟩,?_⟩
 ·have:=of_decide_eq_true h2
  have h7:=a5u p
  exact decide_eq_true (by omega)
 ·unfold a1s
  simp only[Bool.and_eq_true,List.all_eq_true,decide_eq_true_eq]
  refine⟨fun g' hg'=>?_,?_⟩
  ·obtain⟨g,hg,rfl⟩:=List.mem_map.1 hg'
   exact⟨(a2A w1 w2 w3 g.1 (n1 g hg)).trans (hs.1 g hg).1,(a2A w1 w2 w3 g.2 (n2 g hg)).trans (hs.1 g hg).2⟩
  ·exact(a2A w1 w2 w3 p.fin n3).trans hs.2
 ·rw[b1X q hq] at h6 ⊢
  refine h6.from a0H (fun x' hx' h7=>?_)
  rcases a3L.1 hx' with ⟨g',hg',hx⟩ | hx
  ·obtain⟨g,hg,rfl⟩:=List.mem_map.1 hg'
   rcases hx with hx | hx
   ·obtain⟨x,m1,m2⟩:=a4q w1 w2 w3 g.1 (n1 g hg) x' hx h7
    exact⟨x,a3L.2 (.inl ⟨g,hg,.inl m1⟩),m2⟩
   ·obtain⟨x,m1,m2⟩:=a4q w1 w2 w3 g.2 (n2 g hg) x' hx h7
    exact⟨x,a3L.2 (.inl ⟨g,hg,.inr m1⟩),m2⟩
  ·obtain⟨x,m1,m2⟩:=a4q w1 w2 w3 p.fin n3 x' hx h7
   exact⟨x,a3L.2 (.inr m1),m2⟩
theorem b0W (q:Co->Co->Bool)(p:PlP)(h:a0O q p=true)(E:a0y):gsR E (a3o p).gs (a3o p).fin=gsR E p.gs p.fin:=by
 unfold a0O at h
 simp only[Bool.and_eq_true] at h
 obtain⟨⟨⟨⟨⟨h1,h2⟩,h3⟩,h4⟩,h5⟩,h6⟩:=h
 have hz:=of_decide_eq_true h1
 have w1:(p.wins.length:Int)<=256:=by omega
 have w2:(p.crons.length:Int)<=256:=by omega
 have w3:=hz.2.2.2.2
 unfold a1s at h5
 simp only[Bool.and_eq_true,List.all_eq_true,decide_eq_true_eq] at h5
 have n3:a0f a0n p.wins.length p.crons.length p.loc p.fin≠0:=by rw[show a0f a0n _ _ _ p.fin=3 from h5.2];decide
 have key:∀ gs:List (Co×Co),(∀ g,g∈gs->g∈p.gs)->gsR E (gs.map a4r) (a0H p.fin)=gsR E gs p.fin:=by
  intro gs
  induction gs with
  | nil=>intro _;exact a6z w1 w2 w3 E p.fin n3
  | cons g r ih=>
    intro hg
    have hgm:=hg g (by simp)
    have t1:=a6z w1 w2 w3 E g.1 (by rw[show a0f a0n _ _ _ g.1=2 from (h5.1 g hgm).1];decide)
    have t2:=a6z w1 w2 w3 E g.2 (by rw[show a0f a0n _ _ _ g.2=3 from (h5.1 g hgm).2];decide)
    rw[List.map_cons,gsR,gsR,ih (fun x hx=>hg x (by simp[hx]))]
    show (if (a0e E (a0H g.1)).2=0 then (if (a0e E (a0H g.1)).1=1 then a0e E (a0H g.2) else gsR E r p.fin) else noR (a0e E (a0H g.1)).2)=_
    rw[t1,t2]
 exact key p.gs (fun g hg=>hg)
end Go.Proofs.YtdgjjnpdbdmdkaaGreatDoor
