import Derived.Test.YtdgjjnpdbdmdkaaGreatDoorMkA
import Derived.Test.YtdgjjnpdbdmdkaaGreatDoorMgZ
namespace Go.Proofs.YtdgjjnpdbdmdkaaGreatDoor
open Go.RowKit
theorem a4u {w0 w:World}(t:Co):∀ v u lo hi,a0l w0 t v->a2W w t lo hi u->CSP (fun b=>lo<=b) w t u:=by
 induction t using Co.ind with
 | h t ih=>
   intro v u lo hi hs hn
   rw[a1k] at hs
   rw[a2H]
   rw[a2s] at hn
   refine⟨hs.1,?_⟩
   obtain⟨-,⟨h1,ad,rfl⟩ | ⟨g,s,us,rfl,q1,q2,q3,q4,q5,q6⟩⟩:=hn
   ·exact⟨ad,0,by rw[h1],by omega,by omega,.inl h1⟩
   ·obtain⟨ad,cap,hv,hl,hc,hp⟩:=hs.2
    have hm:=a8W (fun i hi=>(q6 i hi).2.1)
    refine⟨_,_,rfl,Nat.le_refl _,by omega,.inr ⟨g,0,rfl,q4,q1,fun i hi=>?_⟩⟩
    rcases hp with hp | ⟨b,off,-,-,hp⟩
    ·omega
    ·obtain⟨u',-,hu'⟩:=hp i hi
     have h3:=hm 0 i (Nat.zero_le _) (by omega)
     exact⟨us i,by rw[Nat.zero_add];exact(q6 i hi).1,(ih _ (List.getElem_mem hi) u' _ _ _ hu' (q6 i hi).2.2).weak (fun b _ hb=>by omega)⟩
structure GOn (g:Nat)(ys:List (Co×Co))(xs:List GPr)(w:World):Prop where
 len:xs.length=ys.length
 box:Box w g (flG xs)
 it:∀ i (h:i<ys.length) (h2:i<xs.length),xs[i].1.1=ys[i].1/\xs[i].2.1=ys[i].2/\CSP (fun b=>g<b) w ys[i].1 xs[i].1.2/\CSP (fun b=>g<b) w ys[i].2 xs[i].2.2
theorem GOn.next {g:Nat}{ys:List (Co×Co)}{xs:List GPr}{w w':World}(h:GOn g ys xs w)(b:Below w.heap.size w w'):GOn g ys xs w':=
 ⟨h.len,h.box.next b,fun i h1 h2=>⟨(h.it i h1 h2).1,(h.it i h1 h2).2.1,(h.it i h1 h2).2.2.1.next b,(h.it i h1 h2).2.2.2.next b⟩⟩
theorem GOn.gat {g:Nat}{ys:List (Co×Co)}{xs:List GPr}{w:World}(h:GOn g ys xs w)(hl:ys.length<=9223372036854775807):a5q w (.slice (some ⟨g,0,none⟩) ys.length ys.length) ys:=by
 refine⟨_,_,rfl,Nat.le_refl _,hl,.inr ⟨g,0,rfl,h.box.lt,fun i hi=>?_⟩⟩
 have hx:i<xs.length:=by rw[h.len];exact hi
 obtain⟨e1,e2,e3,e4⟩:=h.it i hi hx
 have hc:=fun j u hu=>h.box.cell (i*8+j) u (a5O xs i hx j u hu)
 refine⟨xs[i].1.2,xs[i].2.2,?_,?_,e3.sits,e4.sits⟩
 ·rw[Nat.zero_add,<-e1];exact⟨hc 0 _ rfl,hc 1 _ rfl,hc 2 _ rfl,hc 3 _ rfl⟩
 ·rw[Nat.zero_add,<-e2];exact⟨hc 4 _ rfl,hc 5 _ rfl,hc 6 _ rfl,hc 7 _ rfl⟩
theorem a3j {B g:Nat}{w w1 w2:World}(h:Below B w w1)(t:a0v [g] w1 w2)(hg:B<=g)(hs:B<=w1.heap.size):Below B w w2:=
 ⟨t.os.trans h.os,t.tape.trans h.tape,t.output.trans h.output,Nat.le_trans h.size t.size,fun q hq=>(t.block q (by omega) (by simp;omega)).trans (h.block q hq)⟩
theorem a2c {S:List Nat}{b:Nat}{xs:List Value}{w w':World}(h:Box w b xs)(t:a0v S w w')(hb:b∉S):Box w' b xs:=
 ⟨fun i v hv=>(World.cell?_of_block (a:=⟨b,i,none⟩) (t.block b h.lt hb)).trans (h.cell i v hv),fun i hi=>(World.frozen?_of_block (a:=⟨b,i,none⟩) (t.block b h.lt hb)).trans (h.free i hi),Nat.lt_of_lt_of_le h.lt t.size⟩
theorem a4R {ok:Nat->Prop}{S:List Nat}{w w':World}{t:Co}{v:Value}(h:CSP ok w t v)(T:a0v S w w')(hS:∀ b,b<w.heap.size->ok b->b∉S):CSP ok w' t v:=
 CSP.keep T.size (fun b hb ho=>⟨ho,fun j=>World.cell?_of_block (a:=⟨b,j,none⟩) (T.block b hb (hS b hb ho))⟩) t v h
theorem GOn.turn {g:Nat}{ys:List (Co×Co)}{xs:List GPr}{S:List Nat}{w w':World}(h:GOn g ys xs w)(T:a0v S w w')(hS:∀ b,g<=b->b∉S):GOn g ys xs w':=
 ⟨h.len,a2c h.box T (hS g (Nat.le_refl _)),fun i h1 h2=>⟨(h.it i h1 h2).1,(h.it i h1 h2).2.1,a4R (h.it i h1 h2).2.2.1 T (fun b _ ho=>hS b (Nat.le_of_lt ho)),a4R (h.it i h1 h2).2.2.2 T (fun b _ ho=>hS b (Nat.le_of_lt ho))⟩⟩
abbrev b7U (w:World)(g k:Nat)(a b:Co)(u1 u2:Value):World:=((((((((w.setCell ⟨g,k*8,none⟩ (.int .i64 a.op)).setCell ⟨g,k*8+1,none⟩ (.int .i64 a.n)).setCell ⟨g,k*8+2,none⟩ (.int .i64 a.m)).setCell ⟨g,k*8+3,none⟩ u1).setCell ⟨g,k*8+4,none⟩ (.int .i64 b.op)).setCell ⟨g,k*8+5,none⟩ (.int .i64 b.n)).setCell ⟨g,k*8+6,none⟩ (.int .i64 b.m)).setCell ⟨g,k*8+7,none⟩ u2)
theorem a7p (w:World)(g k:Nat)(a b:Co)(u1 u2:Value):a0v [g] w (b7U w g k a b u1 u2):=
 a0i (a0i (a0i (a0i (a0i (a0i (a0i (a0v.set w _ _ (by simp)) (a0v.set _ _ _ (by simp))) (a0v.set _ _ _ (by simp))) (a0v.set _ _ _ (by simp))) (a0v.set _ _ _ (by simp))) (a0v.set _ _ _ (by simp))) (a0v.set _ _ _ (by simp))) (a0v.set _ _ _ (by simp))
theorem CSP.turn {g:Nat}{w w':World}{t:Co}{v:Value}(h:CSP (fun b=>g<b) w t v)(T:a0v [g] w w'):CSP (fun b=>g<b) w' t v:=
 CSP.keep T.size (fun b hb ho=>⟨ho,fun j=>World.cell?_of_block (a:=⟨b,j,none⟩) (T.block b hb (by simp;omega))⟩) t v h
theorem GOn.more {g:Nat}{ys:List (Co×Co)}{xs:List GPr}{w:World}{u1 u2:Value}(h:GOn g ys xs w){k:Nat}(hk:k<ys.length){a b:Co}(ha:CSP (fun x=>g<x) w a u1)(hb:CSP (fun x=>g<x) w b u2):
 GOn g (ys.set k (a,b)) (xs.set k ((a,u1),(b,u2))) (b7U w g k a b u1 u2):=by
 have hx:k<xs.length:=by rw[h.len];exact hk
 have hlen:(flG xs).length=xs.length*8:=a4s xs
 have T:=a7p w g k a b u1 u2
 have hB:Box (b7U w g k a b u1 u2) g (flG (xs.set k ((a,u1),(b,u2)))):=by
  rw[b0Y xs k hx]
  exact((((((((h.box.set (k*8) (by omega) _).set (k*8+1) (by simp;omega) _).set (k*8+2) (by simp;omega) _).set (k*8+3) (by simp;omega) _).set (k*8+4) (by simp;omega) _).set (k*8+5) (by simp;omega) _).set (k*8+6) (by simp;omega) _).set (k*8+7) (by simp;omega) _)
 generalize b7U w g k a b u1 u2=W at *
 refine⟨by rw[List.length_set,List.length_set,h.len],hB,fun i h1 h2=>?_⟩
 by_cases e:i=k
 ·subst e
  simp only[List.getElem_set_self]
  exact⟨trivial,trivial,ha.turn T,hb.turn T⟩
 ·rw[List.getElem_set_ne (fun e2=>e e2.symm),List.getElem_set_ne (fun e2=>e e2.symm)]
  obtain⟨q1,q2,q3,q4⟩:=h.it i (by simpa using h1) (by simpa using h2)
  exact⟨q1,q2,q3.turn T,q4.turn T⟩
theorem a9s {w0 w:World}{gs:List (Co×Co)}{v u:Value}{lo hi:Nat}(hs:a5q w0 v gs)(hn:a7y w gs lo hi u)(hp:0<gs.length):∃ g xs,u=.slice (some ⟨g,0,none⟩) gs.length gs.length/\lo<=g/\g<hi/\GOn g gs xs w:=by
 obtain⟨-,⟨h1,-⟩ | ⟨g,s,us,vs,rfl,q1,q2,q3,q4,q5,q6⟩⟩:=hn
 ·omega
 ·have hm:=a8W (fun i hi=>(q6 i hi).2.2.1)
  obtain⟨ad,cap,hv,hl,hc,hp'⟩:=hs
  obtain⟨b,off,-,-,hp2⟩:∃ b off,ad=some ⟨b,off,none⟩/\b<w0.heap.size/\∀ i (h:i<gs.length),∃ u1 u2,a1D w0 b (off+i*8) gs[i].1 u1/\a1D w0 b (off+i*8+4) gs[i].2 u2/\a0l w0 gs[i].1 u1/\a0l w0 gs[i].2 u2:=by
   rcases hp' with h | h
   ·omega
   ·exact h
  have e0:flG ((List.range gs.length).map fun i=>(((gs.getD i (co0,co0)).1,us i),((gs.getD i (co0,co0)).2,vs i)))=a1O (fun i=>coL (gs.getD i (co0,co0)).1 (us i)++coL (gs.getD i (co0,co0)).2 (vs i)) gs.length:=by
   unfold flG a1O
   rw[List.map_map]
   rfl
  have hgd:∀ i (h:i<gs.length),gs.getD i (co0,co0)=gs[i]:=fun i h=>by simp[List.getD,h]
  refine⟨g,(List.range gs.length).map fun i=>(((gs.getD i (co0,co0)).1,us i),((gs.getD i (co0,co0)).2,vs i)),rfl,q1,by have:=hm 0 _ (Nat.zero_le _) (Nat.le_refl _);omega,⟨by simp,?_,fun i h1 h2=>?_⟩⟩
  ·rw[e0]
   refine⟨fun j x hx=>?_,fun j hj=>q5.1 j (by rwa [a1U (k:=8) (fun _=>rfl)] at hj),q4⟩
   obtain⟨r1,r2⟩:=a4G (k:=8) (by decide) (fun _=>rfl) _ _ _ hx
   obtain⟨f1,f2,-⟩:=q6 _ r1
   rw[hgd _ r1] at r2
   have hj:j=j/8*8+j%8:=by omega
   have h8:j%8<8:=Nat.mod_lt _ (by decide)
   generalize j/8=a at *
   generalize j%8=c at *
   subst hj
   have:c=0\/c=1\/c=2\/c=3\/c=4\/c=5\/c=6\/c=7:=by omega
   rcases this with rfl | rfl | rfl | rfl | rfl | rfl | rfl | rfl<;>(simp at r2;subst r2)
   ·exact f1.c0
   ·exact f1.c1
   ·exact f1.c2
   ·exact f1.c3
   ·exact f2.c0
   ·exact f2.c1
   ·exact f2.c2
   ·exact f2.c3
  ·simp only[List.getElem_map,List.getElem_range,hgd i h1]
   obtain⟨r1,r2,r3,m,r4,r5,r6,r7⟩:=q6 i h1
   obtain⟨u1,u2,-,-,s1,s2⟩:=hp2 i h1
   have h3:=hm 0 i (Nat.zero_le _) (by omega)
   exact⟨trivial,trivial,(a4u _ _ _ _ _ s1 r6).weak (fun b _ hb=>by omega),(a4u _ _ _ _ _ s2 r7).weak (fun b _ hb=>by omega)⟩
end Go.Proofs.YtdgjjnpdbdmdkaaGreatDoor
