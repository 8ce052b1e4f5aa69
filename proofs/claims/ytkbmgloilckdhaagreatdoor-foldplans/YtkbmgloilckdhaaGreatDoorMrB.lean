import Derived.Test.YtkbmgloilckdhaaGreatDoorMgP
import Derived.Test.YtkbmgloilckdhaaGreatDoorMkA
namespace Go.Proofs.YtkbmgloilckdhaaGreatDoor
open Go.RowKit
structure b4i (B ob:Nat)(t:Co)(v:Value)(xs:List (Co×Value))(w:World):Prop where
 box:Box w ob [.int .i64 t.op,.int .i64 t.n,.int .i64 t.m,v]
 row:a7B B w v xs
 lt:ob<B
theorem b4i.next {B ob:Nat}{t:Co}{v:Value}{xs:List (Co×Value)}{w w':World}(h:b4i B ob t v xs w)(hb:Below w.heap.size w w'):b4i B ob t v xs w':=⟨h.box.next hb,h.row.next hb,h.lt⟩
theorem b7v {B:Nat}{w:World}{v:Value}{xs:List (Co×Value)}(h:a7B B w v xs){g:Nat}(hg:v.ownBlock=some g):B<=g:=(h.own.lt g hg).1
theorem b1Q {w w':World}{b:Nat}{vs:List Value}{row:Option Nat}(h:Box w b vs)(hg:w.grownBy w' row)(hn:some b≠row):Box w' b vs:=
 ⟨fun i v hv=>(hg.cell_far ⟨b,i,none⟩ h.lt hn).trans (h.cell i v hv),fun i hi=>(hg.frozen_far ⟨b,i,none⟩ h.lt hn).trans (h.free i hi),Nat.lt_of_lt_of_le h.lt hg.size⟩
theorem b4i.grow {B ob:Nat}{t x:Co}{v u:Value}{xs:List (Co×Value)}{w1 w2:World}{g cap:Nat}(h:b4i B ob t v xs w1)(hx:CSP (fun b=>B<=b/\v.ownBlock≠some b) w1 x u)
 (ho:w2.ownsRow B 30 4 (.slice (some ⟨g,0,none⟩) (xs.length+1) cap) (xs.length+1) (flC xs++coL x u)) (hg:w1.grownBy w2 v.ownBlock) (hl:v.ownBlock=some g\/g=w1.heap.size) :
 Box w2 ob [.int .i64 t.op,.int .i64 t.n,.int .i64 t.m,v]/\b4i B ob t (.slice (some ⟨g,0,none⟩) (xs.length+1) cap) (xs++[(x,u)]) (w2.setCell ⟨ob,3,none⟩ (.slice (some ⟨g,0,none⟩) (xs.length+1) cap)):=by
 have b2:Box w2 ob [.int .i64 t.op,.int .i64 t.n,.int .i64 t.m,v]:=b1Q h.box hg (fun e=>by have:=b7v h.row e.symm;have:=h.lt;omega)
 have r2:=h.row.more hx ho hg hl
 have hgB:B<=g:=(ho.lt g rfl).1
 have T:=a0w w2 ob 3 (.slice (some ⟨g,0,none⟩) (xs.length+1) cap)
 refine⟨b2,b2.set 3 (by simp) _,⟨?_,fun y hy=>?_⟩,h.lt⟩
 ·obtain⟨h1,⟨h2,h3⟩ | ⟨g',cap',cur,h2,h3,h4,h5⟩⟩:=r2.own
  ·cases h2
  ·exact⟨h1,.inr ⟨g',cap',cur,h2,h3,(T.block g' (Array.getElem?_eq_some_iff.1 h4).1 (by have:=h.lt;simp;omega)).trans h4,h5⟩⟩
 ·exact CSP.keep T.size (fun b hb hk=>⟨hk,fun j=>a1B T hb (by have:=h.lt;have:=hk.1;simp;omega)⟩) _ _ (r2.sits y hy)
theorem a4m {w0 w:World}(t:Co):∀ v u lo hi,a0m w0 t v->a3d w t lo hi u->CSP (fun b=>lo<=b) w t u:=by
 induction t using Co.ind with
 | h t ih=>
   intro v u lo hi hs hn
   rw[a1k] at hs
   rw[a2w]
   rw[a2r] at hn
   refine⟨hs.1,?_⟩
   obtain⟨-,⟨h1,ad,rfl⟩ | ⟨g,s,us,rfl,q1,q2,q3,q4,q5,q6⟩⟩:=hn
   ·exact⟨ad,0,by rw[h1],by omega,by omega,.inl h1⟩
   ·obtain⟨ad,cap,hv,hl,hc,hp⟩:=hs.2
    have hm:=a8U (fun i hi=>(q6 i hi).2.1)
    refine⟨_,_,rfl,Nat.le_refl _,by omega,.inr ⟨g,0,rfl,q4,q1,fun i hi=>?_⟩⟩
    rcases hp with hp | ⟨b,off,-,-,hp⟩
    ·omega
    ·obtain⟨u',-,hu'⟩:=hp i hi
     have h3:=hm 0 i (Nat.zero_le _) (by omega)
     exact⟨us i,by rw[Nat.zero_add];exact(q6 i hi).1,(ih _ (List.getElem_mem hi) u' _ _ _ hu' (q6 i hi).2.2).weak (fun b _ hb=>by omega)⟩
structure GOn (g:Nat)(ys:List (Co×Co))(xs:List GPr)(w:World):Prop where
 len:xs.length=ys.length
 box:Box w g (flG xs)
 it:∀ i (h:i<ys.length) (h2:i<xs.length),xs[i].1.1=ys[i].1/\xs[i].2.1=ys[i].2/\CSP (fun b=>g<b) w ys[i].1 xs[i].1.2/\CSP (fun b=>g<b) w ys[i].2 xs[i].2.2
theorem GOn.next {g:Nat}{ys:List (Co×Co)}{xs:List GPr}{w w':World}(h:GOn g ys xs w)(b:Below w.heap.size w w'):GOn g ys xs w':=
 ⟨h.len,h.box.next b,fun i h1 h2=>⟨(h.it i h1 h2).1,(h.it i h1 h2).2.1,(h.it i h1 h2).2.2.1.next b,(h.it i h1 h2).2.2.2.next b⟩⟩
theorem GOn.gat {g:Nat}{ys:List (Co×Co)}{xs:List GPr}{w:World}(h:GOn g ys xs w)(hl:ys.length<=9223372036854775807):a5h w (.slice (some ⟨g,0,none⟩) ys.length ys.length) ys:=by
 refine⟨_,_,rfl,Nat.le_refl _,hl,.inr ⟨g,0,rfl,h.box.lt,fun i hi=>?_⟩⟩
 have hx:i<xs.length:=by rw[h.len];exact hi
 obtain⟨e1,e2,e3,e4⟩:=h.it i hi hx
 have hc:=fun j u hu=>h.box.cell (i*8+j) u (a4V xs i hx j u hu)
 refine⟨xs[i].1.2,xs[i].2.2,?_,?_,e3.sits,e4.sits⟩
 ·rw[Nat.zero_add,<-e1];exact⟨hc 0 _ rfl,hc 1 _ rfl,hc 2 _ rfl,hc 3 _ rfl⟩
 ·rw[Nat.zero_add,<-e2];exact⟨hc 4 _ rfl,hc 5 _ rfl,hc 6 _ rfl,hc 7 _ rfl⟩
theorem a2E {B g:Nat}{w w1 w2:World}(h:Below B w w1)(t:a0p [g] w1 w2)(hg:B<=g)(hs:B<=w1.heap.size):Below B w w2:=
 ⟨t.os.trans h.os,t.tape.trans h.tape,t.output.trans h.output,Nat.le_trans h.size t.size,fun q hq=>(t.block q (by omega) (by simp;omega)).trans (h.block q hq)⟩
theorem a1T {S:List Nat}{b:Nat}{xs:List Value}{w w':World}(h:Box w b xs)(t:a0p S w w')(hb:b∉S):Box w' b xs:=
 ⟨fun i v hv=>(World.cell?_of_block (a:=⟨b,i,none⟩) (t.block b h.lt hb)).trans (h.cell i v hv),fun i hi=>(World.frozen?_of_block (a:=⟨b,i,none⟩) (t.block b h.lt hb)).trans (h.free i hi),Nat.lt_of_lt_of_le h.lt t.size⟩
theorem a2L {ok:Nat->Prop}{S:List Nat}{w w':World}{t:Co}{v:Value}(h:CSP ok w t v)(T:a0p S w w')(hS:∀ b,b<w.heap.size->ok b->b∉S):CSP ok w' t v:=
 CSP.keep T.size (fun b hb ho=>⟨ho,fun j=>World.cell?_of_block (a:=⟨b,j,none⟩) (T.block b hb (hS b hb ho))⟩) t v h
theorem GOn.turn {g:Nat}{ys:List (Co×Co)}{xs:List GPr}{S:List Nat}{w w':World}(h:GOn g ys xs w)(T:a0p S w w')(hS:∀ b,g<=b->b∉S):GOn g ys xs w':=
 ⟨h.len,a1T h.box T (hS g (Nat.le_refl _)),fun i h1 h2=>⟨(h.it i h1 h2).1,(h.it i h1 h2).2.1,a2L (h.it i h1 h2).2.2.1 T (fun b _ ho=>hS b (Nat.le_of_lt ho)),a2L (h.it i h1 h2).2.2.2 T (fun b _ ho=>hS b (Nat.le_of_lt ho))⟩⟩
abbrev b8l (w:World)(g k:Nat)(a b:Co)(u1 u2:Value):World:=((((((((w.setCell ⟨g,k*8,none⟩ (.int .i64 a.op)).setCell ⟨g,k*8+1,none⟩ (.int .i64 a.n)).setCell ⟨g,k*8+2,none⟩ (.int .i64 a.m)).setCell ⟨g,k*8+3,none⟩ u1).setCell ⟨g,k*8+4,none⟩ (.int .i64 b.op)).setCell ⟨g,k*8+5,none⟩ (.int .i64 b.n)).setCell ⟨g,k*8+6,none⟩ (.int .i64 b.m)).setCell ⟨g,k*8+7,none⟩ u2)
theorem a7n (w:World)(g k:Nat)(a b:Co)(u1 u2:Value):a0p [g] w (b8l w g k a b u1 u2):=
 a0c (a0c (a0c (a0c (a0c (a0c (a0c (a0p.set w _ _ (by simp)) (a0p.set _ _ _ (by simp))) (a0p.set _ _ _ (by simp))) (a0p.set _ _ _ (by simp))) (a0p.set _ _ _ (by simp))) (a0p.set _ _ _ (by simp))) (a0p.set _ _ _ (by simp))) (a0p.set _ _ _ (by simp))
theorem CSP.turn {g:Nat}{w w':World}{t:Co}{v:Value}(h:CSP (fun b=>g<b) w t v)(T:a0p [g] w w'):CSP (fun b=>g<b) w' t v:=
 CSP.keep T.size (fun b hb ho=>⟨ho,fun j=>World.cell?_of_block (a:=⟨b,j,none⟩) (T.block b hb (by simp;omega))⟩) t v h
theorem GOn.more {g:Nat}{ys:List (Co×Co)}{xs:List GPr}{w:World}{u1 u2:Value}(h:GOn g ys xs w){k:Nat}(hk:k<ys.length){a b:Co}(ha:CSP (fun x=>g<x) w a u1)(hb:CSP (fun x=>g<x) w b u2):
 GOn g (ys.set k (a,b)) (xs.set k ((a,u1),(b,u2))) (b8l w g k a b u1 u2):=by
 have hx:k<xs.length:=by rw[h.len];exact hk
 have hlen:(flG xs).length=xs.length*8:=a4l xs
 have T:=a7n w g k a b u1 u2
 have hB:Box (b8l w g k a b u1 u2) g (flG (xs.set k ((a,u1),(b,u2)))):=by
  rw[b1f xs k hx]
  exact((((((((h.box.set (k*8) (by omega) _).set (k*8+1) (by simp;omega) _).set (k*8+2) (by simp;omega) _).set (k*8+3) (by simp;omega) _).set (k*8+4) (by simp;omega) _).set (k*8+5) (by simp;omega) _).set (k*8+6) (by simp;omega) _).set (k*8+7) (by simp;omega) _)
 generalize b8l w g k a b u1 u2=W at *
 refine⟨by rw[List.length_set,List.length_set,h.len],hB,fun i h1 h2=>?_⟩
 by_cases e:i=k
 ·subst e
  simp only[List.getElem_set_self]
  exact⟨trivial,trivial,ha.turn T,hb.turn T⟩
 ·rw[List.getElem_set_ne (fun e2=>e e2.symm),List.getElem_set_ne (fun e2=>e e2.symm)]
  obtain⟨q1,q2,q3,q4⟩:=h.it i (by simpa using h1) (by simpa using h2)
  exact⟨q1,q2,q3.turn T,q4.turn T⟩
theorem a9x {w0 w:World}{gs:List (Co×Co)}{v u:Value}{lo hi:Nat}(hs:a5h w0 v gs)(hn:a7x w gs lo hi u)(hp:0<gs.length):∃ g xs,u=.slice (some ⟨g,0,none⟩) gs.length gs.length/\lo<=g/\g<hi/\GOn g gs xs w:=by
 obtain⟨-,⟨h1,-⟩ | ⟨g,s,us,vs,rfl,q1,q2,q3,q4,q5,q6⟩⟩:=hn
 ·omega
 ·have hm:=a8U (fun i hi=>(q6 i hi).2.2.1)
  obtain⟨ad,cap,hv,hl,hc,hp'⟩:=hs
  obtain⟨b,off,-,-,hp2⟩:∃ b off,ad=some ⟨b,off,none⟩/\b<w0.heap.size/\∀ i (h:i<gs.length),∃ u1 u2,a2G w0 b (off+i*8) gs[i].1 u1/\a2G w0 b (off+i*8+4) gs[i].2 u2/\a0m w0 gs[i].1 u1/\a0m w0 gs[i].2 u2:=by
   rcases hp' with h | h
   ·omega
   ·exact h
  have e0:flG ((List.range gs.length).map fun i=>(((gs.getD i (co0,co0)).1,us i),((gs.getD i (co0,co0)).2,vs i)))=a1M (fun i=>coL (gs.getD i (co0,co0)).1 (us i)++coL (gs.getD i (co0,co0)).2 (vs i)) gs.length:=by
   unfold flG a1M
   rw[List.map_map]
   rfl
  have hgd:∀ i (h:i<gs.length),gs.getD i (co0,co0)=gs[i]:=fun i h=>by simp[List.getD,h]
  refine⟨g,(List.range gs.length).map fun i=>(((gs.getD i (co0,co0)).1,us i),((gs.getD i (co0,co0)).2,vs i)),rfl,q1,by have:=hm 0 _ (Nat.zero_le _) (Nat.le_refl _);omega,⟨by simp,?_,fun i h1 h2=>?_⟩⟩
  ·rw[e0]
   refine⟨fun j x hx=>?_,fun j hj=>q5.1 j (by rwa [a1W (k:=8) (fun _=>rfl)] at hj),q4⟩
   obtain⟨r1,r2⟩:=a4z (k:=8) (by decide) (fun _=>rfl) _ _ _ hx
   obtain⟨f1,f2,-⟩:=q6 _ r1
   rw[hgd _ r1] at r2
   have hj:j=j/8*8+j%8:=by omega
   have h8:j%8<8:=Nat.mod_lt _ (by decide)
   generalize j/8=a at *
   generalize j%8=c at *
   subst hj
   have:c=0\/c=1\/c=2\/c=3\/c=4\/c=5\/c=6\/c=7:=by omega
   rcases this with rfl | rfl | rfl | rfl | rfl | rfl | rfl | rfl<;>(simp at r2;subst r2)
   ·exact f1.c0
   ·exact f1.c1
   ·exact f1.c2
   ·exact f1.c3
   ·exact f2.c0
   ·exact f2.c1
   ·exact f2.c2
   ·exact f2.c3
  ·simp only[List.getElem_map,List.getElem_range,hgd i h1]
   obtain⟨r1,r2,r3,m,r4,r5,r6,r7⟩:=q6 i h1
   obtain⟨u1,u2,-,-,s1,s2⟩:=hp2 i h1
   have h3:=hm 0 i (Nat.zero_le _) (by omega)
   exact⟨trivial,trivial,(a4m _ _ _ _ _ s1 r6).weak (fun b _ hb=>by omega),(a4m _ _ _ _ _ s2 r7).weak (fun b _ hb=>by omega)⟩
theorem b3G (xs:List GPr)(x:GPr):flG (xs++[x])=flG xs++(coL x.1.1 x.1.2++coL x.2.1 x.2.2):=by simp[flG]
structure a3s (B:Nat)(w:World)(v:Value)(xs:List GPr):Prop where
 own:w.ownsRow B 49 8 v xs.length (flG xs)
 sits:∀ x,x∈xs->CSP (fun b=>B<=b/\v.ownBlock≠some b) w x.1.1 x.1.2/\CSP (fun b=>B<=b/\v.ownBlock≠some b) w x.2.1 x.2.2
theorem a3s.next {B:Nat}{w w':World}{v:Value}{xs:List GPr}(h:a3s B w v xs)(hb:Below w.heap.size w w'):a3s B w' v xs:=
 ⟨a7o h.own hb,fun x hx=>⟨(h.sits x hx).1.next hb,(h.sits x hx).2.next hb⟩⟩
theorem a3s.nil (B:Nat)(w:World):a3s B w (.slice none 0 0) []:=⟨World.ownsRow_nil _ _ _ _,fun x hx=>by cases hx⟩
theorem a3s.more {B:Nat}{w1 w2:World}{v:Value}{xs:List GPr}{x y:Co}{u z:Value}{g cap:Nat}(h:a3s B w1 v xs)(hx:CSP (fun b=>B<=b/\v.ownBlock≠some b) w1 x u)(hy:CSP (fun b=>B<=b/\v.ownBlock≠some b) w1 y z)
 (ho:w2.ownsRow B 49 8 (.slice (some ⟨g,0,none⟩) (xs.length+1) cap) (xs.length+1) (flG xs++(coL x u++coL y z))) (hg:w1.grownBy w2 v.ownBlock) (hl:v.ownBlock=some g\/g=w1.heap.size):a3s B w2 (.slice (some ⟨g,0,none⟩) (xs.length+1) cap) (xs++[((x,u),(y,z))]):=by
 have key:∀ y z,CSP (fun b=>B<=b/\v.ownBlock≠some b) w1 y z->CSP (fun b=>B<=b/\(Value.slice (some ⟨g,0,none⟩) (xs.length+1) cap).ownBlock≠some b) w2 y z:=fun y z hy=>
  CSP.keep hg.size (fun b hb ho=>⟨⟨ho.1,fun e=>by
   have e':some g=some b:=e
   cases e'
   rcases hl with hl | hl
   ·exact ho.2 hl
   ·omega⟩,fun j=>hg.cell_far ⟨b,j,none⟩ hb (fun e=>ho.2 e.symm)⟩) y z hy
 refine⟨?_,fun y' hy'=>?_⟩
 ·rw[b3G,List.length_append]
  exact ho
 ·rcases List.mem_append.1 hy' with hy' | hy'
  ·exact⟨key _ _ (h.sits y' hy').1,key _ _ (h.sits y' hy').2⟩
  ·rw[List.mem_singleton.1 hy']
   exact⟨key _ _ hx,key _ _ hy⟩
theorem a3s.turn {B:Nat}{w w':World}{v:Value}{xs:List GPr}{S:List Nat}(h:a3s B w v xs)(T:a0p S w w')(hS:∀ b,B<=b->b∉S):a3s B w' v xs:=by
 refine⟨?_,fun x hx=>⟨a2L (h.sits x hx).1 T (fun b _ hb=>hS b hb.1),a2L (h.sits x hx).2 T (fun b _ hb=>hS b hb.1)⟩⟩
 obtain⟨h1,h2 | ⟨g,cap,cur,h2,h3,h4,h5⟩⟩:=h.own
 ·exact⟨h1,.inl h2⟩
 ·exact⟨h1,.inr ⟨g,cap,cur,h2,h3,(T.block g (Array.getElem?_eq_some_iff.1 h4).1 (hS g h3)).trans h4,h5⟩⟩
theorem a3i (w:World)(l:List Value)(t:TypeId):∀ j u,l[j]? = some u->(w.alloc (.cells l.toArray t)).cell? ((⟨w.heap.size,0,none⟩:Addr).add j)=some u:=by
 intro j u hu
 have hadd:(⟨w.heap.size,0,none⟩:Addr).add j=⟨w.heap.size,j,none⟩:=by unfold Addr.add;split<;>simp_all
 rw[hadd]
 exact(Box.new w l t).cell j u hu
theorem a3s.done {B:Nat}{w:World}{v:Value}{xs:List GPr}(h:a3s B w v xs):a5h w v (xs.map (fun x=>(x.1.1,x.2.1))):=by
 obtain⟨h1,⟨h2,h3⟩ | ⟨g,cap,cur,h2,h3,h4,h5,h6,h7,h8⟩⟩:=h.own
 ·exact⟨none,0,by rw[h2,List.length_map,h3],by rw[List.length_map];omega,by omega,.inl (by rw[List.length_map];exact h3)⟩
 ·have BX:Box w g (flG xs):=(Box.ofBlock h4).part (by rw[<-h8];exact List.take_prefix _ _)
  refine⟨_,cap,by rw[h2,List.length_map],by rw[List.length_map];exact h5,h6,.inr ⟨g,0,rfl,BX.lt,fun i hi=>?_⟩⟩
  have hi':i<xs.length:=by rw[List.length_map] at hi;exact hi
  have hc:=fun j u h=>BX.cell (i*8+j) u (a4V xs i hi' j u h)
  refine⟨xs[i].1.2,xs[i].2.2,?_,?_,?_,?_⟩
  ·rw[List.getElem_map,Nat.zero_add]
   exact⟨hc 0 _ rfl,hc 1 _ rfl,hc 2 _ rfl,hc 3 _ rfl⟩
  ·rw[List.getElem_map,Nat.zero_add]
   exact⟨hc 4 _ rfl,hc 5 _ rfl,hc 6 _ rfl,hc 7 _ rfl⟩
  ·rw[List.getElem_map]
   exact(h.sits _ (List.getElem_mem hi')).1.sits
  ·rw[List.getElem_map]
   exact(h.sits _ (List.getElem_mem hi')).2.sits
structure a9R (B ob:Nat)(cs:List Value)(v:Value)(xs:List GPr)(w:World):Prop where
 box:Box w ob (cs.set 9 v)
 row:a3s B w v xs
 lt:ob<B
theorem a9R.next {B ob:Nat}{cs:List Value}{v:Value}{xs:List GPr}{w w':World}(h:a9R B ob cs v xs w)(hb:Below w.heap.size w w'):a9R B ob cs v xs w':=⟨h.box.next hb,h.row.next hb,h.lt⟩
theorem b6e {B:Nat}{w:World}{v:Value}{xs:List GPr}(h:a3s B w v xs){g:Nat}(hg:v.ownBlock=some g):B<=g:=(h.own.lt g hg).1
theorem a9R.grow {B ob:Nat}{cs:List Value}{v:Value}{xs:List GPr}{x y:Co}{u z:Value}{w1 w2:World}{g cap:Nat}(h:a9R B ob cs v xs w1)(h9:9<cs.length)(hx:CSP (fun b=>B<=b/\v.ownBlock≠some b) w1 x u)(hy:CSP (fun b=>B<=b/\v.ownBlock≠some b) w1 y z)
 (ho:w2.ownsRow B 49 8 (.slice (some ⟨g,0,none⟩) (xs.length+1) cap) (xs.length+1) (flG xs++(coL x u++coL y z))) (hg:w1.grownBy w2 v.ownBlock) (hl:v.ownBlock=some g\/g=w1.heap.size) :
 Box w2 ob (cs.set 9 v)/\a9R B ob cs (.slice (some ⟨g,0,none⟩) (xs.length+1) cap) (xs++[((x,u),(y,z))]) (w2.setCell ⟨ob,9,none⟩ (.slice (some ⟨g,0,none⟩) (xs.length+1) cap)):=by
 have b2:Box w2 ob (cs.set 9 v):=b1Q h.box hg (fun e=>by have:=b6e h.row e.symm;have:=h.lt;omega)
 have r2:=h.row.more hx hy ho hg hl
 have hgB:B<=g:=(ho.lt g rfl).1
 have T:=a0w w2 ob 9 (.slice (some ⟨g,0,none⟩) (xs.length+1) cap)
 have b3:=b2.set 9 (by simpa using h9) (.slice (some ⟨g,0,none⟩) (xs.length+1) cap)
 rw[List.set_set] at b3
 refine⟨b2,b3,⟨?_,fun y hy=>?_⟩,h.lt⟩
 ·obtain⟨h1,⟨h2,h3⟩ | ⟨g',cap',cur,h2,h3,h4,h5⟩⟩:=r2.own
  ·cases h2
  ·exact⟨h1,.inr ⟨g',cap',cur,h2,h3,(T.block g' (Array.getElem?_eq_some_iff.1 h4).1 (by have:=h.lt;simp;omega)).trans h4,h5⟩⟩
 ·exact⟨CSP.keep T.size (fun b hb hk=>⟨hk,fun j=>a1B T hb (by have:=h.lt;have:=hk.1;simp;omega)⟩) _ _ (r2.sits y hy).1,CSP.keep T.size (fun b hb hk=>⟨hk,fun j=>a1B T hb (by have:=h.lt;have:=hk.1;simp;omega)⟩) _ _ (r2.sits y hy).2⟩
end Go.Proofs.YtkbmgloilckdhaaGreatDoor
