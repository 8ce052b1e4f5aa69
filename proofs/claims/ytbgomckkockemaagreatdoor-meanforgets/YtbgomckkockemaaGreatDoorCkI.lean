import Derived.Test.YtbgomckkockemaaGreatDoorMgE
import Derived.Test.YtbgomckkockemaaGreatDoorMhW
import Derived.Test.YtbgomckkockemaaGreatDoorMgM
namespace Go.Proofs.YtbgomckkockemaaGreatDoor
open Go.RowKit
theorem own_keep {w w':World}{B:Nat}{e:TypeId}{size n:Nat}{v:Value}{xs:List Value}(h:w.ownsRow B e size v n xs)(hk:∀ b,B<=b->b<w.heap.size->w'.heap[b]? = w.heap[b]?):w'.ownsRow B e size v n xs:=by
 obtain⟨h1,h2 | ⟨g,cap,cur,h2,h3,h4,h5⟩⟩:=h
 ·exact⟨h1,.inl h2⟩
 ·exact⟨h1,.inr ⟨g,cap,cur,h2,h3,(hk g h3 (by rcases Nat.lt_or_ge g w.heap.size with h | h;exact h;rw[Array.getElem?_eq_none h] at h4;cases h4)).trans h4,h5⟩⟩
theorem own_shape {w:World}{B:Nat}{e:TypeId}{size n:Nat}{v:Value}{xs:List Value}(h:w.ownsRow B e size v n xs):∃ a c,v=.slice a n c:=by
 obtain⟨-,⟨h2,h3⟩ | ⟨g,cap,cur,h2,-⟩⟩:=h
 ·exact⟨none,0,by rw[h2,h3]⟩
 ·exact⟨_,_,h2⟩
theorem own_low {w:World}{B:Nat}{e:TypeId}{size n:Nat}{v:Value}{xs:List Value}(B':Nat)(h:w.ownsRow B e size v n xs)(hb:B'<=B):w.ownsRow B' e size v n xs:=by
 obtain⟨h1,h2 | ⟨g,cap,cur,h2,h3,h4⟩⟩:=h
 ·exact⟨h1,.inl h2⟩
 ·exact⟨h1,.inr ⟨g,cap,cur,h2,Nat.le_trans hb h3,h4⟩⟩
def RowIn (w:World)(lo hi:Nat)(e:TypeId)(k:Nat)(v:Value)(n:Nat)(xs:List Value):Prop:=lo<=hi/\w.ownsRow lo e k v n xs/\∀ g,v.ownBlock=some g->g<hi
theorem RowIn.of {w:World}{lo:Nat}{e:TypeId}{k n:Nat}{v:Value}{xs:List Value}(h:w.ownsRow lo e k v n xs)(h0:lo<=w.heap.size):RowIn w lo w.heap.size e k v n xs:=⟨h0,h,fun g hg=>(h.lt g hg).2⟩
theorem RowIn.keep {w w':World}{lo hi:Nat}{e:TypeId}{k n:Nat}{v:Value}{xs:List Value}(h:RowIn w lo hi e k v n xs)(hk:∀ b,lo<=b->b<hi->w'.heap[b]? = w.heap[b]?):RowIn w' lo hi e k v n xs:=by
 obtain⟨h0,⟨h1,h2 | ⟨g,cap,cur,h2,h3,h4,h5⟩⟩,h6⟩:=h
 ·exact⟨h0,⟨h1,.inl h2⟩,h6⟩
 ·exact⟨h0,⟨h1,.inr ⟨g,cap,cur,h2,h3,(hk g h3 (h6 g (by rw[h2];rfl))).trans h4,h5⟩⟩,h6⟩
theorem GRow.keep {w w':World}{gs:List (Co×Co)}{lo hi:Nat}{v:Value}(hs:w.heap.size<=w'.heap.size)(hk:∀ b,lo<=b->b<hi->w'.heap[b]? = w.heap[b]?)(h:GRow w gs lo hi v):GRow w' gs lo hi v:=by
 obtain⟨h0,h | ⟨g,s,us,vs,hv,h1,h2,h3,h4,h5,h6⟩⟩:=h
 ·exact⟨h0,.inl h⟩
 ·have hm:=up_to (fun i hi=>(h6 i hi).2.2.1)
  have hg:w'.heap[g]? = w.heap[g]?:=hk g h1 (by have:=hm 0 _ (Nat.zero_le _) (Nat.le_refl _);omega)
  refine⟨h0,.inr ⟨g,s,us,vs,hv,h1,h2,h3,by omega,⟨fun j hj=>(World.frozen?_of_block (a:=⟨g,j,none⟩) hg).trans (h5.1 j hj),by obtain⟨cs,o⟩:=h5.2;exact⟨cs,own_at o hg⟩⟩,fun i hi=>?_⟩⟩
  obtain⟨q1,q2,q3,q4⟩:=h6 i hi
  refine⟨q1.keep (fun j=>World.cell?_of_block (a:=⟨g,j,none⟩) hg),q2.keep (fun j=>World.cell?_of_block (a:=⟨g,j,none⟩) hg),q3,q4.keep hs (fun b hb1 hb2=>hk b ?_ ?_)⟩
  ·have:=hm 0 i (Nat.zero_le _) (by omega);omega
  ·have:=hm (i+1) _ (by omega) (Nat.le_refl _);omega
theorem GRow.wide {w:World}{gs:List (Co×Co)}{lo lo' hi:Nat}{v:Value}(h:GRow w gs lo hi v)(h1:lo'<=lo):GRow w gs lo' hi v:=by
 obtain⟨h0,h | ⟨g,s,us,vs,hv,q1,q2⟩⟩:=h
 ·exact⟨by omega,.inl h⟩
 ·exact⟨by omega,.inr ⟨g,s,us,vs,hv,by omega,q2⟩⟩
abbrev strsF (l:List ByteArray):List Value:=rowsF (fun i=>[.string (l.getD i default)]) l.length
abbrev winsF (l:List WiP):List Value:=rowsF (fun i=>wiL (l.getD i wi0)) l.length
abbrev crsF (l:List Cr):List Value:=rowsF (fun i=>crL (l.getD i cr0)) l.length
structure PWt (p:PlP):Prop where
 me:p.mets.length*16<=140737488355328
 st:∀ x,x∈p.mets->x.size<=140737488355328
 wi:p.wins.length*32<=140737488355328
 cr:p.crons.length*40<=140737488355328
 gs:p.gs.length*96<=140737488355328
 co:∀ x,x∈p.gs->CWt x.1/\CWt x.2
 fi:CWt p.fin
structure CopP (w:World)(p:PlP)(v:PlV)(s0 s1 s2 s3 s4 s5:Nat):Prop where
 me:RowIn w s0 s1 9 1 v.me p.mets.length (strsF p.mets)
 wi:RowIn w s1 s2 74 4 v.wi p.wins.length (winsF p.wins)
 cr:RowIn w s2 s3 99 5 v.cr p.crons.length (crsF p.crons)
 gs:GRow w p.gs s3 s4 v.gs
 fi:CNew w p.fin s4 s5 v.fi
 si:CSits w p.fin v.fi
 ga:GsAt w v.gs p.gs
 top:s5<=w.heap.size
theorem CopP.le {w:World}{p:PlP}{v:PlV}{s0 s1 s2 s3 s4 s5:Nat}(h:CopP w p v s0 s1 s2 s3 s4 s5):s0<=s1/\s1<=s2/\s2<=s3/\s3<=s4/\s4<=s5:=⟨h.me.1,h.wi.1,h.cr.1,h.gs.1,(cnew_iff.1 h.fi).1⟩
theorem CopP.keep {w w':World}{p:PlP}{v:PlV}{s0 s1 s2 s3 s4 s5:Nat}(h:CopP w p v s0 s1 s2 s3 s4 s5)(hs:w.heap.size<=w'.heap.size)(hk:∀ b,s0<=b->b<s5->w'.heap[b]? = w.heap[b]?):CopP w' p v s0 s1 s2 s3 s4 s5:=by
 obtain⟨e0,e1,e2,e3,e4⟩:=h.le
 have G:=GRow.keep hs (fun b h1 h2=>hk b (by omega) (by omega)) h.gs
 have F:=CNew.keep hs p.fin _ _ _ (fun b h1 h2=>hk b (by omega) (by omega)) h.fi
 exact⟨h.me.keep (fun b h1 h2=>hk b (by omega) (by omega)),h.wi.keep (fun b h1 h2=>hk b (by omega) (by omega)),h.cr.keep (fun b h1 h2=>hk b (by omega) (by omega)),G,F,csits_of_new p.fin _ _ _ _ h.si F,gat_of_row h.ga G,Nat.le_trans h.top hs⟩
theorem CopP.plan {w0 w:World}{p:PlP}{u v:PlV}{s0 s1 s2 s3 s4 s5:Nat}(h:CopP w p v s0 s1 s2 s3 s4 s5)(hp:PlAt w0 p u):PlAt w p v:=
 ⟨hp.ru,hp.loc,hp.wok,hp.cok,rows_of_own (fun _=>rfl) h.me.2.1,rows_of_own (fun _=>rfl) h.wi.2.1,rows_of_own (fun _=>rfl) h.cr.2.1,h.ga,h.si⟩
def GsQ (Q:Nat->Co->Value->Prop)(w:World)(v:Value)(l:List (Co×Co)):Prop:=∃ ad cap,v=.slice ad l.length cap/\l.length<=cap/\cap<=9223372036854775807 /\
 (l.length=0\/∃ b off,ad=some ⟨b,off,none⟩/\b<w.heap.size/\∀ i (h:i<l.length),∃ u1 u2,Four w b (off+i*8) l[i].1 u1/\Four w b (off+i*8+4) l[i].2 u2/\(CSits w l[i].1 u1/\Q (2*i) l[i].1 u1)/\(CSits w l[i].2 u2/\Q (2*i+1) l[i].2 u2))
theorem GsQ.shape {Q:Nat->Co->Value->Prop}{w:World}{v:Value}{l:List (Co×Co)}(h:GsQ Q w v l):∃ ad cap,v=.slice ad l.length cap/\l.length<=cap/\cap<=9223372036854775807:=by
 obtain⟨ad,cap,hv,h1,h2,_⟩:=h
 exact⟨ad,cap,hv,h1,h2⟩
theorem GsQ.open {Q:Nat->Co->Value->Prop}{w:World}{v:Value}{l:List (Co×Co)}(h:GsQ Q w v l)(hn:0<l.length):∃ b off cap,v=.slice (some ⟨b,off,none⟩) l.length cap/\l.length<=cap/\cap<=9223372036854775807/\b<w.heap.size /\
 ∀ i (h:i<l.length),∃ u1 u2,Four w b (off+i*8) l[i].1 u1/\Four w b (off+i*8+4) l[i].2 u2/\(CSits w l[i].1 u1/\Q (2*i) l[i].1 u1)/\(CSits w l[i].2 u2/\Q (2*i+1) l[i].2 u2):=by
 obtain⟨ad,cap,hv,h1,h2,hp⟩:=h
 rcases hp with hp | ⟨b,off,rfl,hl,hc⟩
 ·omega
 ·exact⟨b,off,cap,hv,h1,h2,hl,hc⟩
theorem ev_half (i:Nat):(2*i)%2=0/\(2*i)/2=i/\(2*i+1)%2=1/\(2*i+1)/2=i/\(2*i+1+1)%2=0/\(2*i+1+1)/2=i+1:=by omega
theorem CopP.ranges {w:World}{p:PlP}{v:PlV}{s0 s1 s2 s3 s4 s5:Nat}(h:CopP w p v s0 s1 s2 s3 s4 s5):∃ r:Nat->Nat,s3<=r 0/\r (2*p.gs.length+1)<=s5/\(∀ j,j<2*p.gs.length+1->r j<=r (j+1)) /\
 GsQ (fun j c x=>CNew w c (r j) (r (j+1)) x) w v.gs p.gs/\CNew w p.fin (r (2*p.gs.length)) (r (2*p.gs.length+1)) v.fi/\∃ cs,RowIn w s3 (r 0) 64 8 v.gs p.gs.length cs:=by
 obtain⟨e0,e1,e2,e3,e4⟩:=h.le
 have F:=h.fi
 have A:=h.ga
 obtain⟨h0,⟨h1,hv⟩ | ⟨g,s,us,vs,hv,q1,q2,q3,q4,q5,q6⟩⟩:=h.gs
 ·refine⟨fun j=>if j=0 then s4 else s5,by simp;omega,by simp,fun j hj=>?_,?_,?_,[],by simp;omega,⟨by rw[h1];rfl,.inl ⟨hv,h1⟩⟩,fun g hg=>by rw[hv] at hg;cases hg⟩
  ·have:j=0:=by omega
   subst this
   simpa using e4
  ·obtain⟨ad,cap,e,g1,g2,_⟩:=A
   exact⟨ad,cap,e,g1,g2,.inl h1⟩
  ·rw[h1];simpa using F
 ·obtain⟨m,hm⟩:∃ m:Nat->Nat,∀ i (hi:i<p.gs.length),s i<=m i/\m i<=s (i+1)/\CNew w p.gs[i].1 (s i) (m i) (us i)/\CNew w p.gs[i].2 (m i) (s (i+1)) (vs i):=by
   refine⟨fun i=>if hi:i<p.gs.length then (q6 i hi).2.2.2.choose else 0,fun i hi=>?_⟩
   simp only[hi,dif_pos]
   exact(q6 i hi).2.2.2.choose_spec
  have ev:=ev_half
  refine⟨fun j=>if j=2*p.gs.length+1 then s5 else if j%2=0 then s (j/2) else m (j/2),?_,by simp,fun j hj=>?_,?_,?_,?_⟩
  ·simp;omega
  ·have hj1:¬ j=2*p.gs.length+1:=by omega
   simp only[hj1,if_false]
   by_cases hl:j=2*p.gs.length
   ·subst hl
    simp only[if_true,(ev _).1,(ev _).2.1]
    omega
   ·have hjl:j/2<p.gs.length:=by omega
    have hj2:¬ j+1=2*p.gs.length+1:=by omega
    obtain⟨a1,a2,-,-⟩:=hm _ hjl
    simp only[hj2,if_false]
    rcases Nat.mod_two_eq_zero_or_one j with h2 | h2
    ·rw[if_pos h2,if_neg (by omega),show (j+1)/2=j/2 by omega];exact a1
    ·rw[if_neg (by omega),if_pos (by omega),show (j+1)/2=j/2+1 by omega];exact a2
  ·refine⟨_,_,hv,Nat.le_refl _,?_,.inr ⟨g,0,rfl,q4,fun i hi=>?_⟩⟩
   ·obtain⟨ad',cap',e,g1,g2,_⟩:=A
    omega
   ·obtain⟨r1,r2,r3,r4⟩:=q6 i hi
    obtain⟨a1,a2,a3,a4⟩:=hm i hi
    have n1:¬ 2*i=2*p.gs.length+1:=by omega
    have n2:¬ 2*i+1=2*p.gs.length+1:=by omega
    have n3:¬ 2*i+1+1=2*p.gs.length+1:=by omega
    obtain⟨z1,z2,z3,z4,z5,z6⟩:=ev i
    have hsit:CSits w p.gs[i].1 (us i)/\CSits w p.gs[i].2 (vs i):=by
     obtain⟨ad',cap',e,g1,g2,hp⟩:=A
     rcases hp with hp | ⟨b,off,-,-,hp⟩
     ·omega
     ·obtain⟨u1,u2,-,-,c1,c2⟩:=hp i hi
      exact⟨csits_of_new _ u1 _ _ _ c1 a3,csits_of_new _ u2 _ _ _ c2 a4⟩
    refine⟨us i,vs i,by rw[Nat.zero_add];exact r1,by rw[Nat.zero_add];exact r2,⟨hsit.1,?_⟩,⟨hsit.2,?_⟩⟩
    ·simp only[n1,n2,if_false,z1,z2,z3,z4,if_true]
     exact a3
    ·simp only[n2,n3,if_false,z3,z4,z5,z6,if_true]
     exact a4
  ·obtain⟨z1,z2,-⟩:=ev p.gs.length
   have n1:¬ 2*p.gs.length=2*p.gs.length+1:=by omega
   simp only[n1,if_false,z1,z2,if_true]
   exact F.wide (by omega) (Nat.le_refl _)
  ·obtain⟨cs,o⟩:=q5.2
   refine⟨cs,by simp;omega,by rw[hv];exact own_low _ o q1,fun g' hg'=>?_⟩
   rw[hv] at hg'
   cases hg'
   simp
   omega
theorem RowIn.put {w:World}{lo hi:Nat}{e:TypeId}{k n g cap:Nat}{cs:List Value}(h:RowIn w lo hi e k (.slice (some ⟨g,0,none⟩) n cap) n cs)(j:Nat)(u:Value):RowIn (w.setCell ⟨g,j,none⟩ u) lo hi e k (.slice (some ⟨g,0,none⟩) n cap) n (cs.set j u)/\Rng lo hi w (w.setCell ⟨g,j,none⟩ u):=
 ⟨⟨h.1,(h.2.1.stored j u).1,h.2.2⟩,Rng.set w _ _ (h.2.1.lt g rfl).1 (h.2.2 g rfl)⟩
theorem RowIn.at {w:World}{lo hi:Nat}{e:TypeId}{k n g cap:Nat}{cs:List Value}(h:RowIn w lo hi e k (.slice (some ⟨g,0,none⟩) n cap) n cs)(j:Nat)(hj:j<n*k):(∃ u,w.cell? ⟨g,j,none⟩=some u)/\w.frozen? ⟨g,j,none⟩=false/\g<w.heap.size/\lo<=g/\g<hi:=
 ⟨⟨_,(h.2.1.cellAt j hj).trans (List.getElem?_eq_getElem (by rw[h.2.1.1];exact hj))⟩,h.2.1.frozenAt j,(h.2.1.lt g rfl).2,(h.2.1.lt g rfl).1,h.2.2 g rfl⟩
theorem RowIn.form {w:World}{lo hi:Nat}{e:TypeId}{k n:Nat}{ad:Option Addr}{cap:Nat}{cs:List Value}(h:RowIn w lo hi e k (.slice ad n cap) n cs)(hn:0<n):∃ g,ad=some ⟨g,0,none⟩:=by
 obtain⟨g,c,e,-,-⟩:=h.2.1.form hn
 cases e
 exact⟨g,rfl⟩
theorem RowIn.rng {w w':World}{lo hi lo' hi':Nat}{e:TypeId}{k n:Nat}{v:Value}{cs:List Value}(h:RowIn w lo hi e k v n cs)(r:Rng lo' hi' w w')(hd:hi<=lo'\/hi'<=lo):RowIn w' lo hi e k v n cs:=by
 obtain⟨h0,⟨h1,h2 | ⟨g,cap,cur,h2,h3,h4,h5⟩⟩,h6⟩:=h
 ·exact⟨h0,⟨h1,.inl h2⟩,h6⟩
 ·have hg:=h6 g (by rw[h2];rfl)
  exact⟨h0,⟨h1,.inr ⟨g,cap,cur,h2,h3,(r.block g (by rcases Nat.lt_or_ge g w.heap.size with h | h;exact h;rw[Array.getElem?_eq_none h] at h4;cases h4) (by omega)).trans h4,h5⟩⟩,h6⟩
theorem Box.rng {w w':World}{g lo hi:Nat}{xs:List Value}(h:Box w g xs)(r:Rng lo hi w w')(hg:g<lo\/hi<=g):Box w' g xs:=by
 have hb:=r.block g h.lt (by omega)
 exact⟨fun i v hv=>(World.cell?_of_block (a:=⟨g,i,none⟩) hb).trans (h.cell i v hv),fun i hi=>(World.frozen?_of_block (a:=⟨g,i,none⟩) hb).trans (h.free i hi),Nat.lt_of_lt_of_le h.lt r.size⟩
theorem CopP.rng {w w':World}{p:PlP}{v:PlV}{s0 s1 s2 s3 s4 s5 lo hi:Nat}(h:CopP w p v s0 s1 s2 s3 s4 s5)(r:Rng lo hi w w')(hd:s5<=lo\/hi<=s0):CopP w' p v s0 s1 s2 s3 s4 s5:=
 h.keep r.size (fun b h1 h2=>r.block b (Nat.lt_of_lt_of_le h2 h.top) (by omega))
theorem Rng.below {B lo hi:Nat}{w w0 w':World}(h:Below B w w0)(r:Rng lo hi w0 w')(hB:B<=lo)(hs:B<=w0.heap.size):Below B w w':=
 ⟨r.os.trans h.os,r.tape.trans h.tape,r.output.trans h.output,Nat.le_trans h.size r.size,fun k hk=>(r.block k (by omega) (by omega)).trans (h.block k hk)⟩
theorem cwt_cores {p:PlP}(h:PWt p):∀ c,c∈coresP p->CWt c:=by
 intro c hc
 simp only[coresP,List.mem_append,List.mem_flatten,List.mem_map,List.mem_singleton] at hc
 rcases hc with ⟨l,⟨g,hg,rfl⟩,hc⟩ | rfl
 ·simp only[twoOf,List.mem_cons,List.not_mem_nil,or_false] at hc
  rcases hc with rfl | rfl
  ·exact(h.co g hg).1
  ·exact(h.co g hg).2
 ·exact h.fi
theorem coresP_len (p:PlP):(coresP p).length=2*p.gs.length+1:=by
 have:∀ l:List (Co×Co),((l.map twoOf).flatten).length=2*l.length:=by
  intro l
  induction l with
  | nil=>rfl
  | cons x r ih=>simp only[List.map_cons,List.flatten_cons,List.length_append,List.length_cons,ih,twoOf,List.length_nil];omega
 simp only[coresP,List.length_append,this,List.length_cons,List.length_nil]
end Go.Proofs.YtbgomckkockemaaGreatDoor
