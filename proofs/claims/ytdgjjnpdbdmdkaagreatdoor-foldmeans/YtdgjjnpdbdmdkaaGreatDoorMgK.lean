import Derived.Test.YtdgjjnpdbdmdkaaGreatDoorMgB
import Derived.Test.YtdgjjnpdbdmdkaaGreatDoorMoM
import Derived.Test.YtdgjjnpdbdmdkaaGreatDoorMjB
import Derived.Test.YtdgjjnpdbdmdkaaGreatDoorMgD
import Derived.Lib.LazyBuf
namespace Go.Proofs.YtdgjjnpdbdmdkaaGreatDoor
open Go.RowKit
def a2W (w:World):Co->Nat->Nat->Value->Prop
 | ⟨_,_,_,ps⟩,lo,hi,v=>lo<=hi/\((ps.length=0/\∃ ad,v=.slice ad 0 0)\/∃ (g:Nat) (s:Nat->Nat) (us:Nat->Value),v=.slice (some ⟨g,0,none⟩) ps.length ps.length/\lo<=g/\g<s 0/\s ps.length<=hi/\g<w.heap.size/\(∀ j,j<ps.length*4->w.frozen? ⟨g,j,none⟩=false) /\
     ∀ i (h:i<ps.length),a1D w g (i*4) ps[i] (us i)/\s i<=s (i+1) /\
      (have:SizeOf.sizeOf ps[i]<SizeOf.sizeOf ps:=List.sizeOf_lt_of_mem (List.getElem_mem h);a2W w ps[i] (s i) (s (i+1)) (us i)))
def b7Q (w:World)(ps:List Co)(lo hi:Nat)(v:Value):Prop:=
 lo<=hi/\((ps.length=0/\∃ ad,v=.slice ad 0 0)\/∃ (g:Nat) (s:Nat->Nat) (us:Nat->Value),v=.slice (some ⟨g,0,none⟩) ps.length ps.length/\lo<=g/\g<s 0/\s ps.length<=hi/\g<w.heap.size/\(∀ j,j<ps.length*4->w.frozen? ⟨g,j,none⟩=false) /\
  ∀ i (h:i<ps.length),a1D w g (i*4) ps[i] (us i)/\s i<=s (i+1)/\a2W w ps[i] (s i) (s (i+1)) (us i))
theorem a2s {w:World}{t:Co}{lo hi:Nat}{v:Value}:a2W w t lo hi v↔b7Q w t.parts lo hi v:=by
 cases t
 rw[a2W]
 exact Iff.rfl
theorem a8W {s:Nat->Nat}{n:Nat}(h:∀ i,i<n->s i<=s (i+1)):∀ i j,i<=j->j<=n->s i<=s j:=by
 intro i j hij
 induction j with
 | zero=>intro _;have:i=0:=by omega
         subst this;exact Nat.le_refl _
 | succ j ih=>
   intro hj
   by_cases e:i=j+1
   ·subst e;exact Nat.le_refl _
   ·exact Nat.le_trans (ih (by omega) (by omega)) (h j (by omega))
theorem a2W.keep {w w':World}(hs:w.heap.size<=w'.heap.size)(t:Co):∀ lo hi v,(∀ b,lo<=b->b<hi->w'.heap[b]? = w.heap[b]?)->a2W w t lo hi v->a2W w' t lo hi v:=by
 induction t using Co.ind with
 | h t ih=>
   intro lo hi v hk h
   rw[a2s] at h ⊢
   obtain⟨h0,h | ⟨g,s,us,hv,h1,h2,h3,h4,h5,h6⟩⟩:=h
   ·exact⟨h0,.inl h⟩
   ·have hm:=a8W (fun i hi=>(h6 i hi).2.1)
    have hg:w'.heap[g]? = w.heap[g]?:=hk g h1 (by have:=hm 0 _ (Nat.zero_le _) (Nat.le_refl _);omega)
    refine⟨h0,.inr ⟨g,s,us,hv,h1,h2,h3,by omega,fun j hj=>(World.frozen?_of_block (a:=⟨g,j,none⟩) hg).trans (h5 j hj),fun i hi=>?_⟩⟩
    obtain⟨q1,q2,q3⟩:=h6 i hi
    refine⟨q1.keep (fun j=>World.cell?_of_block (a:=⟨g,j,none⟩) hg),q2,ih _ (List.getElem_mem hi) _ _ _ (fun b hb1 hb2=>hk b ?_ ?_) q3⟩
    ·have:=hm 0 i (Nat.zero_le _) (by omega);omega
    ·have:=hm (i+1) _ (by omega) (Nat.le_refl _);omega
theorem a2W.wide {w:World}{t:Co}{lo hi lo' hi':Nat}{v:Value}(h:a2W w t lo hi v)(h1:lo'<=lo)(h2:hi<=hi'):a2W w t lo' hi' v:=by
 rw[a2s] at h ⊢
 obtain⟨h0,h | ⟨g,s,us,hv,q1,q2,q3,q4⟩⟩:=h
 ·exact⟨by omega,.inl h⟩
 ·exact⟨by omega,.inr ⟨g,s,us,hv,by omega,q2,by omega,q4⟩⟩
theorem a1f {w0 w:World}(t:Co):∀ v u lo hi,a0l w0 t v->a2W w t lo hi u->a0l w t u:=by
 induction t using Co.ind with
 | h t ih=>
   intro v u lo hi hs hn
   rw[a1k] at hs ⊢
   rw[a2s] at hn
   refine⟨hs.1,?_⟩
   obtain⟨-,⟨h1,ad,rfl⟩ | ⟨g,s,us,rfl,q1,q2,q3,q4,q5,q6⟩⟩:=hn
   ·exact⟨ad,0,by rw[h1],by omega,by omega,.inl h1⟩
   ·obtain⟨ad,cap,hv,hl,hc,hp⟩:=hs.2
    refine⟨_,_,rfl,Nat.le_refl _,by omega,.inr ⟨g,0,rfl,q4,fun i hi=>?_⟩⟩
    rcases hp with hp | ⟨b,off,-,-,hp⟩
    ·omega
    ·obtain⟨u',-,hu'⟩:=hp i hi
     exact⟨us i,by rw[Nat.zero_add];exact(q6 i hi).1,ih _ (List.getElem_mem hi) u' _ _ _ hu' (q6 i hi).2.2⟩
theorem a9D {w0 w:World}{ps:List Co}{v u:Value}{lo hi:Nat}(hs:CAt w0 v ps)(hn:b7Q w ps lo hi u):CAt w u ps:=by
 obtain⟨-,⟨h1,ad,rfl⟩ | ⟨g,s,us,rfl,q1,q2,q3,q4,q5,q6⟩⟩:=hn
 ·exact⟨ad,0,by rw[h1],by omega,by omega,.inl h1⟩
 ·obtain⟨ad,cap,hv,hl,hc,hp⟩:=hs
  refine⟨_,_,rfl,Nat.le_refl _,by omega,.inr ⟨g,0,rfl,q4,fun i hi=>?_⟩⟩
  rcases hp with hp | ⟨b,off,-,-,hp⟩
  ·omega
  ·obtain⟨u',-,hu'⟩:=hp i hi
   exact⟨us i,by rw[Nat.zero_add];exact(q6 i hi).1,a1f _ u' _ _ _ hu' (q6 i hi).2.2⟩
structure b6K (w3:World)(g:Nat)(ps:List Co)(k:Nat)(xs:List (Co×Value))(s:Nat->Nat)(wr:World):Prop where
 len:xs.length=ps.length
 box:Box wr g (flC xs)
 s0:g<s 0
 mono:∀ i,i<k->s i<=s (i+1)
 top:s k<=wr.heap.size
 it:∀ i (h:i<ps.length) (h2:i<xs.length),i<k->xs[i].1=ps[i]/\a2W wr ps[i] (s i) (s (i+1)) xs[i].2
 turn:a0v [g] w3 wr
theorem b6K.row {w3 wr:World}{g lo:Nat}{ps:List Co}{xs:List (Co×Value)}{s:Nat->Nat}(h:b6K w3 g ps ps.length xs s wr)(hlo:lo<=g):b7Q wr ps lo wr.heap.size (.slice (some ⟨g,0,none⟩) ps.length ps.length):=by
 have hg:=h.box.lt
 refine⟨by omega,.inr ⟨g,s,fun i=>(xs.getD i (⟨0,0,0,[]⟩,.slice none 0 0)).2,rfl,hlo,h.s0,h.top,hg,fun j hj=>h.box.free j (by rw[a2U,h.len];exact hj),fun i hi=>?_⟩⟩
 have hx:i<xs.length:=by rw[h.len];exact hi
 obtain⟨e1,e2⟩:=h.it i hi hx hi
 have eu:(xs.getD i (⟨0,0,0,[]⟩,.slice none 0 0))=xs[i]:=by simp[List.getD,hx]
 simp only[eu]
 have hc:=fun j u hu=>h.box.cell (i*4+j) u (a4A xs i hx j u hu)
 rw[<-e1]
 exact⟨⟨hc 0 _ rfl,hc 1 _ rfl,hc 2 _ rfl,hc 3 _ rfl⟩,h.mono i hi,by rw[e1];exact e2⟩
theorem b5U (xs:List (Co×Value))(k:Nat)(hk:k<xs.length)(x:Co×Value):flC (xs.set k x)=((((flC xs).set (k*4) (.int .i64 x.1.op)).set (k*4+1) (.int .i64 x.1.n)).set (k*4+2) (.int .i64 x.1.m)).set (k*4+3) x.2:=by
 induction xs generalizing k with
 | nil=>simp at hk
 | cons y r ih=>
   cases k with
   | zero=>simp[flC]
   | succ k=>
     have:=ih k (by simpa using hk)
     simp only[flC,List.set_cons_succ,List.map_cons,List.flatten_cons] at this ⊢
     rw[this]
     have e0:(k+1)*4=k*4+1+1+1+1:=by omega
     simp only[e0,List.cons_append,List.nil_append,List.set_cons_succ]
theorem a0i {S:List Nat}{w w' w'':World}(h:a0v S w w')(k:a0v S w' w''):a0v S w w'':=h.trans k (fun _ hi=>.inl hi)
theorem b6K.more {w3 wr w':World}{g k:Nat}{ps:List Co}{xs:List (Co×Value)}{s:Nat->Nat}{u:Value}(h:b6K w3 g ps k xs s wr)(hk:k<ps.length)(b:Below wr.heap.size wr w'){lo:Nat}(hlo:wr.heap.size<=lo)(hn:a2W w' ps[k] lo w'.heap.size u):
 b6K w3 g ps (k+1) (xs.set k (ps[k],u)) (fun i=>if i<=k then s i else w'.heap.size) ((((w'.setCell ⟨g,k*4,none⟩ (.int .i64 ps[k].op)).setCell ⟨g,k*4+1,none⟩ (.int .i64 ps[k].n)).setCell ⟨g,k*4+2,none⟩ (.int .i64 ps[k].m)).setCell ⟨g,k*4+3,none⟩ u):=by
 have hx:k<xs.length:=by rw[h.len];exact hk
 have hm:=a8W h.mono
 have hgs:g<s k:=Nat.lt_of_lt_of_le h.s0 (hm 0 k (Nat.zero_le _) (Nat.le_refl _))
 have htop:=h.top
 have hsz:=b.size
 have B:=h.box.next b
 have hlen:(flC xs).length=xs.length*4:=a2U xs
 have T:a0v [g] w' ((((w'.setCell ⟨g,k*4,none⟩ (.int .i64 ps[k].op)).setCell ⟨g,k*4+1,none⟩ (.int .i64 ps[k].n)).setCell ⟨g,k*4+2,none⟩ (.int .i64 ps[k].m)).setCell ⟨g,k*4+3,none⟩ u):=
  a0i (a0i (a0i (a0v.set w' _ _ (by simp)) (a0v.set _ _ _ (by simp))) (a0v.set _ _ _ (by simp))) (a0v.set _ _ _ (by simp))
 have T0:a0v [g] wr w':=⟨b.os,b.tape,b.output,b.size,fun q hq _=>b.block q hq⟩
 have hW:=T.size
 have key:∀ (q:Co) lo' hi' v,g<lo'->hi'<=w'.heap.size->a2W w' q lo' hi' v->a2W ((((w'.setCell ⟨g,k*4,none⟩ (.int .i64 ps[k].op)).setCell ⟨g,k*4+1,none⟩ (.int .i64 ps[k].n)).setCell ⟨g,k*4+2,none⟩ (.int .i64 ps[k].m)).setCell ⟨g,k*4+3,none⟩ u) q lo' hi' v:=
  fun q lo' hi' v h1 h2 h3=>a2W.keep T.size q lo' hi' v (fun b' hb1 hb2=>T.block b' (by omega) (by simp;omega)) h3
 refine⟨by rw[List.length_set,h.len],?_,by simpa using h.s0,fun i hi=>?_,?_,fun i hi hi2 hik=>?_,a0i h.turn (a0i T0 T)⟩
 ·rw[b5U xs k hx]
  exact(((B.set (k*4) (by omega) _).set (k*4+1) (by simp;omega) _).set (k*4+2) (by simp;omega) _).set (k*4+3) (by simp;omega) _
 ·by_cases e:i=k
  ·subst e
   simp only[Nat.le_refl,if_true,show ¬ i+1<=i by omega,if_false]
   omega
  ·have:=h.mono i (by omega)
   simp only[show i<=k by omega,show i+1<=k by omega,if_true]
   exact this
 ·simp only[show ¬ k+1<=k by omega,if_false]
  exact hW
 ·by_cases e:i=k
  ·subst e
   simp only[List.getElem_set_self,Nat.le_refl,if_true,show ¬ i+1<=i by omega,if_false]
   exact⟨trivial,key _ _ _ _ (by omega) (Nat.le_refl _) (hn.wide (by omega) (Nat.le_refl _))⟩
  ·have hi3:i<xs.length:=by simpa using hi2
   obtain⟨q1,q2⟩:=h.it i hi hi3 (by omega)
   rw[List.getElem_set_ne (fun e2=>e e2.symm)]
   simp only[show i<=k by omega,show i+1<=k by omega,if_true]
   have h1:=hm 0 i (Nat.zero_le _) (by omega)
   have h2:=hm (i+1) k (by omega) (Nat.le_refl _)
   have h0:=h.s0
   refine⟨q1,key _ _ _ _ (by omega) (by omega) (a2W.keep b.size _ _ _ _ (fun b' hb1 hb2=>b.block b' (by omega)) q2)⟩
def CWt:Co->Prop
 | ⟨_,_,_,ps⟩=>ps.length*48<=140737488355328/\∀ x (h:x∈ps),(have:SizeOf.sizeOf x<SizeOf.sizeOf ps:=List.sizeOf_lt_of_mem h;CWt x)
theorem a8i {t:Co}:CWt t↔t.parts.length*48<=140737488355328/\∀ x,x∈t.parts->CWt x:=by
 cases t
 rw[CWt]
theorem a9q (n:Nat):(madeCells (coV ⟨0,0,0,[]⟩ (.slice none 0 0)).cells (n*4)).toList=flC (List.replicate n ((⟨0,0,0,[]⟩:Co),Value.slice none 0 0)):=by
 apply List.ext_getElem?
 intro i
 by_cases hi:i<n*4
 ·have h1:i/4<(List.replicate n ((⟨0,0,0,[]⟩:Co),Value.slice none 0 0)).length:=by simp;omega
  have hm:i%4=0\/i%4=1\/i%4=2\/i%4=3:=by omega
  have hd:i/4*4+i%4=i:=by omega
  have hL:(madeCells (coV ⟨0,0,0,[]⟩ (.slice none 0 0)).cells (n*4)).toList[i]? = some ((coV ⟨0,0,0,[]⟩ (.slice none 0 0)).cells[i%4]!):=by
   have:(coV ⟨0,0,0,[]⟩ (.slice none 0 0)).cells.size=4:=rfl
   simp[madeCells,hi,this]
  rw[hL]
  have hR:=a4A (List.replicate n ((⟨0,0,0,[]⟩:Co),Value.slice none 0 0)) (i/4) h1 (i%4)
  rw[hd] at hR
  symm
  apply hR
  rw[List.getElem_replicate]
  rcases hm with h | h | h | h<;>rw[h]<;>rfl
 ·rw[List.getElem?_eq_none (by simp[size_madeCells];omega),List.getElem?_eq_none (by rw[a2U];simp;omega)]
def b9r (t:Co):Prop:=∀ (v:Value) (w:World),a0l w t v->Calls Tryz.prog 43 #[coV t v] w fun e w'=>∃ u,e=.returned (coV t u)/\a0l w' t u/\a2W w' t w.heap.size w'.heap.size u/\Below w.heap.size w w'
set_option maxHeartbeats 4000000 in
set_option maxRecDepth 20000 in
theorem b6f (ps:List Co)(hl:ps.length*48<=140737488355328)(ih:∀ x,x∈ps->b9r x)(v:Value)(w:World)(hs:CAt w v ps):
 Calls Tryz.prog 78 #[v,.func (.func 43) #[] #[]] w fun e w'=>∃ u,e=.returned u/\CAt w' u ps/\b7Q w' ps w.heap.size w'.heap.size u/\Below w.heap.size w w':=by
 obtain⟨ad,cap,rfl,hle,hcap⟩:=hs.shape
 have HL:=a0a hs
 obtain⟨N,hN⟩:∃ N,Hid (N=ps.length):=⟨_,rfl⟩
 rw[<-hN.out] at hl hle ⊢
 rw[<-hN.out] at HL
 obtain⟨i0,hi,hz0,hz1,hz2⟩:=a3e
 have hnil:=fun W:World=>run_eql_slice_nil (P:=Tryz.prog) W 28 30 ad N cap Tryz.underlying28
 cases ad with
 | none=>
   have hn0:ps.length=0:=by
    rcases Nat.eq_zero_or_pos ps.length with h | h
    ·exact h
    ·obtain⟨b,off,cap',e,-⟩:=HL.out.open h
     simp at e
   go_enter Tryz.func78,Tryz.ntmps78
   go_wp2_with fail
   go_ret
   exact⟨.slice none 0 0,rfl,⟨none,0,by rw[hn0],by omega,by omega,.inl hn0⟩,⟨Nat.le_refl _,.inl ⟨hn0,none,rfl⟩⟩,Below.refl _ _⟩
 | some a=>
   go_enter Tryz.func78,Tryz.ntmps78
   go_wp2_with (at_make;refine wpList_make_full _ rfl _ _ 28 rfl w.heap.size 30 i0 (coV ⟨0,0,0,[]⟩ (.slice none 0 0)) 4 Tryz.underlying28 hi hz0 hz1 _ _ _ _ N rfl rfl rfl rfl (by rw[hz2];omega) (by unfold maxLen;omega) (Nat.le_refl _) ?_;intro w3 hown hgrow;have hb3:Below w.heap.size w w3:=(Below.refl _ _).grown hgrow (Nat.le_refl _) (by simp);have HB3:=a0a hb3;have HO:=a0a hown;clear hb3 hown hgrow)
   have hI0:Hid (b6K w3 w.heap.size ps 0 (List.replicate N ((⟨0,0,0,[]⟩:Co),Value.slice none 0 0)) (fun _=>w.heap.size+1) w3):=by
    have hb:Box w3 w.heap.size (flC (List.replicate N ((⟨0,0,0,[]⟩:Co),Value.slice none 0 0))):=by
     rcases a4S HO.out with ⟨h,_⟩ | ⟨g,c,h,_,hb⟩
     ·cases h
     ·simp only[Value.slice.injEq,Option.some.injEq,Addr.mk.injEq,and_true] at h
      obtain⟨⟨rfl,_⟩,_⟩:=h
      rw[a9q] at hb
      exact hb
    exact a0a ⟨by rw[List.length_replicate];exact hN.out,hb,by omega,(fun i hi=>by omega),hb.lt,(fun i _ _ hi=>by omega),a0v.refl _ _⟩
   have HIh:=a0a ih
   obtain⟨g,hg⟩:∃ g,Hid (g=w.heap.size):=⟨_,rfl⟩
   rw[<-hg.out] at hI0 ⊢
   clear HO hi hz0 hz1 hz2 ih hnil hs
   go_loopw [15] (fun i wr=>∃ (k:Nat) (xs:List (Co×Value)) (s:Nat->Nat),i=.int .i64 (k:Nat)/\k<=N/\Hid (b6K w3 g ps k xs s wr)) (fun i _=>match i with | .int _ p=>((N:Int)-p).toNat | _=>0)
   case atStart=>exact⟨0,_,_,rfl,by omega,hI0⟩
   case round=>
    obtain⟨k,xs,s,rfl,hk,HI⟩:=hrel
    have HBr:Hid (Below w.heap.size w wr):=by
     have b:=HB3.out
     have t:=HI.out.turn
     exact a0a ⟨t.os.trans b.os,t.tape.trans b.tape,t.output.trans b.output,Nat.le_trans b.size t.size,fun q hq=>(t.block q (Nat.lt_of_lt_of_le hq b.size) (by have:=hg.out;simp;omega)).trans (b.block q hq)⟩
    by_cases hlt:k<N
    ·have hlt':(k:Int)<(N:Int):=by omega
     have hl1:k<ps.length:=by rw[<-hN.out];exact hlt
     obtain⟨b,off,cap',hv,-,-,hbl,hx⟩:=HL.out.open (by omega)
     simp only[Value.slice.injEq,Option.some.injEq] at hv
     obtain⟨rfl,-,rfl⟩:=hv
     obtain⟨u,h6,hu⟩:=hx k hl1
     have y0:=a0d HBr.out h6.c0
     have y1:=a0d HBr.out h6.c1
     have y2:=a0d HBr.out h6.c2
     have y3:=a0d HBr.out h6.c3
     have lbr:b<wr.heap.size:=World.block_lt_of_cell? wr _ y0
     have HC:=a0a (HIh.out _ (List.getElem_mem hl1))
     have HU:=a0a hu
     have HMo:=a0a (fun w' u hb lo hlo hn=>HI.out.more (w':=w') (u:=u) hl1 hb (lo:=lo) hlo hn)
     have hgl:=HI.out.box.lt
     have hxk:k<xs.length:=by rw[HI.out.len];exact hl1
     have HFr:Hid (∀ j,j<4->k*4+j<(flC xs).length):=fun j hj=>by rw[a2U];omega
     have HCe:Hid (∀ j u,(coL xs[k].1 xs[k].2)[j]? = some u->(flC xs)[k*4+j]? = some u):=fun j u h=>a4A xs k hxk j u h
     generalize xs[k]=xk at *
     obtain⟨au,cu,rfl,-,-⟩:=hu.parts.shape
     clear h6 hu hx
     generalize ps[k]=t at *
     have ba:=(Below.refl wr.heap.size wr).alloc (Nat.le_refl _) (.cells #[.int .i64 t.op,.int .i64 t.n,.int .i64 t.m,.slice au t.parts.length cu] 30)
     have BA:=a0a ba
     clear ba
     go_wp2_with fail
     refine Calls.mono (HC.out _ _ (HU.out.next (a0b HBr.out BA.out HBr.out.size))) ?_
     rintro e w4 ⟨u,rfl,su,nu,b4⟩
     have B4:=kb BA b4
     have M:=a0a (HMo.out w4 _ B4.out _ BA.out.size nu)
     obtain⟨a4,c4,rfl,-,-⟩:=su.parts.shape
     have X:=HI.out.box.next B4.out
     have z0:=X.cell (k*4) _ (HCe.out 0 _ rfl)
     have z1:=X.cell (k*4+1) _ (HCe.out 1 _ rfl)
     have z2:=X.cell (k*4+2) _ (HCe.out 2 _ rfl)
     have z3:=X.cell (k*4+3) _ (HCe.out 3 _ rfl)
     have f0:=X.free (k*4) (HFr.out 0 (by decide))
     have f1:=X.free (k*4+1) (HFr.out 1 (by decide))
     have f2:=X.free (k*4+2) (HFr.out 2 (by decide))
     have f3:=X.free (k*4+3) (HFr.out 3 (by decide))
     have xl:=X.lt
     clear X su nu b4 BA HMo HCe HFr HU HC y0 y1 y2 y3
     go_wp2_with fail
     go_roundw
     ·exact⟨k+1,_,_,by simp,by omega,M⟩
     ·simp;omega
    ·have hkN:k=N:=by omega
     subst hkN
     have hR:Hid (b7Q wr ps w.heap.size wr.heap.size (.slice (some ⟨g,0,none⟩) k k)):=by
      have h:=HI.out
      rw[hN.out] at h ⊢
      exact a0a (h.row (by rw[hg.out];exact Nat.le_refl _))
     go_wp2_with fail
     go_ret
     exact⟨_,rfl,a9D HL.out hR.out,hR.out,HBr.out⟩
theorem a4v (t:Co):CWt t->b9r t:=by
 induction t using Co.ind with
 | h t ih=>
   intro hn v w hs
   have HE:=a0a (fun W (hW:Below w.heap.size w W)=>b6f t.parts (a8i.1 hn).1 (fun x hx=>ih x hx ((a8i.1 hn).2 x hx)) v W (hs.parts.next hW))
   have HS:=a0a hs
   obtain⟨au,cu,rfl,-,-⟩:=hs.parts.shape
   obtain⟨Y0,Y1,Y2⟩:=a0k w 30 30 (coL t (.slice au t.parts.length cu)) [.int .i64 0,.int .i64 0,.int .i64 0,.slice none 0 0]
   have HY0:=a0a Y0
   have HY1:=a0a Y1
   have B0:=a0a Y2
   obtain⟨x0,x1,x2,x3⟩:=Box.c4 Y0
   have xl:=Y0.lt
   clear hs ih Y0 Y1 Y2
   go_enter Tryz.func43,Tryz.ntmps43
   go_wp2_with fail
   refine Calls.mono (HE.out _ B0.out) ?_
   rintro e w1 ⟨u,rfl,su,nu,b⟩
   obtain⟨a1,c1,rfl,-,-⟩:=su.shape
   have B1:=kb B0 b
   have HNu:Hid (a2W w1 t (w.heap.size+1+1) w1.heap.size (.slice a1 t.parts.length c1)):=(a2s.2 nu).wide (by simp) (Nat.le_refl _)
   replace HY0:=kn HY0 b
   replace HY1:=kn HY1 b
   clear x0 x1 x2 x3 xl su nu b HE B0
   obtain⟨x0,x1,x2,x3⟩:=Box.c4 HY0.out
   have xf:=HY0.out.free 3 (by simp)
   have xl:=HY0.out.lt
   obtain⟨y0,y1,y2,y3⟩:=Box.c4 HY1.out
   have g0:=HY1.out.free 0 (by simp)
   have g1:=HY1.out.free 1 (by simp)
   have g2:=HY1.out.free 2 (by simp)
   have g3:=HY1.out.free 3 (by simp)
   have yl:=HY1.out.lt
   go_wp2_with fail
   refine bodyPost_ret (v:=coV t (.slice a1 t.parts.length c1)) (by simp[results,Tryz.results43,go_sem, *]) rfl ?_
   have T:a0v [w.heap.size,w.heap.size+1] w1 (((((w1.setCell ⟨w.heap.size,3,none⟩ (.slice a1 t.parts.length c1)).setCell ⟨w.heap.size+1,0,none⟩ (.int .i64 t.op)).setCell ⟨w.heap.size+1,1,none⟩ (.int .i64 t.n)).setCell ⟨w.heap.size+1,2,none⟩ (.int .i64 t.m)).setCell ⟨w.heap.size+1,3,none⟩ (.slice a1 t.parts.length c1)):=
    a0i (a0i (a0i (a0i (a0v.set w1 _ _ (by simp)) (a0v.set _ _ _ (by simp))) (a0v.set _ _ _ (by simp))) (a0v.set _ _ _ (by simp))) (a0v.set _ _ _ (by simp))
   have N:=a2W.keep T.size t _ _ _ (fun b hb1 hb2=>T.block b hb2 (by simp;omega)) HNu.out
   exact⟨_,rfl,a1f t _ _ _ _ HS.out N,N.wide (by omega) T.size,((((B1.out.setCell (Nat.le_refl _) _).setCell (by simp) _).setCell (by simp) _).setCell (by simp) _).setCell (by simp) _⟩
theorem a6S {ops:Array Oper}{o:Oper}{a:Act}{w:World}{K:Act->World->Prop}{Q:Exit->Act->World->Prop}{E:Prop}(hgd:o.guard=none){t:Co}(C:b9r t)(v:Value)(hs:a0l w t v)
 (he:(execOp a.eval o).run Tryz.prog w=.ok (.enter 43 #[coV t v]) w)
 (hK:∀ ad c w',a0l w' t (.slice ad t.parts.length c)->a2W w' t w.heap.size w'.heap.size (.slice ad t.parts.length c)->Below w.heap.size w w'->K (a.put o.dst (coV t (.slice ad t.parts.length c))) w') :
 if Region.wanted o (yielded ops a.tmps)=true then Oper.wp Tryz.prog o a w K Q else E:=by
 have hwd:Region.wanted o (yielded ops a.tmps)=true:=by simp[Region.wanted,hgd]
 rw[if_pos hwd]
 unfold Oper.wp
 rw[he,Oper.upon_enter]
 refine(C v w hs).mono fun e w' h=>?_
 obtain⟨u,rfl,h1,h2,h3⟩:=h
 obtain⟨ad,c,rfl,-,-⟩:=h1.parts.shape
 exact hK ad c w' h1 h2 h3
set_option maxHeartbeats 4000000 in
set_option maxRecDepth 20000 in
theorem a8m (x y:Co)(hx:CWt x)(hy:CWt y)(v u:Value)(w:World)(sx:a0l w x v)(sy:a0l w y u):
 Calls Tryz.prog 42 #[.agg #[.int .i64 x.op,.int .i64 x.n,.int .i64 x.m,v,.int .i64 y.op,.int .i64 y.n,.int .i64 y.m,u]] w fun e w'=>∃ v' u' m,e=.returned (.agg #[.int .i64 x.op,.int .i64 x.n,.int .i64 x.m,v',.int .i64 y.op,.int .i64 y.n,.int .i64 y.m,u'])/\a0l w' x v'/\a0l w' y u'/\a2W w' x w.heap.size m v'/\a2W w' y m w'.heap.size u'/\Below w.heap.size w w':=by
 have HX:=a0a (a4v x hx)
 have HY:=a0a (a4v y hy)
 have SX:=a0a sx
 have SY:=a0a sy
 obtain⟨a1,c1,rfl,-,-⟩:=sx.parts.shape
 obtain⟨a2,c2,rfl,-,-⟩:=sy.parts.shape
 obtain⟨Y0,Y1,Y2⟩:Box ((w.alloc (.cells #[.int .i64 x.op,.int .i64 x.n,.int .i64 x.m,.slice a1 x.parts.length c1,.int .i64 y.op,.int .i64 y.n,.int .i64 y.m,.slice a2 y.parts.length c2] 58)).alloc (.cells #[.int .i64 0,.int .i64 0,.int .i64 0,.slice none 0 0,.int .i64 0,.int .i64 0,.int .i64 0,.slice none 0 0] 58)) w.heap.size [.int .i64 x.op,.int .i64 x.n,.int .i64 x.m,.slice a1 x.parts.length c1,.int .i64 y.op,.int .i64 y.n,.int .i64 y.m,.slice a2 y.parts.length c2]/\Box ((w.alloc (.cells #[.int .i64 x.op,.int .i64 x.n,.int .i64 x.m,.slice a1 x.parts.length c1,.int .i64 y.op,.int .i64 y.n,.int .i64 y.m,.slice a2 y.parts.length c2] 58)).alloc (.cells #[.int .i64 0,.int .i64 0,.int .i64 0,.slice none 0 0,.int .i64 0,.int .i64 0,.int .i64 0,.slice none 0 0] 58)) (w.heap.size+1) [.int .i64 0,.int .i64 0,.int .i64 0,.slice none 0 0,.int .i64 0,.int .i64 0,.int .i64 0,.slice none 0 0]/\Below w.heap.size w ((w.alloc (.cells #[.int .i64 x.op,.int .i64 x.n,.int .i64 x.m,.slice a1 x.parts.length c1,.int .i64 y.op,.int .i64 y.n,.int .i64 y.m,.slice a2 y.parts.length c2] 58)).alloc (.cells #[.int .i64 0,.int .i64 0,.int .i64 0,.slice none 0 0,.int .i64 0,.int .i64 0,.int .i64 0,.slice none 0 0] 58)):=a0k w 58 58 [.int .i64 x.op,.int .i64 x.n,.int .i64 x.m,.slice a1 x.parts.length c1,.int .i64 y.op,.int .i64 y.n,.int .i64 y.m,.slice a2 y.parts.length c2] [.int .i64 0,.int .i64 0,.int .i64 0,.slice none 0 0,.int .i64 0,.int .i64 0,.int .i64 0,.slice none 0 0]
 obtain⟨x0,x1,x2,x3⟩:=Box.c4 Y0
 have x4:=Y0.cell 4 _ rfl
 have x5:=Y0.cell 5 _ rfl
 have x6:=Y0.cell 6 _ rfl
 have x7:=Y0.cell 7 _ rfl
 have xl:=Y0.lt
 have HY0:=a0a Y0
 have HY1:=a0a Y1
 have B0:=a0a Y2
 clear sx sy Y0 Y1 Y2
 go_enter Tryz.func42,Tryz.ntmps42
 go_wp2_with fail
 have hsz0:Hid (w.heap.size+1+1<=((w.alloc (.cells #[.int .i64 x.op,.int .i64 x.n,.int .i64 x.m,.slice a1 x.parts.length c1,.int .i64 y.op,.int .i64 y.n,.int .i64 y.m,.slice a2 y.parts.length c2] 58)).alloc (.cells #[.int .i64 0,.int .i64 0,.int .i64 0,.slice none 0 0,.int .i64 0,.int .i64 0,.int .i64 0,.slice none 0 0] 58)).heap.size):=a0a (by simp)
 generalize hw0:(w.alloc (.cells #[.int .i64 x.op,.int .i64 x.n,.int .i64 x.m,.slice a1 x.parts.length c1,.int .i64 y.op,.int .i64 y.n,.int .i64 y.m,.slice a2 y.parts.length c2] 58)).alloc (.cells #[.int .i64 0,.int .i64 0,.int .i64 0,.slice none 0 0,.int .i64 0,.int .i64 0,.int .i64 0,.slice none 0 0] 58)=w0 at *
 clear hw0
 go_region_law (first
  | (refine a6S rfl HY.out (.slice a2 y.parts.length c2) (SY.out.next B60.out) (by first | rfl | go_simp) ?_;intro a61 c61 w61 s61 n61 b61;have B61:=kb B60 b61;have Z61:=a0a (HY1.out.next (a0b K60.out b61 K60.out.size));have z0:=Z61.out.cell 0 _ rfl;have z1:=Z61.out.cell 1 _ rfl;have z2:=Z61.out.cell 2 _ rfl;have z3:=Z61.out.cell 3 _ rfl;have z4:=Z61.out.cell 4 _ rfl;have z5:=Z61.out.cell 5 _ rfl;have z6:=Z61.out.cell 6 _ rfl;have z7:=Z61.out.cell 7 _ rfl;have f0:=Z61.out.free 0 (by simp);have f1:=Z61.out.free 1 (by simp);have f2:=Z61.out.free 2 (by simp);have f3:=Z61.out.free 3 (by simp);have f4:=Z61.out.free 4 (by simp);have f5:=Z61.out.free 5 (by simp);have f6:=Z61.out.free 6 (by simp);have f7:=Z61.out.free 7 (by simp);have l61:=Z61.out.lt;have N61:=a0a n61;have b61':=a0a b61;clear b61 n61 s61)
  | (refine a6S rfl HX.out (.slice a1 x.parts.length c1) (SX.out.next (a0b B0.out (Below.refl _ _).drew B0.out.size)) (by first | rfl | go_simp) ?_;intro a60 c60 w60 s60 n60 b60;have K60:=a0a (a0b (Below.refl w0.heap.size w0).drew b60 (Below.refl w0.heap.size w0).drew.size);have B60:=a0a (a0b B0.out K60.out B0.out.size);have Y60:=a0a (HY0.out.next K60.out);have d4:=Y60.out.cell 4 _ rfl;have d5:=Y60.out.cell 5 _ rfl;have d6:=Y60.out.cell 6 _ rfl;have d7:=Y60.out.cell 7 _ rfl;have l60:=Y60.out.lt;have N60:=a0a n60;clear b60 n60 s60))
 all_goals go_wp2_with fail
 all_goals (
  refine bodyPost_ret (v:=.agg #[.int .i64 x.op,.int .i64 x.n,.int .i64 x.m,.slice a60 x.parts.length c60,.int .i64 y.op,.int .i64 y.n,.int .i64 y.m,.slice a61 y.parts.length c61]) (by simp[results,Tryz.results42,go_sem, *]) rfl ?_
  have T:a0v [w.heap.size+1] w61 ((((((((w61.setCell ⟨w.heap.size+1,0,none⟩ (.int .i64 x.op)).setCell ⟨w.heap.size+1,1,none⟩ (.int .i64 x.n)).setCell ⟨w.heap.size+1,2,none⟩ (.int .i64 x.m)).setCell ⟨w.heap.size+1,3,none⟩ (.slice a60 x.parts.length c60)).setCell ⟨w.heap.size+1,4,none⟩ (.int .i64 y.op)).setCell ⟨w.heap.size+1,5,none⟩ (.int .i64 y.n)).setCell ⟨w.heap.size+1,6,none⟩ (.int .i64 y.m)).setCell ⟨w.heap.size+1,7,none⟩ (.slice a61 y.parts.length c61)):=a0i (a0i (a0i (a0i (a0i (a0i (a0i (a0v.set w61 _ _ (by simp)) (a0v.set _ _ _ (by simp))) (a0v.set _ _ _ (by simp))) (a0v.set _ _ _ (by simp))) (a0v.set _ _ _ (by simp))) (a0v.set _ _ _ (by simp))) (a0v.set _ _ _ (by simp))) (a0v.set _ _ _ (by simp))
  have hz:=hsz0.out
  have hz2:w0.heap.size<=w60.heap.size:=K60.out.size
  have hz3:=b61'.out.size
  have N1:a2W w60 x w0.heap.size w60.heap.size (.slice a60 x.parts.length c60):=N60.out
  have N2:=a2W.keep b61'.out.size x _ _ _ (fun b hb1 hb2=>b61'.out.block b hb2) N1
  have N3:=a2W.keep T.size x _ _ _ (fun b hb1 hb2=>T.block b (by omega) (by simp;omega)) N2
  have N4:=a2W.keep T.size y _ _ _ (fun b hb1 hb2=>T.block b hb2 (by simp;omega)) N61.out
  exact⟨_,_,w60.heap.size,rfl,a1f x _ _ _ _ SX.out N3,a1f y _ _ _ _ SY.out N4,N3.wide (by omega) (Nat.le_refl _),N4.wide (Nat.le_refl _) T.size,(((((((B61.out.setCell (by simp) _).setCell (by simp) _).setCell (by simp) _).setCell (by simp) _).setCell (by simp) _).setCell (by simp) _).setCell (by simp) _).setCell (by simp) _⟩)
end Go.Proofs.YtdgjjnpdbdmdkaaGreatDoor
