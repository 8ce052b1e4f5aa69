import Derived.Test.YtkbmgloilckdhaaGreatDoorMgB
import Derived.Test.YtkbmgloilckdhaaGreatDoorMbM
import Derived.Test.YtkbmgloilckdhaaGreatDoorMjB
import Derived.Test.YtkbmgloilckdhaaGreatDoorMgD
import Derived.Lib.LazyBuf
import Derived.Test.YtkbmgloilckdhaaGreatDoorMgM
import Derived.Test.YtkbmgloilckdhaaGreatDoorMgP
import Derived.Deep.AppendLies
import Derived.Deep.RegionLaw
section
namespace Go.Proofs.YtkbmgloilckdhaaGreatDoor
open Go.RowKit
def a3d (w:World):Co->Nat->Nat->Value->Prop
 | ⟨_,_,_,ps⟩,lo,hi,v=>lo<=hi/\((ps.length=0/\∃ ad,v=.slice ad 0 0)\/∃ (g:Nat) (s:Nat->Nat) (us:Nat->Value),v=.slice (some ⟨g,0,none⟩) ps.length ps.length/\lo<=g/\g<s 0/\s ps.length<=hi/\g<w.heap.size/\(∀ j,j<ps.length*4->w.frozen? ⟨g,j,none⟩=false) /\
     ∀ i (h:i<ps.length),a2G w g (i*4) ps[i] (us i)/\s i<=s (i+1) /\
      (have:SizeOf.sizeOf ps[i]<SizeOf.sizeOf ps:=List.sizeOf_lt_of_mem (List.getElem_mem h);a3d w ps[i] (s i) (s (i+1)) (us i)))
def b8h (w:World)(ps:List Co)(lo hi:Nat)(v:Value):Prop:=
 lo<=hi/\((ps.length=0/\∃ ad,v=.slice ad 0 0)\/∃ (g:Nat) (s:Nat->Nat) (us:Nat->Value),v=.slice (some ⟨g,0,none⟩) ps.length ps.length/\lo<=g/\g<s 0/\s ps.length<=hi/\g<w.heap.size/\(∀ j,j<ps.length*4->w.frozen? ⟨g,j,none⟩=false) /\
  ∀ i (h:i<ps.length),a2G w g (i*4) ps[i] (us i)/\s i<=s (i+1)/\a3d w ps[i] (s i) (s (i+1)) (us i))
theorem a2r {w:World}{t:Co}{lo hi:Nat}{v:Value}:a3d w t lo hi v↔b8h w t.parts lo hi v:=by
 cases t
 rw[a3d]
 exact Iff.rfl
theorem a8U {s:Nat->Nat}{n:Nat}(h:∀ i,i<n->s i<=s (i+1)):∀ i j,i<=j->j<=n->s i<=s j:=by
 intro i j hij
 induction j with
 | zero=>intro _;have:i=0:=by omega
         subst this;exact Nat.le_refl _
 | succ j ih=>
   intro hj
   by_cases e:i=j+1
   ·subst e;exact Nat.le_refl _
   ·exact Nat.le_trans (ih (by omega) (by omega)) (h j (by omega))
theorem a3d.keep {w w':World}(hs:w.heap.size<=w'.heap.size)(t:Co):∀ lo hi v,(∀ b,lo<=b->b<hi->w'.heap[b]? = w.heap[b]?)->a3d w t lo hi v->a3d w' t lo hi v:=by
 induction t using Co.ind with
 | h t ih=>
   intro lo hi v hk h
   rw[a2r] at h ⊢
   obtain⟨h0,h | ⟨g,s,us,hv,h1,h2,h3,h4,h5,h6⟩⟩:=h
   ·exact⟨h0,.inl h⟩
   ·have hm:=a8U (fun i hi=>(h6 i hi).2.1)
    have hg:w'.heap[g]? = w.heap[g]?:=hk g h1 (by have:=hm 0 _ (Nat.zero_le _) (Nat.le_refl _);omega)
    refine⟨h0,.inr ⟨g,s,us,hv,h1,h2,h3,by omega,fun j hj=>(World.frozen?_of_block (a:=⟨g,j,none⟩) hg).trans (h5 j hj),fun i hi=>?_⟩⟩
    obtain⟨q1,q2,q3⟩:=h6 i hi
    refine⟨q1.keep (fun j=>World.cell?_of_block (a:=⟨g,j,none⟩) hg),q2,ih _ (List.getElem_mem hi) _ _ _ (fun b hb1 hb2=>hk b ?_ ?_) q3⟩
    ·have:=hm 0 i (Nat.zero_le _) (by omega);omega
    ·have:=hm (i+1) _ (by omega) (Nat.le_refl _);omega
theorem a3d.wide {w:World}{t:Co}{lo hi lo' hi':Nat}{v:Value}(h:a3d w t lo hi v)(h1:lo'<=lo)(h2:hi<=hi'):a3d w t lo' hi' v:=by
 rw[a2r] at h ⊢
 obtain⟨h0,h | ⟨g,s,us,hv,q1,q2,q3,q4⟩⟩:=h
 ·exact⟨by omega,.inl h⟩
 ·exact⟨by omega,.inr ⟨g,s,us,hv,by omega,q2,by omega,q4⟩⟩
theorem a1c {w0 w:World}(t:Co):∀ v u lo hi,a0m w0 t v->a3d w t lo hi u->a0m w t u:=by
 induction t using Co.ind with
 | h t ih=>
   intro v u lo hi hs hn
   rw[a1k] at hs ⊢
   rw[a2r] at hn
   refine⟨hs.1,?_⟩
   obtain⟨-,⟨h1,ad,rfl⟩ | ⟨g,s,us,rfl,q1,q2,q3,q4,q5,q6⟩⟩:=hn
   ·exact⟨ad,0,by rw[h1],by omega,by omega,.inl h1⟩
   ·obtain⟨ad,cap,hv,hl,hc,hp⟩:=hs.2
    refine⟨_,_,rfl,Nat.le_refl _,by omega,.inr ⟨g,0,rfl,q4,fun i hi=>?_⟩⟩
    rcases hp with hp | ⟨b,off,-,-,hp⟩
    ·omega
    ·obtain⟨u',-,hu'⟩:=hp i hi
     exact⟨us i,by rw[Nat.zero_add];exact(q6 i hi).1,ih _ (List.getElem_mem hi) u' _ _ _ hu' (q6 i hi).2.2⟩
theorem a9G {w0 w:World}{ps:List Co}{v u:Value}{lo hi:Nat}(hs:CAt w0 v ps)(hn:b8h w ps lo hi u):CAt w u ps:=by
 obtain⟨-,⟨h1,ad,rfl⟩ | ⟨g,s,us,rfl,q1,q2,q3,q4,q5,q6⟩⟩:=hn
 ·exact⟨ad,0,by rw[h1],by omega,by omega,.inl h1⟩
 ·obtain⟨ad,cap,hv,hl,hc,hp⟩:=hs
  refine⟨_,_,rfl,Nat.le_refl _,by omega,.inr ⟨g,0,rfl,q4,fun i hi=>?_⟩⟩
  rcases hp with hp | ⟨b,off,-,-,hp⟩
  ·omega
  ·obtain⟨u',-,hu'⟩:=hp i hi
   exact⟨us i,by rw[Nat.zero_add];exact(q6 i hi).1,a1c _ u' _ _ _ hu' (q6 i hi).2.2⟩
structure b6S (w3:World)(g:Nat)(ps:List Co)(k:Nat)(xs:List (Co×Value))(s:Nat->Nat)(wr:World):Prop where
 len:xs.length=ps.length
 box:Box wr g (flC xs)
 s0:g<s 0
 mono:∀ i,i<k->s i<=s (i+1)
 top:s k<=wr.heap.size
 it:∀ i (h:i<ps.length) (h2:i<xs.length),i<k->xs[i].1=ps[i]/\a3d wr ps[i] (s i) (s (i+1)) xs[i].2
 turn:a0p [g] w3 wr
theorem b6S.row {w3 wr:World}{g lo:Nat}{ps:List Co}{xs:List (Co×Value)}{s:Nat->Nat}(h:b6S w3 g ps ps.length xs s wr)(hlo:lo<=g):b8h wr ps lo wr.heap.size (.slice (some ⟨g,0,none⟩) ps.length ps.length):=by
 have hg:=h.box.lt
 refine⟨by omega,.inr ⟨g,s,fun i=>(xs.getD i (⟨0,0,0,[]⟩,.slice none 0 0)).2,rfl,hlo,h.s0,h.top,hg,fun j hj=>h.box.free j (by rw[a2Y,h.len];exact hj),fun i hi=>?_⟩⟩
 have hx:i<xs.length:=by rw[h.len];exact hi
 obtain⟨e1,e2⟩:=h.it i hi hx hi
 have eu:(xs.getD i (⟨0,0,0,[]⟩,.slice none 0 0))=xs[i]:=by simp[List.getD,hx]
 simp only[eu]
 have hc:=fun j u hu=>h.box.cell (i*4+j) u (a4s xs i hx j u hu)
 rw[<-e1]
 exact⟨⟨hc 0 _ rfl,hc 1 _ rfl,hc 2 _ rfl,hc 3 _ rfl⟩,h.mono i hi,by rw[e1];exact e2⟩
theorem b6g (xs:List (Co×Value))(k:Nat)(hk:k<xs.length)(x:Co×Value):flC (xs.set k x)=((((flC xs).set (k*4) (.int .i64 x.1.op)).set (k*4+1) (.int .i64 x.1.n)).set (k*4+2) (.int .i64 x.1.m)).set (k*4+3) x.2:=by
 induction xs generalizing k with
 | nil=>simp at hk
 | cons y r ih=>
   cases k with
   | zero=>simp[flC]
   | succ k=>
     have:=ih k (by simpa using hk)
     simp only[flC,List.set_cons_succ,List.map_cons,List.flatten_cons] at this ⊢
     rw[this]
     have e0:(k+1)*4=k*4+1+1+1+1:=by omega
     simp only[e0,List.cons_append,List.nil_append,List.set_cons_succ]
theorem a0c {S:List Nat}{w w' w'':World}(h:a0p S w w')(k:a0p S w' w''):a0p S w w'':=h.trans k (fun _ hi=>.inl hi)
theorem b6S.more {w3 wr w':World}{g k:Nat}{ps:List Co}{xs:List (Co×Value)}{s:Nat->Nat}{u:Value}(h:b6S w3 g ps k xs s wr)(hk:k<ps.length)(b:Below wr.heap.size wr w'){lo:Nat}(hlo:wr.heap.size<=lo)(hn:a3d w' ps[k] lo w'.heap.size u):
 b6S w3 g ps (k+1) (xs.set k (ps[k],u)) (fun i=>if i<=k then s i else w'.heap.size) ((((w'.setCell ⟨g,k*4,none⟩ (.int .i64 ps[k].op)).setCell ⟨g,k*4+1,none⟩ (.int .i64 ps[k].n)).setCell ⟨g,k*4+2,none⟩ (.int .i64 ps[k].m)).setCell ⟨g,k*4+3,none⟩ u):=by
 have hx:k<xs.length:=by rw[h.len];exact hk
 have hm:=a8U h.mono
 have hgs:g<s k:=Nat.lt_of_lt_of_le h.s0 (hm 0 k (Nat.zero_le _) (Nat.le_refl _))
 have htop:=h.top
 have hsz:=b.size
 have B:=h.box.next b
 have hlen:(flC xs).length=xs.length*4:=a2Y xs
 have T:a0p [g] w' ((((w'.setCell ⟨g,k*4,none⟩ (.int .i64 ps[k].op)).setCell ⟨g,k*4+1,none⟩ (.int .i64 ps[k].n)).setCell ⟨g,k*4+2,none⟩ (.int .i64 ps[k].m)).setCell ⟨g,k*4+3,none⟩ u):=
  a0c (a0c (a0c (a0p.set w' _ _ (by simp)) (a0p.set _ _ _ (by simp))) (a0p.set _ _ _ (by simp))) (a0p.set _ _ _ (by simp))
 have T0:a0p [g] wr w':=⟨b.os,b.tape,b.output,b.size,fun q hq _=>b.block q hq⟩
 have hW:=T.size
 have key:∀ (q:Co) lo' hi' v,g<lo'->hi'<=w'.heap.size->a3d w' q lo' hi' v->a3d ((((w'.setCell ⟨g,k*4,none⟩ (.int .i64 ps[k].op)).setCell ⟨g,k*4+1,none⟩ (.int .i64 ps[k].n)).setCell ⟨g,k*4+2,none⟩ (.int .i64 ps[k].m)).setCell ⟨g,k*4+3,none⟩ u) q lo' hi' v:=
  fun q lo' hi' v h1 h2 h3=>a3d.keep T.size q lo' hi' v (fun b' hb1 hb2=>T.block b' (by omega) (by simp;omega)) h3
 refine⟨by rw[List.length_set,h.len],?_,by simpa using h.s0,fun i hi=>?_,?_,fun i hi hi2 hik=>?_,a0c h.turn (a0c T0 T)⟩
 ·rw[b6g xs k hx]
  exact(((B.set (k*4) (by omega) _).set (k*4+1) (by simp;omega) _).set (k*4+2) (by simp;omega) _).set (k*4+3) (by simp;omega) _
 ·by_cases e:i=k
  ·subst e
   simp only[Nat.le_refl,if_true,show ¬ i+1<=i by omega,if_false]
   omega
  ·have:=h.mono i (by omega)
   simp only[show i<=k by omega,show i+1<=k by omega,if_true]
   exact this
 ·simp only[show ¬ k+1<=k by omega,if_false]
  exact hW
 ·by_cases e:i=k
  ·subst e
   simp only[List.getElem_set_self,Nat.le_refl,if_true,show ¬ i+1<=i by omega,if_false]
   exact⟨trivial,key _ _ _ _ (by omega) (Nat.le_refl _) (hn.wide (by omega) (Nat.le_refl _))⟩
  ·have hi3:i<xs.length:=by simpa using hi2
   obtain⟨q1,q2⟩:=h.it i hi hi3 (by omega)
   rw[List.getElem_set_ne (fun e2=>e e2.symm)]
   simp only[show i<=k by omega,show i+1<=k by omega,if_true]
   have h1:=hm 0 i (Nat.zero_le _) (by omega)
   have h2:=hm (i+1) k (by omega) (Nat.le_refl _)
   have h0:=h.s0
   refine⟨q1,key _ _ _ _ (by omega) (by omega) (a3d.keep b.size _ _ _ _ (fun b' hb1 hb2=>b.block b' (by omega)) q2)⟩
def CWt:Co->Prop
 | ⟨_,_,_,ps⟩=>ps.length*48<=140737488355328/\∀ x (h:x∈ps),(have:SizeOf.sizeOf x<SizeOf.sizeOf ps:=List.sizeOf_lt_of_mem h;CWt x)
theorem a8f {t:Co}:CWt t↔t.parts.length*48<=140737488355328/\∀ x,x∈t.parts->CWt x:=by
 cases t
 rw[CWt]
theorem a9u (n:Nat):(madeCells (coV ⟨0,0,0,[]⟩ (.slice none 0 0)).cells (n*4)).toList=flC (List.replicate n ((⟨0,0,0,[]⟩:Co),Value.slice none 0 0)):=by
 apply List.ext_getElem?
 intro i
 by_cases hi:i<n*4
 ·have h1:i/4<(List.replicate n ((⟨0,0,0,[]⟩:Co),Value.slice none 0 0)).length:=by simp;omega
  have hm:i%4=0\/i%4=1\/i%4=2\/i%4=3:=by omega
  have hd:i/4*4+i%4=i:=by omega
  have hL:(madeCells (coV ⟨0,0,0,[]⟩ (.slice none 0 0)).cells (n*4)).toList[i]? = some ((coV ⟨0,0,0,[]⟩ (.slice none 0 0)).cells[i%4]!):=by
   have:(coV ⟨0,0,0,[]⟩ (.slice none 0 0)).cells.size=4:=rfl
   simp[madeCells,hi,this]
  rw[hL]
  have hR:=a4s (List.replicate n ((⟨0,0,0,[]⟩:Co),Value.slice none 0 0)) (i/4) h1 (i%4)
  rw[hd] at hR
  symm
  apply hR
  rw[List.getElem_replicate]
  rcases hm with h | h | h | h<;>rw[h]<;>rfl
 ·rw[List.getElem?_eq_none (by simp[size_madeCells];omega),List.getElem?_eq_none (by rw[a2Y];simp;omega)]
def b9R (t:Co):Prop:=∀ (v:Value) (w:World),a0m w t v->Calls Tryz.prog 34 #[coV t v] w fun e w'=>∃ u,e=.returned (coV t u)/\a0m w' t u/\a3d w' t w.heap.size w'.heap.size u/\Below w.heap.size w w'
set_option maxHeartbeats 4000000 in
set_option maxRecDepth 20000 in
theorem b6r (ps:List Co)(hl:ps.length*48<=140737488355328)(ih:∀ x,x∈ps->b9R x)(v:Value)(w:World)(hs:CAt w v ps):
 Calls Tryz.prog 60 #[v,.func (.func 34) #[] #[]] w fun e w'=>∃ u,e=.returned u/\CAt w' u ps/\b8h w' ps w.heap.size w'.heap.size u/\Below w.heap.size w w':=by
 obtain⟨ad,cap,rfl,hle,hcap⟩:=hs.shape
 have HL:=a0a hs
 obtain⟨N,hN⟩:∃ N,Hid (N=ps.length):=⟨_,rfl⟩
 rw[<-hN.out] at hl hle ⊢
 rw[<-hN.out] at HL
 obtain⟨i0,hi,hz0,hz1,hz2⟩:=a2D
 have hnil:=fun W:World=>run_eql_slice_nil (P:=Tryz.prog) W 28 30 ad N cap Tryz.underlying28
 cases ad with
 | none=>
   have hn0:ps.length=0:=by
    rcases Nat.eq_zero_or_pos ps.length with h | h
    ·exact h
    ·obtain⟨b,off,cap',e,-⟩:=HL.out.open h
     simp at e
   go_enter Tryz.func60,Tryz.ntmps60
   go_wp2_with fail
   go_ret
   exact⟨.slice none 0 0,rfl,⟨none,0,by rw[hn0],by omega,by omega,.inl hn0⟩,⟨Nat.le_refl _,.inl ⟨hn0,none,rfl⟩⟩,Below.refl _ _⟩
 | some a=>
   go_enter Tryz.func60,Tryz.ntmps60
   go_wp2_with (at_make;refine wpList_make_full _ rfl _ _ 28 rfl w.heap.size 30 i0 (coV ⟨0,0,0,[]⟩ (.slice none 0 0)) 4 Tryz.underlying28 hi hz0 hz1 _ _ _ _ N rfl rfl rfl rfl (by rw[hz2];omega) (by unfold maxLen;omega) (Nat.le_refl _) ?_;intro w3 hown hgrow;have hb3:Below w.heap.size w w3:=(Below.refl _ _).grown hgrow (Nat.le_refl _) (by simp);have HB3:=a0a hb3;have HO:=a0a hown;clear hb3 hown hgrow)
   have hI0:Hid (b6S w3 w.heap.size ps 0 (List.replicate N ((⟨0,0,0,[]⟩:Co),Value.slice none 0 0)) (fun _=>w.heap.size+1) w3):=by
    have hb:Box w3 w.heap.size (flC (List.replicate N ((⟨0,0,0,[]⟩:Co),Value.slice none 0 0))):=by
     rcases a4F HO.out with ⟨h,_⟩ | ⟨g,c,h,_,hb⟩
     ·cases h
     ·simp only[Value.slice.injEq,Option.some.injEq,Addr.mk.injEq,and_true] at h
      obtain⟨⟨rfl,_⟩,_⟩:=h
      rw[a9u] at hb
      exact hb
    exact a0a ⟨by rw[List.length_replicate];exact hN.out,hb,by omega,(fun i hi=>by omega),hb.lt,(fun i _ _ hi=>by omega),a0p.refl _ _⟩
   have HIh:=a0a ih
   obtain⟨g,hg⟩:∃ g,Hid (g=w.heap.size):=⟨_,rfl⟩
   rw[<-hg.out] at hI0 ⊢
   clear HO hi hz0 hz1 hz2 ih hnil hs
   go_loopw [15] (fun i wr=>∃ (k:Nat) (xs:List (Co×Value)) (s:Nat->Nat),i=.int .i64 (k:Nat)/\k<=N/\Hid (b6S w3 g ps k xs s wr)) (fun i _=>match i with | .int _ p=>((N:Int)-p).toNat | _=>0)
   case atStart=>exact⟨0,_,_,rfl,by omega,hI0⟩
   case round=>
    obtain⟨k,xs,s,rfl,hk,HI⟩:=hrel
    have HBr:Hid (Below w.heap.size w wr):=by
     have b:=HB3.out
     have t:=HI.out.turn
     exact a0a ⟨t.os.trans b.os,t.tape.trans b.tape,t.output.trans b.output,Nat.le_trans b.size t.size,fun q hq=>(t.block q (Nat.lt_of_lt_of_le hq b.size) (by have:=hg.out;simp;omega)).trans (b.block q hq)⟩
    by_cases hlt:k<N
    ·have hlt':(k:Int)<(N:Int):=by omega
     have hl1:k<ps.length:=by rw[<-hN.out];exact hlt
     obtain⟨b,off,cap',hv,-,-,hbl,hx⟩:=HL.out.open (by omega)
     simp only[Value.slice.injEq,Option.some.injEq] at hv
     obtain⟨rfl,-,rfl⟩:=hv
     obtain⟨u,h6,hu⟩:=hx k hl1
     have y0:=a0d HBr.out h6.c0
     have y1:=a0d HBr.out h6.c1
     have y2:=a0d HBr.out h6.c2
     have y3:=a0d HBr.out h6.c3
     have lbr:b<wr.heap.size:=World.block_lt_of_cell? wr _ y0
     have HC:=a0a (HIh.out _ (List.getElem_mem hl1))
     have HU:=a0a hu
     have HMo:=a0a (fun w' u hb lo hlo hn=>HI.out.more (w':=w') (u:=u) hl1 hb (lo:=lo) hlo hn)
     have hgl:=HI.out.box.lt
     have hxk:k<xs.length:=by rw[HI.out.len];exact hl1
     have HFr:Hid (∀ j,j<4->k*4+j<(flC xs).length):=fun j hj=>by rw[a2Y];omega
     have HCe:Hid (∀ j u,(coL xs[k].1 xs[k].2)[j]? = some u->(flC xs)[k*4+j]? = some u):=fun j u h=>a4s xs k hxk j u h
     generalize xs[k]=xk at *
     obtain⟨au,cu,rfl,-,-⟩:=hu.parts.shape
     clear h6 hu hx
     generalize ps[k]=t at *
     have ba:=(Below.refl wr.heap.size wr).alloc (Nat.le_refl _) (.cells #[.int .i64 t.op,.int .i64 t.n,.int .i64 t.m,.slice au t.parts.length cu] 30)
     have BA:=a0a ba
     clear ba
     go_wp2_with fail
     refine Calls.mono (HC.out _ _ (HU.out.next (a0b HBr.out BA.out HBr.out.size))) ?_
     rintro e w4 ⟨u,rfl,su,nu,b4⟩
     have B4:=kb BA b4
     have M:=a0a (HMo.out w4 _ B4.out _ BA.out.size nu)
     obtain⟨a4,c4,rfl,-,-⟩:=su.parts.shape
     have X:=HI.out.box.next B4.out
     have z0:=X.cell (k*4) _ (HCe.out 0 _ rfl)
     have z1:=X.cell (k*4+1) _ (HCe.out 1 _ rfl)
     have z2:=X.cell (k*4+2) _ (HCe.out 2 _ rfl)
     have z3:=X.cell (k*4+3) _ (HCe.out 3 _ rfl)
     have f0:=X.free (k*4) (HFr.out 0 (by decide))
     have f1:=X.free (k*4+1) (HFr.out 1 (by decide))
     have f2:=X.free (k*4+2) (HFr.out 2 (by decide))
     have f3:=X.free (k*4+3) (HFr.out 3 (by decide))
     have xl:=X.lt
     clear X su nu b4 BA HMo HCe HFr HU HC y0 y1 y2 y3
     go_wp2_with fail
     go_roundw
     ·exact⟨k+1,_,_,by simp,by omega,M⟩
     ·simp;omega
    ·have hkN:k=N:=by omega
     subst hkN
     have hR:Hid (b8h wr ps w.heap.size wr.heap.size (.slice (some ⟨g,0,none⟩) k k)):=by
      have h:=HI.out
      rw[hN.out] at h ⊢
      exact a0a (h.row (by rw[hg.out];exact Nat.le_refl _))
     go_wp2_with fail
     go_ret
     exact⟨_,rfl,a9G HL.out hR.out,hR.out,HBr.out⟩
theorem a4n (t:Co):CWt t->b9R t:=by
 induction t using Co.ind with
 | h t ih=>
   intro hn v w hs
   have HE:=a0a (fun W (hW:Below w.heap.size w W)=>b6r t.parts (a8f.1 hn).1 (fun x hx=>ih x hx ((a8f.1 hn).2 x hx)) v W (hs.parts.next hW))
   have HS:=a0a hs
   obtain⟨au,cu,rfl,-,-⟩:=hs.parts.shape
   obtain⟨Y0,Y1,Y2⟩:=a0e w 30 30 (coL t (.slice au t.parts.length cu)) [.int .i64 0,.int .i64 0,.int .i64 0,.slice none 0 0]
   have HY0:=a0a Y0
   have HY1:=a0a Y1
   have B0:=a0a Y2
   obtain⟨x0,x1,x2,x3⟩:=Box.c4 Y0
   have xl:=Y0.lt
   clear hs ih Y0 Y1 Y2
   go_enter Tryz.func34,Tryz.ntmps34
   go_wp2_with fail
   refine Calls.mono (HE.out _ B0.out) ?_
   rintro e w1 ⟨u,rfl,su,nu,b⟩
   obtain⟨a1,c1,rfl,-,-⟩:=su.shape
   have B1:=kb B0 b
   have HNu:Hid (a3d w1 t (w.heap.size+1+1) w1.heap.size (.slice a1 t.parts.length c1)):=(a2r.2 nu).wide (by simp) (Nat.le_refl _)
   replace HY0:=kn HY0 b
   replace HY1:=kn HY1 b
   clear x0 x1 x2 x3 xl su nu b HE B0
   obtain⟨x0,x1,x2,x3⟩:=Box.c4 HY0.out
   have xf:=HY0.out.free 3 (by simp)
   have xl:=HY0.out.lt
   obtain⟨y0,y1,y2,y3⟩:=Box.c4 HY1.out
   have g0:=HY1.out.free 0 (by simp)
   have g1:=HY1.out.free 1 (by simp)
   have g2:=HY1.out.free 2 (by simp)
   have g3:=HY1.out.free 3 (by simp)
   have yl:=HY1.out.lt
   go_wp2_with fail
   refine bodyPost_ret (v:=coV t (.slice a1 t.parts.length c1)) (by simp[results,Tryz.results34,go_sem, *]) rfl ?_
   have T:a0p [w.heap.size,w.heap.size+1] w1 (((((w1.setCell ⟨w.heap.size,3,none⟩ (.slice a1 t.parts.length c1)).setCell ⟨w.heap.size+1,0,none⟩ (.int .i64 t.op)).setCell ⟨w.heap.size+1,1,none⟩ (.int .i64 t.n)).setCell ⟨w.heap.size+1,2,none⟩ (.int .i64 t.m)).setCell ⟨w.heap.size+1,3,none⟩ (.slice a1 t.parts.length c1)):=
    a0c (a0c (a0c (a0c (a0p.set w1 _ _ (by simp)) (a0p.set _ _ _ (by simp))) (a0p.set _ _ _ (by simp))) (a0p.set _ _ _ (by simp))) (a0p.set _ _ _ (by simp))
   have N:=a3d.keep T.size t _ _ _ (fun b hb1 hb2=>T.block b hb2 (by simp;omega)) HNu.out
   exact⟨_,rfl,a1c t _ _ _ _ HS.out N,N.wide (by omega) T.size,((((B1.out.setCell (Nat.le_refl _) _).setCell (by simp) _).setCell (by simp) _).setCell (by simp) _).setCell (by simp) _⟩
theorem a6X {ops:Array Oper}{o:Oper}{a:Act}{w:World}{K:Act->World->Prop}{Q:Exit->Act->World->Prop}{E:Prop}(hgd:o.guard=none){t:Co}(C:b9R t)(v:Value)(hs:a0m w t v)
 (he:(execOp a.eval o).run Tryz.prog w=.ok (.enter 34 #[coV t v]) w)
 (hK:∀ ad c w',a0m w' t (.slice ad t.parts.length c)->a3d w' t w.heap.size w'.heap.size (.slice ad t.parts.length c)->Below w.heap.size w w'->K (a.put o.dst (coV t (.slice ad t.parts.length c))) w') :
 if Region.wanted o (yielded ops a.tmps)=true then Oper.wp Tryz.prog o a w K Q else E:=by
 have hwd:Region.wanted o (yielded ops a.tmps)=true:=by simp[Region.wanted,hgd]
 rw[if_pos hwd]
 unfold Oper.wp
 rw[he,Oper.upon_enter]
 refine(C v w hs).mono fun e w' h=>?_
 obtain⟨u,rfl,h1,h2,h3⟩:=h
 obtain⟨ad,c,rfl,-,-⟩:=h1.parts.shape
 exact hK ad c w' h1 h2 h3
set_option maxHeartbeats 4000000 in
set_option maxRecDepth 20000 in
theorem a8j (x y:Co)(hx:CWt x)(hy:CWt y)(v u:Value)(w:World)(sx:a0m w x v)(sy:a0m w y u):
 Calls Tryz.prog 33 #[.agg #[.int .i64 x.op,.int .i64 x.n,.int .i64 x.m,v,.int .i64 y.op,.int .i64 y.n,.int .i64 y.m,u]] w fun e w'=>∃ v' u' m,e=.returned (.agg #[.int .i64 x.op,.int .i64 x.n,.int .i64 x.m,v',.int .i64 y.op,.int .i64 y.n,.int .i64 y.m,u'])/\a0m w' x v'/\a0m w' y u'/\a3d w' x w.heap.size m v'/\a3d w' y m w'.heap.size u'/\Below w.heap.size w w':=by
 have HX:=a0a (a4n x hx)
 have HY:=a0a (a4n y hy)
 have SX:=a0a sx
 have SY:=a0a sy
 obtain⟨a1,c1,rfl,-,-⟩:=sx.parts.shape
 obtain⟨a2,c2,rfl,-,-⟩:=sy.parts.shape
 obtain⟨Y0,Y1,Y2⟩:Box ((w.alloc (.cells #[.int .i64 x.op,.int .i64 x.n,.int .i64 x.m,.slice a1 x.parts.length c1,.int .i64 y.op,.int .i64 y.n,.int .i64 y.m,.slice a2 y.parts.length c2] 49)).alloc (.cells #[.int .i64 0,.int .i64 0,.int .i64 0,.slice none 0 0,.int .i64 0,.int .i64 0,.int .i64 0,.slice none 0 0] 49)) w.heap.size [.int .i64 x.op,.int .i64 x.n,.int .i64 x.m,.slice a1 x.parts.length c1,.int .i64 y.op,.int .i64 y.n,.int .i64 y.m,.slice a2 y.parts.length c2]/\Box ((w.alloc (.cells #[.int .i64 x.op,.int .i64 x.n,.int .i64 x.m,.slice a1 x.parts.length c1,.int .i64 y.op,.int .i64 y.n,.int .i64 y.m,.slice a2 y.parts.length c2] 49)).alloc (.cells #[.int .i64 0,.int .i64 0,.int .i64 0,.slice none 0 0,.int .i64 0,.int .i64 0,.int .i64 0,.slice none 0 0] 49)) (w.heap.size+1) [.int .i64 0,.int .i64 0,.int .i64 0,.slice none 0 0,.int .i64 0,.int .i64 0,.int .i64 0,.slice none 0 0]/\Below w.heap.size w ((w.alloc (.cells #[.int .i64 x.op,.int .i64 x.n,.int .i64 x.m,.slice a1 x.parts.length c1,.int .i64 y.op,.int .i64 y.n,.int .i64 y.m,.slice a2 y.parts.length c2] 49)).alloc (.cells #[.int .i64 0,.int .i64 0,.int .i64 0,.slice none 0 0,.int .i64 0,.int .i64 0,.int .i64 0,.slice none 0 0] 49)):=a0e w 49 49 [.int .i64 x.op,.int .i64 x.n,.int .i64 x.m,.slice a1 x.parts.length c1,.int .i64 y.op,.int .i64 y.n,.int .i64 y.m,.slice a2 y.parts.length c2] [.int .i64 0,.int .i64 0,.int .i64 0,.slice none 0 0,.int .i64 0,.int .i64 0,.int .i64 0,.slice none 0 0]
 obtain⟨x0,x1,x2,x3⟩:=Box.c4 Y0
 have x4:=Y0.cell 4 _ rfl
 have x5:=Y0.cell 5 _ rfl
 have x6:=Y0.cell 6 _ rfl
 have x7:=Y0.cell 7 _ rfl
 have xl:=Y0.lt
 have HY0:=a0a Y0
 have HY1:=a0a Y1
 have B0:=a0a Y2
 clear sx sy Y0 Y1 Y2
 go_enter Tryz.func33,Tryz.ntmps33
 go_wp2_with fail
 have hsz0:Hid (w.heap.size+1+1<=((w.alloc (.cells #[.int .i64 x.op,.int .i64 x.n,.int .i64 x.m,.slice a1 x.parts.length c1,.int .i64 y.op,.int .i64 y.n,.int .i64 y.m,.slice a2 y.parts.length c2] 49)).alloc (.cells #[.int .i64 0,.int .i64 0,.int .i64 0,.slice none 0 0,.int .i64 0,.int .i64 0,.int .i64 0,.slice none 0 0] 49)).heap.size):=a0a (by simp)
 generalize hw0:(w.alloc (.cells #[.int .i64 x.op,.int .i64 x.n,.int .i64 x.m,.slice a1 x.parts.length c1,.int .i64 y.op,.int .i64 y.n,.int .i64 y.m,.slice a2 y.parts.length c2] 49)).alloc (.cells #[.int .i64 0,.int .i64 0,.int .i64 0,.slice none 0 0,.int .i64 0,.int .i64 0,.int .i64 0,.slice none 0 0] 49)=w0 at *
 clear hw0
 go_region_law (first
  | (refine a6X rfl HY.out (.slice a2 y.parts.length c2) (SY.out.next B60.out) (by first | rfl | go_simp) ?_;intro a61 c61 w61 s61 n61 b61;have B61:=kb B60 b61;have Z61:=a0a (HY1.out.next (a0b K60.out b61 K60.out.size));have z0:=Z61.out.cell 0 _ rfl;have z1:=Z61.out.cell 1 _ rfl;have z2:=Z61.out.cell 2 _ rfl;have z3:=Z61.out.cell 3 _ rfl;have z4:=Z61.out.cell 4 _ rfl;have z5:=Z61.out.cell 5 _ rfl;have z6:=Z61.out.cell 6 _ rfl;have z7:=Z61.out.cell 7 _ rfl;have f0:=Z61.out.free 0 (by simp);have f1:=Z61.out.free 1 (by simp);have f2:=Z61.out.free 2 (by simp);have f3:=Z61.out.free 3 (by simp);have f4:=Z61.out.free 4 (by simp);have f5:=Z61.out.free 5 (by simp);have f6:=Z61.out.free 6 (by simp);have f7:=Z61.out.free 7 (by simp);have l61:=Z61.out.lt;have N61:=a0a n61;have b61':=a0a b61;clear b61 n61 s61)
  | (refine a6X rfl HX.out (.slice a1 x.parts.length c1) (SX.out.next (a0b B0.out (Below.refl _ _).drew B0.out.size)) (by first | rfl | go_simp) ?_;intro a60 c60 w60 s60 n60 b60;have K60:=a0a (a0b (Below.refl w0.heap.size w0).drew b60 (Below.refl w0.heap.size w0).drew.size);have B60:=a0a (a0b B0.out K60.out B0.out.size);have Y60:=a0a (HY0.out.next K60.out);have d4:=Y60.out.cell 4 _ rfl;have d5:=Y60.out.cell 5 _ rfl;have d6:=Y60.out.cell 6 _ rfl;have d7:=Y60.out.cell 7 _ rfl;have l60:=Y60.out.lt;have N60:=a0a n60;clear b60 n60 s60))
 all_goals go_wp2_with fail
 all_goals (
  refine bodyPost_ret (v:=.agg #[.int .i64 x.op,.int .i64 x.n,.int .i64 x.m,.slice a60 x.parts.length c60,.int .i64 y.op,.int .i64 y.n,.int .i64 y.m,.slice a61 y.parts.length c61]) (by simp[results,Tryz.results33,go_sem, *]) rfl ?_
  have T:a0p [w.heap.size+1] w61 ((((((((w61.setCell ⟨w.heap.size+1,0,none⟩ (.int .i64 x.op)).setCell ⟨w.heap.size+1,1,none⟩ (.int .i64 x.n)).setCell ⟨w.heap.size+1,2,none⟩ (.int .i64 x.m)).setCell ⟨w.heap.size+1,3,none⟩ (.slice a60 x.parts.length c60)).setCell ⟨w.heap.size+1,4,none⟩ (.int .i64 y.op)).setCell ⟨w.heap.size+1,5,none⟩ (.int .i64 y.n)).setCell ⟨w.heap.size+1,6,none⟩ (.int .i64 y.m)).setCell ⟨w.heap.size+1,7,none⟩ (.slice a61 y.parts.length c61)):=a0c (a0c (a0c (a0c (a0c (a0c (a0c (a0p.set w61 _ _ (by simp)) (a0p.set _ _ _ (by simp))) (a0p.set _ _ _ (by simp))) (a0p.set _ _ _ (by simp))) (a0p.set _ _ _ (by simp))) (a0p.set _ _ _ (by simp))) (a0p.set _ _ _ (by simp))) (a0p.set _ _ _ (by simp))
  have hz:=hsz0.out
  have hz2:w0.heap.size<=w60.heap.size:=K60.out.size
  have hz3:=b61'.out.size
  have N1:a3d w60 x w0.heap.size w60.heap.size (.slice a60 x.parts.length c60):=N60.out
  have N2:=a3d.keep b61'.out.size x _ _ _ (fun b hb1 hb2=>b61'.out.block b hb2) N1
  have N3:=a3d.keep T.size x _ _ _ (fun b hb1 hb2=>T.block b (by omega) (by simp;omega)) N2
  have N4:=a3d.keep T.size y _ _ _ (fun b hb1 hb2=>T.block b hb2 (by simp;omega)) N61.out
  exact⟨_,_,w60.heap.size,rfl,a1c x _ _ _ _ SX.out N3,a1c y _ _ _ _ SY.out N4,N3.wide (by omega) (Nat.le_refl _),N4.wide (Nat.le_refl _) T.size,(((((((B61.out.setCell (by simp) _).setCell (by simp) _).setCell (by simp) _).setCell (by simp) _).setCell (by simp) _).setCell (by simp) _).setCell (by simp) _).setCell (by simp) _⟩)
abbrev GPr:=(Co×Value)×(Co×Value)
def flG (xs:List GPr):List Value:=(xs.map fun x=>coL x.1.1 x.1.2++coL x.2.1 x.2.2).flatten
theorem a4l (xs:List GPr):(flG xs).length=xs.length*8:=by
 induction xs with
 | nil=>rfl
 | cons x r ih=>simp only[flG,List.map_cons,List.flatten_cons,List.length_append,List.length_cons] at ih ⊢;simp at ih ⊢;omega
theorem a4V:∀ (xs:List GPr) (i:Nat) (hi:i<xs.length) (j:Nat) (u:Value),(coL xs[i].1.1 xs[i].1.2++coL xs[i].2.1 xs[i].2.2)[j]? = some u->(flG xs)[i*8+j]? = some u
 | x::r,0,_,j,u,h=>by
   have hj:j<8:=by have:=(List.getElem?_eq_some_iff.1 h).1;simpa using this
   simp only[flG,List.map_cons,List.flatten_cons,Nat.zero_mul,Nat.zero_add]
   rw[List.getElem?_append_left (by simpa using hj)]
   exact h
 | x::r,i+1,hi,j,u,h=>by
   have:=a4V r i (by simpa using hi) j u (by simpa using h)
   simp only[flG,List.map_cons,List.flatten_cons] at this ⊢
   rw[List.getElem?_append_right (by simp;omega)]
   have e:(i+1)*8+j-(coL x.1.1 x.1.2++coL x.2.1 x.2.2).length=i*8+j:=by simp;omega
   rw[e]
   exact this
theorem b1f (xs:List GPr)(k:Nat)(hk:k<xs.length)(x:GPr):flG (xs.set k x)=(((((((((flG xs).set (k*8) (.int .i64 x.1.1.op)).set (k*8+1) (.int .i64 x.1.1.n)).set (k*8+2) (.int .i64 x.1.1.m)).set (k*8+3) (x.1.2)).set (k*8+4) (.int .i64 x.2.1.op)).set (k*8+5) (.int .i64 x.2.1.n)).set (k*8+6) (.int .i64 x.2.1.m)).set (k*8+7) (x.2.2)):=by
 induction xs generalizing k with
 | nil=>simp at hk
 | cons y r ih=>
   cases k with
   | zero=>simp[flG]
   | succ k=>
     have:=ih k (by simpa using hk)
     simp only[flG,List.set_cons_succ,List.map_cons,List.flatten_cons] at this ⊢
     rw[this]
     have e0:(k+1)*8=k*8+1+1+1+1+1+1+1+1:=by omega
     simp only[e0,List.cons_append,List.nil_append,List.set_cons_succ]
theorem b4z {w w':World}{g n c:Nat}{e:TypeId}{k:Nat}{xs:List Value}(h:w.ownsRow g e k (.slice (some ⟨g,0,none⟩) n c) n xs)(hk:w'.heap[g]? = w.heap[g]?):w'.ownsRow g e k (.slice (some ⟨g,0,none⟩) n c) n xs:=by
 obtain⟨h1,⟨h2,h3⟩ | ⟨g',cap,cur,h2,h3,h4,h5⟩⟩:=h
 ·cases h2
 ·have h2':=h2
  simp only[Value.slice.injEq,Option.some.injEq,Addr.mk.injEq,and_true,true_and] at h2'
  obtain⟨rfl,rfl⟩:=h2'
  exact⟨h1,.inr ⟨g,c,cur,h2,h3,hk.trans h4,h5⟩⟩
def a9L (w:World)(x:Co×Co)(lo hi:Nat)(v u:Value):Prop:=∃ m,lo<=m/\m<=hi/\a3d w x.1 lo m v/\a3d w x.2 m hi u
theorem a9L.keep {w w':World}{x:Co×Co}{lo hi:Nat}{v u:Value}(hs:w.heap.size<=w'.heap.size)(hk:∀ b,lo<=b->b<hi->w'.heap[b]? = w.heap[b]?)(h:a9L w x lo hi v u):a9L w' x lo hi v u:=by
 obtain⟨m,h1,h2,h3,h4⟩:=h
 exact⟨m,h1,h2,a3d.keep hs _ _ _ _ (fun b hb1 hb2=>hk b hb1 (by omega)) h3,a3d.keep hs _ _ _ _ (fun b hb1 hb2=>hk b (by omega) hb2) h4⟩
theorem a9L.wide {w:World}{x:Co×Co}{lo lo' hi:Nat}{v u:Value}(h:a9L w x lo hi v u)(h1:lo'<=lo):a9L w x lo' hi v u:=by
 obtain⟨m,q1,q2,q3,q4⟩:=h
 exact⟨m,by omega,q2,q3.wide h1 (Nat.le_refl _),q4⟩
def a7x (w:World)(gs:List (Co×Co))(lo hi:Nat)(v:Value):Prop:=
 lo<=hi/\((gs.length=0/\v=.slice none 0 0)\/∃ (g:Nat) (s:Nat->Nat) (us vs:Nat->Value),v=.slice (some ⟨g,0,none⟩) gs.length gs.length/\lo<=g/\g<s 0/\s gs.length<=hi/\g<w.heap.size/\((∀ j,j<gs.length*8->w.frozen? ⟨g,j,none⟩=false)/\∃ cs,w.ownsRow g 49 8 (.slice (some ⟨g,0,none⟩) gs.length gs.length) gs.length cs) /\
  ∀ i (h:i<gs.length),a2G w g (i*8) gs[i].1 (us i)/\a2G w g (i*8+4) gs[i].2 (vs i)/\s i<=s (i+1)/\a9L w gs[i] (s i) (s (i+1)) (us i) (vs i))
theorem a4k {w0 w:World}{gs:List (Co×Co)}{v u:Value}{lo hi:Nat}(hs:a5h w0 v gs)(hn:a7x w gs lo hi u):a5h w u gs:=by
 obtain⟨-,⟨h1,rfl⟩ | ⟨g,s,us,vs,rfl,q1,q2,q3,q4,q5,q6⟩⟩:=hn
 ·exact⟨none,0,by rw[h1],by omega,by omega,.inl h1⟩
 ·obtain⟨ad,cap,hv,hl,hc,hp⟩:=hs
  refine⟨_,_,rfl,Nat.le_refl _,by omega,.inr ⟨g,0,rfl,q4,fun i hi=>?_⟩⟩
  rcases hp with hp | ⟨b,off,-,-,hp⟩
  ·omega
  ·obtain⟨u1,u2,-,-,s1,s2⟩:=hp i hi
   obtain⟨r1,r2,r3,m,r4,r5,r6,r7⟩:=q6 i hi
   exact⟨us i,vs i,by rw[Nat.zero_add];exact r1,by rw[Nat.zero_add];exact r2,a1c _ u1 _ _ _ s1 r6,a1c _ u2 _ _ _ s2 r7⟩
structure b6R (w3:World)(g:Nat)(gs:List (Co×Co))(k:Nat)(xs:List GPr)(s:Nat->Nat)(wr:World):Prop where
 len:xs.length=gs.length
 box:Box wr g (flG xs)
 s0:g<s 0
 mono:∀ i,i<k->s i<=s (i+1)
 top:s k<=wr.heap.size
 own:∃ cs,wr.ownsRow g 49 8 (.slice (some ⟨g,0,none⟩) gs.length gs.length) gs.length cs
 it:∀ i (h:i<gs.length) (h2:i<xs.length),i<k->xs[i].1.1=gs[i].1/\xs[i].2.1=gs[i].2/\a9L wr gs[i] (s i) (s (i+1)) xs[i].1.2 xs[i].2.2
 turn:a0p [g] w3 wr
theorem b6R.row {w3 wr:World}{g lo:Nat}{gs:List (Co×Co)}{xs:List GPr}{s:Nat->Nat}(h:b6R w3 g gs gs.length xs s wr)(hlo:lo<=g):a7x wr gs lo wr.heap.size (.slice (some ⟨g,0,none⟩) gs.length gs.length):=by
 have hg:=h.box.lt
 refine⟨by omega,.inr ⟨g,s,fun i=>(xs.getD i ((⟨0,0,0,[]⟩,.slice none 0 0),(⟨0,0,0,[]⟩,.slice none 0 0))).1.2,fun i=>(xs.getD i ((⟨0,0,0,[]⟩,.slice none 0 0),(⟨0,0,0,[]⟩,.slice none 0 0))).2.2,rfl,hlo,h.s0,h.top,hg,⟨fun j hj=>h.box.free j (by rw[a4l,h.len];exact hj),h.own⟩,fun i hi=>?_⟩⟩
 have hx:i<xs.length:=by rw[h.len];exact hi
 obtain⟨e1,e2,e3⟩:=h.it i hi hx hi
 have eu:(xs.getD i ((⟨0,0,0,[]⟩,.slice none 0 0),(⟨0,0,0,[]⟩,.slice none 0 0)))=xs[i]:=by simp[List.getD,hx]
 simp only[eu]
 have hc:=fun j u hu=>h.box.cell (i*8+j) u (a4V xs i hx j u hu)
 refine⟨?_,?_,h.mono i hi,e3⟩
 ·rw[<-e1];exact⟨hc 0 _ rfl,hc 1 _ rfl,hc 2 _ rfl,hc 3 _ rfl⟩
 ·rw[<-e2];exact⟨hc 4 _ rfl,hc 5 _ rfl,hc 6 _ rfl,hc 7 _ rfl⟩
theorem b6R.more {w3 wr w':World}{g k:Nat}{gs:List (Co×Co)}{xs:List GPr}{s:Nat->Nat}{u1 u2:Value}(h:b6R w3 g gs k xs s wr)(hk:k<gs.length)(b:Below wr.heap.size wr w'){lo:Nat}(hlo:wr.heap.size<=lo)(hn:a9L w' gs[k] lo w'.heap.size u1 u2):
 b6R w3 g gs (k+1) (xs.set k ((gs[k].1,u1),(gs[k].2,u2))) (fun i=>if i<=k then s i else w'.heap.size) ((((((((w'.setCell ⟨g,k*8,none⟩ (.int .i64 gs[k].1.op)).setCell ⟨g,k*8+1,none⟩ (.int .i64 gs[k].1.n)).setCell ⟨g,k*8+2,none⟩ (.int .i64 gs[k].1.m)).setCell ⟨g,k*8+3,none⟩ (u1)).setCell ⟨g,k*8+4,none⟩ (.int .i64 gs[k].2.op)).setCell ⟨g,k*8+5,none⟩ (.int .i64 gs[k].2.n)).setCell ⟨g,k*8+6,none⟩ (.int .i64 gs[k].2.m)).setCell ⟨g,k*8+7,none⟩ (u2)):=by
 have hx:k<xs.length:=by rw[h.len];exact hk
 have hm:=a8U h.mono
 have hgs:g<s k:=Nat.lt_of_lt_of_le h.s0 (hm 0 k (Nat.zero_le _) (Nat.le_refl _))
 have htop:=h.top
 have hsz:=b.size
 have B:=h.box.next b
 have hlen:(flG xs).length=xs.length*8:=a4l xs
 have T:a0p [g] w' ((((((((w'.setCell ⟨g,k*8,none⟩ (.int .i64 gs[k].1.op)).setCell ⟨g,k*8+1,none⟩ (.int .i64 gs[k].1.n)).setCell ⟨g,k*8+2,none⟩ (.int .i64 gs[k].1.m)).setCell ⟨g,k*8+3,none⟩ (u1)).setCell ⟨g,k*8+4,none⟩ (.int .i64 gs[k].2.op)).setCell ⟨g,k*8+5,none⟩ (.int .i64 gs[k].2.n)).setCell ⟨g,k*8+6,none⟩ (.int .i64 gs[k].2.m)).setCell ⟨g,k*8+7,none⟩ (u2)):=a0c (a0c (a0c (a0c (a0c (a0c (a0c (a0p.set w' _ _ (by simp)) (a0p.set _ _ _ (by simp))) (a0p.set _ _ _ (by simp))) (a0p.set _ _ _ (by simp))) (a0p.set _ _ _ (by simp))) (a0p.set _ _ _ (by simp))) (a0p.set _ _ _ (by simp))) (a0p.set _ _ _ (by simp))
 have T0:a0p [g] wr w':=⟨b.os,b.tape,b.output,b.size,fun q hq _=>b.block q hq⟩
 have hW:=T.size
 have hB:Box ((((((((w'.setCell ⟨g,k*8,none⟩ (.int .i64 gs[k].1.op)).setCell ⟨g,k*8+1,none⟩ (.int .i64 gs[k].1.n)).setCell ⟨g,k*8+2,none⟩ (.int .i64 gs[k].1.m)).setCell ⟨g,k*8+3,none⟩ (u1)).setCell ⟨g,k*8+4,none⟩ (.int .i64 gs[k].2.op)).setCell ⟨g,k*8+5,none⟩ (.int .i64 gs[k].2.n)).setCell ⟨g,k*8+6,none⟩ (.int .i64 gs[k].2.m)).setCell ⟨g,k*8+7,none⟩ (u2)) g (flG (xs.set k ((gs[k].1,u1),(gs[k].2,u2)))):=by
  rw[b1f xs k hx]
  exact((((((((B.set (k*8) (by omega) _).set (k*8+1) (by simp;omega) _).set (k*8+2) (by simp;omega) _).set (k*8+3) (by simp;omega) _).set (k*8+4) (by simp;omega) _).set (k*8+5) (by simp;omega) _).set (k*8+6) (by simp;omega) _).set (k*8+7) (by simp;omega) _)
 have hOw:∃ cs,(((((((((w'.setCell ⟨g,k*8,none⟩ (.int .i64 gs[k].1.op)).setCell ⟨g,k*8+1,none⟩ (.int .i64 gs[k].1.n)).setCell ⟨g,k*8+2,none⟩ (.int .i64 gs[k].1.m)).setCell ⟨g,k*8+3,none⟩ (u1)).setCell ⟨g,k*8+4,none⟩ (.int .i64 gs[k].2.op)).setCell ⟨g,k*8+5,none⟩ (.int .i64 gs[k].2.n)).setCell ⟨g,k*8+6,none⟩ (.int .i64 gs[k].2.m)).setCell ⟨g,k*8+7,none⟩ (u2))).ownsRow g 49 8 (.slice (some ⟨g,0,none⟩) gs.length gs.length) gs.length cs:=by
  obtain⟨cs,o⟩:=h.own
  have o0:=b4z o (b.block g h.box.lt)
  exact⟨_,((((((((o0.stored _ _).1.stored _ _).1.stored _ _).1.stored _ _).1.stored _ _).1.stored _ _).1.stored _ _).1.stored _ _).1⟩
 generalize ((((((((w'.setCell ⟨g,k*8,none⟩ (.int .i64 gs[k].1.op)).setCell ⟨g,k*8+1,none⟩ (.int .i64 gs[k].1.n)).setCell ⟨g,k*8+2,none⟩ (.int .i64 gs[k].1.m)).setCell ⟨g,k*8+3,none⟩ (u1)).setCell ⟨g,k*8+4,none⟩ (.int .i64 gs[k].2.op)).setCell ⟨g,k*8+5,none⟩ (.int .i64 gs[k].2.n)).setCell ⟨g,k*8+6,none⟩ (.int .i64 gs[k].2.m)).setCell ⟨g,k*8+7,none⟩ (u2))=W at *
 have key:∀ (q:Co×Co) lo' hi' v u,g<lo'->hi'<=w'.heap.size->a9L w' q lo' hi' v u->a9L W q lo' hi' v u:=
  fun q lo' hi' v u h1 h2 h3=>a9L.keep T.size (fun b' hb1 hb2=>T.block b' (by omega) (by simp;omega)) h3
 refine⟨by rw[List.length_set,h.len],hB,by simpa using h.s0,fun i hi=>?_,?_,hOw,fun i hi hi2 hik=>?_,a0c h.turn (a0c T0 T)⟩
 ·by_cases e:i=k
  ·subst e
   simp only[Nat.le_refl,if_true,show ¬ i+1<=i by omega,if_false]
   omega
  ·have:=h.mono i (by omega)
   simp only[show i<=k by omega,show i+1<=k by omega,if_true]
   exact this
 ·simp only[show ¬ k+1<=k by omega,if_false]
  exact hW
 ·by_cases e:i=k
  ·subst e
   simp only[List.getElem_set_self,Nat.le_refl,if_true,show ¬ i+1<=i by omega,if_false]
   exact⟨trivial,trivial,key _ _ _ _ _ (by omega) (Nat.le_refl _) (hn.wide (by omega))⟩
  ·have hi3:i<xs.length:=by simpa using hi2
   obtain⟨q1,q2,q3⟩:=h.it i hi hi3 (by omega)
   rw[List.getElem_set_ne (fun e2=>e e2.symm)]
   simp only[show i<=k by omega,show i+1<=k by omega,if_true]
   have h1:=hm 0 i (Nat.zero_le _) (by omega)
   have h2:=hm (i+1) k (by omega) (Nat.le_refl _)
   have h0:=h.s0
   exact⟨q1,q2,key _ _ _ _ _ (by omega) (by omega) (a9L.keep b.size (fun b' hb1 hb2=>b.block b' (by omega)) q3)⟩
end Go.Proofs.YtkbmgloilckdhaaGreatDoor
end
section
namespace Go.Proofs.YtkbmgloilckdhaaGreatDoor
open Go.RowKit
abbrev gz0:Value:=.agg #[.int .i64 0,.int .i64 0,.int .i64 0,.slice none 0 0,.int .i64 0,.int .i64 0,.int .i64 0,.slice none 0 0]
theorem a9v:(Tryz.prog.info? 49).map (fun i=>(i.zero,i.size,i.bytes))=some (some gz0,8,96):=by kernel_rfl
theorem a4R:∃ i,Tryz.prog.info? 49=some i/\i.zero=some gz0/\i.size=8/\i.bytes=96:=by
 have h:=a9v
 cases hi:Tryz.prog.info? 49 with
 | none=>rw[hi] at h;cases h
 | some i=>
   rw[hi] at h
   simp only[Option.map_some,Option.some.injEq,Prod.mk.injEq] at h
   exact⟨i,rfl,h.1,h.2.1,h.2.2⟩
theorem a5h.shape' {w:World}{v:Value}{l:List (Co×Co)}(h:a5h w v l):∃ ad cap,v=.slice ad l.length cap/\l.length<=cap/\cap<=9223372036854775807:=by
 obtain⟨ad,cap,hv,h1,h2,-⟩:=h
 exact⟨ad,cap,hv,h1,h2⟩
theorem a7U (n:Nat):(madeCells gz0.cells (n*8)).toList=flG (List.replicate n (((⟨0,0,0,[]⟩:Co),Value.slice none 0 0),((⟨0,0,0,[]⟩:Co),Value.slice none 0 0))):=by
 apply List.ext_getElem?
 intro i
 by_cases hi:i<n*8
 ·have h1:i/8<(List.replicate n (((⟨0,0,0,[]⟩:Co),Value.slice none 0 0),((⟨0,0,0,[]⟩:Co),Value.slice none 0 0))).length:=by simp;omega
  have hm:i%8=0\/i%8=1\/i%8=2\/i%8=3\/i%8=4\/i%8=5\/i%8=6\/i%8=7:=by omega
  have hd:i/8*8+i%8=i:=by omega
  have hL:(madeCells gz0.cells (n*8)).toList[i]? = some (gz0.cells[i%8]!):=by
   have:gz0.cells.size=8:=rfl
   simp[madeCells,hi,this]
  rw[hL]
  have hR:=a4V (List.replicate n (((⟨0,0,0,[]⟩:Co),Value.slice none 0 0),((⟨0,0,0,[]⟩:Co),Value.slice none 0 0))) (i/8) h1 (i%8)
  rw[hd] at hR
  symm
  apply hR
  rw[List.getElem_replicate]
  rcases hm with h | h | h | h | h | h | h | h<;>rw[h]<;>rfl
 ·rw[List.getElem?_eq_none (by simp[size_madeCells];omega),List.getElem?_eq_none (by rw[a4l];simp;omega)]
set_option maxHeartbeats 4000000 in
set_option maxRecDepth 20000 in
theorem b6q (ps:List (Co×Co))(hl:ps.length*96<=140737488355328)(ih:∀ x,x∈ps->CWt x.1/\CWt x.2)(v:Value)(w:World)(hs:a5h w v ps):
 Calls Tryz.prog 32 #[v,.func (.func 33) #[] #[]] w fun e w'=>∃ u,e=.returned u/\a5h w' u ps/\a7x w' ps w.heap.size w'.heap.size u/\Below w.heap.size w w':=by
 obtain⟨ad,cap,rfl,hle,hcap⟩:=hs.shape'
 have HL:=a0a hs
 obtain⟨N,hN⟩:∃ N,Hid (N=ps.length):=⟨_,rfl⟩
 rw[<-hN.out] at hl hle ⊢
 rw[<-hN.out] at HL
 obtain⟨i0,hi,hz0,hz1,hz2⟩:=a4R
 have hnil:=fun W:World=>run_eql_slice_nil (P:=Tryz.prog) W 27 49 ad N cap Tryz.underlying27
 cases ad with
 | none=>
   have hn0:ps.length=0:=by
    rcases Nat.eq_zero_or_pos ps.length with h | h
    ·exact h
    ·obtain⟨b,off,cap',e,-⟩:=HL.out.open h
     simp at e
   go_enter Tryz.func32,Tryz.ntmps32
   go_wp2_with fail
   go_ret
   exact⟨.slice none 0 0,rfl,⟨none,0,by rw[hn0],by omega,by omega,.inl hn0⟩,⟨Nat.le_refl _,.inl ⟨hn0,rfl⟩⟩,Below.refl _ _⟩
 | some a=>
   go_enter Tryz.func32,Tryz.ntmps32
   go_wp2_with (at_make;refine wpList_make_full _ rfl _ _ 27 rfl w.heap.size 49 i0 gz0 8 Tryz.underlying27 hi hz0 hz1 _ _ _ _ N rfl rfl rfl rfl (by rw[hz2];omega) (by unfold maxLen;omega) (Nat.le_refl _) ?_;intro w3 hown hgrow;have hb3:Below w.heap.size w w3:=(Below.refl _ _).grown hgrow (Nat.le_refl _) (by simp);have HB3:=a0a hb3;have HO:=a0a hown;clear hb3 hown hgrow)
   have hI0:Hid (b6R w3 w.heap.size ps 0 (List.replicate N (((⟨0,0,0,[]⟩:Co),Value.slice none 0 0),((⟨0,0,0,[]⟩:Co),Value.slice none 0 0))) (fun _=>w.heap.size+1) w3):=by
    have hb:Box w3 w.heap.size (flG (List.replicate N (((⟨0,0,0,[]⟩:Co),Value.slice none 0 0),((⟨0,0,0,[]⟩:Co),Value.slice none 0 0)))):=by
     rcases a4F HO.out with ⟨h,_⟩ | ⟨g,c,h,_,hb⟩
     ·cases h
     ·simp only[Value.slice.injEq,Option.some.injEq,Addr.mk.injEq,and_true] at h
      obtain⟨⟨rfl,_⟩,_⟩:=h
      rw[a7U] at hb
      exact hb
    exact a0a ⟨by rw[List.length_replicate];exact hN.out,hb,by omega,(fun i hi=>by omega),hb.lt,⟨_,by rw[<-hN.out];exact HO.out⟩,(fun i _ _ hi=>by omega),a0p.refl _ _⟩
   have HIh:=a0a ih
   obtain⟨g,hg⟩:∃ g,Hid (g=w.heap.size):=⟨_,rfl⟩
   rw[<-hg.out] at hI0 ⊢
   clear HO hi hz0 hz1 hz2 ih hnil hs
   go_loopw [15] (fun i wr=>∃ (k:Nat) (xs:List GPr) (s:Nat->Nat),i=.int .i64 (k:Nat)/\k<=N/\Hid (b6R w3 g ps k xs s wr)) (fun i _=>match i with | .int _ p=>((N:Int)-p).toNat | _=>0)
   case atStart=>exact⟨0,_,_,rfl,by omega,hI0⟩
   case round=>
    obtain⟨k,xs,s,rfl,hk,HI⟩:=hrel
    have HBr:Hid (Below w.heap.size w wr):=by
     have b:=HB3.out
     have t:=HI.out.turn
     exact a0a ⟨t.os.trans b.os,t.tape.trans b.tape,t.output.trans b.output,Nat.le_trans b.size t.size,fun q hq=>(t.block q (Nat.lt_of_lt_of_le hq b.size) (by have:=hg.out;simp;omega)).trans (b.block q hq)⟩
    by_cases hlt:k<N
    ·have hlt':(k:Int)<(N:Int):=by omega
     have hl1:k<ps.length:=by rw[<-hN.out];exact hlt
     obtain⟨b,off,cap',hv,-,-,hbl,hx⟩:=HL.out.open (by omega)
     simp only[Value.slice.injEq,Option.some.injEq] at hv
     obtain⟨rfl,-,rfl⟩:=hv
     obtain⟨ux,uy,h6,h7,hu,hv2⟩:=hx k hl1
     have y0:=a0d HBr.out h6.c0
     have y1:=a0d HBr.out h6.c1
     have y2:=a0d HBr.out h6.c2
     have y3:=a0d HBr.out h6.c3
     have y4:=a0d HBr.out h7.c0
     have y5:wr.cell? ⟨b,off+k*8+5,none⟩=_:=a0d HBr.out h7.c1
     have y6:wr.cell? ⟨b,off+k*8+6,none⟩=_:=a0d HBr.out h7.c2
     have y7:wr.cell? ⟨b,off+k*8+7,none⟩=_:=a0d HBr.out h7.c3
     have lbr:b<wr.heap.size:=World.block_lt_of_cell? wr _ y0
     have HNx:=a0a (HIh.out _ (List.getElem_mem hl1))
     have HU:=a0a hu
     have HV:=a0a hv2
     have HMo:=a0a (fun w' u1 u2 hb lo hlo hn=>HI.out.more (w':=w') (u1:=u1) (u2:=u2) hl1 hb (lo:=lo) hlo hn)
     have hgl:=HI.out.box.lt
     have hxk:k<xs.length:=by rw[HI.out.len];exact hl1
     have HFr:Hid (∀ j,j<8->k*8+j<(flG xs).length):=fun j hj=>by rw[a4l];omega
     have HCe:Hid (∀ j u,(coL xs[k].1.1 xs[k].1.2++coL xs[k].2.1 xs[k].2.2)[j]? = some u->(flG xs)[k*8+j]? = some u):=fun j u h=>a4V xs k hxk j u h
     generalize xs[k]=xk at *
     obtain⟨a5,c5,rfl,-,-⟩:=hu.parts.shape
     obtain⟨a6,c6,rfl,-,-⟩:=hv2.parts.shape
     clear h6 h7 hu hv2 hx
     generalize ps[k]=t at *
     obtain⟨tx,ty⟩:=t
     dsimp only at *
     have ba:=(Below.refl wr.heap.size wr).alloc (Nat.le_refl _) (.cells #[.int .i64 tx.op,.int .i64 tx.n,.int .i64 tx.m,.slice a5 tx.parts.length c5,.int .i64 ty.op,.int .i64 ty.n,.int .i64 ty.m,.slice a6 ty.parts.length c6] 49)
     have BA:=a0a ba
     clear ba
     go_wp2_with fail
     refine Calls.mono (a8j tx ty HNx.out.1 HNx.out.2 _ _ _ (HU.out.next (a0b HBr.out BA.out HBr.out.size)) (HV.out.next (a0b HBr.out BA.out HBr.out.size))) ?_
     rintro e w4 ⟨u1,u2,m,rfl,su,sv,nu,nv,b4⟩
     have B4:=kb BA b4
     have hlm:m<=w4.heap.size:=(a2r.1 nv).1
     have hml:=(a2r.1 nu).1
     have M:=a0a (HMo.out w4 _ _ B4.out _ BA.out.size ⟨m,hml,hlm,nu,nv⟩)
     obtain⟨a4,c4,rfl,-,-⟩:=su.parts.shape
     obtain⟨a7,c7,rfl,-,-⟩:=sv.parts.shape
     have X:=HI.out.box.next B4.out
     have z0:=X.cell (k*8) _ (HCe.out 0 _ rfl)
     have f0:=X.free (k*8) (HFr.out 0 (by decide))
     have z1:=X.cell (k*8+1) _ (HCe.out 1 _ rfl)
     have f1:=X.free (k*8+1) (HFr.out 1 (by decide))
     have z2:=X.cell (k*8+2) _ (HCe.out 2 _ rfl)
     have f2:=X.free (k*8+2) (HFr.out 2 (by decide))
     have z3:=X.cell (k*8+3) _ (HCe.out 3 _ rfl)
     have f3:=X.free (k*8+3) (HFr.out 3 (by decide))
     have z4:=X.cell (k*8+4) _ (HCe.out 4 _ rfl)
     have f4:=X.free (k*8+4) (HFr.out 4 (by decide))
     have z5:=X.cell (k*8+5) _ (HCe.out 5 _ rfl)
     have f5:=X.free (k*8+5) (HFr.out 5 (by decide))
     have z6:=X.cell (k*8+6) _ (HCe.out 6 _ rfl)
     have f6:=X.free (k*8+6) (HFr.out 6 (by decide))
     have z7:=X.cell (k*8+7) _ (HCe.out 7 _ rfl)
     have f7:=X.free (k*8+7) (HFr.out 7 (by decide))
     have xl:=X.lt
     clear X su sv nu nv b4 BA HMo HCe HFr HU HV HNx hlm hml y0 y1 y2 y3 y4 y5 y6 y7
     go_wp2_with fail
     go_roundw
     ·exact⟨k+1,_,_,by simp,by omega,M⟩
     ·simp;omega
    ·have hkN:k=N:=by omega
     subst hkN
     have hR:Hid (a7x wr ps w.heap.size wr.heap.size (.slice (some ⟨g,0,none⟩) k k)):=by
      have h:=HI.out
      rw[hN.out] at h ⊢
      exact a0a (h.row (by rw[hg.out];exact Nat.le_refl _))
     go_wp2_with fail
     go_ret
     exact⟨_,rfl,a4k HL.out hR.out,hR.out,HBr.out⟩end Go.Proofs.YtkbmgloilckdhaaGreatDoor
end
section
namespace Go.Proofs.YtkbmgloilckdhaaGreatDoor
open Go.RowKit
def a1M (cs:Nat->List Value)(n:Nat):List Value:=((List.range n).map cs).flatten
theorem a5x (cs:Nat->List Value)(n:Nat):a1M cs (n+1)=a1M cs n++cs n:=by simp[a1M,List.range_succ]
theorem a1W {cs:Nat->List Value}{k:Nat}(h:∀ i,(cs i).length=k)(n:Nat):(a1M cs n).length=n*k:=by
 induction n with
 | zero=>simp[a1M]
 | succ n ih=>rw[a5x,List.length_append,ih,h,Nat.succ_mul]
theorem a6e {cs:Nat->List Value}{k:Nat}(h:∀ i,(cs i).length=k)(n:Nat):∀ i j u,i<n->(cs i)[j]? = some u->(a1M cs n)[i*k+j]? = some u:=by
 induction n with
 | zero=>intro i j u hi;omega
 | succ n ih=>
   intro i j u hi hu
   have hj:j<k:=by have:=(List.getElem?_eq_some_iff.1 hu).1;rw[h] at this;exact this
   rw[a5x]
   by_cases e:i<n
   ·have hb:i*k+j<n*k:=by
     have:(i+1)*k<=n*k:=Nat.mul_le_mul_right k e
     rw[Nat.succ_mul] at this
     omega
    rw[List.getElem?_append_left (by rw[a1W h];exact hb)]
    exact ih i j u e hu
   ·have e2:i=n:=by omega
    subst e2
    rw[List.getElem?_append_right (by rw[a1W h];omega),a1W h]
    rw[show i*k+j-i*k=j by omega]
    exact hu
theorem a4z {cs:Nat->List Value}{k:Nat}(hk:0<k)(h:∀ i,(cs i).length=k)(n:Nat)(q:Nat)(u:Value)(hu:(a1M cs n)[q]? = some u):q/k<n/\(cs (q/k))[q%k]? = some u:=by
 have hq:q<n*k:=by have:=(List.getElem?_eq_some_iff.1 hu).1;rw[a1W h] at this;exact this
 have h1:q/k<n:=Nat.div_lt_of_lt_mul (by rw[Nat.mul_comm];exact hq)
 refine⟨h1,?_⟩
 have h2:q%k<(cs (q/k)).length:=by rw[h];exact Nat.mod_lt _ hk
 have h3:=a6e h n (q/k) (q%k) _ h1 (List.getElem?_eq_getElem h2)
 have h4:q/k*k+q%k=q:=by rw[Nat.mul_comm];exact Nat.div_add_mod q k
 rw[h4,hu] at h3
 rw[List.getElem?_eq_getElem h2]
 exact h3.symm
theorem a5w {w:World}{n k:Nat}{cs:Nat->List Value}(hk:0<k)(hl:∀ i,(cs i).length=k){b off:Nat}(hx:∀ i,i<n->∀ j x,(cs i)[j]? = some x->w.cell? ⟨b,off+i*k+j,none⟩=some x):∀ j u,(a1M cs n)[j]? = some u->w.cell? ((⟨b,off,none⟩:Addr).add j)=some u:=by
 intro j u hu
 obtain⟨h1,h2⟩:=a4z hk hl n j u hu
 have:=hx _ h1 _ _ h2
 rw[Nat.add_assoc,show j/k*k+j%k=j by rw[Nat.mul_comm];exact Nat.div_add_mod j k] at this
 have hadd:(⟨b,off,none⟩:Addr).add j=⟨b,off+j,none⟩:=by unfold Addr.add;split<;>simp_all
 rw[hadd]
 exact this
theorem a1L {w:World}{B n k:Nat}{e:TypeId}{v:Value}{cs:Nat->List Value}(hl:∀ i,(cs i).length=k)(h:w.ownsRow B e k v n (a1M cs n)):a0Y w v n k cs:=by
 obtain⟨h1,⟨h2,h3⟩ | ⟨g,cap,cur,h2,h3,h4,h5,h6,h7,h8⟩⟩:=h
 ·exact⟨none,0,by rw[h2,h3],by omega,by omega,.inl h3⟩
 ·have BX:Box w g (a1M cs n):=(Box.ofBlock h4).part (by rw[<-h8];exact List.take_prefix _ _)
  refine⟨_,cap,h2,h5,h6,.inr ⟨g,0,rfl,BX.lt,fun i hi j x hx=>?_⟩⟩
  have:=BX.cell (i*k+j) x (a6e hl n i j x hi hx)
  simpa using this
theorem b5U:(Tryz.prog.info? 51).map (fun i=>(i.zero.map (fun z=>z.cells.size),i.size,i.bytes))=some (some 4,4,32):=by kernel_rfl
theorem b3s:∃ i z,Tryz.prog.info? 51=some i/\i.zero=some z/\z.cells.size=4/\i.size=4/\i.bytes=32:=by
 have h:=b5U
 cases hi:Tryz.prog.info? 51 with
 | none=>rw[hi] at h;cases h
 | some i=>
   rw[hi] at h
   simp only[Option.map_some,Option.some.injEq,Prod.mk.injEq] at h
   obtain⟨z,hz,h0⟩:=Option.map_eq_some_iff.1 h.1
   exact⟨i,z,rfl,hz,h0,h.2.1,h.2.2⟩
set_option maxHeartbeats 2000000 in
set_option maxRecDepth 20000 in
theorem b1B (l:List WiP)(hl:l.length*32<=140737488355328)(v:Value)(w:World)(hs:b8d w v l):Calls Tryz.prog 30 #[v] w fun e w'=>∃ u,e=.returned u/\w'.ownsRow w.heap.size 51 4 u l.length (a1M (fun i=>wiL (l.getD i wi0)) l.length)/\Below w.heap.size w w':=by
 obtain⟨ad,cap,rfl,hle,hcap,hp⟩:=hs
 obtain⟨i0,z,hi,hz0,hzs,hz1,hz2⟩:=b3s
 have hcs:Hid (∀ i,(wiL (l.getD i wi0)).length=4):=fun i=>rfl
 obtain⟨cs,hcsd⟩:∃ cs:Nat->List Value,Hid (cs=fun i=>wiL (l.getD i wi0)):=⟨_,rfl⟩
 have hone:Hid (∀ u,u∈a1M cs l.length->u.oneCell'=true):=by
  show ∀ u,_
  intro u hu
  obtain⟨q,hq⟩:=List.mem_iff_getElem?.1 hu
  obtain⟨-,h2⟩:=a4z (k:=4) (by decide) (by rw[hcsd.out];exact hcs.out) _ _ _ hq
  rw[hcsd.out] at h2
  have h3:=List.mem_of_getElem? h2
  simp at h3
  rcases h3 with rfl | rfl | rfl | rfl<;>rfl
 have hcs':Hid (∀ i,(cs i).length=4):=by rw[hcsd.out];exact hcs
 simp only at hp
 rw[<-hcsd.out]
 have hp':l.length=0\/∃ b off,ad=some ⟨b,off,none⟩/\b<w.heap.size/\∀ i,i<l.length->∀ j x,(cs i)[j]? = some x->w.cell? ⟨b,off+i*4+j,none⟩=some x:=by rw[hcsd.out];exact hp
 clear hp hcs hcsd
 generalize l.length=N at *
 have hnil:=fun W:World=>run_eql_slice_nil (P:=Tryz.prog) W 25 51 ad N cap Tryz.underlying25
 cases ad with
 | none=>
   have hn0:N=0:=by
    rcases hp' with h | ⟨b,off,e,-⟩
    ·exact h
    ·cases e
   subst hn0
   go_enter Tryz.func30,Tryz.ntmps30
   go_wp2_with fail
   go_ret
   exact⟨.slice none 0 0,rfl,World.ownsRow_nil _ _ _ _,Below.refl _ _⟩
 | some a=>
   have HC:Hid (∀ W,Below w.heap.size w W->∀ j u,(a1M cs N)[j]? = some u->W.cell? (a.add j)=some u):=by
    show ∀ W,_
    intro W hW j u hu
    rcases hp' with h | ⟨b,off,e,hb,hx⟩
    ·subst h;simp[a1M] at hu
    ·cases e
     exact a5w (by decide) hcs'.out (fun i hi j x h=>a0d hW (hx i hi j x h)) j u hu
   have ba:=(Below.refl w.heap.size w).alloc (Nat.le_refl _) (.cells #[] 51)
   have BA:=a0a ba
   have hO:=a0a (World.ownsRow_lit (base:=w.heap.size) (e:=51) (size:=4) w #[] 0 (Nat.le_refl _) (by unfold maxLen;omega) rfl)
   clear hp' ba
   go_enter Tryz.func30,Tryz.ntmps30
   go_wp2_with (at_builtin;refine wpList_append_own_wide _ rfl _ _ 25 rfl w.heap.size 51 i0 z 4 32 Tryz.underlying25 hi hz0 hz1 hz2 hzs (by decide) _ 0 [] rfl hO.out a N cap (a1M cs N) rfl (by rw[a1W hcs'.out]) (HC.out _ BA.out) hone.out (by unfold maxLen;omega) (by omega) (by simp) ?_;intro v1 w1 ho1 hg1 _)
   have B1:=a2k BA.out hO.out hg1 (by simp)
   rw[Nat.zero_add,List.nil_append] at ho1
   go_wp2_with fail
   go_ret
   exact⟨_,rfl,ho1,B1⟩
theorem b5V:(Tryz.prog.info? 54).map (fun i=>(i.zero.map (fun z=>z.cells.size),i.size,i.bytes))=some (some 5,5,40):=by kernel_rfl
theorem b3t:∃ i z,Tryz.prog.info? 54=some i/\i.zero=some z/\z.cells.size=5/\i.size=5/\i.bytes=40:=by
 have h:=b5V
 cases hi:Tryz.prog.info? 54 with
 | none=>rw[hi] at h;cases h
 | some i=>
   rw[hi] at h
   simp only[Option.map_some,Option.some.injEq,Prod.mk.injEq] at h
   obtain⟨z,hz,h0⟩:=Option.map_eq_some_iff.1 h.1
   exact⟨i,z,rfl,hz,h0,h.2.1,h.2.2⟩
set_option maxHeartbeats 2000000 in
set_option maxRecDepth 20000 in
theorem b1C (l:List Cr)(hl:l.length*40<=140737488355328)(v:Value)(w:World)(hs:b6T w v l):Calls Tryz.prog 31 #[v] w fun e w'=>∃ u,e=.returned u/\w'.ownsRow w.heap.size 54 5 u l.length (a1M (fun i=>crL (l.getD i cr0)) l.length)/\Below w.heap.size w w':=by
 obtain⟨ad,cap,rfl,hle,hcap,hp⟩:=hs
 obtain⟨i0,z,hi,hz0,hzs,hz1,hz2⟩:=b3t
 have hcs:Hid (∀ i,(crL (l.getD i cr0)).length=5):=fun i=>rfl
 obtain⟨cs,hcsd⟩:∃ cs:Nat->List Value,Hid (cs=fun i=>crL (l.getD i cr0)):=⟨_,rfl⟩
 have hone:Hid (∀ u,u∈a1M cs l.length->u.oneCell'=true):=by
  show ∀ u,_
  intro u hu
  obtain⟨q,hq⟩:=List.mem_iff_getElem?.1 hu
  obtain⟨-,h2⟩:=a4z (k:=5) (by decide) (by rw[hcsd.out];exact hcs.out) _ _ _ hq
  rw[hcsd.out] at h2
  have h3:=List.mem_of_getElem? h2
  simp at h3
  rcases h3 with rfl | rfl | rfl | rfl | rfl<;>rfl
 have hcs':Hid (∀ i,(cs i).length=5):=by rw[hcsd.out];exact hcs
 simp only at hp
 rw[<-hcsd.out]
 have hp':l.length=0\/∃ b off,ad=some ⟨b,off,none⟩/\b<w.heap.size/\∀ i,i<l.length->∀ j x,(cs i)[j]? = some x->w.cell? ⟨b,off+i*5+j,none⟩=some x:=by rw[hcsd.out];exact hp
 clear hp hcs hcsd
 generalize l.length=N at *
 have hnil:=fun W:World=>run_eql_slice_nil (P:=Tryz.prog) W 26 54 ad N cap Tryz.underlying26
 cases ad with
 | none=>
   have hn0:N=0:=by
    rcases hp' with h | ⟨b,off,e,-⟩
    ·exact h
    ·cases e
   subst hn0
   go_enter Tryz.func31,Tryz.ntmps31
   go_wp2_with fail
   go_ret
   exact⟨.slice none 0 0,rfl,World.ownsRow_nil _ _ _ _,Below.refl _ _⟩
 | some a=>
   have HC:Hid (∀ W,Below w.heap.size w W->∀ j u,(a1M cs N)[j]? = some u->W.cell? (a.add j)=some u):=by
    show ∀ W,_
    intro W hW j u hu
    rcases hp' with h | ⟨b,off,e,hb,hx⟩
    ·subst h;simp[a1M] at hu
    ·cases e
     exact a5w (by decide) hcs'.out (fun i hi j x h=>a0d hW (hx i hi j x h)) j u hu
   have ba:=(Below.refl w.heap.size w).alloc (Nat.le_refl _) (.cells #[] 54)
   have BA:=a0a ba
   have hO:=a0a (World.ownsRow_lit (base:=w.heap.size) (e:=54) (size:=5) w #[] 0 (Nat.le_refl _) (by unfold maxLen;omega) rfl)
   clear hp' ba
   go_enter Tryz.func31,Tryz.ntmps31
   go_wp2_with (at_builtin;refine wpList_append_own_wide _ rfl _ _ 26 rfl w.heap.size 54 i0 z 5 40 Tryz.underlying26 hi hz0 hz1 hz2 hzs (by decide) _ 0 [] rfl hO.out a N cap (a1M cs N) rfl (by rw[a1W hcs'.out]) (HC.out _ BA.out) hone.out (by unfold maxLen;omega) (by omega) (by simp) ?_;intro v1 w1 ho1 hg1 _)
   have B1:=a2k BA.out hO.out hg1 (by simp)
   rw[Nat.zero_add,List.nil_append] at ho1
   go_wp2_with fail
   go_ret
   exact⟨_,rfl,ho1,B1⟩
theorem b3q:(Tryz.prog.info? 9).map (fun i=>(i.zero,i.size,i.bytes))=some (some (.string ⟨#[]⟩),1,16):=by kernel_rfl
theorem b0V:∃ i,Tryz.prog.info? 9=some i/\i.zero=some (.string ⟨#[]⟩)/\i.size=1/\i.bytes=16:=by
 have h:=b3q
 cases hi:Tryz.prog.info? 9 with
 | none=>rw[hi] at h;cases h
 | some i=>
   rw[hi] at h
   simp only[Option.map_some,Option.some.injEq,Prod.mk.injEq] at h
   exact⟨i,rfl,h.1,h.2.1,h.2.2⟩
theorem b0A {w w':World}{B:Nat}{e:TypeId}{size n:Nat}{v:Value}{xs:List Value}(h:w.ownsRow B e size v n xs)(hb:Below w.heap.size w w'):w'.ownsRow B e size v n xs:=by
 obtain⟨h1,h2 | ⟨g,cap,cur,h2,h3,h4,h5⟩⟩:=h
 ·exact⟨h1,.inl h2⟩
 ·exact⟨h1,.inr ⟨g,cap,cur,h2,h3,(hb.block g (by rcases Nat.lt_or_ge g w.heap.size with h | h;exact h;rw[Array.getElem?_eq_none h] at h4;cases h4)).trans h4,h5⟩⟩
theorem a6a {xs R:List Value}{k:Nat}{u:Value}(h:xs.take k=R.take k)(hk:k<xs.length)(hu:R[k]? = some u):(xs.set k u).take (k+1)=R.take (k+1):=by
 apply List.ext_getElem?
 intro i
 rcases Nat.lt_trichotomy i k with hi | hi | hi
 ·have:=congrArg (fun l=>l[i]?) h
  simp only[List.getElem?_take,hi,if_true] at this
  simp only[List.getElem?_take,show i<k+1 by omega,if_true]
  rw[List.getElem?_set_ne (by omega)]
  exact this
 ·subst hi
  simp only[List.getElem?_take,show i<i+1 by omega,if_true]
  rw[List.getElem?_set_self hk,hu]
 ·simp only[List.getElem?_take,show ¬ i<k+1 by omega,if_false]
set_option maxHeartbeats 4000000 in
set_option maxRecDepth 20000 in
theorem b6p (hcl:∀ (s:ByteArray) (W:World),s.size<=140737488355328->Calls Tryz.prog 29 #[.string s] W fun e w'=>e=.returned (.string s)/\Below W.heap.size W w')(ps:List ByteArray)(hl:ps.length*16<=140737488355328)(ih:∀ x,x∈ps->x.size<=140737488355328)(v:Value)(w:World)(hs:b4P w v ps):
 Calls Tryz.prog 28 #[v,.func (.func 29) #[] #[]] w fun e w'=>∃ u,e=.returned u/\w'.ownsRow w.heap.size 9 1 u ps.length (a1M (fun i=>[.string (ps.getD i default)]) ps.length)/\Below w.heap.size w w':=by
 have HCl:=a0a hcl
 clear hcl
 obtain⟨ad,cap,rfl,hle,hcap,hp⟩:=hs
 obtain⟨N,hN⟩:∃ N,Hid (N=ps.length):=⟨_,rfl⟩
 rw[<-hN.out] at hl hle hp ⊢
 have HP:=a0a hp
 obtain⟨R,hR⟩:∃ R,Hid (R=a1M (fun i=>[Value.string (ps.getD i default)]) N):=⟨_,rfl⟩
 have hRl:Hid (R.length=N):=by rw[hR.out];exact a0a ((a1W (k:=1) (fun i=>rfl) N).trans (by omega))
 rw[<-hR.out]
 obtain⟨i0,hi,hz0,hz1,hz2⟩:=b0V
 have hnil:=fun W:World=>run_eql_slice_nil (P:=Tryz.prog) W 22 9 ad N cap Tryz.underlying22
 cases ad with
 | none=>
   have hn0:N=0:=by
    rcases hp with h | ⟨b,off,e,-⟩
    ·exact h
    ·cases e
   subst hn0
   go_enter Tryz.func28,Tryz.ntmps28
   go_wp2_with fail
   go_ret
   have hR0:R=[]:=List.eq_nil_of_length_eq_zero hRl.out
   exact⟨.slice none 0 0,rfl,by rw[hR0];exact World.ownsRow_nil _ _ _ _,Below.refl _ _⟩
 | some a=>
   go_enter Tryz.func28,Tryz.ntmps28
   go_wp2_with (at_make;refine wpList_make_full _ rfl _ _ 22 rfl w.heap.size 9 i0 (.string ⟨#[]⟩) 1 Tryz.underlying22 hi hz0 hz1 _ _ _ _ N rfl rfl rfl rfl (by rw[hz2];omega) (by unfold maxLen;omega) (Nat.le_refl _) ?_;intro w3 hown hgrow;have hb3:Below w.heap.size w w3:=(Below.refl _ _).grown hgrow (Nat.le_refl _) (by simp);have HB3:=a0a hb3;have HO:=a0a hown;clear hb3 hown hgrow)
   obtain⟨g,hg⟩:∃ g,Hid (g=w.heap.size):=⟨_,rfl⟩
   have HO2:Hid (∃ xs:List Value,xs.length=N/\w3.ownsRow w.heap.size 9 1 (.slice (some ⟨g,0,none⟩) N N) N xs):=by
    rw[hg.out]
    exact a0a ⟨_,by have:=HO.out.1;omega,HO.out⟩
   obtain⟨xs0,hx0,ho0⟩:=HO2.out
   have HO0:=a0a ho0
   have HX0:=a0a hx0
   have HIh:=a0a ih
   rw[<-hg.out]
   clear HO HO2 ho0 hx0 hi hz0 hz1 hz2 ih hnil hp
   go_loopw [15] (fun i wr=>∃ (k:Nat) (xs:List Value),i=.int .i64 (k:Nat)/\k<=N/\Hid (xs.length=N)/\Hid (xs.take k=R.take k)/\Hid (wr.ownsRow w.heap.size 9 1 (.slice (some ⟨g,0,none⟩) N N) N xs)/\Hid (Below w.heap.size w wr)) (fun i _=>match i with | .int _ p=>((N:Int)-p).toNat | _=>0)
   case atStart=>exact⟨0,xs0,rfl,by omega,HX0,a0a rfl,HO0,HB3⟩
   case round=>
    obtain⟨k,xs,rfl,hk,HXl,HXs,HOw,HBr⟩:=hrel
    by_cases hlt:k<N
    ·have hlt':(k:Int)<(N:Int):=by omega
     have hl1:k<ps.length:=by rw[<-hN.out];exact hlt
     obtain⟨b,off,e,hbl,hx⟩:∃ b off,some a=some ⟨b,off,none⟩/\b<w.heap.size/\∀ i,i<N->∀ j x,([Value.string (ps.getD i default)])[j]? = some x->w.cell? ⟨b,off+i*1+j,none⟩=some x:=by
      rcases HP.out with h | h
      ·omega
      ·exact h
     cases e
     have y0:=a0d HBr.out (hx k hlt 0 _ rfl)
     rw[Nat.mul_one,Nat.add_zero] at y0
     have hRk:Hid (R[k]? = some (.string (ps.getD k default))):=by
      rw[hR.out]
      have:=a6e (k:=1) (cs:=fun i=>[Value.string (ps.getD i default)]) (fun i=>rfl) N k 0 _ hlt rfl
      rw[Nat.mul_one,Nat.add_zero] at this
      exact a0a this
     have hsz:Hid ((ps.getD k default).size<=140737488355328):=HIh.out _ (by simp[List.getD,hl1])
     have lbr:b<wr.heap.size:=World.block_lt_of_cell? wr _ y0
     generalize ps.getD k default=s at *
     clear hx
     go_wp2_with fail
     refine Calls.mono (HCl.out s _ hsz.out) ?_
     rintro e w4 ⟨rfl,b4⟩
     have O4:=a0a (b0A HOw.out b4)
     have B4:=kb HBr b4
     have f0:=O4.out.frozenAt k
     have c0:=O4.out.cellAt k (by omega)
     have hgl:=(O4.out.lt g rfl).2
     rw[List.getElem?_eq_getElem (by have:=HXl.out;omega)] at c0
     have St:=a0a (O4.out.stored k (.string s))
     have HT:=a0a (a6a HXs.out (by have:=HXl.out;omega) hRk.out)
     go_wp2_with fail
     go_roundw
     ·exact⟨k+1,xs.set k (.string s),by simp,by omega,a0a (by rw[List.length_set];exact HXl.out),HT,St.out.1,B4.out.setCell (by show w.heap.size<=g;have:=hg.out;omega) _⟩
     ·simp;omega
    ·have hkN:k=N:=by omega
     subst hkN
     have hE:Hid (xs=R):=by
      have h1:=HXs.out
      rw[List.take_of_length_le (by have:=HXl.out;omega),List.take_of_length_le (by have:=hRl.out;omega)] at h1
      exact a0a h1
     go_wp2_with fail
     go_ret
     exact⟨_,rfl,by rw[<-hE.out];exact HOw.out,HBr.out⟩
end Go.Proofs.YtkbmgloilckdhaaGreatDoor
end
