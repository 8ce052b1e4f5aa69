import Derived.Test.YtbddbnjhmdbkbaaGreatDoorCbMgB
import Derived.Test.YtbddbnjhmdbkbaaGreatDoorCbMoM
import Derived.Test.YtbddbnjhmdbkbaaGreatDoorCbMjB
import Derived.Test.YtbddbnjhmdbkbaaGreatDoorCbMgC
import Derived.Lib.LazyBuf
import Derived.Test.YtbddbnjhmdbkbaaGreatDoorCbMgM
import Derived.Test.YtbddbnjhmdbkbaaGreatDoorCbMgP
import Derived.Deep.AppendLies
import Derived.Deep.RegionLaw
namespace Go.Proofs.YtbddbnjhmdbkbaaGreatDoor
open Go.RowKit
structure Rng (lo hi:Nat)(w w':World):Prop where
 os:w'.os=w.os
 tape:w'.tape=w.tape
 output:w'.output=w.output
 size:w.heap.size<=w'.heap.size
 block:∀ k,k<w.heap.size->¬(lo<=k/\k<hi)->w'.heap[k]? = w.heap[k]?
theorem Rng.set {lo hi:Nat}(w:World)(p:Addr)(v:Value)(h1:lo<=p.block)(h2:p.block<hi):Rng lo hi w (w.setCell p v):=
 have t:=a0E.set (S:=[p.block]) w p v (by simp)
 ⟨t.os,t.tape,t.output,t.size,fun b hb hn=>t.block b hb (fun e=>hn (by have:=List.mem_singleton.1 e;subst this;exact⟨h1,h2⟩))⟩
theorem a8s {S:List Nat}{w w' w'':World}(h:a0E S w w')(k:a0E S w' w''):a0E S w w'':=h.trans k (fun _ hi=>.inl hi)
def CWt:Co->Prop
 | ⟨_,_,_,ps⟩=>ps.length*48<=140737488355328/\∀ x (h:x∈ps),(have:SizeOf.sizeOf x<SizeOf.sizeOf ps:=List.sizeOf_lt_of_mem h;CWt x)
theorem a9c {t:Co}:CWt t↔t.parts.length*48<=140737488355328/\∀ x,x∈t.parts->CWt x:=by
 cases t
 rw[CWt]
def a0Z (cs:Nat->List Value)(n:Nat):List Value:=((List.range n).map cs).flatten
theorem a3d (cs:Nat->List Value)(n:Nat):a0Z cs (n+1)=a0Z cs n++cs n:=by simp[a0Z,List.range_succ]
theorem a1z {cs:Nat->List Value}{k:Nat}(h:∀ i,(cs i).length=k)(n:Nat):(a0Z cs n).length=n*k:=by
 induction n with
 | zero=>simp[a0Z]
 | succ n ih=>rw[a3d,List.length_append,ih,h,Nat.succ_mul]
theorem a4T {cs:Nat->List Value}{k:Nat}(h:∀ i,(cs i).length=k)(n:Nat):∀ i j u,i<n->(cs i)[j]? = some u->(a0Z cs n)[i*k+j]? = some u:=by
 induction n with
 | zero=>intro i j u hi;omega
 | succ n ih=>
   intro i j u hi hu
   have hj:j<k:=by have:=(List.getElem?_eq_some_iff.1 hu).1;rw[h] at this;exact this
   rw[a3d]
   by_cases e:i<n
   ·have hb:i*k+j<n*k:=by
     have:(i+1)*k<=n*k:=Nat.mul_le_mul_right k e
     rw[Nat.succ_mul] at this
     omega
    rw[List.getElem?_append_left (by rw[a1z h];exact hb)]
    exact ih i j u e hu
   ·have e2:i=n:=by omega
    subst e2
    rw[List.getElem?_append_right (by rw[a1z h];omega),a1z h]
    rw[show i*k+j-i*k=j by omega]
    exact hu
theorem a3u {cs:Nat->List Value}{k:Nat}(hk:0<k)(h:∀ i,(cs i).length=k)(n:Nat)(q:Nat)(u:Value)(hu:(a0Z cs n)[q]? = some u):q/k<n/\(cs (q/k))[q%k]? = some u:=by
 have hq:q<n*k:=by have:=(List.getElem?_eq_some_iff.1 hu).1;rw[a1z h] at this;exact this
 have h1:q/k<n:=Nat.div_lt_of_lt_mul (by rw[Nat.mul_comm];exact hq)
 refine⟨h1,?_⟩
 have h2:q%k<(cs (q/k)).length:=by rw[h];exact Nat.mod_lt _ hk
 have h3:=a4T h n (q/k) (q%k) _ h1 (List.getElem?_eq_getElem h2)
 have h4:q/k*k+q%k=q:=by rw[Nat.mul_comm];exact Nat.div_add_mod q k
 rw[h4,hu] at h3
 rw[List.getElem?_eq_getElem h2]
 exact h3.symm
theorem a3c {w:World}{n k:Nat}{cs:Nat->List Value}(hk:0<k)(hl:∀ i,(cs i).length=k){b off:Nat}(hx:∀ i,i<n->∀ j x,(cs i)[j]? = some x->w.cell? ⟨b,off+i*k+j,none⟩=some x):∀ j u,(a0Z cs n)[j]? = some u->w.cell? ((⟨b,off,none⟩:Addr).add j)=some u:=by
 intro j u hu
 obtain⟨h1,h2⟩:=a3u hk hl n j u hu
 have:=hx _ h1 _ _ h2
 rw[Nat.add_assoc,show j/k*k+j%k=j by rw[Nat.mul_comm];exact Nat.div_add_mod j k] at this
 have hadd:(⟨b,off,none⟩:Addr).add j=⟨b,off+j,none⟩:=by unfold Addr.add;split<;>simp_all
 rw[hadd]
 exact this
theorem a2G {w:World}{B n k:Nat}{e:TypeId}{v:Value}{cs:Nat->List Value}(hl:∀ i,(cs i).length=k)(h:w.ownsRow B e k v n (a0Z cs n)):a0u w v n k cs:=by
 obtain⟨h1,⟨h2,h3⟩ | ⟨g,cap,cur,h2,h3,h4,h5,h6,h7,h8⟩⟩:=h
 ·exact⟨none,0,by rw[h2,h3],by omega,by omega,.inl h3⟩
 ·have BX:Box w g (a0Z cs n):=(Box.ofBlock h4).part (by rw[<-h8];exact List.take_prefix _ _)
  refine⟨_,cap,h2,h5,h6,.inr ⟨g,0,rfl,BX.lt,fun i hi j x hx=>?_⟩⟩
  have:=BX.cell (i*k+j) x (a4T hl n i j x hi hx)
  simpa using this
theorem a8O:(Tryz.prog.info? 63).map (fun i=>(i.zero.map (fun z=>z.cells.size),i.size,i.bytes))=some (some 4,4,32):=by kernel_rfl
theorem a7B:∃ i z,Tryz.prog.info? 63=some i/\i.zero=some z/\z.cells.size=4/\i.size=4/\i.bytes=32:=by
 have h:=a8O
 cases hi:Tryz.prog.info? 63 with
 | none=>rw[hi] at h;cases h
 | some i=>
   rw[hi] at h
   simp only[Option.map_some,Option.some.injEq,Prod.mk.injEq] at h
   obtain⟨z,hz,h0⟩:=Option.map_eq_some_iff.1 h.1
   exact⟨i,z,rfl,hz,h0,h.2.1,h.2.2⟩
set_option maxHeartbeats 2000000 in
set_option maxRecDepth 20000 in
theorem a6P (l:List WiP)(hl:l.length*32<=140737488355328)(v:Value)(w:World)(hs:a9s w v l):Calls Tryz.prog 35 #[v] w fun e w'=>∃ u,e=.returned u/\w'.ownsRow w.heap.size 63 4 u l.length (a0Z (fun i=>wiL (l.getD i wi0)) l.length)/\Below w.heap.size w w':=by
 obtain⟨ad,cap,rfl,hle,hcap,hp⟩:=hs
 obtain⟨i0,z,hi,hz0,hzs,hz1,hz2⟩:=a7B
 have hcs:Hid (∀ i,(wiL (l.getD i wi0)).length=4):=fun i=>rfl
 obtain⟨cs,hcsd⟩:∃ cs:Nat->List Value,Hid (cs=fun i=>wiL (l.getD i wi0)):=⟨_,rfl⟩
 have hone:Hid (∀ u,u∈a0Z cs l.length->u.oneCell'=true):=by
  show ∀ u,_
  intro u hu
  obtain⟨q,hq⟩:=List.mem_iff_getElem?.1 hu
  obtain⟨-,h2⟩:=a3u (k:=4) (by decide) (by rw[hcsd.out];exact hcs.out) _ _ _ hq
  rw[hcsd.out] at h2
  have h3:=List.mem_of_getElem? h2
  simp at h3
  rcases h3 with rfl | rfl | rfl | rfl<;>rfl
 have hcs':Hid (∀ i,(cs i).length=4):=by rw[hcsd.out];exact hcs
 simp only at hp
 rw[<-hcsd.out]
 have hp':l.length=0\/∃ b off,ad=some ⟨b,off,none⟩/\b<w.heap.size/\∀ i,i<l.length->∀ j x,(cs i)[j]? = some x->w.cell? ⟨b,off+i*4+j,none⟩=some x:=by rw[hcsd.out];exact hp
 clear hp hcs hcsd
 generalize l.length=N at *
 have hnil:=fun W:World=>run_eql_slice_nil (P:=Tryz.prog) W 25 63 ad N cap Tryz.underlying25
 cases ad with
 | none=>
   have hn0:N=0:=by
    rcases hp' with h | ⟨b,off,e,-⟩
    ·exact h
    ·cases e
   subst hn0
   go_enter Tryz.func35,Tryz.ntmps35
   go_wp2_with fail
   go_ret
   exact⟨.slice none 0 0,rfl,World.ownsRow_nil _ _ _ _,ZE _ _⟩
 | some a=>
   have HC:Hid (∀ W,Below w.heap.size w W->∀ j u,(a0Z cs N)[j]? = some u->W.cell? (a.add j)=some u):=by
    show ∀ W,_
    intro W hW j u hu
    rcases hp' with h | ⟨b,off,e,hb,hx⟩
    ·subst h;simp[a0Z] at hu
    ·cases e
     exact a3c (by decide) hcs'.out (fun i hi j x h=>a0j hW (hx i hi j x h)) j u hu
   have ba:=(ZE w.heap.size w).alloc (ZC _) (.cells #[] 63)
   have BA:=a0a ba
   have hO:=a0a (World.ownsRow_lit (base:=w.heap.size) (e:=63) (size:=4) w #[] 0 (ZC _) (by unfold maxLen;omega) rfl)
   clear hp' ba
   go_enter Tryz.func35,Tryz.ntmps35
   go_wp2_with (at_builtin;refine wpList_append_own_wide _ rfl _ _ 25 rfl w.heap.size 63 i0 z 4 32 Tryz.underlying25 hi hz0 hz1 hz2 hzs (by decide) _ 0 [] rfl hO.out a N cap (a0Z cs N) rfl (by rw[a1z hcs'.out]) (HC.out _ BA.out) hone.out (by unfold maxLen;omega) (by omega) (by simp) ?_;intro v1 w1 ho1 hg1 _)
   have B1:=a1q BA.out hO.out hg1 (by simp)
   rw[Nat.zero_add,List.nil_append] at ho1
   go_wp2_with fail
   go_ret
   exact⟨_,rfl,ho1,B1⟩
theorem a8P:(Tryz.prog.info? 66).map (fun i=>(i.zero.map (fun z=>z.cells.size),i.size,i.bytes))=some (some 5,5,40):=by kernel_rfl
theorem a7C:∃ i z,Tryz.prog.info? 66=some i/\i.zero=some z/\z.cells.size=5/\i.size=5/\i.bytes=40:=by
 have h:=a8P
 cases hi:Tryz.prog.info? 66 with
 | none=>rw[hi] at h;cases h
 | some i=>
   rw[hi] at h
   simp only[Option.map_some,Option.some.injEq,Prod.mk.injEq] at h
   obtain⟨z,hz,h0⟩:=Option.map_eq_some_iff.1 h.1
   exact⟨i,z,rfl,hz,h0,h.2.1,h.2.2⟩
set_option maxHeartbeats 2000000 in
set_option maxRecDepth 20000 in
theorem a6Q (l:List Cr)(hl:l.length*40<=140737488355328)(v:Value)(w:World)(hs:a8e w v l):Calls Tryz.prog 36 #[v] w fun e w'=>∃ u,e=.returned u/\w'.ownsRow w.heap.size 66 5 u l.length (a0Z (fun i=>crL (l.getD i cr0)) l.length)/\Below w.heap.size w w':=by
 obtain⟨ad,cap,rfl,hle,hcap,hp⟩:=hs
 obtain⟨i0,z,hi,hz0,hzs,hz1,hz2⟩:=a7C
 have hcs:Hid (∀ i,(crL (l.getD i cr0)).length=5):=fun i=>rfl
 obtain⟨cs,hcsd⟩:∃ cs:Nat->List Value,Hid (cs=fun i=>crL (l.getD i cr0)):=⟨_,rfl⟩
 have hone:Hid (∀ u,u∈a0Z cs l.length->u.oneCell'=true):=by
  show ∀ u,_
  intro u hu
  obtain⟨q,hq⟩:=List.mem_iff_getElem?.1 hu
  obtain⟨-,h2⟩:=a3u (k:=5) (by decide) (by rw[hcsd.out];exact hcs.out) _ _ _ hq
  rw[hcsd.out] at h2
  have h3:=List.mem_of_getElem? h2
  simp at h3
  rcases h3 with rfl | rfl | rfl | rfl | rfl<;>rfl
 have hcs':Hid (∀ i,(cs i).length=5):=by rw[hcsd.out];exact hcs
 simp only at hp
 rw[<-hcsd.out]
 have hp':l.length=0\/∃ b off,ad=some ⟨b,off,none⟩/\b<w.heap.size/\∀ i,i<l.length->∀ j x,(cs i)[j]? = some x->w.cell? ⟨b,off+i*5+j,none⟩=some x:=by rw[hcsd.out];exact hp
 clear hp hcs hcsd
 generalize l.length=N at *
 have hnil:=fun W:World=>run_eql_slice_nil (P:=Tryz.prog) W 26 66 ad N cap Tryz.underlying26
 cases ad with
 | none=>
   have hn0:N=0:=by
    rcases hp' with h | ⟨b,off,e,-⟩
    ·exact h
    ·cases e
   subst hn0
   go_enter Tryz.func36,Tryz.ntmps36
   go_wp2_with fail
   go_ret
   exact⟨.slice none 0 0,rfl,World.ownsRow_nil _ _ _ _,ZE _ _⟩
 | some a=>
   have HC:Hid (∀ W,Below w.heap.size w W->∀ j u,(a0Z cs N)[j]? = some u->W.cell? (a.add j)=some u):=by
    show ∀ W,_
    intro W hW j u hu
    rcases hp' with h | ⟨b,off,e,hb,hx⟩
    ·subst h;simp[a0Z] at hu
    ·cases e
     exact a3c (by decide) hcs'.out (fun i hi j x h=>a0j hW (hx i hi j x h)) j u hu
   have ba:=(ZE w.heap.size w).alloc (ZC _) (.cells #[] 66)
   have BA:=a0a ba
   have hO:=a0a (World.ownsRow_lit (base:=w.heap.size) (e:=66) (size:=5) w #[] 0 (ZC _) (by unfold maxLen;omega) rfl)
   clear hp' ba
   go_enter Tryz.func36,Tryz.ntmps36
   go_wp2_with (at_builtin;refine wpList_append_own_wide _ rfl _ _ 26 rfl w.heap.size 66 i0 z 5 40 Tryz.underlying26 hi hz0 hz1 hz2 hzs (by decide) _ 0 [] rfl hO.out a N cap (a0Z cs N) rfl (by rw[a1z hcs'.out]) (HC.out _ BA.out) hone.out (by unfold maxLen;omega) (by omega) (by simp) ?_;intro v1 w1 ho1 hg1 _)
   have B1:=a1q BA.out hO.out hg1 (by simp)
   rw[Nat.zero_add,List.nil_append] at ho1
   go_wp2_with fail
   go_ret
   exact⟨_,rfl,ho1,B1⟩
theorem a0i {w w':World}{B:Nat}{e:TypeId}{size n:Nat}{v:Value}{xs:List Value}(h:w.ownsRow B e size v n xs)(hk:∀ b,B<=b->b<w.heap.size->w'.heap[b]? = w.heap[b]?):w'.ownsRow B e size v n xs:=by
 obtain⟨h1,h2 | ⟨g,cap,cur,h2,h3,h4,h5⟩⟩:=h
 ·exact⟨h1,.inl h2⟩
 ·exact⟨h1,.inr ⟨g,cap,cur,h2,h3,(hk g h3 (by rcases Nat.lt_or_ge g w.heap.size with h | h;exact h;rw[Array.getElem?_eq_none h] at h4;cases h4)).trans h4,h5⟩⟩
theorem a0k {w:World}{B:Nat}{e:TypeId}{size n:Nat}{v:Value}{xs:List Value}(h:w.ownsRow B e size v n xs):∃ a c,v=.slice a n c:=by
 obtain⟨-,⟨h2,h3⟩ | ⟨g,cap,cur,h2,-⟩⟩:=h
 ·exact⟨none,0,by rw[h2,h3]⟩
 ·exact⟨_,_,h2⟩
theorem a1n {w:World}{B:Nat}{e:TypeId}{size n:Nat}{v:Value}{xs:List Value}(B':Nat)(h:w.ownsRow B e size v n xs)(hb:B'<=B):w.ownsRow B' e size v n xs:=by
 obtain⟨h1,h2 | ⟨g,cap,cur,h2,h3,h4⟩⟩:=h
 ·exact⟨h1,.inl h2⟩
 ·exact⟨h1,.inr ⟨g,cap,cur,h2,ZD hb h3,h4⟩⟩
def a5R (w:World)(lo hi:Nat)(e:TypeId)(k:Nat)(v:Value)(n:Nat)(xs:List Value):Prop:=lo<=hi/\w.ownsRow lo e k v n xs/\∀ g,v.ownBlock=some g->g<hi
theorem a5R.of {w:World}{lo:Nat}{e:TypeId}{k n:Nat}{v:Value}{xs:List Value}(h:w.ownsRow lo e k v n xs)(h0:lo<=w.heap.size):a5R w lo w.heap.size e k v n xs:=⟨h0,h,fun g hg=>(h.lt g hg).2⟩
structure PWt (p:PlP):Prop where
 me:p.mets.length*16<=140737488355328
 st:∀ x,x∈p.mets->x.size<=140737488355328
 wi:p.wins.length*32<=140737488355328
 cr:p.crons.length*40<=140737488355328
 gs:p.gs.length*96<=140737488355328
 co:∀ x,x∈p.gs->CWt x.1/\CWt x.2
 fi:CWt p.fin
theorem a5R.put {w:World}{lo hi:Nat}{e:TypeId}{k n g cap:Nat}{cs:List Value}(h:a5R w lo hi e k (.slice (some ⟨g,0,none⟩) n cap) n cs)(j:Nat)(u:Value):a5R (w.setCell ⟨g,j,none⟩ u) lo hi e k (.slice (some ⟨g,0,none⟩) n cap) n (cs.set j u)/\Rng lo hi w (w.setCell ⟨g,j,none⟩ u):=
 ⟨⟨h.1,(h.2.1.stored j u).1,h.2.2⟩,Rng.set w _ _ (h.2.1.lt g rfl).1 (h.2.2 g rfl)⟩
end Go.Proofs.YtbddbnjhmdbkbaaGreatDoor
