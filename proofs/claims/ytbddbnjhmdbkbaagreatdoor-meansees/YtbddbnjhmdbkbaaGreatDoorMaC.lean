import Derived.Test.YtbddbnjhmdbkbaaGreatDoorMhP
import Derived.Test.YtbddbnjhmdbkbaaGreatDoorMgK
namespace Go.Proofs.YtbddbnjhmdbkbaaGreatDoor
open Go.RowKit Go.Shelf
attribute [local go_sem] Oper.semAt_some
theorem a8D (w:World)(l:List Value)(t:TypeId):∀ j u,l[j]? = some u->(w.alloc (.cells l.toArray t)).cell? ((⟨w.heap.size,0,none⟩:Addr).add j)=some u:=by
 intro j u hu
 have hadd:(⟨w.heap.size,0,none⟩:Addr).add j=⟨w.heap.size,j,none⟩:=by unfold Addr.add;split<;>simp_all
 rw[hadd]
 exact(Box.new w l t).cell j u hu
theorem a2R (w:World)(l:List Value)(t:TypeId)(B:Nat)(hB:w.heap.size=B):∀ j u,l[j]? = some u->(w.alloc (.cells l.toArray t)).cell? ((⟨B,0,none⟩:Addr).add j)=some u:=by
 subst hB
 exact a8D w l t
def flE (l:List EvP):List Value:=(l.map a3O).flatten
theorem b6R (l:List EvP)(x:EvP):flE (l++[x])=flE l++a3O x:=by simp[flE]
theorem b8d:∀ (xs:List EvP) (i:Nat) (hi:i<xs.length) (j:Nat) (u:Value),(a3O xs[i])[j]? = some u->(flE xs)[i*4+j]? = some u
 | x::r,0,_,j,u,h=>by
   have hj:j<4:=by have:=(List.getElem?_eq_some_iff.1 h).1;simpa using this
   simp only[flE,List.map_cons,List.flatten_cons,Nat.zero_mul,Nat.zero_add]
   rw[List.getElem?_append_left (by simpa using hj)]
   exact h
 | x::r,i+1,hi,j,u,h=>by
   have:=b8d r i (by simpa using hi) j u (by simpa using h)
   simp only[flE,List.map_cons,List.flatten_cons] at this ⊢
   rw[List.getElem?_append_right (by simp;omega)]
   have e:(i+1)*4+j-(a3O x).length=i*4+j:=by simp;omega
   rw[e]
   exact this
theorem b2j {w:World}{B:Nat}{u:Value}{l:List EvP}(h:w.ownsRow B 69 4 u l.length (flE l)):a4A w u l:=by
 obtain⟨h1,⟨h2,h3⟩ | ⟨g,cap,cur,h2,h3,h4,h5,h6,h7,h8⟩⟩:=h
 ·exact⟨none,0,by rw[h2,h3],by omega,by omega,.inl h3⟩
 ·have BX:Box w g (flE l):=(Box.ofBlock h4).part (by rw[<-h8];exact List.take_prefix _ _)
  refine⟨_,cap,h2,h5,h6,.inr ⟨g,0,rfl,BX.lt,fun i hi j x hx=>?_⟩⟩
  have hg:l.getD i ev0=l[i]:=by simp[List.getD,hi]
  have:=BX.cell (i*4+j) x (b8d l i hi j x (by rw[<-hg];exact hx))
  simpa using this
theorem b9I:(Tryz.prog.info? 69).map (fun i=>(i.zero,i.size,i.bytes))=some (some (b8e ev0),4,32):=by kernel_rfl
theorem b6H:∃ i,Tryz.prog.info? 69=some i/\i.zero=some (b8e ev0)/\i.size=4/\i.bytes=32:=by
 have h:=b9I
 cases hi:Tryz.prog.info? 69 with
 | none=>rw[hi] at h;cases h
 | some i=>
   rw[hi] at h
   simp only[Option.map_some,Option.some.injEq,Prod.mk.injEq] at h
   exact⟨i,rfl,h.1,h.2.1,h.2.2⟩
theorem a2a {w w':World}{B:Nat}{e:TypeId}{k n:Nat}{v:Value}{xs:List Value}{row:Option Nat}(h:w.ownsRow B e k v n xs)(hg:w.grownBy w' row)(hr:∀ r,row=some r->v.ownBlock≠some r):w'.ownsRow B e k v n xs:=by
 obtain⟨h1,h2 | ⟨g,cap,cur,h2,h3,h4,h5⟩⟩:=h
 ·exact⟨h1,.inl h2⟩
 ·exact⟨h1,.inr ⟨g,cap,cur,h2,h3,(hg.block g (Array.getElem?_eq_some_iff.1 h4).1 (fun e=>hr g e.symm (by rw[h2];rfl))).trans h4,h5⟩⟩
theorem a0t {w:World}{B:Nat}{e:TypeId}{k n:Nat}{v:Value}{xs:List Value}(h:w.ownsRow B e k v n xs){r:Nat}(hr:v.ownBlock=some r):B<=r/\∃ cur,w.heap[r]? = some (Obj.cells cur e (0,0)):=by
 obtain⟨h1,⟨h2,-⟩ | ⟨g,cap,cur,h2,h3,h4,h5⟩⟩:=h
 ·rw[h2] at hr;cases hr
 ·rw[h2] at hr;cases hr;exact⟨h3,cur,h4⟩
theorem b9m {W:World}{B b:Nat}{cs:Array Value}{t:TypeId}{fr:Nat×Nat}(hb:W.heap[b]? = some (Obj.cells cs t fr))(ht:t≠2){row:Option Nat}(hr:∀ r,row=some r->B<=r/\∃ o:Obj,W.heap[r]? = some o/\(o.isCells=false\/b8v o)):row≠some b:=fun e=>by
 obtain⟨-,o,h1,h2⟩:=hr b e
 rw[hb] at h1
 cases h1
 rcases h2 with h2 | ⟨v,h2⟩
 ·cases h2
 ·simp only[Obj.cells.injEq] at h2
  exact ht h2.2.1
theorem a2d {β : Type}(B b:Nat)(cs : β -> Array Value)(t:TypeId)(ht:t≠2):a4K B (fun (s : β) W=>W.heap[b]? = some (Obj.cells (cs s) t (0,0))):=fun _ _ _ _ hs hg hr=>
 (hg.block b (Array.getElem?_eq_some_iff.1 hs).1 (fun e=>b9m hs ht hr e.symm)).trans hs
theorem a6C {β : Type}{n B:Nat}{w:World}(h1:n<=B)(h2:n<=w.heap.size):a4K B (fun (_ : β) W=>Below n w W):=fun _ _ _ _ hs hg hr=>
 hs.trans ⟨hg.os,hg.tape,hg.output,hg.size,fun k hk=>hg.block k (by have:=hs.size;omega) (fun e=>by have:=(hr k e.symm).1;omega)⟩
theorem a5x {n0:Nat}{W:World}(o:Obj)(h:n0<=W.heap.size):a3i n0 W (W.alloc o):=
 ⟨(ZD _ _).alloc h o,fun k _ _ _ hk _=>(Below.heap_alloc W o k (Array.getElem?_eq_some_iff.1 hk).1).trans hk⟩
theorem a5w {n0:Nat}{W W':World}{row:Option Nat}(hg:W.grownBy W' row)(hn:n0<=W.heap.size)(hr:∀ r,row=some r->n0<=r/\∃ cs t fr,W.heap[r]? = some (Obj.cells cs t fr)/\t≠3/\t≠2):a3i n0 W W':=
 ⟨⟨hg.os,hg.tape,hg.output,hg.size,fun k hk=>hg.block k (by omega) (fun e=>by have:=(hr k e.symm).1;omega)⟩,fun k cs t fr hk ht=>(hg.block k (Array.getElem?_eq_some_iff.1 hk).1 (fun e=>by
   obtain⟨-,cs',t',fr',h1,h2,h3⟩:=hr k e.symm
   rw[hk] at h1
   cases h1
   rcases ht with h | h
   ·exact h2 h
   ·exact h3 h)).trans hk⟩
end Go.Proofs.YtbddbnjhmdbkbaaGreatDoor
