import Derived.Test.YtbddbnjhmdbkbaaGreatDoorMgB
import Derived.Test.YtbddbnjhmdbkbaaGreatDoorMbM
import Derived.Test.YtbddbnjhmdbkbaaGreatDoorMjB
import Derived.Test.YtbddbnjhmdbkbaaGreatDoorMgD
import Derived.Lib.LazyBuf
import Derived.Test.YtbddbnjhmdbkbaaGreatDoorMgM
import Derived.Test.YtbddbnjhmdbkbaaGreatDoorMgP
import Derived.Deep.AppendLies
import Derived.Deep.RegionLaw
namespace Go.Proofs.YtbddbnjhmdbkbaaGreatDoor
open Go.RowKit
theorem a0X {S:List Nat}{w w' w'':World}(h:a0h S w w')(k:a0h S w' w''):a0h S w w'':=h.trans k (fun _ hi=>.inl hi)
abbrev gz0:Value:=.agg #[.int .i64 0,.int .i64 0,.int .i64 0,.slice none 0 0,.int .i64 0,.int .i64 0,.int .i64 0,.slice none 0 0]
def a1t (cs:Nat->List Value)(n:Nat):List Value:=((List.range n).map cs).flatten
theorem a3l (cs:Nat->List Value)(n:Nat):a1t cs (n+1)=a1t cs n++cs n:=by simp[a1t,List.range_succ]
theorem a2W {cs:Nat->List Value}{k:Nat}(h:∀ i,(cs i).length=k)(n:Nat):(a1t cs n).length=n*k:=by
 induction n with
 | zero=>simp[a1t]
 | succ n ih=>rw[a3l,List.length_append,ih,h,Nat.succ_mul]
theorem a4U {cs:Nat->List Value}{k:Nat}(h:∀ i,(cs i).length=k)(n:Nat):∀ i j u,i<n->(cs i)[j]? = some u->(a1t cs n)[i*k+j]? = some u:=by
 induction n with
 | zero=>intro i j u hi;omega
 | succ n ih=>
   intro i j u hi hu
   have hj:j<k:=by have:=(List.getElem?_eq_some_iff.1 hu).1;rw[h] at this;exact this
   rw[a3l]
   by_cases e:i<n
   ·have hb:i*k+j<n*k:=by
     have:(i+1)*k<=n*k:=Nat.mul_le_mul_right k e
     rw[Nat.succ_mul] at this
     omega
    rw[List.getElem?_append_left (by rw[a2W h];exact hb)]
    exact ih i j u e hu
   ·have e2:i=n:=by omega
    subst e2
    rw[List.getElem?_append_right (by rw[a2W h];omega),a2W h]
    rw[show i*k+j-i*k=j by omega]
    exact hu
theorem a3E {w:World}{B n k:Nat}{e:TypeId}{v:Value}{cs:Nat->List Value}(hl:∀ i,(cs i).length=k)(h:w.ownsRow B e k v n (a1t cs n)):a0Q w v n k cs:=by
 obtain⟨h1,⟨h2,h3⟩ | ⟨g,cap,cur,h2,h3,h4,h5,h6,h7,h8⟩⟩:=h
 ·exact⟨none,0,by rw[h2,h3],by omega,by omega,.inl h3⟩
 ·have BX:Box w g (a1t cs n):=(Box.ofBlock h4).part (by rw[<-h8];exact List.take_prefix _ _)
  refine⟨_,cap,h2,h5,h6,.inr ⟨g,0,rfl,BX.lt,fun i hi j x hx=>?_⟩⟩
  have:=BX.cell (i*k+j) x (a4U hl n i j x hi hx)
  simpa using this
theorem a2Z {w w':World}{B:Nat}{e:TypeId}{size n:Nat}{v:Value}{xs:List Value}(h:w.ownsRow B e size v n xs)(hb:Below w.heap.size w w'):w'.ownsRow B e size v n xs:=by
 obtain⟨h1,h2 | ⟨g,cap,cur,h2,h3,h4,h5⟩⟩:=h
 ·exact⟨h1,.inl h2⟩
 ·exact⟨h1,.inr ⟨g,cap,cur,h2,h3,(hb.block g (by rcases Nat.lt_or_ge g w.heap.size with h | h;exact h;rw[Array.getElem?_eq_none h] at h4;cases h4)).trans h4,h5⟩⟩
theorem a2N {xs R:List Value}{k:Nat}{u:Value}(h:xs.take k=R.take k)(hk:k<xs.length)(hu:R[k]? = some u):(xs.set k u).take (k+1)=R.take (k+1):=by
 apply List.ext_getElem?
 intro i
 rcases Nat.lt_trichotomy i k with hi | hi | hi
 ·have:=congrArg (fun l=>l[i]?) h
  simp only[List.getElem?_take,hi,if_true] at this
  simp only[List.getElem?_take,show i<k+1 by omega,if_true]
  rw[List.getElem?_set_ne (by omega)]
  exact this
 ·subst hi
  simp only[List.getElem?_take,show i<i+1 by omega,if_true]
  rw[List.getElem?_set_self hk,hu]
 ·simp only[List.getElem?_take,show ¬ i<k+1 by omega,if_false]
theorem a2Q {w w':World}{B:Nat}{e:TypeId}{size n:Nat}{v:Value}{xs:List Value}(h:w.ownsRow B e size v n xs)(hk:∀ b,B<=b->b<w.heap.size->w'.heap[b]? = w.heap[b]?):w'.ownsRow B e size v n xs:=by
 obtain⟨h1,h2 | ⟨g,cap,cur,h2,h3,h4,h5⟩⟩:=h
 ·exact⟨h1,.inl h2⟩
 ·exact⟨h1,.inr ⟨g,cap,cur,h2,h3,(hk g h3 (by rcases Nat.lt_or_ge g w.heap.size with h | h;exact h;rw[Array.getElem?_eq_none h] at h4;cases h4)).trans h4,h5⟩⟩
theorem a1i {w:World}{B:Nat}{e:TypeId}{size n:Nat}{v:Value}{xs:List Value}(h:w.ownsRow B e size v n xs):∃ a c,v=.slice a n c:=by
 obtain⟨-,⟨h2,h3⟩ | ⟨g,cap,cur,h2,-⟩⟩:=h
 ·exact⟨none,0,by rw[h2,h3]⟩
 ·exact⟨_,_,h2⟩
theorem a5n {w:World}{B:Nat}{e:TypeId}{size n:Nat}{v:Value}{xs:List Value}(B':Nat)(h:w.ownsRow B e size v n xs)(hb:B'<=B):w.ownsRow B' e size v n xs:=by
 obtain⟨h1,h2 | ⟨g,cap,cur,h2,h3,h4⟩⟩:=h
 ·exact⟨h1,.inl h2⟩
 ·exact⟨h1,.inr ⟨g,cap,cur,h2,ZC hb h3,h4⟩⟩
def a9a (w:World)(lo hi:Nat)(e:TypeId)(k:Nat)(v:Value)(n:Nat)(xs:List Value):Prop:=lo<=hi/\w.ownsRow lo e k v n xs/\∀ g,v.ownBlock=some g->g<hi
theorem a9a.of {w:World}{lo:Nat}{e:TypeId}{k n:Nat}{v:Value}{xs:List Value}(h:w.ownsRow lo e k v n xs)(h0:lo<=w.heap.size):a9a w lo w.heap.size e k v n xs:=⟨h0,h,fun g hg=>(h.lt g hg).2⟩
theorem a9a.keep {w w':World}{lo hi:Nat}{e:TypeId}{k n:Nat}{v:Value}{xs:List Value}(h:a9a w lo hi e k v n xs)(hk:∀ b,lo<=b->b<hi->w'.heap[b]? = w.heap[b]?):a9a w' lo hi e k v n xs:=by
 obtain⟨h0,⟨h1,h2 | ⟨g,cap,cur,h2,h3,h4,h5⟩⟩,h6⟩:=h
 ·exact⟨h0,⟨h1,.inl h2⟩,h6⟩
 ·exact⟨h0,⟨h1,.inr ⟨g,cap,cur,h2,h3,(hk g h3 (h6 g (by rw[h2];rfl))).trans h4,h5⟩⟩,h6⟩
end Go.Proofs.YtbddbnjhmdbkbaaGreatDoor
