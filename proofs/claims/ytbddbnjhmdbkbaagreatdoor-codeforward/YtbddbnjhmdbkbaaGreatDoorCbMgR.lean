import Derived.Test.YtbddbnjhmdbkbaaGreatDoorCbMgC
import Derived.Test.YtbddbnjhmdbkbaaGreatDoorCbMgP
import Derived.Test.YtbddbnjhmdbkbaaGreatDoorCbMhB
namespace Go.Proofs.YtbddbnjhmdbkbaaGreatDoor
open Go.RowKit
def arT:List Int:=[-2,0,0,0,0,0,0,1,1,1,1,1,1,1,2,2,2,2,2,2,2,2,2,2,2,2,2,2,3,0,1,1,-1]
theorem b0n:∀ k:Fin 33,∀ x,mkT.getD k.val none=some x->arT.getD k.val (-2)=(x.2.length:Int):=by
 intro k x h
 have key:(List.range 33).all (fun k=>match mkT.getD k none with | some x=>arT.getD k (-2)==(x.2.length:Int) | none=>true)=true:=by decide
 have h1:=List.all_eq_true.1 key k.val (List.mem_range.2 k.isLt)
 rw[h] at h1
 simpa using h1
theorem a9B:∀ k:Nat,∀ x,mkT.getD k none=some x->1<=x.1/\x.1<=3:=by
 intro k x h
 rcases Nat.lt_or_ge k 33 with hk | hk
 ·have key:(List.range 33).all (fun k=>match mkT.getD k none with | some x=>decide (1<=x.1/\x.1<=3) | none=>true)=true:=by decide
  have h1:=List.all_eq_true.1 key k (List.mem_range.2 hk)
  rw[h] at h1
  exact of_decide_eq_true h1
 ·have:mkT.getD k none=none:=by rw[List.getD_eq_getElem?_getD,List.getElem?_eq_none (by exact hk)];rfl
  rw[this] at h
  cases h
theorem a2Z {q:Nat}{ss:List Int}(h:∀ x,x∈ss->0<=x/\x<=3):0<=a0J q ss/\a0J q ss<=3:=by
 unfold a0J
 split
 next e=>
  cases ss with
  | nil=>exact⟨by decide,by decide⟩
  | cons x r=>exact h x (by simp)
 ·exact⟨by decide,by decide⟩
theorem a4I (wn cn ln:Int)(t:Co):0<=a0e a0v wn cn ln t/\a0e a0v wn cn ln t<=3:=by
 induction t using Co.ind with
 | h t ih=>
   have z:(0:Int)<=0/\(0:Int)<=3:=⟨by decide,by decide⟩
   have hm:∀ x,x∈t.parts.map (a0e a0v wn cn ln)->0<=x/\x<=3:=fun x hx=>by
    obtain⟨y,hy,rfl⟩:=List.mem_map.1 hx
    exact ih y hy
   rw[a0X]
   split
   next hk=>
    split
    next hf=>
     split
     ·exact z
     ·unfold a1K
      split
      next x hx=>
       unfold mkF
       split
       ·have:=a9B _ _ hx;omega
       ·exact z
      ·split
       next h6=>
        split
        ·rw[h6] at hf
         simp[a1L] at hf
         omega
        ·exact z
       ·split
        ·exact a2Z hm
        ·split
         ·exact a2Z hm
         ·split
          ·unfold a2c
           split
           ·exact a2Z (fun x hx=>hm x (List.mem_of_mem_tail hx))
           ·exact z
          ·unfold a0v
           split
           ·exact⟨by decide,by decide⟩
           ·exact z
    ·exact z
   ·exact z
end Go.Proofs.YtbddbnjhmdbkbaaGreatDoor
