import Derived.Test.YtbddbnjhmdbkbaaGreatDoorCbMjB
import Derived.Test.YtbddbnjhmdbkbaaGreatDoorCbMhN
namespace Go.Proofs.YtbddbnjhmdbkbaaGreatDoor
open Go.RowKit
def a4n:List Co->Nat->Nat
 | [],n=>n
 | c::r,n=>if n<=4096 then a4n r (n+min (a0b c) 4097) else n
theorem a7K {n:Nat}(h:¬ n<=4096):∀ l:List Co,a4n l n=n
 | []=>rfl
 | c::r=>by rw[a4n,if_neg h]
theorem a8W {l:List Co}{k n:Nat}(hk:k<l.length)(hn:n<=4096):a4n (l.drop k) n=a4n (l.drop (k+1)) (n+min (a0b l[k]) 4097):=by
 rw[List.drop_eq_getElem_cons hk,a4n,if_pos hn]
def a9W (p:PlP):Bool:=decide (a4n (a3o p) 0<=8192)
end Go.Proofs.YtbddbnjhmdbkbaaGreatDoor
