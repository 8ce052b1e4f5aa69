import Derived.Test.YtbddbnjhmdbkbaaGreatDoorCbMhY
namespace Go.Proofs.YtbddbnjhmdbkbaaGreatDoor
abbrev Ins:=Int×Int
def a3F (op:Int):Bool:=op==23||op==24||op==25||op==26||op==27
def shI (d:Nat)(x:Ins):Ins:=if a3F x.1=true then (x.1,x.2+d) else x
def cat (a b:List Ins):List Ins:=a++b.map (shI a.length)
theorem a2F (d:Nat)(x:Ins):(shI d x).1=x.1:=by unfold shI;split<;>rfl
theorem a7k (x:Ins):shI 0 x=x:=by
 unfold shI
 split
 ·simp
 ·rfl
theorem a8u (d e:Nat)(x:Ins):shI d (shI e x)=shI (d+e) x:=by
 unfold shI
 by_cases h:a3F x.1=true
 ·simp only[h,if_true]
  exact Prod.ext rfl (by show x.2+(e:Int)+(d:Int)=x.2+((d+e:Nat):Int);omega)
 ·rw[if_neg h,if_neg h,if_neg h]
theorem a4u (d e:Nat)(l:List Ins):(l.map (shI e)).map (shI d)=l.map (shI (d+e)):=by
 rw[List.map_map]
 exact List.map_congr_left (fun x _=>a8u d e x)
theorem a0h (a b:List Ins):(cat a b).length=a.length+b.length:=by simp[cat]
theorem a4Q (a:List Ins):cat a []=a:=by simp[cat]
theorem a6l (b:List Ins):cat [] b=b:=by
 unfold cat
 rw[List.nil_append,List.length_nil]
 conv=>rhs;rw[<-List.map_id b]
 exact List.map_congr_left (fun x _=>a7k x)
theorem a1i (a b c:List Ins):cat (cat a b) c=cat a (cat b c):=by
 unfold cat
 rw[List.map_append,a4u,List.append_assoc,List.length_append,List.length_map]
def a3W (K:List Int)(n:Int):List Int:=if n∈K then K else K++[n]
theorem a8E (K:List Int)(n:Int):(a3W K n)[K.idxOf n]? = some n:=by
 unfold a3W
 split
 ·rename_i h
  have hl:=List.idxOf_lt_length_of_mem h
  rw[List.getElem?_eq_getElem hl,List.getElem_idxOf hl]
 ·rename_i h
  rw[List.idxOf_eq_length h]
  simp
def a2S:List Int->Int->Int->Option Nat
 | x::y::r,a,b=>if x=a/\y=b then some 0 else (a2S (y::r) a b).map (· + 1)
 | _,_,_=>none
def a1X (K:List Int)(a b:Int):List Int:=match a2S K a b with
 | some _=>K
 | none=>if K.getLast? = some a then K++[b] else K++[a,b]
def a1u (K:List Int)(a b:Int):Nat:=match a2S K a b with
 | some i=>i
 | none=>if K.getLast? = some a then K.length-1 else K.length
abbrev Mk:=List Int->List Ins×List Int
def a5w (n:Int):Mk:=fun K=>([(1,(K.idxOf n:Nat))],a3W K n)
def a5e (op a:Int):Mk:=fun K=>([(op,a)],K)
def a8x (n m:Int):Mk:=fun K=>([(11,(a1u K n m:Nat))],a1X K n m)
def a0s (a b:Mk):Mk:=fun K=>let x:=a K;let y:=b x.2;(cat x.1 y.1,y.2)
def a1s (op over:Int)(y z:Mk):Mk:=fun K=>let u:=y K;let v:=z u.2;(cat (cat (cat [(op,(u.1.length+2:Nat))] u.1) [(over,(1+v.1.length:Nat))]) v.1,v.2)
def a2f (op more:Int)(y:Mk)(e:List Ins):Mk:=fun K=>let u:=y K;(cat (cat [(op,more+(u.1.length+1+e.length:Nat))] u.1) e,u.2)
def a1k:List Mk->Mk
 | []=>fun K=>([],K)
 | a::r=>a0s a (a1k r)
def a4V (op:Int):Int:=if op<=6 then op-1 else if op<=12 then op-2 else if op<=24 then op-2 else op
def a0U:List (Co×Mk)->Mk
 | b::a::r=>a0s (a0s (a5e 32 0) (a0s (a5w b.1.n) (a5e 16 0))) (a0s (a2f 24 0 (a0s (a5e 33 0) a.2) []) (a0U r))
 | a::_=>a0s (a5e 33 0) a.2
 | []=>a5e 33 0
def a2q (c:Co)(ms:List Mk):Mk:=
 if c.op=1\/c.op=2 then a5w c.n
 else if c.op=7 then a2f 27 (c.n*16384) (ms.getD 0 (a1k [])) [(28,c.n)]
 else if c.op=13 then a0s (ms.getD 0 (a1k [])) (a8x c.n c.m)
 else if c.op=25 then a0s (ms.getD 0 (a1k [])) (a1s 24 23 (ms.getD 1 (a1k [])) (a5w 0))
 else if c.op=26 then a0s (ms.getD 0 (a1k [])) (a1s 24 23 (a5w 1) (ms.getD 1 (a1k [])))
 else if c.op=28 then a0s (ms.getD 0 (a1k [])) (a1s 24 23 (ms.getD 1 (a1k [])) (ms.getD 2 (a1k [])))
 else if c.op=27 then a1s 25 26 (ms.getD 0 (a1k [])) (ms.getD 1 (a1k []))
 else if c.op=32 then a0s (ms.getD 0 (a1k [])) (a0U ((c.parts.zip ms).drop 1))
 else a0s (a1k ms) (a5e (a4V c.op) c.n)
def a0n:Co->Mk
 | ⟨k,n,m,ps⟩=>a2q ⟨k,n,m,ps⟩ (ps.map a0n)
theorem a0S (c:Co):a0n c=a2q c (c.parts.map a0n):=by
 cases c
 rw[a0n]
def a1g:List (Co×Co)->Co->Mk
 | [],f=>a0n f
 | g::r,f=>a0s (a0s (a0n g.1) (a2f 24 0 (a0n g.2) [])) (a1g r f)
end Go.Proofs.YtbddbnjhmdbkbaaGreatDoor
