import Derived.Test.YtbddbnjhmdbkbaaGreatDoorCbBoxes
import Derived.OwnWalk
import Derived.ArgAppend
import Derived.Deep.RegionWith
import Derived.BigQuiet
namespace Go.Proofs.YtbddbnjhmdbkbaaGreatDoor
open Go.RowKit
theorem hid {p:Prop}(h:p):Hid p:=h
structure a0E (S:List Nat)(w w':World):Prop where
 os:w'.os=w.os
 tape:w'.tape=w.tape
 output:w'.output=w.output
 size:w.heap.size<=w'.heap.size
 block:∀ k,k<w.heap.size->k∉S->w'.heap[k]? = w.heap[k]?
theorem a0E.refl (S:List Nat)(w:World):a0E S w w:=⟨rfl,rfl,rfl,ZC _,fun _ _ _=>rfl⟩
theorem a0E.of_below {S:List Nat}{w w':World}(h:Below w.heap.size w w'):a0E S w w':=⟨h.os,h.tape,h.output,h.size,fun k hk _=>h.block k hk⟩
theorem a0E.trans {S S':List Nat}{a b c:World}(h:a0E S a b)(k:a0E S' b c)(hs:∀ i,i∈S'->i∈S\/a.heap.size<=i):a0E S a c:=
 ⟨k.os.trans h.os,k.tape.trans h.tape,k.output.trans h.output,ZD h.size k.size,fun i hi hn=>(k.block i (ZA hi h.size) (fun hm=>(hs i hm).elim hn (fun e=>by omega))).trans (h.block i hi hn)⟩
theorem a0E.andBelow {S:List Nat}{a b c:World}(h:a0E S a b)(k:Below b.heap.size b c):a0E S a c:=h.trans (a0E.of_below (S:=[]) k) (fun _ hm=>by cases hm)
theorem a0E.below {S:List Nat}{w w':World}{B:Nat}(h:a0E S w w')(hS:∀ k,k∈S->B<=k)(hB:B<=w.heap.size):Below B w w':=
 ⟨h.os,h.tape,h.output,h.size,fun k hk=>h.block k (by omega) (fun hm=>by have:=hS k hm;omega)⟩
theorem a0E.set {S:List Nat}(w:World)(p:Addr)(v:Value)(hp:p.block∈S):a0E S w (w.setCell p v):=
 ⟨rfl,rfl,rfl,by simp[World.setCell],fun k _ hn=>Below.heap_setCell _ _ _ _ (fun e=>hn (e ▸ hp))⟩
theorem a0E.andSet {S:List Nat}{a b:World}(h:a0E S a b)(p:Addr)(v:Value)(hp:p.block∈S\/a.heap.size<=p.block):a0E S a (b.setCell p v):=
 h.trans (a0E.set (S:=[p.block]) b p v (by simp)) (fun i hi=>by simp at hi;subst hi;exact hp)
theorem a0E.cell {S:List Nat}{w w':World}(h:a0E S w w'){p:Addr}(hp:p.block<w.heap.size)(hn:p.block∉S):w'.cell? p=w.cell? p:=World.cell?_of_block (w:=w) (h.block p.block hp hn)
theorem a0E.frozen {S:List Nat}{w w':World}(h:a0E S w w'){p:Addr}(hp:p.block<w.heap.size)(hn:p.block∉S):w'.frozen? p=w.frozen? p:=World.frozen?_of_block (w:=w) (h.block p.block hp hn)
theorem Box.turn {S:List Nat}{w w':World}{g:Nat}{vs:List Value}(h:Box w g vs)(t:a0E S w w')(hn:g∉S):Box w' g vs:=
 ⟨fun i v hv=>(t.cell (p:=⟨g,i,none⟩) h.lt hn).trans (h.cell i v hv),fun i hi=>(t.frozen (p:=⟨g,i,none⟩) h.lt hn).trans (h.free i hi),ZA h.lt t.size⟩
theorem Box.ofBlock {w:World}{g:Nat}{cur:Array Value}{t:TypeId}(h:w.heap[g]? = some (.cells cur t (0,0))):Box w g cur.toList:=
 ⟨fun i v hv=>by
   have hv':cur[i]? = some v:=by simpa using hv
   simp[World.cell?,h,hv'],fun i _=>by simp[World.frozen?,h],(Array.getElem?_eq_some_iff.1 h).1⟩
theorem Box.part {w:World}{g:Nat}{vs us:List Value}(h:Box w g vs)(hp:us <+: vs):Box w g us:=by
 obtain⟨r,rfl⟩:=hp
 refine⟨fun i v hv=>h.cell i v ?_,fun i hi=>h.free i (by simp;omega),h.lt⟩
 have hi:i<us.length:=(List.getElem?_eq_some_iff.1 hv).1
 rw[List.getElem?_append_left hi]
 exact hv
theorem a7F (w:World)(o:Obj):(w.alloc o).heap[w.heap.size]? = some o:=by show (w.heap.push o)[w.heap.size]? = some o;simp
def a5U (l:List Int):List Value:=l.map (Value.int .i64)
theorem a5n {w:World}{g:Nat}{l:List Int}(h:Box w g (a5U l)){i:Nat}{x:Int}(hx:l[i]? = some x):w.cell? ⟨g,i,none⟩=some (.int .i64 x):=h.cell i _ (by simp[a5U,hx])
theorem a8c {w:World}{g:Nat}{l:List Int}(h:Box w g (a5U l)){i:Nat}(hi:i<l.length):w.frozen? ⟨g,i,none⟩=false:=h.free i (by simpa[a5U] using hi)
theorem a9p {w:World}{g:Nat}{l:List Int}(h:Box w g (a5U l)){i:Nat}(hi:i<l.length)(x:Int):Box (w.setCell ⟨g,i,none⟩ (.int .i64 x)) g (a5U (l.set i x)):=by
 have:=h.set i (by simpa[a5U] using hi) (.int .i64 x)
 simpa[a5U,List.map_set] using this
theorem a3A (z:Value)(n:Nat)(hz:z.cells=#[z]):(madeCells z.cells (n*1)).toList=List.replicate n z:=by
 apply List.ext_getElem
 ·simp[madeCells]
 ·intro i h1 h2
  simp[madeCells,hz,Nat.mod_one]
theorem a1p (w:World)(k:Nat):Below w.heap.size w (w.drewN k):=⟨rfl,rfl,rfl,ZC _,fun _ _=>rfl⟩
end Go.Proofs.YtbddbnjhmdbkbaaGreatDoor
