import Derived.Test.YtkbmgloilckdhaaGreatDoorChecked
import Derived.WalkKit
import Derived.WalkSpells
import Derived.Below
import Derived.BigQuiet
import Derived.OwnWalk
import Derived.ArgAppend
import Derived.Deep.RegionWith
namespace Go.Proofs.YtkbmgloilckdhaaGreatDoor
open Go.RowKit
structure Box (w:World)(g:Nat)(vs:List Value):Prop where
 cell:∀ (i:Nat) v,vs[i]? = some v->w.cell? ⟨g,i,none⟩=some v
 free:∀ i,i<vs.length->w.frozen? ⟨g,i,none⟩=false
 lt:g<w.heap.size
theorem Box.later {w w':World}{g s:Nat}{vs:List Value}(h:Box w g vs)(hb:Below s w w')(hg:g<s):Box w' g vs:=
 ⟨fun i v hv=>(hb.cell (p:=⟨g,i,none⟩) hg).trans (h.cell i v hv),fun i hi=>(hb.frozen (p:=⟨g,i,none⟩) hg).trans (h.free i hi),Nat.lt_of_lt_of_le h.lt hb.size⟩
theorem Box.next {w w':World}{g:Nat}{vs:List Value}(h:Box w g vs)(hb:Below w.heap.size w w'):Box w' g vs:=h.later hb h.lt
theorem Box.new (w:World)(vs:List Value)(t:TypeId):Box (w.alloc (.cells vs.toArray t)) w.heap.size vs:=
 ⟨fun i v hv=>by simp[go_sem,hv],fun i hi=>by simp[go_sem],by simp⟩
theorem Box.other {w:World}{g q j:Nat}{v:Value}{vs:List Value}(h:Box w g vs)(hg:g≠q):Box (w.setCell ⟨q,j,none⟩ v) g vs:=
 ⟨fun i v hv=>(World.cell?_setCell_other _ _ _ _ (by intro e';cases e';exact hg rfl)).trans (h.cell i v hv),fun i hi=>(World.frozen?_setCell _ _ _ _).trans (h.free i hi),by simpa using h.lt⟩
theorem Box.set {w:World}{g:Nat}{vs:List Value}(h:Box w g vs)(k:Nat)(hk:k<vs.length)(x:Value):Box (w.setCell ⟨g,k,none⟩ x) g (vs.set k x):=by
 refine⟨fun i v hv=>?_,fun i hi=>(World.frozen?_setCell _ _ _ _).trans (h.free i (by simpa using hi)),by simpa using h.lt⟩
 by_cases e:k=i
 ·subst e
  rw[List.getElem?_set_self hk] at hv
  cases hv
  exact World.cell?_setCell_same _ _ _ (h.cell k _ (List.getElem?_eq_getElem hk))
 ·rw[List.getElem?_set_ne e] at hv
  exact(World.cell?_setCell_other _ _ _ _ (by intro e';cases e';exact e rfl)).trans (h.cell i v hv)
theorem Box.five {w:World}{g:Nat}{v0 v1 v2 v3 v4:Value}(h:Box w g [v0,v1,v2,v3,v4]):w.cell? ⟨g,0,none⟩=some v0/\w.cell? ⟨g,1,none⟩=some v1/\w.cell? ⟨g,2,none⟩=some v2/\w.cell? ⟨g,3,none⟩=some v3/\w.cell? ⟨g,4,none⟩=some v4/\w.frozen? ⟨g,0,none⟩=false/\w.frozen? ⟨g,1,none⟩=false/\w.frozen? ⟨g,2,none⟩=false/\w.frozen? ⟨g,3,none⟩=false/\w.frozen? ⟨g,4,none⟩=false:=
 ⟨h.cell 0 _ rfl,h.cell 1 _ rfl,h.cell 2 _ rfl,h.cell 3 _ rfl,h.cell 4 _ rfl,h.free 0 (by simp),h.free 1 (by simp),h.free 2 (by simp),h.free 3 (by simp),h.free 4 (by simp)⟩
theorem a3y (w:World)(t0:TypeId)(xs:List Value):Box (w.alloc (.cells xs.toArray t0)) w.heap.size xs/\Below w.heap.size w (w.alloc (.cells xs.toArray t0)):=
 ⟨Box.new _ _ _,(Below.refl _ _).alloc (Nat.le_refl _) _⟩
theorem a0e (w:World)(t0 t1:TypeId)(xs ys:List Value):
 Box ((w.alloc (.cells xs.toArray t0)).alloc (.cells ys.toArray t1)) w.heap.size xs/\Box ((w.alloc (.cells xs.toArray t0)).alloc (.cells ys.toArray t1)) (w.heap.size+1) ys /\
  Below w.heap.size w ((w.alloc (.cells xs.toArray t0)).alloc (.cells ys.toArray t1)):=by
 refine⟨(Box.new w xs t0).next ((Below.refl _ _).alloc (Nat.le_refl _) _),by simpa using Box.new (w.alloc (.cells xs.toArray t0)) ys t1,((Below.refl _ _).alloc (Nat.le_refl _) _).alloc (by simp) _⟩
theorem a0I (w:World)(t0 t1 t2:TypeId)(xs ys zs:List Value):
 Box (((w.alloc (.cells xs.toArray t0)).alloc (.cells ys.toArray t1)).alloc (.cells zs.toArray t2)) w.heap.size xs/\Box (((w.alloc (.cells xs.toArray t0)).alloc (.cells ys.toArray t1)).alloc (.cells zs.toArray t2)) (w.heap.size+1) ys /\
  Box (((w.alloc (.cells xs.toArray t0)).alloc (.cells ys.toArray t1)).alloc (.cells zs.toArray t2)) (w.heap.size+1+1) zs/\Below w.heap.size w (((w.alloc (.cells xs.toArray t0)).alloc (.cells ys.toArray t1)).alloc (.cells zs.toArray t2)):=by
 obtain⟨h1,h2,h3⟩:=a0e w t0 t1 xs ys
 have e:=Box.new ((w.alloc (.cells xs.toArray t0)).alloc (.cells ys.toArray t1)) zs t2
 refine⟨h1.next ((Below.refl _ _).alloc (Nat.le_refl _) _),h2.next ((Below.refl _ _).alloc (Nat.le_refl _) _),by simpa using e,h3.alloc (by simp;omega) _⟩
theorem hid {p:Prop}(h:p):Hid p:=h
structure a0p (S:List Nat)(w w':World):Prop where
 os:w'.os=w.os
 tape:w'.tape=w.tape
 output:w'.output=w.output
 size:w.heap.size<=w'.heap.size
 block:∀ k,k<w.heap.size->k∉S->w'.heap[k]? = w.heap[k]?
theorem a0p.refl (S:List Nat)(w:World):a0p S w w:=⟨rfl,rfl,rfl,Nat.le_refl _,fun _ _ _=>rfl⟩
theorem a0p.of_below {S:List Nat}{w w':World}(h:Below w.heap.size w w'):a0p S w w':=⟨h.os,h.tape,h.output,h.size,fun k hk _=>h.block k hk⟩
theorem a0p.trans {S S':List Nat}{a b c:World}(h:a0p S a b)(k:a0p S' b c)(hs:∀ i,i∈S'->i∈S\/a.heap.size<=i):a0p S a c:=
 ⟨k.os.trans h.os,k.tape.trans h.tape,k.output.trans h.output,Nat.le_trans h.size k.size,fun i hi hn=>(k.block i (Nat.lt_of_lt_of_le hi h.size) (fun hm=>(hs i hm).elim hn (fun e=>by omega))).trans (h.block i hi hn)⟩
theorem a0p.andBelow {S:List Nat}{a b c:World}(h:a0p S a b)(k:Below b.heap.size b c):a0p S a c:=h.trans (a0p.of_below (S:=[]) k) (fun _ hm=>by cases hm)
theorem a0p.below {S:List Nat}{w w':World}{B:Nat}(h:a0p S w w')(hS:∀ k,k∈S->B<=k)(hB:B<=w.heap.size):Below B w w':=
 ⟨h.os,h.tape,h.output,h.size,fun k hk=>h.block k (by omega) (fun hm=>by have:=hS k hm;omega)⟩
theorem a0p.set {S:List Nat}(w:World)(p:Addr)(v:Value)(hp:p.block∈S):a0p S w (w.setCell p v):=
 ⟨rfl,rfl,rfl,by simp[World.setCell],fun k _ hn=>Below.heap_setCell _ _ _ _ (fun e=>hn (e ▸ hp))⟩
theorem a0p.andSet {S:List Nat}{a b:World}(h:a0p S a b)(p:Addr)(v:Value)(hp:p.block∈S\/a.heap.size<=p.block):a0p S a (b.setCell p v):=
 h.trans (a0p.set (S:=[p.block]) b p v (by simp)) (fun i hi=>by simp at hi;subst hi;exact hp)
theorem a0p.cell {S:List Nat}{w w':World}(h:a0p S w w'){p:Addr}(hp:p.block<w.heap.size)(hn:p.block∉S):w'.cell? p=w.cell? p:=World.cell?_of_block (w:=w) (h.block p.block hp hn)
theorem a0p.frozen {S:List Nat}{w w':World}(h:a0p S w w'){p:Addr}(hp:p.block<w.heap.size)(hn:p.block∉S):w'.frozen? p=w.frozen? p:=World.frozen?_of_block (w:=w) (h.block p.block hp hn)
theorem Box.turn {S:List Nat}{w w':World}{g:Nat}{vs:List Value}(h:Box w g vs)(t:a0p S w w')(hn:g∉S):Box w' g vs:=
 ⟨fun i v hv=>(t.cell (p:=⟨g,i,none⟩) h.lt hn).trans (h.cell i v hv),fun i hi=>(t.frozen (p:=⟨g,i,none⟩) h.lt hn).trans (h.free i hi),Nat.lt_of_lt_of_le h.lt t.size⟩
theorem Box.ofBlock {w:World}{g:Nat}{cur:Array Value}{t:TypeId}(h:w.heap[g]? = some (.cells cur t (0,0))):Box w g cur.toList:=
 ⟨fun i v hv=>by
   have hv':cur[i]? = some v:=by simpa using hv
   simp[World.cell?,h,hv'],fun i _=>by simp[World.frozen?,h],(Array.getElem?_eq_some_iff.1 h).1⟩
theorem Box.part {w:World}{g:Nat}{vs us:List Value}(h:Box w g vs)(hp:us <+: vs):Box w g us:=by
 obtain⟨r,rfl⟩:=hp
 refine⟨fun i v hv=>h.cell i v ?_,fun i hi=>h.free i (by simp;omega),h.lt⟩
 have hi:i<us.length:=(List.getElem?_eq_some_iff.1 hv).1
 rw[List.getElem?_append_left hi]
 exact hv
def a9N (l:List Int):List Value:=l.map (Value.int .i64)
theorem a8L {w:World}{g:Nat}{l:List Int}(h:Box w g (a9N l)){i:Nat}{x:Int}(hx:l[i]? = some x):w.cell? ⟨g,i,none⟩=some (.int .i64 x):=h.cell i _ (by simp[a9N,hx])
theorem b3Y {w:World}{g:Nat}{l:List Int}(h:Box w g (a9N l)){i:Nat}(hi:i<l.length):w.frozen? ⟨g,i,none⟩=false:=h.free i (by simpa[a9N] using hi)
theorem b6I {w:World}{g:Nat}{l:List Int}(h:Box w g (a9N l)){i:Nat}(hi:i<l.length)(x:Int):Box (w.setCell ⟨g,i,none⟩ (.int .i64 x)) g (a9N (l.set i x)):=by
 have:=h.set i (by simpa[a9N] using hi) (.int .i64 x)
 simpa[a9N,List.map_set] using this
theorem a6s (z:Value)(n:Nat)(hz:z.cells=#[z]):(madeCells z.cells (n*1)).toList=List.replicate n z:=by
 apply List.ext_getElem
 ·simp[madeCells]
 ·intro i h1 h2
  simp[madeCells,hz,Nat.mod_one]
end Go.Proofs.YtkbmgloilckdhaaGreatDoor
