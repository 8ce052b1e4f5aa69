import Derived.Test.YtbddbnjhmdbkbaaGreatDoorChecked
import Derived.WalkKit
import Derived.WalkSpells
import Derived.Below
import Derived.BigQuiet
import Derived.OwnWalk
import Derived.ArgAppend
import Derived.Deep.RegionWith
namespace Go.Proofs.YtbddbnjhmdbkbaaGreatDoor
open Go.RowKit
theorem ZA {n m k : Nat} (h : n < m) (g : m ≤ k) : n < k := Nat.lt_of_lt_of_le h g
theorem ZB (n : Nat) : n ≤ n := Nat.le_refl n
theorem ZC {n m k : Nat} (h : n ≤ m) (g : m ≤ k) : n ≤ k := Nat.le_trans h g
theorem ZD (B : Nat) (w : World) : Below B w w := Below.refl B w
theorem ZE {P : Program} {f : FuncId} {a : Array Value} {w : World} {R S : Ending → World → Prop} (h : Calls P f a w R) (g : ∀ e v, R e v → S e v) : Calls P f a w S := h.mono g
structure Box (w:World)(g:Nat)(vs:List Value):Prop where
 cell:∀ (i:Nat) v,vs[i]? = some v->w.cell? ⟨g,i,none⟩=some v
 free:∀ i,i<vs.length->w.frozen? ⟨g,i,none⟩=false
 lt:g<w.heap.size
theorem Box.later {w w':World}{g s:Nat}{vs:List Value}(h:Box w g vs)(hb:Below s w w')(hg:g<s):Box w' g vs:=
 ⟨fun i v hv=>(hb.cell (p:=⟨g,i,none⟩) hg).trans (h.cell i v hv),fun i hi=>(hb.frozen (p:=⟨g,i,none⟩) hg).trans (h.free i hi),ZA h.lt hb.size⟩
theorem Box.next {w w':World}{g:Nat}{vs:List Value}(h:Box w g vs)(hb:Below w.heap.size w w'):Box w' g vs:=h.later hb h.lt
theorem Box.new (w:World)(vs:List Value)(t:TypeId):Box (w.alloc (.cells vs.toArray t)) w.heap.size vs:=
 ⟨fun i v hv=>by simp[go_sem,hv],fun i hi=>by simp[go_sem],by simp⟩
theorem Box.other {w:World}{g q j:Nat}{v:Value}{vs:List Value}(h:Box w g vs)(hg:g≠q):Box (w.setCell ⟨q,j,none⟩ v) g vs:=
 ⟨fun i v hv=>(World.cell?_setCell_other _ _ _ _ (by intro e';cases e';exact hg rfl)).trans (h.cell i v hv),fun i hi=>(World.frozen?_setCell _ _ _ _).trans (h.free i hi),by simpa using h.lt⟩
theorem Box.set {w:World}{g:Nat}{vs:List Value}(h:Box w g vs)(k:Nat)(hk:k<vs.length)(x:Value):Box (w.setCell ⟨g,k,none⟩ x) g (vs.set k x):=by
 refine⟨fun i v hv=>?_,fun i hi=>(World.frozen?_setCell _ _ _ _).trans (h.free i (by simpa using hi)),by simpa using h.lt⟩
 by_cases e:k=i
 ·subst e
  rw[List.getElem?_set_self hk] at hv
  cases hv
  exact World.cell?_setCell_same _ _ _ (h.cell k _ (List.getElem?_eq_getElem hk))
 ·rw[List.getElem?_set_ne e] at hv
  exact(World.cell?_setCell_other _ _ _ _ (by intro e';cases e';exact e rfl)).trans (h.cell i v hv)
theorem Box.five {w:World}{g:Nat}{v0 v1 v2 v3 v4:Value}(h:Box w g [v0,v1,v2,v3,v4]):w.cell? ⟨g,0,none⟩=some v0/\w.cell? ⟨g,1,none⟩=some v1/\w.cell? ⟨g,2,none⟩=some v2/\w.cell? ⟨g,3,none⟩=some v3/\w.cell? ⟨g,4,none⟩=some v4/\w.frozen? ⟨g,0,none⟩=false/\w.frozen? ⟨g,1,none⟩=false/\w.frozen? ⟨g,2,none⟩=false/\w.frozen? ⟨g,3,none⟩=false/\w.frozen? ⟨g,4,none⟩=false:=
 ⟨h.cell 0 _ rfl,h.cell 1 _ rfl,h.cell 2 _ rfl,h.cell 3 _ rfl,h.cell 4 _ rfl,h.free 0 (by simp),h.free 1 (by simp),h.free 2 (by simp),h.free 3 (by simp),h.free 4 (by simp)⟩
theorem Box.seven {w:World}{g:Nat}{v0 v1 v2 v3 v4 v5 v6:Value}(h:Box w g [v0,v1,v2,v3,v4,v5,v6]):w.cell? ⟨g,0,none⟩=some v0/\w.cell? ⟨g,1,none⟩=some v1/\w.cell? ⟨g,2,none⟩=some v2/\w.cell? ⟨g,3,none⟩=some v3/\w.cell? ⟨g,4,none⟩=some v4/\w.cell? ⟨g,5,none⟩=some v5/\w.cell? ⟨g,6,none⟩=some v6/\w.frozen? ⟨g,0,none⟩=false/\w.frozen? ⟨g,1,none⟩=false/\w.frozen? ⟨g,2,none⟩=false/\w.frozen? ⟨g,3,none⟩=false/\w.frozen? ⟨g,4,none⟩=false/\w.frozen? ⟨g,5,none⟩=false/\w.frozen? ⟨g,6,none⟩=false:=
 ⟨h.cell 0 _ rfl,h.cell 1 _ rfl,h.cell 2 _ rfl,h.cell 3 _ rfl,h.cell 4 _ rfl,h.cell 5 _ rfl,h.cell 6 _ rfl,h.free 0 (by simp),h.free 1 (by simp),h.free 2 (by simp),h.free 3 (by simp),h.free 4 (by simp),h.free 5 (by simp),h.free 6 (by simp)⟩
theorem a3I {s q:Nat}{w w':World}(h:Below s w w')(hq:s<=q)(v0 v1 v2 v3 v4 v5 v6:Value):Below s w (((((((w'.setCell ⟨q,0,none⟩ v0).setCell ⟨q,1,none⟩ v1).setCell ⟨q,2,none⟩ v2).setCell ⟨q,3,none⟩ v3).setCell ⟨q,4,none⟩ v4).setCell ⟨q,5,none⟩ v5).setCell ⟨q,6,none⟩ v6):=
 (((((((h.setCell hq _).setCell hq _).setCell hq _).setCell hq _).setCell hq _).setCell hq _).setCell hq _)
theorem a1c (w:World)(t0:TypeId)(xs:List Value):Box (w.alloc (.cells xs.toArray t0)) w.heap.size xs/\Below w.heap.size w (w.alloc (.cells xs.toArray t0)):=
 ⟨Box.new _ _ _,(ZD _ _).alloc (ZB _) _⟩
theorem a0n (w:World)(t0 t1:TypeId)(xs ys:List Value):
 Box ((w.alloc (.cells xs.toArray t0)).alloc (.cells ys.toArray t1)) w.heap.size xs/\Box ((w.alloc (.cells xs.toArray t0)).alloc (.cells ys.toArray t1)) (w.heap.size+1) ys /\
  Below w.heap.size w ((w.alloc (.cells xs.toArray t0)).alloc (.cells ys.toArray t1)):=by
 refine⟨(Box.new w xs t0).next ((ZD _ _).alloc (ZB _) _),by simpa using Box.new (w.alloc (.cells xs.toArray t0)) ys t1,((ZD _ _).alloc (ZB _) _).alloc (by simp) _⟩
theorem a2f (w:World)(t0 t1 t2:TypeId)(xs ys zs:List Value):
 Box (((w.alloc (.cells xs.toArray t0)).alloc (.cells ys.toArray t1)).alloc (.cells zs.toArray t2)) w.heap.size xs/\Box (((w.alloc (.cells xs.toArray t0)).alloc (.cells ys.toArray t1)).alloc (.cells zs.toArray t2)) (w.heap.size+1) ys /\
  Box (((w.alloc (.cells xs.toArray t0)).alloc (.cells ys.toArray t1)).alloc (.cells zs.toArray t2)) (w.heap.size+1+1) zs/\Below w.heap.size w (((w.alloc (.cells xs.toArray t0)).alloc (.cells ys.toArray t1)).alloc (.cells zs.toArray t2)):=by
 obtain⟨h1,h2,h3⟩:=a0n w t0 t1 xs ys
 have e:=Box.new ((w.alloc (.cells xs.toArray t0)).alloc (.cells ys.toArray t1)) zs t2
 refine⟨h1.next ((ZD _ _).alloc (ZB _) _),h2.next ((ZD _ _).alloc (ZB _) _),by simpa using e,h3.alloc (by simp;omega) _⟩
theorem hid {p:Prop}(h:p):Hid p:=h
structure a0h (S:List Nat)(w w':World):Prop where
 os:w'.os=w.os
 tape:w'.tape=w.tape
 output:w'.output=w.output
 size:w.heap.size<=w'.heap.size
 block:∀ k,k<w.heap.size->k∉S->w'.heap[k]? = w.heap[k]?
theorem a0h.refl (S:List Nat)(w:World):a0h S w w:=⟨rfl,rfl,rfl,ZB _,fun _ _ _=>rfl⟩
theorem a0h.of_below {S:List Nat}{w w':World}(h:Below w.heap.size w w'):a0h S w w':=⟨h.os,h.tape,h.output,h.size,fun k hk _=>h.block k hk⟩
theorem a0h.trans {S S':List Nat}{a b c:World}(h:a0h S a b)(k:a0h S' b c)(hs:∀ i,i∈S'->i∈S\/a.heap.size<=i):a0h S a c:=
 ⟨k.os.trans h.os,k.tape.trans h.tape,k.output.trans h.output,ZC h.size k.size,fun i hi hn=>(k.block i (ZA hi h.size) (fun hm=>(hs i hm).elim hn (fun e=>by omega))).trans (h.block i hi hn)⟩
theorem a0h.andBelow {S:List Nat}{a b c:World}(h:a0h S a b)(k:Below b.heap.size b c):a0h S a c:=h.trans (a0h.of_below (S:=[]) k) (fun _ hm=>by cases hm)
theorem a0h.below {S:List Nat}{w w':World}{B:Nat}(h:a0h S w w')(hS:∀ k,k∈S->B<=k)(hB:B<=w.heap.size):Below B w w':=
 ⟨h.os,h.tape,h.output,h.size,fun k hk=>h.block k (by omega) (fun hm=>by have:=hS k hm;omega)⟩
theorem a0h.set {S:List Nat}(w:World)(p:Addr)(v:Value)(hp:p.block∈S):a0h S w (w.setCell p v):=
 ⟨rfl,rfl,rfl,by simp[World.setCell],fun k _ hn=>Below.heap_setCell _ _ _ _ (fun e=>hn (e ▸ hp))⟩
theorem a0h.andSet {S:List Nat}{a b:World}(h:a0h S a b)(p:Addr)(v:Value)(hp:p.block∈S\/a.heap.size<=p.block):a0h S a (b.setCell p v):=
 h.trans (a0h.set (S:=[p.block]) b p v (by simp)) (fun i hi=>by simp at hi;subst hi;exact hp)
theorem a0h.cell {S:List Nat}{w w':World}(h:a0h S w w'){p:Addr}(hp:p.block<w.heap.size)(hn:p.block∉S):w'.cell? p=w.cell? p:=World.cell?_of_block (w:=w) (h.block p.block hp hn)
theorem a0h.frozen {S:List Nat}{w w':World}(h:a0h S w w'){p:Addr}(hp:p.block<w.heap.size)(hn:p.block∉S):w'.frozen? p=w.frozen? p:=World.frozen?_of_block (w:=w) (h.block p.block hp hn)
theorem Box.turn {S:List Nat}{w w':World}{g:Nat}{vs:List Value}(h:Box w g vs)(t:a0h S w w')(hn:g∉S):Box w' g vs:=
 ⟨fun i v hv=>(t.cell (p:=⟨g,i,none⟩) h.lt hn).trans (h.cell i v hv),fun i hi=>(t.frozen (p:=⟨g,i,none⟩) h.lt hn).trans (h.free i hi),ZA h.lt t.size⟩
theorem Box.four {w:World}{g:Nat}{v0 v1 v2 v3:Value}(h:Box w g [v0,v1,v2,v3]):w.cell? ⟨g,0,none⟩=some v0/\w.cell? ⟨g,1,none⟩=some v1/\w.cell? ⟨g,2,none⟩=some v2/\w.cell? ⟨g,3,none⟩=some v3/\w.frozen? ⟨g,0,none⟩=false/\w.frozen? ⟨g,1,none⟩=false/\w.frozen? ⟨g,2,none⟩=false/\w.frozen? ⟨g,3,none⟩=false:=
 ⟨h.cell 0 _ rfl,h.cell 1 _ rfl,h.cell 2 _ rfl,h.cell 3 _ rfl,h.free 0 (by simp),h.free 1 (by simp),h.free 2 (by simp),h.free 3 (by simp)⟩
theorem Box.two {w:World}{g:Nat}{v0 v1:Value}(h:Box w g [v0,v1]):w.cell? ⟨g,0,none⟩=some v0/\w.cell? ⟨g,1,none⟩=some v1/\w.frozen? ⟨g,0,none⟩=false/\w.frozen? ⟨g,1,none⟩=false:=
 ⟨h.cell 0 _ rfl,h.cell 1 _ rfl,h.free 0 (by simp),h.free 1 (by simp)⟩
theorem Box.ofBlock {w:World}{g:Nat}{cur:Array Value}{t:TypeId}(h:w.heap[g]? = some (.cells cur t (0,0))):Box w g cur.toList:=
 ⟨fun i v hv=>by
   have hv':cur[i]? = some v:=by simpa using hv
   simp[World.cell?,h,hv'],fun i _=>by simp[World.frozen?,h],(Array.getElem?_eq_some_iff.1 h).1⟩
theorem Box.part {w:World}{g:Nat}{vs us:List Value}(h:Box w g vs)(hp:us <+: vs):Box w g us:=by
 obtain⟨r,rfl⟩:=hp
 refine⟨fun i v hv=>h.cell i v ?_,fun i hi=>h.free i (by simp;omega),h.lt⟩
 have hi:i<us.length:=(List.getElem?_eq_some_iff.1 hv).1
 rw[List.getElem?_append_left hi]
 exact hv
theorem a4Y (w:World)(o:Obj):(w.alloc o).heap[w.heap.size]? = some o:=by show (w.heap.push o)[w.heap.size]? = some o;simp
def a1C (l:List Int):List Value:=l.map (Value.int .i64)
theorem a3o {w:World}{g:Nat}{l:List Int}(h:Box w g (a1C l)){i:Nat}{x:Int}(hx:l[i]? = some x):w.cell? ⟨g,i,none⟩=some (.int .i64 x):=h.cell i _ (by simp[a1C,hx])
theorem a7Q {w:World}{g:Nat}{l:List Int}(h:Box w g (a1C l)){i:Nat}(hi:i<l.length):w.frozen? ⟨g,i,none⟩=false:=h.free i (by simpa[a1C] using hi)
theorem c0t {w:World}{g:Nat}{l:List Int}(h:Box w g (a1C l)){i:Nat}(hi:i<l.length)(x:Int):Box (w.setCell ⟨g,i,none⟩ (.int .i64 x)) g (a1C (l.set i x)):=by
 have:=h.set i (by simpa[a1C] using hi) (.int .i64 x)
 simpa[a1C,List.map_set] using this
def Blk (w:World)(g:Nat)(l:List Int):Prop:=w.heap[g]? = some (.cells (a1C l).toArray 2 (0,0))
theorem Blk.box {w:World}{g:Nat}{l:List Int}(h:Blk w g l):Box w g (a1C l):=by simpa using Box.ofBlock h
theorem Blk.lt {w:World}{g:Nat}{l:List Int}(h:Blk w g l):g<w.heap.size:=(Array.getElem?_eq_some_iff.1 h).1
theorem Blk.put {w:World}{g:Nat}{l:List Int}(h:Blk w g l)(i:Nat)(x:Int):Blk (w.setCell ⟨g,i,none⟩ (.int .i64 x)) g (l.set i x):=by
 obtain⟨hlt,hk⟩:=Array.getElem?_eq_some_iff.1 h
 show (w.heap.modify g _)[g]? = _
 rw[Array.getElem?_eq_getElem (by rw[Array.size_modify];exact hlt),Array.getElem_modify_self,hk]
 simp[a1C,List.map_set]
theorem Blk.turn {S:List Nat}{w w':World}{g:Nat}{l:List Int}(h:Blk w g l)(t:a0h S w w')(hn:g∉S):Blk w' g l:=(t.block g h.lt hn).trans h
theorem Blk.next {w w':World}{g:Nat}{l:List Int}(h:Blk w g l)(t:Below w.heap.size w w'):Blk w' g l:=(t.block g h.lt).trans h
theorem Blk.alike {w w':World}{g:Nat}{l:List Int}(h:Blk w g l)(e:w'.heap=w.heap):Blk w' g l:=by unfold Blk;rw[e];exact h
theorem Box.alike {w w':World}{g:Nat}{vs:List Value}(h:Box w g vs)(e:w'.heap=w.heap):Box w' g vs:=
 ⟨fun i v hv=>(World.cell?_of_block (by rw[e])).trans (h.cell i v hv),fun i hi=>(World.frozen?_of_block (by rw[e])).trans (h.free i hi),by rw[e];exact h.lt⟩
theorem a0I (S:List Nat)(w:World)(k:Nat):a0h S w (w.drewN k):=⟨rfl,rfl,rfl,ZB _,fun _ _ _=>rfl⟩
theorem a7r:(Tryz.prog.info? 2).map (fun i=>(i.zero,i.size,i.bytes))=some (some (.int .i64 0),1,8):=by kernel_rfl
theorem a7h (z:Value)(n:Nat)(hz:z.cells=#[z]):(madeCells z.cells (n*1)).toList=List.replicate n z:=by
 apply List.ext_getElem
 ·simp[madeCells]
 ·intro i h1 h2
  simp[madeCells,hz,Nat.mod_one]
structure b8o (w:World)(g off cap:Nat)(L:List Int):Prop where
 lt:g<w.heap.size
 cell:∀ i x,L[i]? = some x->w.cell? ⟨g,off+i,none⟩=some (.int .i64 x)
 spare:∀ i,i<cap->(w.cell? ⟨g,off+i,none⟩).isSome=true
 free:∀ i,i<cap->w.frozen? ⟨g,off+i,none⟩=false
 le:L.length<=cap
 most:cap<=maxLen
def Sl (w:World)(g:Nat)(lv:Value)(L:List Int):Prop:=(lv=.slice none 0 0/\L=[]/\g<w.heap.size)\/∃ off cap,lv=.slice (some ⟨g,off,none⟩) L.length cap/\b8o w g off cap L
theorem b8o.turn {S:List Nat}{w w':World}{g off cap:Nat}{L:List Int}(h:b8o w g off cap L)(t:a0h S w w')(hn:g∉S):b8o w' g off cap L:=
 ⟨ZA h.lt t.size,fun i x hx=>(t.cell (p:=⟨g,off+i,none⟩) h.lt hn).trans (h.cell i x hx),fun i hi=>by rw[t.cell (p:=⟨g,off+i,none⟩) h.lt hn];exact h.spare i hi,fun i hi=>(t.frozen (p:=⟨g,off+i,none⟩) h.lt hn).trans (h.free i hi),h.le,h.most⟩
theorem Sl.turn {S:List Nat}{w w':World}{g:Nat}{lv:Value}{L:List Int}(h:Sl w g lv L)(t:a0h S w w')(hn:g∉S):Sl w' g lv L:=by
 rcases h with ⟨a,b,c⟩ | ⟨off,cap,e,h⟩
 ·exact .inl ⟨a,b,ZA c t.size⟩
 ·exact .inr ⟨off,cap,e,h.turn t hn⟩
theorem Sl.next {w w':World}{g:Nat}{lv:Value}{L:List Int}(h:Sl w g lv L)(t:Below w.heap.size w w'):Sl w' g lv L:=h.turn (S:=[]) (a0h.of_below t) (by simp)
theorem a9o {w:World}{g cap:Nat}{L:List Int}{vs:List Value}(h:Box w g vs)(hv:vs.length=cap)(hp:a1C L <+: vs)(hm:cap<=maxLen):b8o w g 0 cap L:=by
 have hlen:(a1C L).length=L.length:=by simp[a1C]
 obtain⟨r,rfl⟩:=hp
 refine⟨h.lt,fun i x hx=>?_,fun i hi=>?_,fun i hi=>?_,by simp[a1C] at hv;omega,hm⟩
 ·have hi:i<L.length:=(List.getElem?_eq_some_iff.1 hx).1
  rw[Nat.zero_add]
  exact h.cell i _ (by rw[List.getElem?_append_left (by omega)];simp[a1C,hx])
 ·rw[Nat.zero_add,h.cell i _ (List.getElem?_eq_getElem (by omega))];rfl
 ·rw[Nat.zero_add];exact h.free i (by omega)
theorem b8o.snoc {w:World}{g off cap:Nat}{L:List Int}(h:b8o w g off cap L)(y:Int)(hl:L.length<cap):b8o (w.setCell ⟨g,off+L.length,none⟩ (.int .i64 y)) g off cap (L++[y]):=by
 have hs:=h.spare L.length hl
 refine⟨by simpa[World.setCell] using h.lt,fun i x hx=>?_,fun i hi=>?_,fun i hi=>(World.frozen?_setCell _ _ _ _).trans (h.free i hi),by simp;omega,h.most⟩
 ·by_cases hi:i<L.length
  ·rw[List.getElem?_append_left hi] at hx
   exact(World.cell?_setCell_other _ _ _ _ (by intro e;have:=congrArg Addr.off e;simp at this;omega)).trans (h.cell i x hx)
  ·have:i<(L++[y]).length:=(List.getElem?_eq_some_iff.1 hx).1
   simp at this
   obtain rfl:i=L.length:=by omega
   simp at hx
   subst hx
   obtain⟨u,hu⟩:=Option.isSome_iff_exists.1 hs
   exact World.cell?_setCell_same _ _ _ hu
 ·by_cases e:i=L.length
  ·subst e
   obtain⟨u,hu⟩:=Option.isSome_iff_exists.1 hs
   rw[World.cell?_setCell_same _ _ _ hu];rfl
  ·rw[World.cell?_setCell_other _ _ _ _ (by intro e';have:=congrArg Addr.off e';simp at this;omega)]
   exact h.spare i hi
theorem Sl.shape {w:World}{g:Nat}{lv:Value}{L:List Int}(h:Sl w g lv L):∃ a c,lv=.slice a L.length c:=by
 rcases h with ⟨rfl,rfl,_⟩ | ⟨off,cap,e,_⟩
 ·exact⟨none,0,rfl⟩
 ·exact⟨_,_,e⟩
def Rd (w:World)(v:Value)(A:List Int):Prop:=∃ (a:Option Addr) (c:Nat),v=.slice a A.length c/\(A=[]\/∃ g off,a=some ⟨g,off,none⟩/\g<w.heap.size/\∀ i x,A[i]? = some x->w.cell? ⟨g,off+i,none⟩=some (.int .i64 x))
theorem Rd.next {w w':World}{v:Value}{A:List Int}(h:Rd w v A)(t:Below w.heap.size w w'):Rd w' v A:=by
 obtain⟨a,c,e,h | ⟨g,off,e2,hg,h⟩⟩:=h
 ·exact⟨a,c,e,.inl h⟩
 ·exact⟨a,c,e,.inr ⟨g,off,e2,ZA hg t.size,fun i x hx=>(t.cell (p:=⟨g,off+i,none⟩) hg).trans (h i x hx)⟩⟩
theorem Sl.rd {w:World}{g:Nat}{lv:Value}{L:List Int}(h:Sl w g lv L):Rd w lv L:=by
 rcases h with ⟨rfl,rfl,_⟩ | ⟨off,cap,rfl,h⟩
 ·exact⟨none,0,rfl,.inl rfl⟩
 ·exact⟨_,cap,rfl,.inr ⟨g,off,rfl,h.lt,h.cell⟩⟩
theorem a0Y (w:World)(k:Nat):Below w.heap.size w (w.drewN k):=⟨rfl,rfl,rfl,ZB _,fun _ _=>rfl⟩
theorem Rd.alike {w w':World}{v:Value}{A:List Int}(h:Rd w v A)(e:w'.heap=w.heap):Rd w' v A:=by
 obtain⟨a,c,e1,h | ⟨g,off,e2,hg,h⟩⟩:=h
 ·exact⟨a,c,e1,.inl h⟩
 ·exact⟨a,c,e1,.inr ⟨g,off,e2,by rw[e];exact hg,fun i x hx=>(World.cell?_of_block (by rw[e])).trans (h i x hx)⟩⟩
end Go.Proofs.YtbddbnjhmdbkbaaGreatDoor
