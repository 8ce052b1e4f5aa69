import Derived.Test.YtepncopdjodfgaaGreatDoorMgZ
namespace Go.Proofs.YtepncopdjodfgaaGreatDoor
open Go.RowKit
structure RfAt (B ob:Nat)(t:Co)(v:Value)(xs:List (Co×Value))(w:World):Prop where
 box:Box w ob [.int .i64 t.op,.int .i64 t.n,.int .i64 t.m,v]
 row:FRow B w v xs
 lt:ob<B
theorem RfAt.next {B ob:Nat}{t:Co}{v:Value}{xs:List (Co×Value)}{w w':World}(h:RfAt B ob t v xs w)(hb:Below w.heap.size w w'):RfAt B ob t v xs w':=⟨h.box.next hb,h.row.next hb,h.lt⟩
theorem row_ge {B:Nat}{w:World}{v:Value}{xs:List (Co×Value)}(h:FRow B w v xs){g:Nat}(hg:v.ownBlock=some g):B<=g:=(h.own.lt g hg).1
theorem box_far {w w':World}{b:Nat}{vs:List Value}{row:Option Nat}(h:Box w b vs)(hg:w.grownBy w' row)(hn:some b≠row):Box w' b vs:=
 ⟨fun i v hv=>(hg.cell_far ⟨b,i,none⟩ h.lt hn).trans (h.cell i v hv),fun i hi=>(hg.frozen_far ⟨b,i,none⟩ h.lt hn).trans (h.free i hi),Nat.lt_of_lt_of_le h.lt hg.size⟩
theorem RfAt.grow {B ob:Nat}{t x:Co}{v u:Value}{xs:List (Co×Value)}{w1 w2:World}{g cap:Nat}(h:RfAt B ob t v xs w1)(hx:CSP (fun b=>B<=b/\v.ownBlock≠some b) w1 x u)
 (ho:w2.ownsRow B 30 4 (.slice (some ⟨g,0,none⟩) (xs.length+1) cap) (xs.length+1) (flC xs++coL x u)) (hg:w1.grownBy w2 v.ownBlock) (hl:v.ownBlock=some g\/g=w1.heap.size) :
 Box w2 ob [.int .i64 t.op,.int .i64 t.n,.int .i64 t.m,v]/\RfAt B ob t (.slice (some ⟨g,0,none⟩) (xs.length+1) cap) (xs++[(x,u)]) (w2.setCell ⟨ob,3,none⟩ (.slice (some ⟨g,0,none⟩) (xs.length+1) cap)):=by
 have b2:Box w2 ob [.int .i64 t.op,.int .i64 t.n,.int .i64 t.m,v]:=box_far h.box hg (fun e=>by have:=row_ge h.row e.symm;have:=h.lt;omega)
 have r2:=h.row.more hx ho hg hl
 have hgB:B<=g:=(ho.lt g rfl).1
 have T:=cturn_set w2 ob 3 (.slice (some ⟨g,0,none⟩) (xs.length+1) cap)
 refine⟨b2,b2.set 3 (by simp) _,⟨?_,fun y hy=>?_⟩,h.lt⟩
 ·obtain⟨h1,⟨h2,h3⟩ | ⟨g',cap',cur,h2,h3,h4,h5⟩⟩:=r2.own
  ·cases h2
  ·exact⟨h1,.inr ⟨g',cap',cur,h2,h3,(T.block g' (Array.getElem?_eq_some_iff.1 h4).1 (by have:=h.lt;simp;omega)).trans h4,h5⟩⟩
 ·exact CSP.keep T.size (fun b hb hk=>⟨hk,fun j=>cturn_cell T hb (by have:=h.lt;have:=hk.1;simp;omega)⟩) _ _ (r2.sits y hy)
end Go.Proofs.YtepncopdjodfgaaGreatDoor
