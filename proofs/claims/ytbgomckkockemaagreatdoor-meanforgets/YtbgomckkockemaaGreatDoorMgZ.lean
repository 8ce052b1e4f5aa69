import Derived.Test.YtbgomckkockemaaGreatDoorMgB
import Derived.BigQuiet
namespace Go.Proofs.YtbgomckkockemaaGreatDoor
open Go.RowKit
theorem calm (w0:World):∃ f:World->World,(∀ n,Below w0.heap.size w0 (f n))/\(∀ W,Below w0.heap.size w0 W->∃ n,W=f n):=by
 classical
 refine⟨fun n=>if Below w0.heap.size w0 n then n else w0,fun n=>?_,fun W h=>⟨W,(if_pos h).symm⟩⟩
 show Below w0.heap.size w0 (if Below w0.heap.size w0 n then n else w0)
 by_cases h:Below w0.heap.size w0 n
 ·rw[if_pos h];exact h
 ·rw[if_neg h];exact Below.refl _ _
theorem wp_region_calm {P:Program}{id:Nat}{Q:Exit->Act->World->Prop}{a:Act}{w:World}{l:List Oper}(f:World->World)(hm:P.follows .mixedOrders=true)(hB:Region.lexB .any l.toArray=true)(hC:∃ n,w.drew=f n)
 (h:wpQuiet P l.toArray (fun w'=>∃ n,w'=f n) (fun a'=>∀ w',(∃ n,w'=f n)->Q .normal a' w') l a):(Code.region id l.toArray true).wp P Q a w:=
 wp_region_quiet (C:=fun w'=>∃ n,w'=f n) hm hB hC (by simpa using h)
theorem keepc {w w':World}(h:Below w.heap.size w w'){p:Addr}{v:Value}(hc:w.cell? p=some v):w'.cell? p=some v:=(h.cell (World.block_lt_of_cell? w p hc)).trans hc
end Go.Proofs.YtbgomckkockemaaGreatDoor
