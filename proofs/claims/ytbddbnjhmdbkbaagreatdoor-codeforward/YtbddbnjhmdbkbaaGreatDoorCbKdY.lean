import Derived.Test.YtbddbnjhmdbkbaaGreatDoorCbKdW
import Derived.Test.YtbddbnjhmdbkbaaGreatDoorCbKdR
import Derived.Test.YtbddbnjhmdbkbaaGreatDoorCbMhZ
namespace Go.Proofs.YtbddbnjhmdbkbaaGreatDoor
open Go.RowKit
theorem a9a {q:Co->Co->Bool}{p:PlP}{G:PgP}(h:a1y q p=(G,0)):G=a0C p/\0<=p.loc/\a0G p.loc.toNat (G.C.length-1) G.K G.C/\∃ x,G.C.getLast? = some x/\(x.1=29\/x.1=30\/x.1=31):=by
 unfold a1y at h
 by_cases hf:a0O q p=false
 ·rw[if_pos hf] at h
  exact absurd (Prod.mk.inj h).2 (by decide)
 ·rw[if_neg hf] at h
  by_cases hl:a1j (a0C p)=true
  ·rw[if_pos hl] at h
   exact absurd (Prod.mk.inj h).2 (by decide)
  ·rw[if_neg hl] at h
   obtain rfl:=(Prod.mk.inj h).1
   have hf':a0O q p=true:=by simpa using hf
   unfold a0O at hf'
   simp only[Bool.and_eq_true] at hf'
   obtain⟨⟨⟨⟨⟨h1,h2⟩,h3⟩,h4⟩,h5⟩,h6⟩:=hf'
   have h0:=(of_decide_eq_true h1).2.2.2.1
   unfold a1N at h5
   simp only[Bool.and_eq_true,List.all_eq_true,decide_eq_true_eq] at h5
   have e:((p.loc.toNat:Nat):Int)=p.loc:=by omega
   have hk:=a4W (wn:=p.wins.length) (cn:=p.crons.length) (nl:=p.loc.toNat) p.gs p.fin (fun g hg=>by rw[e];exact h5.1 g hg) (by rw[e];exact h5.2) []
   exact⟨rfl,h0,hk.2.1,hk.2.2⟩
end Go.Proofs.YtbddbnjhmdbkbaaGreatDoor
