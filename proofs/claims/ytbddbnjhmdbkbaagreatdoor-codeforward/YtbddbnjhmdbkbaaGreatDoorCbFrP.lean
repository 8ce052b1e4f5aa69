import Derived.Test.YtbddbnjhmdbkbaaGreatDoorCbFoQ
import Derived.Test.YtbddbnjhmdbkbaaGreatDoorCbMgP
namespace Go.Proofs.YtbddbnjhmdbkbaaGreatDoor
open Go.RowKit
theorem a4v {wn cn ln:Int}(hw:wn<=256)(hc:cn<=256)(hl:ln<=256){t:Co}(h:a0e a0v wn cn ln t≠0):sM t≠0:=by
 unfold sM
 rw[a5J hw hc hl t h]
 exact h
structure b0l (c:Co):Prop where
 so:sM c≠0
 no:a0b c<=8192
theorem a7I {q:Co->Co->Bool}{p:PlP}(h:a0O q p=true):(∀ g,g∈p.gs->b0l g.1/\b0l g.2)/\b0l p.fin:=by
 unfold a0O at h
 simp only[Bool.and_eq_true] at h
 obtain⟨⟨⟨⟨⟨h1,h2⟩,h3⟩,h4⟩,h5⟩,h6⟩:=h
 have hz:=of_decide_eq_true h1
 have w1:(p.wins.length:Int)<=256:=by omega
 have w2:(p.crons.length:Int)<=256:=by omega
 unfold a1N at h5
 simp only[Bool.and_eq_true,List.all_eq_true,decide_eq_true_eq] at h5
 refine⟨fun g hg=>?_,?_⟩
 ·obtain⟨a,b⟩:=h5.1 g hg
  obtain⟨n1,n2⟩:=a2U h2 hg
  exact⟨⟨a4v w1 w2 hz.2.2.2.2 (by rw[show a0e a0v _ _ _ g.1=2 from a];decide),by omega⟩,⟨a4v w1 w2 hz.2.2.2.2 (by rw[show a0e a0v _ _ _ g.2=3 from b];decide),by omega⟩⟩
 ·exact⟨a4v w1 w2 hz.2.2.2.2 (by rw[show a0e a0v _ _ _ p.fin=3 from h5.2];decide),by have:=a6G h2;omega⟩
end Go.Proofs.YtbddbnjhmdbkbaaGreatDoor
