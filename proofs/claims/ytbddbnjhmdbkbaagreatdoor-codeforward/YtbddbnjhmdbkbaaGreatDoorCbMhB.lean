import Derived.Test.YtbddbnjhmdbkbaaGreatDoorCbMhC
namespace Go.Proofs.YtbddbnjhmdbkbaaGreatDoor
open Go.RowKit
theorem a1a {k:Nat}{c:Co}{ss:List Int}{r:Int}{ts:List Int}(hm:mkT.getD k none=some (r,ts))(h:a1K a0v k c ss≠0):ss=ts/\a1K a0v k c ss=r:=by
 unfold a1K at h ⊢
 rw[hm] at h ⊢
 dsimp only[mkF] at h ⊢
 by_cases e:ss=ts
 ·exact⟨e,if_pos e⟩
 ·rw[if_neg e] at h;exact absurd rfl h
theorem b0o {l:List Co}(h:l.length=1):∃ x,l=[x]:=by
 match l,h with
 | [x],h=>exact⟨x,rfl⟩
theorem b0t {l:List Co}(h:l.length=2):∃ x y,l=[x,y]:=by
 match l,h with
 | [x,y],h=>exact⟨x,y,rfl⟩
theorem a2C {k:Nat}{ss:List Int}(h:a0J k ss≠0):ss.length=k/\ss.headD 0≠3/\(∀ x,x∈ss->x=ss.headD 0)/\a0J k ss=ss.headD 0:=by
 by_cases e:ss.length=k/\ss.headD 0≠3/\∀ x,x∈ss->x=ss.headD 0
 ·exact⟨e.1,e.2.1,e.2.2,a3q e⟩
 ·exact absurd (a2k e) h
theorem a6T {ss:List Int}(h:a2c ss≠0):∃ a,ss=[2,a,a]/\a2c ss=a:=by
 unfold a2c at h ⊢
 by_cases e:ss.headD 0=2
 ·rw[if_pos e] at h ⊢
  obtain⟨h1,h2,h3,h4⟩:=a2C h
  match ss,e,h1,h3,h4 with
  | [x,a,b],e,h1,h3,h4=>
    have hb:b=a:=h3 b (by simp)
    have hx:x=2:=e
    subst hb hx
    exact⟨b,rfl,h4⟩
 ·rw[if_neg e] at h;exact absurd rfl h
theorem a1w:C64 0:=by unfold C64;decide
end Go.Proofs.YtbddbnjhmdbkbaaGreatDoor
