import Derived.Test.YtbddbnjhmdbkbaaGreatDoorCbMgR
namespace Go.Proofs.YtbddbnjhmdbkbaaGreatDoor
open Go.RowKit
theorem a2x {wn cn ln:Int}{t:Co}(h:a0e a0v wn cn ln t≠0):∃ k:Nat,t.op=(k:Int)/\1<=k/\k<=32/\a1L k wn cn ln t=true/\(∀ x,x∈t.parts->a0e a0v wn cn ln x≠0)/\a0e a0v wn cn ln t=a1K a0v k t (t.parts.map (a0e a0v wn cn ln)):=by
 have e:=a0X a0v wn cn ln t
 by_cases h1:1<=t.op/\t.op<=32
 ·rw[if_pos h1] at e
  by_cases h2:a1L t.op.toNat wn cn ln t=true
  ·rw[if_pos h2] at e
   by_cases h3:(t.parts.map (a0e a0v wn cn ln)).contains 0=true
   ·rw[if_pos h3] at e;exact absurd e h
   ·rw[if_neg h3] at e
    refine⟨t.op.toNat,by omega,by omega,by omega,h2,fun x hx hz=>h3 ?_,e⟩
    rw[List.contains_iff_mem,List.mem_map]
    exact⟨x,hx,hz⟩
  ·rw[if_neg h2] at e;exact absurd e h
 ·rw[if_neg h1] at e;exact absurd e h
theorem a4x {f:Co->Int}{l:List Co}(h:l.map f=[]):l=[]:=by simpa using h
theorem a4f {f:Co->Int}{l:List Co}{a:Int}(h:l.map f=[a]):∃ x,l=[x]/\f x=a:=by
 match l,h with
 | [x],h=>exact⟨x,rfl,by simpa using h⟩
theorem a2p {f:Co->Int}{l:List Co}{a b:Int}(h:l.map f=[a,b]):∃ x y,l=[x,y]/\f x=a/\f y=b:=by
 match l,h with
 | [x,y],h=>exact⟨x,y,rfl,by simpa using h⟩
theorem b0c {f:Co->Int}{l:List Co}{a b c:Int}(h:l.map f=[a,b,c]):∃ x y z,l=[x,y,z]/\f x=a/\f y=b/\f z=c:=by
 match l,h with
 | [x,y,z],h=>exact⟨x,y,z,rfl,by simpa using h⟩
def Shp (f:Co->Int)(k:Nat)(t:Co)(s:Int):Prop:=
 ((k<=6\/k=29)/\t.parts=[]) \/
 (k=7/\(s=1\/s=2)/\∃ x,t.parts=[x]/\f x=s) \/
 ((8<=k/\k<=13)/\s=(if k=9 then 2 else 1)/\∃ x,t.parts=[x]/\f x=s) \/
 ((14<=k/\k<=24)/\s=(if 18<=k/\k<=22 then 2 else 1)/\∃ x y,t.parts=[x,y]/\f x=1/\f y=1) \/
 ((k=25\/k=26)/\s=2/\∃ x y,t.parts=[x,y]/\f x=2/\f y=2) \/
 (k=27/\(s=1\/s=2)/\∃ x y,t.parts=[x,y]/\f x=s/\f y=s) \/
 (k=28/\(s=1\/s=2)/\∃ x y z,t.parts=[x,y,z]/\f x=2/\f y=s/\f z=s) \/
 ((k=30\/k=31)/\s=3/\∃ x,t.parts=[x]/\f x=1) \/
 (k=32/\s=3/\a5S t (t.parts.map f))
theorem a6a {wn cn ln:Int}{t:Co}(h:a0e a0v wn cn ln t≠0):∃ k:Nat,t.op=(k:Int)/\1<=k/\k<=32/\a1L k wn cn ln t=true/\(∀ x,x∈t.parts->a0e a0v wn cn ln x≠0)/\Shp (a0e a0v wn cn ln) k t (a0e a0v wn cn ln t):=by
 obtain⟨k,hop,h1,h2,hb,hp,hs⟩:=a2x h
 refine⟨k,hop,h1,h2,hb,hp,?_⟩
 have hzs:a1K a0v k t (t.parts.map (a0e a0v wn cn ln))≠0:=by rw[<-hs];exact h
 have hr:=a4I wn cn ln
 have hks:k=1\/k=2\/k=3\/k=4\/k=5\/k=6\/k=7\/k=8\/k=9\/k=10\/k=11\/k=12\/k=13\/k=14\/k=15\/k=16\/k=17\/k=18\/k=19\/k=20\/k=21\/k=22\/k=23\/k=24\/k=25\/k=26\/k=27\/k=28\/k=29\/k=30\/k=31\/k=32:=by omega
 clear h1 h2 hop hb
 generalize a0e a0v wn cn ln t=s at h hs
 subst hs
 rcases hks with rfl | rfl | rfl | rfl | rfl | rfl | rfl | rfl | rfl | rfl | rfl | rfl | rfl | rfl | rfl | rfl | rfl | rfl | rfl | rfl | rfl | rfl | rfl | rfl | rfl | rfl | rfl | rfl | rfl | rfl | rfl | rfl
 ·obtain⟨e1,e2⟩:=a1a (k:=1) (r:=1) (ts:=[]) rfl hzs
  exact .inl ⟨by omega,a4x e1⟩
 ·obtain⟨e1,e2⟩:=a1a (k:=2) (r:=2) (ts:=[]) rfl hzs
  exact .inl ⟨by omega,a4x e1⟩
 ·obtain⟨e1,e2⟩:=a1a (k:=3) (r:=1) (ts:=[]) rfl hzs
  exact .inl ⟨by omega,a4x e1⟩
 ·obtain⟨e1,e2⟩:=a1a (k:=4) (r:=1) (ts:=[]) rfl hzs
  exact .inl ⟨by omega,a4x e1⟩
 ·obtain⟨e1,e2⟩:=a1a (k:=5) (r:=2) (ts:=[]) rfl hzs
  exact .inl ⟨by omega,a4x e1⟩
 ·have e1:t.parts.map (a0e a0v wn cn ln)=[]:=by
   apply Classical.byContradiction
   intro h
   exact hzs (if_neg h)
  exact .inl ⟨by omega,a4x e1⟩
 ·obtain⟨g1,g2,g3,g4⟩:=a2C (show a0J 1 (t.parts.map (a0e a0v wn cn ln))≠0 from hzs)
  obtain⟨x,q⟩:=b0o (l:=t.parts) (by simpa using g1)
  rw[q] at g2 g4
  have g5:a1K a0v 7 t (t.parts.map (a0e a0v wn cn ln))=a0e a0v wn cn ln x:=by rw[q];exact g4
  have g6:a0e a0v wn cn ln x≠3:=g2
  have:=hr x
  have:=hp x (by rw[q];simp)
  exact .inr (.inl ⟨rfl,by rw[g5];omega,x,q,g5.symm⟩)
 ·obtain⟨e1,e2⟩:=a1a (k:=8) (r:=1) (ts:=[1]) rfl hzs
  obtain⟨x,q,q0⟩:=a4f e1
  exact .inr (.inr (.inl ⟨by omega,by rw[e2];rfl,x,q,by rw[e2,q0]⟩))
 ·obtain⟨e1,e2⟩:=a1a (k:=9) (r:=2) (ts:=[2]) rfl hzs
  obtain⟨x,q,q0⟩:=a4f e1
  exact .inr (.inr (.inl ⟨by omega,by rw[e2];rfl,x,q,by rw[e2,q0]⟩))
 ·obtain⟨e1,e2⟩:=a1a (k:=10) (r:=1) (ts:=[1]) rfl hzs
  obtain⟨x,q,q0⟩:=a4f e1
  exact .inr (.inr (.inl ⟨by omega,by rw[e2];rfl,x,q,by rw[e2,q0]⟩))
 ·obtain⟨e1,e2⟩:=a1a (k:=11) (r:=1) (ts:=[1]) rfl hzs
  obtain⟨x,q,q0⟩:=a4f e1
  exact .inr (.inr (.inl ⟨by omega,by rw[e2];rfl,x,q,by rw[e2,q0]⟩))
 ·obtain⟨e1,e2⟩:=a1a (k:=12) (r:=1) (ts:=[1]) rfl hzs
  obtain⟨x,q,q0⟩:=a4f e1
  exact .inr (.inr (.inl ⟨by omega,by rw[e2];rfl,x,q,by rw[e2,q0]⟩))
 ·obtain⟨e1,e2⟩:=a1a (k:=13) (r:=1) (ts:=[1]) rfl hzs
  obtain⟨x,q,q0⟩:=a4f e1
  exact .inr (.inr (.inl ⟨by omega,by rw[e2];rfl,x,q,by rw[e2,q0]⟩))
 ·obtain⟨e1,e2⟩:=a1a (k:=14) (r:=1) (ts:=[1,1]) rfl hzs
  obtain⟨x,y,q,q0,q1⟩:=a2p e1
  exact .inr (.inr (.inr (.inl ⟨by omega,by rw[e2];rfl,x,y,q,q0,q1⟩)))
 ·obtain⟨e1,e2⟩:=a1a (k:=15) (r:=1) (ts:=[1,1]) rfl hzs
  obtain⟨x,y,q,q0,q1⟩:=a2p e1
  exact .inr (.inr (.inr (.inl ⟨by omega,by rw[e2];rfl,x,y,q,q0,q1⟩)))
 ·obtain⟨e1,e2⟩:=a1a (k:=16) (r:=1) (ts:=[1,1]) rfl hzs
  obtain⟨x,y,q,q0,q1⟩:=a2p e1
  exact .inr (.inr (.inr (.inl ⟨by omega,by rw[e2];rfl,x,y,q,q0,q1⟩)))
 ·obtain⟨e1,e2⟩:=a1a (k:=17) (r:=1) (ts:=[1,1]) rfl hzs
  obtain⟨x,y,q,q0,q1⟩:=a2p e1
  exact .inr (.inr (.inr (.inl ⟨by omega,by rw[e2];rfl,x,y,q,q0,q1⟩)))
 ·obtain⟨e1,e2⟩:=a1a (k:=18) (r:=2) (ts:=[1,1]) rfl hzs
  obtain⟨x,y,q,q0,q1⟩:=a2p e1
  exact .inr (.inr (.inr (.inl ⟨by omega,by rw[e2];rfl,x,y,q,q0,q1⟩)))
 ·obtain⟨e1,e2⟩:=a1a (k:=19) (r:=2) (ts:=[1,1]) rfl hzs
  obtain⟨x,y,q,q0,q1⟩:=a2p e1
  exact .inr (.inr (.inr (.inl ⟨by omega,by rw[e2];rfl,x,y,q,q0,q1⟩)))
 ·obtain⟨e1,e2⟩:=a1a (k:=20) (r:=2) (ts:=[1,1]) rfl hzs
  obtain⟨x,y,q,q0,q1⟩:=a2p e1
  exact .inr (.inr (.inr (.inl ⟨by omega,by rw[e2];rfl,x,y,q,q0,q1⟩)))
 ·obtain⟨e1,e2⟩:=a1a (k:=21) (r:=2) (ts:=[1,1]) rfl hzs
  obtain⟨x,y,q,q0,q1⟩:=a2p e1
  exact .inr (.inr (.inr (.inl ⟨by omega,by rw[e2];rfl,x,y,q,q0,q1⟩)))
 ·obtain⟨e1,e2⟩:=a1a (k:=22) (r:=2) (ts:=[1,1]) rfl hzs
  obtain⟨x,y,q,q0,q1⟩:=a2p e1
  exact .inr (.inr (.inr (.inl ⟨by omega,by rw[e2];rfl,x,y,q,q0,q1⟩)))
 ·obtain⟨e1,e2⟩:=a1a (k:=23) (r:=1) (ts:=[1,1]) rfl hzs
  obtain⟨x,y,q,q0,q1⟩:=a2p e1
  exact .inr (.inr (.inr (.inl ⟨by omega,by rw[e2];rfl,x,y,q,q0,q1⟩)))
 ·obtain⟨e1,e2⟩:=a1a (k:=24) (r:=1) (ts:=[1,1]) rfl hzs
  obtain⟨x,y,q,q0,q1⟩:=a2p e1
  exact .inr (.inr (.inr (.inl ⟨by omega,by rw[e2];rfl,x,y,q,q0,q1⟩)))
 ·obtain⟨e1,e2⟩:=a1a (k:=25) (r:=2) (ts:=[2,2]) rfl hzs
  obtain⟨x,y,q,q0,q1⟩:=a2p e1
  exact .inr (.inr (.inr (.inr (.inl ⟨by omega,e2,x,y,q,q0,q1⟩))))
 ·obtain⟨e1,e2⟩:=a1a (k:=26) (r:=2) (ts:=[2,2]) rfl hzs
  obtain⟨x,y,q,q0,q1⟩:=a2p e1
  exact .inr (.inr (.inr (.inr (.inl ⟨by omega,e2,x,y,q,q0,q1⟩))))
 ·obtain⟨g1,g2,g3,g4⟩:=a2C (show a0J 2 (t.parts.map (a0e a0v wn cn ln))≠0 from hzs)
  obtain⟨x,y,q⟩:=b0t (l:=t.parts) (by simpa using g1)
  rw[q] at g2 g3 g4
  have g5:a1K a0v 27 t (t.parts.map (a0e a0v wn cn ln))=a0e a0v wn cn ln x:=by rw[q];exact g4
  have g6:a0e a0v wn cn ln x≠3:=g2
  have g7:a0e a0v wn cn ln y=a0e a0v wn cn ln x:=g3 _ (by simp)
  have:=hr x
  have:=hp x (by rw[q];simp)
  exact .inr (.inr (.inr (.inr (.inr (.inl ⟨rfl,by rw[g5];omega,x,y,q,g5.symm,by rw[g5,g7]⟩)))))
 ·have hz3:a2c (t.parts.map (a0e a0v wn cn ln))≠0:=hzs
  obtain⟨a,e,ea⟩:=a6T hz3
  obtain⟨x,y,z,q,q0,q1,q2⟩:=b0c e
  have ea':a1K a0v 28 t (t.parts.map (a0e a0v wn cn ln))=a:=ea
  have hn3:a≠3:=fun e3=>by
   rw[e,e3] at hz3
   exact hz3 (by decide)
  have:=hr y
  have:=hp y (by rw[q];simp)
  exact .inr (.inr (.inr (.inr (.inr (.inr (.inl ⟨rfl,by rw[ea'];omega,x,y,z,q,q0,by rw[ea',q1],by rw[ea',q2]⟩))))))
 ·obtain⟨e1,e2⟩:=a1a (k:=29) (r:=3) (ts:=[]) rfl hzs
  exact .inl ⟨by omega,a4x e1⟩
 ·obtain⟨e1,e2⟩:=a1a (k:=30) (r:=3) (ts:=[1]) rfl hzs
  obtain⟨x,q,q0⟩:=a4f e1
  exact .inr (.inr (.inr (.inr (.inr (.inr (.inr (.inl ⟨by omega,e2,x,q,q0⟩)))))))
 ·obtain⟨e1,e2⟩:=a1a (k:=31) (r:=3) (ts:=[1]) rfl hzs
  obtain⟨x,q,q0⟩:=a4f e1
  exact .inr (.inr (.inr (.inr (.inr (.inr (.inr (.inl ⟨by omega,e2,x,q,q0⟩)))))))
 ·have hz2:a0v t (t.parts.map (a0e a0v wn cn ln))≠0:=hzs
  have hl:a5S t (t.parts.map (a0e a0v wn cn ln)):=(a3E _ _).1 (by
   unfold a0v at hz2
   split at hz2
   ·assumption
   ·exact absurd rfl hz2)
  exact .inr (.inr (.inr (.inr (.inr (.inr (.inr (.inr ⟨rfl,a5c hl,hl⟩)))))))
abbrev sM (c:Co):Int:=a0e a0v 256 256 256 c
theorem a5H {wn cn ln wn' cn' ln':Int}{t:Co}(hf:a1L t.op.toNat wn' cn' ln' t=a1L t.op.toNat wn cn ln t)(hp:∀ x,x∈t.parts->a0e a0v wn' cn' ln' x=a0e a0v wn cn ln x):a0e a0v wn' cn' ln' t=a0e a0v wn cn ln t:=by
 rw[a0X a0v wn' cn' ln' t,a0X a0v wn cn ln t,hf,List.map_congr_left hp]
theorem a6E {k:Nat}{wn cn ln wn' cn' ln':Int}{t:Co}(hw:wn<=wn')(hc:cn<=cn')(hl:ln<=ln')(h:a1L k wn cn ln t=true):a1L k wn' cn' ln' t=true:=by
 unfold a1L a0I at h ⊢
 repeat' split
 all_goals simp_all
 all_goals omega
theorem a5J {wn cn ln wn' cn' ln':Int}(hw:wn<=wn')(hc:cn<=cn')(hl:ln<=ln')(t:Co):a0e a0v wn cn ln t≠0->a0e a0v wn' cn' ln' t=a0e a0v wn cn ln t:=by
 induction t using Co.ind with
 | h t ih=>
   intro h
   obtain⟨k,hop,h1,h2,hb,hp,hs⟩:=a2x h
   refine a5H ?_ (fun x hx=>ih x hx (hp x hx))
   rw[hop,Int.toNat_natCast,hb]
   exact a6E hw hc hl hb
end Go.Proofs.YtbddbnjhmdbkbaaGreatDoor
